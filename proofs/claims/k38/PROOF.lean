import PyProof.Rows.All
import Wide.All
import OpenK.AllK
import Wide.FinOn
import Lean
import PyProof.EqAt
import PyProof.EqKinds
import PyProof.TupleCall
import PyProof.CompFree
import PyProof.CompUse
import PyProof.CollectIter
import PyProof.ListNew
import KE.KRevIter
import PyProof.EnumMake
import PyProof.Draws
import PyProof.TupleIter
import PyProof.WalksMore
import PyProof.ReprRoads
import PyProof.P3Eq
import PyProof.NeData
import PyProof.EqLayable
import PyProof.Rows.RegFStrParts
import PyProof.AutoListH
import KE.KItemsList
import KE.KDictList
import PyProof.StrBlockG
import PyProof.StrLawsOcc
import PyProof.StrLawsTight
import PyProof.StrLawsChain
import PyProof.Rows.Range3
import PyProof.MinMaxWalk
import PyProof.WalkInts
import PyProof.ExcClass3
import PyProof.ExcInit
import PyProof.InstStoreFacts
import PyProof.ExcArgsOwn
import KE.KIsAll
import PyProof.RaisesMany
import PyProof.RulesTry
import PyProof.Raises
import PyProof.RulesAs
import PyProof.NsDelKeeps
import PyProof.PassesOwn
import PyProof.Rows.CatchHere
import KE.KSortTup
import PyProof.FactsAll.tuple_2
import PyProof.TupleKey
import PyProof.Rows.RowHeap
import PyProof.SetKind
import PyProof.SetNew
import PyProof.DictIter
import PyProof.CollectWalk
import PyProof.Walks
import PyProof.ZipIter
import KE.KRevSl
import KE.KStateDown
import PyProof.SetRoads
import PyProof.SumWalk
import PyProof.CallStr
import PyProof.FactsAll.tuple_3
import PyProof.StrLawsIn
import PyProof.Rows.RuleM_int
import PyProof.FactsAll.dict_3
import KE.KItemsList
import PyProof.Rows.TupDisplay
import PySem.Challenge.RW_pileduel_k38_sets_that_come_up
set_option Elab.async false
set_option linter.all false
set_option maxRecDepth 100000
abbrev Yaa:=@PySem.wpAny_bind
abbrev Yab:=@PySem.wpAny_pure
abbrev Yac:=@List.length_map
abbrev Yad:=@Nat.le_refl
abbrev Yae:=@PySem.Heap.lt_size
abbrev Yaf:=@PyProof.Rows.wpS_bind
abbrev Yag:=@Bool.false_ne_true
abbrev Yah:=@if_neg
abbrev Yai:=@Nat.lt_of_lt_of_le
abbrev Yaj:=@if_pos
abbrev Yak:=@PyProof.Rows.wpS_pure
abbrev Yal:=@List.mem_singleton
abbrev Yam:=@List.mem_cons_of_mem
abbrev Yan:=@Nat.ne_of_lt
abbrev Yao:=@List.length_append
abbrev Yap:=@Option.map_eq_some_iff
abbrev Yaq:=@Nat.le_trans
abbrev Yar:=@List.size_toArray
abbrev Yas:=@List.mem_cons_self
abbrev Yat:=@List.mem_append
abbrev Yau:=@List.mem_map
abbrev Yav:=@List.map_append
abbrev Yaw:=@of_decide_eq_true
abbrev Yax:=@Array.length_toList
abbrev Yay:=@PySem.wpAny_newObj_type
abbrev Yaz:=@List.mem_of_getElem?
abbrev Ya0:=@Option.some.inj
abbrev Ya1:=@List.mem_cons
abbrev Ya2:=@List.mem_append_right
abbrev Ya3:=@PySem.wpAny_call_entry
abbrev Ya4:=@Nat.zero_le
abbrev Ya5:=@List.map_map
abbrev Ya6:=@Nat.eq_or_lt_of_le
abbrev Ya7:=@Array.size_reverse
abbrev Ya8:=@PySem.wpAny_field
abbrev Ya9:=@PySem.W.mg_of
abbrev Yba:=@PySem.PassesOwn.never
abbrev Ybb:=@List.drop_eq_getElem_cons
abbrev Ybc:=@PySem.wpAny_setState_of
abbrev Ybd:=@PySem.wpAny_setField_rec
abbrev Ybe:=@Ne.symm
abbrev Ybf:=@PySem.wpAny_holding
abbrev Ybg:=@Nat.ne_of_gt
abbrev Ybh:=@List.mem_range
abbrev Ybi:=@decide_eq_true
abbrev Ybj:=@PySem.Around.under_plainId
abbrev Ybk:=@List.length_cons
abbrev Ybl:=@PyProof.Rows.boot_tuple
abbrev Ybm:=@List.map_cons
abbrev Ybn:=@decide_eq_false
abbrev Ybo:=@PyProof.Rows.slot_tuple_getitem
abbrev Ybp:=@PySem.W.mg_none_of
abbrev Ybq:=@PyProof.Rows.wpS_forRange
abbrev Ybr:=@Exists.elim
abbrev Ybs:=@PySem.Heap.SameBut.update
abbrev Ybt:=@List.any_eq_true
abbrev Ybu:=@Nat.le_of_lt
abbrev Ybv:=@PySem.Calls.spliced_cons
abbrev Ybw:=@PySem.wpAny_mono
abbrev Ybx:=@PySem.F.slot_list_append
abbrev Yby:=@PySem.F.type_list_append
abbrev Ybz:=@Array.toList_append
abbrev Yb0:=@PySem.codeAny_builtin
abbrev Yb1:=@List.length_take
abbrev Yb2:=@Bool.and_eq_true
abbrev Yb3:=@PySem.wpAny_seqItems
abbrev Yb4:=@PySem.boot_len
abbrev Yb5:=@List.take_of_length_le
abbrev Yb6:=@PySem.W.kia_one
abbrev Yb7:=@List.pairwise_iff_getElem
abbrev Yb8:=@List.length_drop
abbrev Yb9:=@List.all_eq_true
abbrev Yca:=@List.eq_nil_of_length_eq_zero
abbrev Ycb:=@PySem.wpAny_rule
abbrev Ycc:=@PySem.Paired.length
abbrev Ycd:=@Nat.lt_irrefl
abbrev Yce:=@PyProof.Rows.callWith_type1
abbrev Ycf:=@PySem.wpAny_Call_Name_kw
abbrev Ycg:=@Array.toList_reverse
abbrev Ych:=@PyProof.Rows.wpS_mono
abbrev Yci:=@PySem.Calls.spliced_nil
abbrev Ycj:=@PySem.Heap.size_push
abbrev Yck:=@PySem.plainId_quiet
abbrev Ycl:=@PySem.F.plain_extend_loop
abbrev Ycm:=@List.mem_filter
abbrev Ycn:=@List.nodup_cons
abbrev Yco:=@Nat.lt_or_ge
abbrev Ycp:=@PySem.wpAny_updateSeq
abbrev Ycq:=@PySem.wpAny_typeNameOfWhole_itemiter
abbrev Ycr:=@List.pairwise_cons
abbrev Ycs:=@List.mem_append_left
abbrev Yct:=@List.pairwise_append
abbrev Ycu:=@Array.reverse_append
abbrev Ycv:=@List.any_cons
abbrev Ycw:=@List.take_succ
abbrev Ycx:=@List.append_assoc
abbrev Ycy:=@List.pairwise_map
abbrev Ycz:=@Array.getD_eq_getD_getElem?
abbrev Yc0:=@List.getElem_mem
abbrev Yc1:=@PyProof.Rows.wpS_modify
abbrev Yc2:=@PySem.wpAny_isInstance
abbrev Yc3:=@PySem.wpAny_attempt
abbrev Yc4:=@PySem.wpAny_typeNameOf_itemiter
abbrev Yc5:=@PySem.wpAny_truthy_bool
abbrev Yc6:=@PySem.wpAny_passesOwn
abbrev Yc7:=@Array.toList_push
abbrev Yc8:=@Array.map_extract
abbrev Yc9:=@PySem.wpAny_dictEntries
abbrev Yda:=@PyProof.Rows.callWith_builtin1
abbrev Ydb:=@PySem.mem_of_lookup
abbrev Ydc:=@PySem.wpAny_getItem_str_slice
abbrev Ydd:=@List.map_congr_left
abbrev Yde:=@Nat.lt_succ_self
abbrev Ydf:=@List.nodup_nil
abbrev Ydg:=@List.pairwise_lt_range
abbrev Ydh:=@PySem.wpAny_isOneOf_itemiter
abbrev Ydi:=@Int.emod_lt_of_pos
abbrev Ydj:=@PySem.wpAny_typeOf
abbrev Ydk:=@Array.reverse_reverse
abbrev Ydl:=@PySem.builtinLookup_eq_fast
abbrev Ydm:=@PySem.wpAny_ite_split
abbrev Ydn:=@congrArg
abbrev Ydo:=@Int.toNat_natCast
abbrev Ydp:=@PySem.isSubtype_type
abbrev Ydq:=@PySem.wpAny_fieldsOf
abbrev Ydr:=@List.filter_cons
abbrev Yds:=@List.take_length
abbrev Ydt:=@beq_eq_false_iff_ne
abbrev Ydu:=@List.getElem_of_mem
abbrev Ydv:=@PySem.F.args_tuple_add_2
abbrev Ydw:=@List.Pairwise.imp_of_mem
abbrev Ydx:=@Array.append_assoc
abbrev Ydy:=@PySem.F.entry_tuple_add
abbrev Ydz:=@PySem.tupleKind_room_in1
abbrev Yd0:=@PySem.Obj.data_mapFields
abbrev Yd1:=@List.filter_append
abbrev Yd2:=@Array.size_extract
abbrev Yd3:=@Nat.not_lt_zero
abbrev Yd4:=@List.pairwise_singleton
abbrev Yd5:=@Int.emod_nonneg
abbrev Yd6:=@List.length_range'
abbrev Yd7:=@PySem.F.slot_tuple_add
abbrev Yd8:=@PySem.Calls.callWith_builtin
abbrev Yd9:=@List.Perm.append_right
abbrev Yea:=@List.ext_getElem?
abbrev Yeb:=@Nat.le_succ_of_le
abbrev Yec:=@PySem.wpAny_pyIter_slot
abbrev Yed:=@List.nodup_append
abbrev Yee:=@List.length_range
abbrev Yef:=@Array.size_map
abbrev Yeg:=@List.length_singleton
abbrev Yeh:=@Nat.lt_trans
abbrev Yei:=@PySem.F.slot_dict_get
abbrev Yej:=@List.length_filter_le
abbrev Yek:=@List.take_append_drop
abbrev Yel:=@PyProof.Rows.boot_all
abbrev Yem:=@List.drop_length
abbrev Yen:=@Array.toList_inj
abbrev Yeo:=@Array.map_append
abbrev Yep:=@PySem.Heap.size_update
abbrev Yeq:=@Nat.le_add_right
abbrev Yer:=@PySem.wpAny_updateSeq_pair
abbrev Yes:=@PySem.wpAny_onRaise
abbrev Yet:=@PySem.wpAny_execs_nil
abbrev Yeu:=@List.append_nil
abbrev Yev:=@Nat.le_succ
abbrev Yew:=@PySem.wpAny_specialOf
abbrev Yex:=@PySem.post_val_or_str
abbrev Yey:=@Bool.eq_iff_iff
abbrev Yez:=@PyProof.Rows.wpS_get
abbrev Ye0:=@PySem.wpAny_dictEpoch
abbrev Ye1:=@PySem.typeLookup_type
abbrev Ye2:=@List.prefix_rfl
abbrev Ye3:=@PySem.codeAny_mono
namespace L2
theorem Qb1{α:Sort _}{a b:α->Prop}{P:Prop}(h:∃x,a x/\b x)(k:∀x,a x->b x->P):P:=Ybr h λx y=>k x y.1 y.2
theorem B6{α β:Sort _}{a b c:α->β->Prop}{P:Prop}(h:∃x y,a x y/\b x y/\c x y)(k:∀x y,a x y->b x y->c x y->P):P:=Ybr h λx h=>Ybr h λy h=>k x y h.1 h.2.1 h.2.2
theorem B4{α β γ:Sort _}{a b c d:α->β->γ->Prop}{P:Prop}(h:∃x y z,a x y z/\b x y z/\c x y z/\d x y z)(k:∀x y z,a x y z->b x y z->c x y z->d x y z->P):P:=Ybr h λx h=>Ybr h λy h=>Ybr h λz h=>k x y z h.1 h.2.1 h.2.2.1 h.2.2.2
theorem Dv{α β γ δ:Sort _}{a b c d e:α->β->γ->δ->Prop}{P:Prop}(h:∃x y z u,a x y z u/\b x y z u/\c x y z u/\d x y z u/\e x y z u)(k:∀x y z u,a x y z u->b x y z u->c x y z u->d x y z u->e x y z u->P):P:=Ybr h λx h=>Ybr h λy h=>Ybr h λz h=>Ybr h λu h=>k x y z u h.1 h.2.1 h.2.2.1 h.2.2.2.1 h.2.2.2.2
theorem Qhl{α β γ δ:Sort _}{a b c d e f:α->β->γ->δ->Prop}{P:Prop}(h:∃x y z u,a x y z u/\b x y z u/\c x y z u/\d x y z u/\e x y z u/\f x y z u)(k:∀x y z u,a x y z u->b x y z u->c x y z u->d x y z u->e x y z u->f x y z u->P):P:=Ybr h λx h=>Ybr h λy h=>Ybr h λz h=>Ybr h λu h=>k x y z u h.1 h.2.1 h.2.2.1 h.2.2.2.1 h.2.2.2.2.1 h.2.2.2.2.2
theorem Ht{α β γ δ ε ζ:Sort _}{a b c d:α->β->γ->δ->ε->ζ->Prop}{P:Prop}(h:∃x y z u v w,a x y z u v w/\b x y z u v w/\c x y z u v w/\d x y z u v w)(k:∀x y z u v w,a x y z u v w->b x y z u v w->c x y z u v w->d x y z u v w->P):P:=Ybr h λx h=>Ybr h λy h=>Ybr h λz h=>Ybr h λu h=>Ybr h λv h=>Ybr h λw h=>k x y z u v w h.1 h.2.1 h.2.2.1 h.2.2.2
open PySem PySem.Spec PyProof.Rows
abbrev Key:=Sum Int Str
def E5:Key->Value->Bool
 | .inl k,v=>Value.isInt k v
 | .inr x,v=>Value.isStrOf x v
def Yc(w:World):Key->Int
 | .inl k=>hashInt k
 | .inr x=>hashStr w x
theorem keyIs_shape:∀{k:Key} {v:Value},E5 k v=true->(∃i t,k=Sum.inl i/\v=Value.int i t)\/(∃x t,k=Sum.inr x/\v=Value.str x t)
 | .inl i,v,h=>by
  obtain⟨t,e⟩:=Value.isInt_shape (k:=i) (v:=v) h
  exact .inl ⟨i,t,rfl,e⟩
 | .inr x,v,h=>by
  obtain⟨t,e⟩:=Value.isStrOf_shape (x:=x) (v:=v) h
  exact .inr ⟨x,t,rfl,e⟩
theorem Pj(i:Int)(t:Tok):E5 (.inl i) (.int i t)=true:=by simp [E5,Value.isInt]
theorem Pk(x:Str)(t:Tok):E5 (.inr x) (.str x t)=true:=by simp [E5,Value.isStrOf]
theorem Yd(a b:Int):decide ((Sum.inl a:Key)=Sum.inl b)=(a==b):=by
 by_cases e:a=b
 ·subst e;simp
 ·have h:¬(Sum.inl a:Key)=Sum.inl b:=λq=>e (Sum.inl.inj q)
  rw [Ybn h]
  exact(Ydt.mpr e).symm
theorem Ye(a b:Str):decide ((Sum.inr a:Key)=Sum.inr b)=decide (a=b):=by
 by_cases e:a=b
 ·subst e;simp
 ·have h:¬(Sum.inr a:Key)=Sum.inr b:=λq=>e (Sum.inr.inj q)
  rw [Ybn h,Ybn e]
theorem Yf(a:Int)(b:Str):decide ((Sum.inl a:Key)=Sum.inr b)=false:=Ybn (λq=>nomatch q)
theorem Yg(a:Str)(b:Int):decide ((Sum.inr a:Key)=Sum.inl b)=false:=Ybn (λq=>nomatch q)
def Aw(prog:Program)(w:World):PySem.KeyKind prog w Key where
 is:=E5
 hash:=Yc w
 inj:=λv a b ha hb=>by
  rcases keyIs_shape ha with⟨i,t,rfl,rfl⟩ | ⟨x,t,rfl,rfl⟩
  ·rcases keyIs_shape hb with⟨j,u,rfl,e⟩ | ⟨y,u,rfl,e⟩
   ·injection e with e1 _;rw [e1]
   ·exact nomatch e
  ·rcases keyIs_shape hb with⟨j,u,rfl,e⟩ | ⟨y,u,rfl,e⟩
   ·exact nomatch e
   ·injection e with e1 _;rw [e1]
 byValue:=λk v h=>by
  rcases keyIs_shape h with⟨i,t,rfl,rfl⟩ | ⟨x,t,rfl,rfl⟩ <;> rfl
 pyHash:=λhv h=>by
  rcases keyIs_shape hv with⟨i,t,rfl,rfl⟩ | ⟨x,t,rfl,rfl⟩
  ·exact wpAny_pyHash_int h
  ·exact wpAny_pyHash_str h
 eqBool:=λhu hv h=>by
  rcases keyIs_shape hu with⟨i,t,rfl,rfl⟩ | ⟨x,t,rfl,rfl⟩
  ·rcases keyIs_shape hv with⟨j,u,rfl,rfl⟩ | ⟨y,u,rfl,rfl⟩
   ·rw [Yd]at h;exact wpAny_eqBool_int h
   ·rw [Yf]at h;exact SeqAt.EqAt.int_str i t y u _ _ _ _ h
  ·rcases keyIs_shape hv with⟨j,u,rfl,rfl⟩ | ⟨y,u,rfl,rfl⟩
   ·rw [Yg]at h;exact SeqAt.EqAt.str_int x t j u _ _ _ _ h
   ·rw [Ye]at h;exact wpAny_eqBool_str h
 «strs»:=λk x t v h=>by
  rcases keyIs_shape h with⟨i,u,rfl,e⟩ | ⟨y,u,rfl,e⟩
  ·exact nomatch e
  ·injection e with e1 _
   subst e1
   cases v <;> rfl
theorem C2(prog:Program)(w:World)(i:Int)(t:Tok):(Aw prog w).is (.inl i) (.int i t)=true:=Pj i t
theorem Km(prog:Program)(w:World)(x:Str)(t:Tok):(Aw prog w).is (.inr x) (.str x t)=true:=Pk x t
end L2
namespace L2
open PySem PySem.Spec PyProof.Rows
inductive V where
 | non | bl (b:Bool) | int (i:Int) | str (x:Str) | byt (b:Array UInt8) | flt (b:UInt64) | ref (a:Addr) | ty (n:String)
 deriving DecidableEq
def A0:V->Value->Prop
 | .non,u=>u=Value.none
 | .bl b,u=>u=Value.bool b
 | .int i,u=>∃t,u=Value.int i t
 | .str x,u=>∃t,u=Value.str x t
 | .byt b,u=>∃t,u=Value.bytes b t
 | .flt b,u=>∃t,u=Value.float b t
 | .ref a,u=>u=Value.ref a
 | .ty n,u=>u=Value.type n
abbrev Vals:List V->List Value->Prop:=Paired A0
theorem Vals.length{xs:List V}{us:List Value}(r:Vals xs us):xs.length=us.length:=Ycc r
theorem Vals.get:∀{xs:List V} {us:List Value} {i:Nat} {x:V},Vals xs us->xs[i]?=some x->∃u,us[i]?=some u/\A0 x u
 | _,_,_,_,.nil,e=>by simp at e
 | _,_,0,_,.cons r _,e=>by simp at e;subst e;exact⟨_,rfl,r⟩
 | _,_,i+1,x,.cons _ t,e=>by
  obtain⟨u,h1,h2⟩:=Vals.get (i:=i) (x:=x) t (by simpa using e)
  exact⟨u,by simpa using h1,h2⟩
theorem Vals.set{x:V}{u:Value}(r:A0 x u):∀{xs:List V} {us:List Value} (i:Nat),Vals xs us->Vals (xs.set i x) (us.set i u)
 | _,_,_,.nil=>.nil
 | _,_,0,.cons _ t=>.cons r t
 | _,_,i+1,.cons q t=>.cons q (Vals.set r i t)
theorem Vals.append:∀{xs ys:List V} {us ws:List Value},Vals xs us->Vals ys ws->Vals (xs++ys) (us++ws)
 | _,_,_,_,.nil,s=>s
 | _,_,_,_,.cons r t,s=>.cons r (Vals.append t s)
theorem Vals.take:∀{xs:List V} {us:List Value} (n:Nat),Vals xs us->Vals (xs.take n) (us.take n)
 | _,_,0,_=>.nil
 | _,_,_+1,.nil=>.nil
 | _,_,n+1,.cons r t=>.cons r (Vals.take n t)
theorem Vals.drop:∀{xs:List V} {us:List Value} (n:Nat),Vals xs us->Vals (xs.drop n) (us.drop n)
 | _,_,0,r=>r
 | _,_,_+1,.nil=>.nil
 | _,_,n+1,.cons _ t=>Vals.drop n t
def Fi:Option V->Option Value->Prop
 | some v,some u=>A0 v u
 | none,none=>True
 | _,_=>False
def KV{κ:Type}:List (κ×V)->List (κ×Value)->Prop:=Paired λ(p:κ×V) (q:κ×Value)=>p.1=q.1/\A0 p.2 q.2
def kV:Key->V
 | .inl i=>.int i
 | .inr x=>.str x
mutual
def Xh(w:World):PyData->Int
 | .int i=>Yc w (.inl i)
 | .str x=>Yc w (.inr x)
 | .tuple ds=>reduceHash (Builtin.Tuple.tupleHashOf (Rk w ds))
 | _=>0
def Rk(w:World):List PyData->List Int
 | []=>[]
 | d :: ds=>Xh w d :: Rk w ds
end
def Qe5(w:World)(x:PyData×Addr×Value):DictEntry:=⟨Xh w x.1,.ref x.2.1,x.2.2⟩
def Qe6(w:World)(h:Heap)(a:Addr)(xs:List (PyData×Addr×Value)):Prop :=
 ∃o es ep,h.get? a=some o/\o.ExactDict/\o.data=.dict es ep/\es.toList=xs.map (Qe5 w)/\(xs.map (·.1)).Nodup/\(a==sysModules)=false/\xs.length<=sizeLine
inductive HO where
 | lst (xs:List V)
 | tup (xs:List V)
 | dK (ae:List (Key×V)) | dT (ae:List (List Key×V))
 | set (S:Int->Bool) (n:Nat)
 | ins (C dx:Addr) (fs:List (Str×V))
 | own (x:Addr)
 | xd (fs:List (Str×V))
 | met (f x:Addr)
 | rng (lo hi:Int)
 | frz (o:Obj) (u:HO)
 | tbl (ps:Array Value)
 | ext (φ:Heap->Prop)
 | dd (xs:List (PyData×Addr×Value))
abbrev Hp:=Addr->Option HO
def upd(H:Hp)(a:Addr)(o:HO):Hp:=λb=>if b=a then some o else H b
theorem Bh{H:Hp}{a:Addr}{o:HO}:upd H a o a=some o:=by unfold upd;rw [Yaj rfl]
theorem Ap{H:Hp}{a b:Addr}{o:HO}(h:b≠a):upd H a o b=H b:=by unfold upd;rw [Yah h]
theorem N0{H:Hp}{a b:Addr}{o u:HO}(h:H a=some o)(h':H b=some u)(d:o≠u):a≠b:=by
 intro e;subst e;rw [h]at h';exact d (Ya0 h')
theorem Bk{H:Hp}{a b:Addr}{o:HO}(h:H a=some o)(h':H b=none):a≠b:=by
 intro e;subst e;rw [h]at h';cases h'
section
variable(P:Program)(w:World)
def Bm(H:Hp)(h:Heap)(a:Addr):HO->Prop
 | .lst xs=>xs.length<=sizeLine/\∃(ah:List Value) (n:Nat),Vals xs ah/\h.get? a=some { cls:=.type "list",data:=.seq ah.toArray n }
 | .tup xs=>xs.length<=sizeLine/\∃ah:List Value,Vals xs ah/\IsTup h a ah.toArray
 | .dK ae=>ae.length<=sizeLine/\(a==sysModules)=false/\∃vs,KV ae vs/\h.DictOf (Aw P w) a vs
 | .dT ae=>ae.length<=sizeLine/\(a==sysModules)=false/\∃xs:List (List Key×Addr×Value),
   Paired (λ(p:List Key×V) (q:List Key×Addr×Value)=>p.1=q.1/\H q.2.1=some (.tup (p.1.map kV))/\A0 p.2 q.2.2) ae xs /\
   ∃o es ep,h.get? a=some o/\o.ExactDict/\o.data=.dict es ep/\es.toList=xs.map (entryOfKey (tupleKind (Aw P w)))/\(xs.map (·.1)).Nodup
 | .set S n=>h.SetOf (intKind P w) a S n
 | .ins C dx fs=>H dx=some (.own a)/\fs.length<=1000/\dx≠a/\h.get? a=some (PySem.W.instObj C dx) /\
   ∃mA,h.Ns1 dx mA/\(∀f,Fi (fs.lookup f) (mA f))/\PySem.Within mA (fs.map (·.1))
 | .own _=>∃o,h.get? a=some o
 | .xd fs=>∃mA,h.Ns1 a mA/\∀f,Fi (fs.lookup f) (mA f)
 | .rng lo hi=>∃t u v,h.get? a=some { cls:=.type "range",data:=.fields #[.int lo t,.int hi u,.int 1 v] }
 | .frz o u=>h.get? a=some o/\Bm H h a u
 | .tbl ps=>h.get? a=some { cls:=.none,data:=.fields ps }
 | .met f x=>h.get? a=some (PySem.W.methodObj (.ref f) (.ref x))
 | .ext φ=>φ h/\(∃o,h.get? a=some o)/\∀h1 h2:Heap,φ h1->(∀o,h1.get? a=some o->h2.get? a=some o)->φ h2
 | .dd xs=>Qe6 w h a xs
def HOk(H:Hp)(h:Heap):Prop:=∀a o,H a=some o->Bm P w H h a o
end
section
variable {P:Program}{w:World}{H H':Hp}{h h':Heap}{a:Addr}{o:HO}
theorem Bm.lt(x:Bm P w H h a o):a < h.objs.size:=by
 cases o with
 | lst xs=>obtain⟨_,_,_,_,e⟩:=x;exact Yae e
 | tup xs=>obtain⟨_,_,_,p⟩:=x;exact p.lt
 | dK ae=>obtain⟨_,_,_,_,o,_,_,e,_⟩:=x;exact Yae e
 | dT ae=>obtain⟨_,_,_,_,o,_,_,e,_⟩:=x;exact Yae e
 | set S n=>obtain⟨o,_,_,_,e,_⟩:=x;exact Yae e
 | ins C dx fs=>obtain⟨_,_,_,e,_⟩:=x;exact Yae e
 | own y=>obtain⟨_,e⟩:=x;exact Yae e
 | xd fs=>obtain⟨_,⟨_,_,_,e,_⟩,_⟩:=x;exact Yae e
 | rng lo hi=>obtain⟨_,_,_,e⟩:=x;exact Yae e
 | frz ob u=>obtain⟨e,_⟩:=x;exact Yae e
 | tbl ps=>exact Yae (show h.get? a=some _ from x)
 | met f y=>exact Yae (show h.get? a=some _ from x)
 | ext φ=>obtain⟨_,⟨_,e⟩,_⟩:=x;exact Yae e
 | dd xs=>obtain⟨_,_,_,e,_⟩:=x;exact Yae e
theorem Paired.mapP{α β:Type}{F G:α->β->Prop}:∀{l₁:List α} {l₂:List β},Paired F l₁ l₂->(∀a b,F a b->G a b)->Paired G l₁ l₂
 | _,_,.nil,_=>.nil
 | _,_,.cons r t,f=>.cons (f _ _ r) (Paired.mapP t f)
theorem Bm.stay(x:Bm P w H h a o)(k:∀b u,(b=a\/H b=some (.own a))->h.get? b=some u->h'.get? b=some u)
  (ho:∀b,H b=some (.own a)->H' b=some (.own a)) (ht:∀b xs,H b=some (.tup xs)->H' b=some (.tup xs)):Bm P w H' h' a o:=by
 induction o with
 | lst xs=>obtain⟨z,ah,n,r,e⟩:=x;exact⟨z,ah,n,r,k _ _ (.inl rfl) e⟩
 | tup xs=>obtain⟨z,ah,r,ob,e,c⟩:=x;exact⟨z,ah,r,ob,k _ _ (.inl rfl) e,c⟩
 | dK ae=>obtain⟨z,y,vs,r,ob,es,ep,e,c⟩:=x;exact⟨z,y,vs,r,ob,es,ep,k _ _ (.inl rfl) e,c⟩
 | dT ae =>
  obtain⟨z,y,xs,r,ob,es,ep,e,c⟩:=x
  exact⟨z,y,xs,Paired.mapP r λp q z=>⟨z.1,ht _ _ z.2.1,z.2.2⟩,ob,es,ep,k _ _ (.inl rfl) e,c⟩
 | set S n=>obtain⟨ob,es,ep,t,e,c⟩:=x;exact⟨ob,es,ep,t,k _ _ (.inl rfl) e,c⟩
 | ins C dx fs =>
  obtain⟨d,z,ne,e,mA,⟨od,es,ep,e2,c⟩,r⟩:=x
  exact⟨ho _ d,z,ne,k _ _ (.inl rfl) e,mA,⟨od,es,ep,k _ _ (.inr d) e2,c⟩,r⟩
 | own y=>obtain⟨ob,e⟩:=x;exact⟨ob,k _ _ (.inl rfl) e⟩
 | xd fs=>obtain⟨mA,⟨od,es,ep,e,c⟩,r⟩:=x;exact⟨mA,⟨od,es,ep,k _ _ (.inl rfl) e,c⟩,r⟩
 | rng lo hi=>obtain⟨t,u,v,e⟩:=x;exact⟨t,u,v,k _ _ (.inl rfl) e⟩
 | frz ob u ih=>obtain⟨e,q⟩:=x;exact⟨k _ _ (.inl rfl) e,ih q⟩
 | tbl ps =>
  have e:h.get? a=some { cls:=.none,data:=.fields ps }:=x
  show h'.get? a=some { cls:=.none,data:=.fields ps }
  exact k a _ (.inl rfl) e
 | met f y =>
  have e:h.get? a=some (PySem.W.methodObj (.ref f) (.ref y)):=x
  show h'.get? a=some (PySem.W.methodObj (.ref f) (.ref y))
  exact k a _ (.inl rfl) e
 | ext φ=>obtain⟨p,⟨o,e⟩,st⟩:=x;exact⟨st _ _ p λo q=>k _ _ (.inl rfl) q,⟨o,k _ _ (.inl rfl) e⟩,st⟩
 | dd xs=>obtain⟨o,es,ep,e,c⟩:=x;exact⟨o,es,ep,k _ _ (.inl rfl) e,c⟩
theorem HOk.lt(x:HOk P w H h)(e:H a=some o):a < h.objs.size:=(x a o e).lt
theorem HOk.fresh(x:HOk P w H h)(e:h.objs.size<=a):H a=none:=by
 cases q:H a with
 | none=>rfl
 | some u=>exact absurd (Yai (x.lt q) e) (Ycd _)
theorem HOk.kept(x:HOk P w H h)(k:∀b u,h.get? b=some u->h'.get? b=some u):HOk P w H h':=λa o e =>
 (x a o e).stay (λb u _ q=>k b u q) (λ_ q=>q) λ_ _ q=>q
theorem HOk.laid(x:HOk P w H h)(k:∀b u,h.get? b=some u->h'.get? b=some u)(hp:h.objs.size<=a)(new:Bm P w (upd H a o) h' a o):HOk P w (upd H a o) h':=λb u e=>by
 have hn:=x.fresh hp
 by_cases hb:b=a
 ·subst hb;rw [Bh]at e;cases e;exact new
 ·rw [Ap hb]at e
  exact(x b u e).stay (λc v _ q=>k c v q) (λc q=>by rw [Ap (Bk q hn)];exact q) λc xs q=>by rw [Ap (Bk q hn)];exact q
end
def Rd(H:Hp)(a:Addr)(u:HO):Prop:=H a=some u\/∃o,H a=some (.frz o u)
theorem Rd.ok{P:Program}{w:World}{H:Hp}{h:Heap}{a:Addr}{u:HO}(r:Rd H a u)(x:HOk P w H h):Bm P w H h a u:=by
 rcases r with r | ⟨o,r⟩
 ·exact x a u r
 ·obtain⟨_,q⟩:=x a _ r
  exact q
def Mut:Option HO->Prop
 | some (.lst _)=>True
 | some (.dK _)=>True
 | some (.dT _)=>True
 | some (.set _ _)=>True
 | some (.ins _ _ _)=>True
 | some (.ext _)=>True
 | some (.dd _)=>True
 | _=>False
section
variable {P:Program}{w:World}{H:Hp}{h h':Heap}{x e:Addr}{o':HO}
theorem HOk.write(ok:HOk P w H h)(mu:Mut (H x))(he:e=x\/H e=some (.own x))(k:∀b u,b≠e->h.get? b=some u->h'.get? b=some u)(lf:∃u,h'.get? e=some u)
  (new:Bm P w (upd H x o') h' x o'):HOk P w (upd H x o') h':=λb u q=>by
 have mm:∀c y,H c=some (.own y)->c≠x:=λc y r z=>by subst z;rw [r]at mu;exact mu
 have wc:∀c xs,H c=some (.tup xs)->c≠x:=λc xs r z=>by subst z;rw [r]at mu;exact mu
 by_cases hb:b=x
 ·subst hb;rw [Bh]at q;cases q;exact new
 ·rw [Ap hb]at q
  by_cases hbe:b=e
  ·have q':H b=some (.own x):=by
    rcases he with z | z
    ·exact absurd (hbe.trans z) hb
    ·rw [hbe];exact z
   rw [q]at q';cases q'
   obtain⟨v,hv⟩:=lf
   exact⟨v,by rw [hbe];exact hv⟩
  ·refine(ok b u q).stay (λc v hc r=>k c v ?_ r) (λc r=>by rw [Ap (mm c b r)];exact r) λc xs r=>by rw [Ap (wc c xs r)];exact r
   rcases hc with rfl | hc
   ·exact hbe
   ·rintro rfl
    rcases he with z | z
    ·exact mm c b hc z
    ·rw [hc]at z;cases z;exact hb rfl
end
structure Un(fs ex:List Addr)(H H':Hp)(h h':Heap):Prop where
 keep:∀b o,h.get? b=some o->H b=none->b∉fs->b∉ex->h'.get? b=some o
 slot:∀b o,h.get? b=some o->H b=none->b∈fs->b∉ex->∃sl,h'.get? b=some { o with slots:=sl }
 free:∀b o,h.get? b=some o->H b=none->b∉ex->H' b=none
 there:∀b o,h.get? b=some o->b∉ex->∃o',h'.get? b=some o'
 tups:∀b xs,H b=some (.tup xs)->H' b=some (.tup xs)
 frzs:∀b o u,H b=some (.frz o u)->H' b=some (.frz o u)
 tbls:∀b ps,H b=some (.tbl ps)->∃more,H' b=some (.tbl (ps++more))
section
variable {fs fs' ex ex':List Addr}{H H1 H2:Hp}{h h1 h2 h':Heap}{a x e:Addr}{o:HO}
theorem Un.any(u:Un fs ex H H1 h h1){b:Addr}{ob:Obj}(q:h.get? b=some ob)(n:H b=none)(hx:b∉ex):∃sl,h1.get? b=some { ob with slots:=sl }:=by
 by_cases hb:b∈fs
 ·exact u.slot b ob q n hb hx
 ·exact⟨ob.slots,u.keep b ob q n hb hx⟩
theorem Un.kept(k:∀b u,h.get? b=some u->h'.get? b=some u):Un fs ex H H h h' :=
 ⟨λb ob q _ _ _=>k b ob q,λb ob q _ _ _=>⟨ob.slots,k b ob q⟩,λ_ _ _ n _=>n,λb ob q _=>⟨ob,k b ob q⟩,λ_ _ q=>q,λ_ _ _ q=>q,λ_ ps q=>⟨#[],by rw [q];simp⟩⟩
theorem Un.refl:Un fs ex H H h h:=Un.kept λ_ _ q=>q
theorem Un.laid(k:∀b u,h.get? b=some u->h'.get? b=some u)(hp:h.objs.size<=a)(hn:H a=none):Un fs ex H (upd H a o) h h' where
 keep:=λb u q _ _ _=>k b u q
 slot:=λb u q _ _ _=>⟨u.slots,k b u q⟩
 free:=λb u q n _=>by rw [Ap (Yan (Yai (Yae q) hp))];exact n
 there:=λb u q _=>⟨u,k b u q⟩
 tups:=λb xs q=>by rw [Ap (Bk q hn)];exact q
 frzs:=λb u xs q=>by rw [Ap (Bk q hn)];exact q
 tbls:=λb ps q=>⟨#[],by rw [Ap (Bk q hn),q];simp⟩
theorem Un.write(mu:Mut (H x))(he:e=x\/H e=some (.own x))(k:∀b u,b≠e->h.get? b=some u->h'.get? b=some u)(lf:∃u,h'.get? e=some u):Un fs ex H (upd H x o) h h':=by
 have hx:∀b,H b=none->b≠x:=λb n z=>by subst z;rw [n]at mu;exact mu
 have hb:∀b,H b=none->b≠e:=λb n z=>by
  subst z
  rcases he with r | r
  ·exact hx b n r
  ·rw [n]at r;cases r
 have hm:∀b u,H b=some u->¬Mut (some u)->b≠x:=λb u q nm z=>by subst z;rw [q]at mu;exact nm mu
 refine⟨λb u q n _ _=>k b u (hb b n) q,λb u q n _ _=>⟨u.slots,k b u (hb b n) q⟩,λb u q n _=>by rw [Ap (hx b n)];exact n,λb u q _=>?_,
  λb xs q=>by rw [Ap (hm b _ q λz=>z)];exact q,λb u xs q=>by rw [Ap (hm b _ q λz=>z)];exact q,λb ps q=>⟨#[],by rw [Ap (hm b _ q λz=>z),q];simp⟩⟩
 by_cases hbe:b=e
 ·subst hbe;exact lf
 ·exact⟨u,k b u hbe q⟩
end
def trk(h:Heap)(H:Hp):List Addr:=(List.range h.objs.size).filter λa=>(H a).isSome
def Jl(h:Heap)(H:Hp):Heap:=PySem.W.hideAll h (trk h H)
theorem Pl(h:Heap)(H:Hp):(Jl h H).objs.size=h.objs.size:=PySem.W.hideAll_size _ _
theorem Rl{h:Heap}{H:Hp}{b:Addr}{o:Obj}(e:h.get? b=some o)(n:H b=none):(Jl h H).get? b=some o :=
 PySem.W.hideAll_get _ e λhm=>by
  have q:(H b).isSome=true:=(Ycm.mp hm).2
  rw [n]at q;simp at q
theorem Uw{h:Heap}{H:Hp}{b:Addr}{o:Obj}(e:(Jl h H).get? b=some o):h.get? b=some o/\H b=none:=by
 have e':h.get? b=some o:=PySem.W.of_hideAll (trk h H) e
 refine⟨e',?_⟩
 cases q:H b with
 | none=>rfl
 | some x =>
  have hm:b∈trk h H:=Ycm.mpr ⟨Ybh.mpr (Yae e'),by simp [q]⟩
  have z:(Jl h H).get? b=none:=PySem.W.hideAll_none (trk h H) hm
  rw [z]at e;cases e
def Ux(g h:Heap)(L:Addr):List (Addr×Obj):=(List.range h.objs.size).filterMap λa=>if a=L\/(g.get? a).isSome=true then none else(h.get? a).map λo=>(a,o)
def rest(g h:Heap)(L d:Addr):List (Addr×Obj):=(Ux g h L).filter λp=>decide (p.1≠d)
structure Mod(K:PySem.W.Frag)(mg:Str->Option Value)(base:Heap):Prop where
 kin:K.In base
 glob:base.Ns mainGlobals mg
 blt:∃mb,base.Ns builtinsNs mb/\∀x:Str,x ≠ "__name__" -> mb x=bootBuiltins x
 nolimit:base.NoLimit
structure Cx where
 prog:Program
 w:World
 K:PySem.W.Frag
 mg:Str->Option Value
 base:Heap
 A:Around
 N:List Str
 s₀:Shared
 H₀:Hp
 env:Env
 outer:List Env
 stack:List Env
 ex:List Addr
 fn:Str->Bool
 calm:Bool
 pn:List (Addr×Obj)
 xe:Value->Shared->Prop
def frs(l:List Env):List Addr:=l.filterMap (·.frame)
abbrev Cx.fs(X:Cx):List Addr:=frs X.outer
def Vis(sc:Scope)(x:Str):Prop:=sc.names.lookup x=some .local\/sc.names.lookup x=some .cell\/sc.names.lookup x=some .free
def Loc(sc:Scope)(x:Str):Prop:=sc.names.lookup x=some .local\/sc.names.lookup x=some .cell
def Look(env:Env)(h:Heap)(m:Str->Option Value)(x:Str)(u:Value):Prop :=
 (env.kindOf x=some .local/\m x=some u)\/((env.kindOf x=some .cell\/env.kindOf x=some .free)/\∃c,env.cells.lookup x=some c/\h.IsCell c (some u))
structure Cx.Ok(X:Cx):Prop where
 mod:Mod X.K X.mg X.base
 kind:X.env.scope.kind=.function
 glob:X.env.globals=mainGlobals
 blt:X.env.builtins=builtinsNs
 above:X.s₀.heap.objs.size<=X.env.locals
 inj:∀x y c,X.env.cells.lookup x=some c->X.env.cells.lookup y=some c->x=y
 has:∀x,(X.env.kindOf x=some .cell\/X.env.kindOf x=some .free)->∃c,X.env.cells.lookup x=some c
 cab:∀x c,X.fn x=true->X.env.cells.lookup x=some c->X.s₀.heap.objs.size<=c
 hd:X.calm=true->X.A.handled=none
 frames:X.A.frames=some X.stack
 stk:X.stack=X.outer\/(X.stack=X.env :: X.outer/\X.env.frame=some X.env.locals)
 exf:∀b∈X.ex,b≠X.env.locals/\∀x c,X.env.cells.lookup x=some c->c≠b
 bs:∀b o,X.base.get? b=some o->X.s₀.heap.get? b=some o/\X.H₀ b=none
 bsz:X.base.objs.size<=X.s₀.heap.objs.size
 noex:∀b o,X.base.get? b=some o->b∉X.ex
 exfs:∀b∈X.ex,b∉X.fs
 funs:X.s₀.heap.FunFrames X.base X.outer
 frf:∀b∈X.fs,X.H₀ b=none
structure Inv(X:Cx)(aa:List (Addr×Obj))(σ:List (Option V))(H:Hp)(s:Shared):Prop where
 ok:X.Ok
 os:s.os=X.s₀.os
 bare:AllBare s.gens
 base:Un X.fs X.ex X.H₀ H X.s₀.heap s.heap
 loc:∃m,s.heap.Ns X.env.locals m/\∀(i:Nat) (x:Str) (v:V),X.N[i]?=some x->σ[i]?=some (some v)->Vis X.env.scope x->∃u,A0 v u/\Look X.env s.heap m x u
 cell:∀x c,X.env.cells.lookup x=some c->∃v,s.heap.IsCell c v
 free:H X.env.locals=none
 freeC:∀x c,X.env.cells.lookup x=some c->H c=none
 pin:∀p∈X.pn++aa,s.heap.get? p.1=some p.2/\H p.1=none/\p.1≠X.env.locals/\p.1∉X.fs/\∀v,p.2.data≠.cell v
 hok:HOk X.prog X.w H s.heap
 len:σ.length=X.N.length
section
variable {X:Cx}{aa:List (Addr×Obj)}{σ:List (Option V)}{H H':Hp}{s:Shared}{h':Heap}
theorem Cx.Ok.nofr(ok:X.Ok){b:Addr}{o:Obj}(e:X.base.get? b=some o):b∉X.fs:=λhb=>by
 have:=(ok.funs.mem hb).1
 rw [e]at this;cases this
theorem Inv.bs(I:Inv X aa σ H s):∀b o,X.base.get? b=some o->s.heap.get? b=some o/\H b=none:=λb o e =>
 ⟨I.base.keep b o (I.ok.bs b o e).1 (I.ok.bs b o e).2 (I.ok.nofr e) (I.ok.noex b o e),I.base.free b o (I.ok.bs b o e).1 (I.ok.bs b o e).2 (I.ok.noex b o e)⟩
theorem Inv.bk(I:Inv X aa σ H s):∀b o,X.base.get? b=some o->s.heap.get? b=some o:=λb o e=>(I.bs b o e).1
theorem Inv.mod(I:Inv X aa σ H s):Mod X.K X.mg X.base:=I.ok.mod
theorem Inv.kIn(I:Inv X aa σ H s):X.K.In s.heap:=I.ok.mod.kin.keeps I.bk
theorem Inv.lt(I:Inv X aa σ H s):X.env.locals < s.heap.objs.size:=let⟨_,hn,_⟩:=I.loc;hn.lt
theorem Inv.sz(I:Inv X aa σ H s):X.s₀.heap.objs.size<=s.heap.objs.size:=Yaq I.ok.above (Ybu I.lt)
theorem Inv.nofs(I:Inv X aa σ H s){a:Addr}(h:s.heap.objs.size<=a):a∉X.fs:=λhb=>by
 obtain⟨_,o,ho,_⟩:=I.ok.funs.mem hb
 exact absurd (Yai (Yae ho) (Yaq I.sz h)) (Ycd _)
theorem Inv.cne(I:Inv X aa σ H s):∀x c,X.env.cells.lookup x=some c->c≠X.env.locals:=λx c e z=>by
 obtain⟨v,o,ho,hd⟩:=I.cell x c e
 obtain⟨m,⟨o',es,ep,ho',ya,_⟩,_⟩:=I.loc
 rw [z,ho']at ho;cases ho;rw [ya]at hd;cases hd
theorem Inv.funs(I:Inv X aa σ H s):s.heap.FunFrames X.base X.outer:=by
 have all:∀(l:List Env),(∀b∈frs l,b∈X.fs)->X.s₀.heap.FunFrames X.base l->s.heap.FunFrames X.base l:=by
  intro l
  induction l with
  | nil=>intro _ _;trivial
  | cons env r ih =>
   intro hs hl
   obtain⟨hk,⟨L,o,hf,hn,ho,hd⟩,hr⟩:=hl
   have hL:L∈X.fs:=hs L (by unfold frs;rw [List.filterMap_cons,hf];exact Yas)
   obtain⟨sl,e⟩:=I.base.slot L o ho (I.ok.frf L hL) hL λz=>I.ok.exfs L z hL
   exact⟨hk,⟨L,_,hf,hn,e,hd⟩,ih (λb hb=>hs b (by unfold frs;rw [List.filterMap_cons,hf];exact Yam _ hb)) hr⟩
 exact all X.outer (λ_ hb=>hb) I.ok.funs
theorem Inv.stack(I:Inv X aa σ H s):s.heap.FunFrames X.base X.stack:=by
 rcases I.ok.stk with e | ⟨e,hf⟩
 ·rw [e];exact I.funs
 ·rw [e]
  obtain⟨m,hn,_⟩:=I.loc
  refine .cons (by rw [I.ok.kind];decide) hf hn ?_ I.funs
  exact Heap.get?_none_of_le (Yaq I.ok.bsz I.ok.above)
theorem Inv.stkSub(I:Inv X aa σ H s):∀b∈frs X.stack,b∈X.env.locals :: X.fs:=λb hb=>by
 rcases I.ok.stk with e | ⟨e,hf⟩
 ·rw [e]at hb;exact Yam _ hb
 ·rw [e]at hb
  unfold frs at hb
  rw [List.filterMap_cons,hf]at hb
  exact hb
theorem Inv.stkFree(I:Inv X aa σ H s):∀b∈frs X.stack,H b=none:=λb hb=>by
 rcases Ya1.mp (I.stkSub b hb) with e | hb
 ·rw [e];exact I.free
 ·obtain⟨_,o,ho,_⟩:=I.ok.funs.mem hb
  exact I.base.free b o ho (I.ok.frf b hb) λz=>I.ok.exfs b z hb
theorem Inv.step{g':Array GenState}{t':Nat}{d':Drawn}{ch:List Addr}(I:Inv X aa σ H s)
  (di:∀b∈ch,(b∈X.ex\/X.s₀.heap.objs.size<=b)/\b≠X.env.locals/\(∀x c,X.env.cells.lookup x=some c->c≠b)/\∀p∈X.pn++aa,p.1≠b)
  (keep:∀b o,b≠X.env.locals->b∉X.fs->b∉ch->s.heap.get? b=some o->H b=none->h'.get? b=some o)
  (slot:∀b o,b≠X.env.locals->b∈X.fs->b∉ch->s.heap.get? b=some o->H b=none->∃sl,h'.get? b=some { o with slots:=sl }) (free:∀b o,b∉ch->s.heap.get? b=some o->H b=none->H' b=none)
  (there:∀b o,b∉ch->s.heap.get? b=some o->∃o',h'.get? b=some o')
  (tups:∀b xs,H b=some (.tup xs)->H' b=some (.tup xs)) (frzs:∀b o u,H b=some (.frz o u)->H' b=some (.frz o u)) (tbls:∀b ps,H b=some (.tbl ps)->∃more,H' b=some (.tbl (ps++more)))
  (ns:∀m,s.heap.Ns X.env.locals m->h'.Ns X.env.locals m) (hok:HOk X.prog X.w H' h') (hg:AllBare g') :
  Inv X aa σ H' { s with heap:=h',gens:=g',drawn:=d',toks:=t' }:=by
 have neL:∀b o,X.s₀.heap.get? b=some o->b≠X.env.locals:=λb o e=>Yan (Yai (Yae e) I.ok.above)
 have uk:∀b o,X.s₀.heap.get? b=some o->b∉X.ex->b∉ch:=λb o e hx hb=>by
  rcases(di b hb).1 with z | z
  ·exact hx z
  ·exact absurd (Yai (Yae e) z) (Ycd _)
 have jf:∀x c,X.env.cells.lookup x=some c->∀v,s.heap.IsCell c v->h'.IsCell c v:=λx c e v ⟨o,ho,hd⟩=>by
  have qc:c∉ch:=λz=>(di c z).2.2.1 x c e rfl
  by_cases hc:c∈X.fs
  ·obtain⟨sl,q⟩:=slot c o (I.cne x c e) hc qc ho (I.freeC x c e)
   exact⟨_,q,hd⟩
  ·exact⟨o,keep c o (I.cne x c e) hc qc ho (I.freeC x c e),hd⟩
 refine⟨I.ok,I.os,hg,⟨λb o e n hb hx=>?_,λb o e n hb hx=>?_,λb o e n hx=>?_,λb o e hx=>?_,λb xs e=>tups b xs (I.base.tups b xs e),λb o xs e=>frzs b o xs (I.base.frzs b o xs e),λb ps e=>?_⟩,?_,λx c e=>?_,?_,λx c e=>?_,λp hp=>?_,hok,I.len⟩
 ·exact keep b o (neL b o e) hb (uk b o e hx) (I.base.keep b o e n hb hx) (I.base.free b o e n hx)
 ·obtain⟨sl,e1⟩:=I.base.slot b o e n hb hx
  obtain⟨sl',e2⟩:=slot b _ (neL b o e) hb (uk b o e hx) e1 (I.base.free b o e n hx)
  exact⟨sl',e2⟩
 ·obtain⟨o',e1⟩:=I.base.there b o e hx
  exact free b o' (uk b o e hx) e1 (I.base.free b o e n hx)
 ·obtain⟨o',e1⟩:=I.base.there b o e hx
  exact there b o' (uk b o e hx) e1
 ·obtain⟨m1,e1⟩:=I.base.tbls b ps e
  obtain⟨m2,e2⟩:=tbls b _ e1
  exact⟨m1++m2,by rw [e2,Ydx]⟩
 ·obtain⟨m,hn,hl⟩:=I.loc
  refine⟨m,ns m hn,λi x v e1 e2 e3=>?_⟩
  obtain⟨u,r,l⟩:=hl i x v e1 e2 e3
  refine⟨u,r,?_⟩
  rcases l with l | ⟨k,c,e,z⟩
  ·exact .inl l
  ·exact .inr ⟨k,c,e,jf x c e _ z⟩
 ·obtain⟨v,z⟩:=I.cell x c e
  exact⟨v,jf x c e v z⟩
 ·obtain⟨m,⟨o,_,_,ho,_⟩,_⟩:=I.loc
  exact free _ o (λz=>(di _ z).2.1 rfl) ho I.free
 ·obtain⟨v,o,ho,hd⟩:=I.cell x c e
  exact free c o (λz=>(di c z).2.2.1 x c e rfl) ho (I.freeC x c e)
 ·obtain⟨e,n,ne,nf,d⟩:=I.pin p hp
  have qc:p.1∉ch:=λz=>(di p.1 z).2.2.2 p hp rfl
  exact⟨keep p.1 p.2 ne nf qc e n,free p.1 p.2 qc e n,ne,nf,d⟩
theorem Inv.un{t':Nat}(I:Inv X aa σ H s)(u:Un X.fs [] H H' s.heap h')(hok:HOk X.prog X.w H' h'):Inv X aa σ H' { s with heap:=h',toks:=t' }:=by
 obtain⟨m,⟨o,es,ep,ho,r⟩,_⟩:=id I.loc
 obtain⟨sl,hL⟩:=u.any ho I.free (by simp)
 exact I.step (g':=s.gens) (d':=s.drawn) (ch:=[]) (λ_ z=>nomatch z) (λb o _ hb _ e n=>u.keep b o e n hb (by simp)) (λb o _ hb _ e n=>u.slot b o e n hb (by simp)) (λb o _ e n=>u.free b o e n (by simp)) (λb o _ e=>u.there b o e (by simp)) u.tups u.frzs u.tbls (λm' hm=>by
  obtain⟨o',fr,ep',ho',r'⟩:=hm
  rw [ho]at ho';cases ho'
  exact⟨_,fr,ep',hL,r'⟩) hok I.bare
theorem Inv.call{g':Array GenState}{t':Nat}{d':Drawn}{ch:List Addr}(I:Inv X aa σ H s)(u:Un (frs X.stack) ch H H' s.heap h')(hok:HOk X.prog X.w H' h')(hg:AllBare g')
  (di:∀b∈ch,(b∈X.ex\/X.s₀.heap.objs.size<=b)/\b≠X.env.locals/\(∀x c,X.env.cells.lookup x=some c->c≠b)/\∀p∈X.pn++aa,p.1≠b) :
  Inv X aa σ H' { s with heap:=h',gens:=g',drawn:=d',toks:=t' }:=by
 obtain⟨m,⟨o,es,ep,ho,r⟩,_⟩:=id I.loc
 obtain⟨sl,hL⟩:=u.any ho I.free λz=>(di _ z).2.1 rfl
 exact I.step (ch:=ch) di (λb o hL hb hc e n=>u.keep b o e n (λz=>(Ya1.mp (I.stkSub b z)).elim hL hb) hc) (λb o _ _ hc e n=>u.any e n hc) (λb o hc e n=>u.free b o e n hc) (λb o hc e=>u.there b o e hc) u.tups u.frzs u.tbls (λm' hm=>by
  obtain⟨o',fr,ep',ho',r'⟩:=hm
  rw [ho]at ho';cases ho'
  exact⟨_,fr,ep',hL,r'⟩) hok hg
theorem Inv.turned{t':Nat}{it:Addr}(I:Inv X aa σ H s)(k:∀b o,b≠it->s.heap.get? b=some o->h'.get? b=some o)(hn:H it=none)(hL:it≠X.env.locals)
  (h1:it∈X.ex\/X.s₀.heap.objs.size<=it) (h2:∀x c,X.env.cells.lookup x=some c->c≠it) (h3:∀p∈X.pn++aa,p.1≠it):Inv X aa σ H { s with heap:=h',toks:=t' }:=by
 have nit:∀b u,H b=some u->b≠it:=λb u e z=>by rw [z,hn]at e;cases e
 refine I.step (g':=s.gens) (d':=s.drawn) (ch:=[it]) (λb hb=>?_) (λb o _ _ hc e _=>k b o (λz=>hc (by simp [z])) e) (λb o _ _ hc e _=>⟨o.slots,k b o (λz=>hc (by simp [z])) e⟩) (λ_ _ _ _ n=>n)
  (λb o hc e=>⟨o,k b o (λz=>hc (by simp [z])) e⟩) (λ_ _ e=>e) (λ_ _ _ e=>e) (λb ps e=>⟨#[],by rw [e];simp⟩) (λm hm=>?_) (λb u e=>?_) I.bare
 ·have e:b=it:=by simpa using hb
  subst e
  exact⟨h1,hL,h2,h3⟩
 ·obtain⟨o,es,ep,ho,r⟩:=hm
  exact⟨o,es,ep,k _ o (Ybe hL) ho,r⟩
 ·refine(I.hok b u e).stay (λc v hc q=>k c v ?_ q) (λ_ q=>q) λ_ _ q=>q
  rcases hc with z | z
  ·rw [z];exact nit b u e
  ·exact nit c _ z
theorem Inv.tok(I:Inv X aa σ H s)(t:Nat):Inv X aa σ H { s with toks:=t }:=I.un (h':=s.heap) (t':=t) Un.refl I.hok
theorem Inv.kept{t':Nat}(I:Inv X aa σ H s)(k:∀b u,s.heap.get? b=some u->h'.get? b=some u):Inv X aa σ H { s with heap:=h',toks:=t' }:=I.un (Un.kept k) (I.hok.kept k)
theorem Inv.laid{a:Addr}{o:HO}{t':Nat}(I:Inv X aa σ H s)(k:∀b u,s.heap.get? b=some u->h'.get? b=some u)(hp:s.heap.objs.size<=a)(new:Bm X.prog X.w (upd H a o) h' a o) :
  Inv X aa σ (upd H a o) { s with heap:=h',toks:=t' }:=I.un (Un.laid k hp (I.hok.fresh hp)) (I.hok.laid k hp new)
theorem Inv.write{x e:Addr}{o:HO}{t':Nat}(I:Inv X aa σ H s)(mu:Mut (H x))(he:e=x\/H e=some (.own x))(k:∀b u,b≠e->s.heap.get? b=some u->h'.get? b=some u)(lf:∃u,h'.get? e=some u)
  (new:Bm X.prog X.w (upd H x o) h' x o):Inv X aa σ (upd H x o) { s with heap:=h',toks:=t' }:=I.un (Un.write mu he k lf) (I.hok.write mu he k lf new)
theorem Inv.pins_of{i7:List (Addr×Obj)}(I:Inv X aa σ H s)(h:∀p∈i7,s.heap.get? p.1=some p.2/\H p.1=none/\p.1≠X.env.locals/\p.1∉X.fs/\∀v,p.2.data≠.cell v):Inv X i7 σ H s :=
 ⟨I.ok,I.os,I.bare,I.base,I.loc,I.cell,I.free,I.freeC,λp hp=>(Yat.mp hp).elim (λz=>I.pin p (Ycs _ z)) (h p),I.hok,I.len⟩
theorem Kn{N:List Str}(hN:N.Nodup){i j:Nat}{x:Str}(a:N[i]?=some x)(b:N[j]?=some x):i=j:=by
 obtain⟨h1,e1⟩:=List.getElem?_eq_some_iff.mp a
 obtain⟨h2,e2⟩:=List.getElem?_eq_some_iff.mp b
 exact(List.getElem_inj hN).mp (e1.trans e2.symm)
theorem Ib{M:Model}{A:Around}{E:Value->Shared->Prop}{i:Nat}{x:Str}{v:V}{u:Value}{Q:Unit->Shared->Prop}(I:Inv X aa σ H s)(hN:X.N.Nodup)(hi:X.N[i]?=some x)(hx:Loc X.env.scope x)(r:A0 v u)
  (h:∀s',Inv X aa (σ.set i (some v)) H s'->(∃a,Heap.SameBut a s.heap s'.heap/\(a=X.env.locals\/X.env.cells.lookup x=some a))->Q () s') (hf:X.fn x=true\/X.env.scope.names.lookup x=some .local:=by first | exact .inl rfl | exact .inr rfl | assumption):wpAny M A (storeName X.env x u) Q E s:=by
 obtain⟨m,hn,hl⟩:=id I.loc
 have yy:(X.env.scope.kind==.class || (X.env.scope.kind==.module && X.env.locals != X.env.globals))=false:=by rw [I.ok.kind];rfl
 have hiσ:i < σ.length:=by rw [I.len];exact(List.getElem?_eq_some_iff.mp hi).1
 have cne:=I.cne
 have fk:∀{a:Addr} {h':Heap},(∃o,s.heap.get? a=some o/\H a=none)->Heap.SameBut a s.heap h'->HOk X.prog X.w H h':=λ{a h'} ha hs b ob e=>by
  obtain⟨_,_,hfree⟩:=ha
  refine(I.hok b ob e).stay (λc w' hc q=>(hs.2 c ?_).trans q) (λ_ q=>q) λ_ _ q=>q
  rintro rfl
  rcases hc with rfl | hc
  ·rw [hfree]at e;cases e
  ·rw [hfree]at hc;cases hc
 rcases hx with hk | hk
 ·refine wpAny_storeName_local hk hn (λh' ym hs=>?_) yy
  obtain⟨oL,_,_,hoL,_⟩:=id hn
  refine h _ ⟨I.ok,I.os,I.bare,⟨λb o e n hb hx=>?_,λb o e n hb hx=>?_,I.base.free,λb o e hx=>?_,I.base.tups,I.base.frzs,I.base.tbls⟩,⟨_,ym,λj y v' e1 e2 e3=>?_⟩,λy c e=>?_,I.free,I.freeC,λp hp=>?_,fk ⟨oL,hoL,I.free⟩ hs,by simpa using I.len⟩ ⟨_,hs,.inl rfl⟩
  ·exact(hs.2 b (Yan (Yai (Yae e) I.ok.above))).trans (I.base.keep b o e n hb hx)
  ·obtain⟨sl,e1⟩:=I.base.slot b o e n hb hx
   exact⟨sl,(hs.2 b (Yan (Yai (Yae e) I.ok.above))).trans e1⟩
  ·obtain⟨o',e1⟩:=I.base.there b o e hx
   exact⟨o',(hs.2 b (Yan (Yai (Yae e) I.ok.above))).trans e1⟩
  ·by_cases hj:j=i
   ·subst hj
    rw [hi]at e1;cases e1
    rw [List.getElem?_set_self hiσ]at e2
    cases e2
    exact⟨u,r,.inl ⟨hk,by simp⟩⟩
   ·rw [List.getElem?_set_ne (Ybe hj)]at e2
    obtain⟨u',r',q⟩:=hl j y v' e1 e2 e3
    refine⟨u',r',?_⟩
    rcases q with⟨k,e⟩ | ⟨k,c,e,z⟩
    ·refine .inl ⟨k,?_⟩
     have:y≠x:=λe=>hj (Kn hN e1 (e ▸ hi))
     simp [this,e]
    ·exact .inr ⟨k,c,e,z.sameBut hs (cne y c e)⟩
  ·obtain⟨w',z⟩:=I.cell y c e
   exact⟨w',z.sameBut hs (cne y c e)⟩
  ·obtain⟨e,n,ne,nf,d⟩:=I.pin p hp
   exact⟨(hs.2 p.1 ne).trans e,n,ne,nf,d⟩
 ·have wa:X.fn x=true:=by
   rcases hf with z | z
   ·exact z
   ·rw [z]at hk;cases hk
  obtain⟨c,hc⟩:=I.ok.has x (.inl hk)
  obtain⟨w',z⟩:=I.cell x c hc
  refine wpAny_storeName_cell I.ok.kind hk hc z (λh' cx hs=>?_)
  obtain⟨oc,hoc,hocd⟩:=id z
  refine h { s with heap:=h' } ⟨I.ok,I.os,I.bare,⟨λb o e n hb hx=>?_,λb o e n hb hx=>?_,I.base.free,λb o e hx=>?_,I.base.tups,I.base.frzs,I.base.tbls⟩,⟨m,hn.sameBut hs (Ybe (cne x c hc)),λj y v' e1 e2 e3=>?_⟩,λy c' e=>?_,I.free,I.freeC,λp hp=>?_,fk ⟨oc,hoc,I.freeC x c hc⟩ hs,by simpa using I.len⟩ ⟨c,hs,.inr hc⟩
  ·exact(hs.2 b (Yan (Yai (Yae e) (I.ok.cab x c wa hc)))).trans (I.base.keep b o e n hb hx)
  ·obtain⟨sl,e1⟩:=I.base.slot b o e n hb hx
   exact⟨sl,(hs.2 b (Yan (Yai (Yae e) (I.ok.cab x c wa hc)))).trans e1⟩
  ·obtain⟨o',e1⟩:=I.base.there b o e hx
   exact⟨o',(hs.2 b (Yan (Yai (Yae e) (I.ok.cab x c wa hc)))).trans e1⟩
  ·by_cases hj:j=i
   ·subst hj
    rw [hi]at e1;cases e1
    rw [List.getElem?_set_self hiσ]at e2
    cases e2
    exact⟨u,r,.inr ⟨.inl hk,c,hc,cx⟩⟩
   ·rw [List.getElem?_set_ne (Ybe hj)]at e2
    obtain⟨u',r',q⟩:=hl j y v' e1 e2 e3
    refine⟨u',r',?_⟩
    rcases q with q | ⟨k,c',e,z'⟩
    ·exact .inl q
    ·refine .inr ⟨k,c',e,z'.sameBut hs ?_⟩
     rintro rfl
     exact hj (Kn hN e1 (I.ok.inj _ _ _ e hc ▸ hi))
  ·by_cases hcc:c'=c
   ·subst hcc;exact⟨_,cx⟩
   ·obtain⟨w2,z2⟩:=I.cell y c' e
    exact⟨w2,z2.sameBut hs hcc⟩
  ·obtain⟨e,n,ne,nf,d⟩:=I.pin p hp
   refine⟨(hs.2 p.1 ?_).trans e,n,ne,nf,d⟩
   intro q
   rw [q,hoc]at e
   have q':oc=p.2:=Ya0 e
   exact d w' (by rw [<- q'];exact hocd)
theorem Ko{M:Model}{A:Around}{E:Value->Shared->Prop}{i:Nat}{x:Str}{v:V}{u:Value}{Q:Unit->Shared->Prop}(I:Inv X aa σ H s)(hN:X.N.Nodup)(hi:X.N[i]?=some x)(hx:Loc X.env.scope x)(r:A0 v u)
  (h:∀s',Inv X aa (σ.set i (some v)) H s'->Q () s') (hf:X.fn x=true\/X.env.scope.names.lookup x=some .local:=by first | exact .inl rfl | exact .inr rfl | assumption):wpAny M A (storeName X.env x u) Q E s :=
 Ib I hN hi hx r (λs' I' _=>h s' I') hf
theorem Inv.call'{s':Shared}{ch:List Addr}(I:Inv X aa σ H s)(ho:s'.os=s.os)(u:Un (frs X.stack) ch H H' s.heap s'.heap)(hok:HOk X.prog X.w H' s'.heap)(hg:AllBare s'.gens)
  (di:∀b∈ch,(b∈X.ex\/X.s₀.heap.objs.size<=b)/\b≠X.env.locals/\(∀x c,X.env.cells.lookup x=some c->c≠b)/\∀p∈X.pn++aa,p.1≠b):Inv X aa σ H' s':=by
 obtain⟨h',g',d',t',o'⟩:=s'
 have e:o'=s.os:=ho
 subst e
 exact I.call (g':=g') (t':=t') (d':=d') u hok hg di
end
abbrev XK:=Value->Option Addr->Hp->Prop
abbrev St:=List (Option V)
abbrev VK:=V->Hp->Prop
abbrev TE:=St->Hp->VK->Prop
abbrev TT:=St->Hp->(Bool->Hp->Prop)->Prop
abbrev TA:=St->Hp->(List V->Hp->Prop)->Prop
structure Ends where
 nx:St->Hp->Prop
 rt:VK
 bk:St->Hp->Prop:=λ_ _=>False
 ct:St->Hp->Prop:=λ_ _=>False
abbrev TS:=Ends->St->Hp->Prop
def EP(X:Cx)(aa:List (Addr×Obj))(σ:St)(Q:VK)(u:Value)(s':Shared):Prop:=∃v H',Inv X aa σ H' s'/\A0 v u/\Q v H'
def TP(X:Cx)(aa:List (Addr×Obj))(σ:St)(Q:Bool->Hp->Prop)(b:Bool)(s':Shared):Prop:=∃H',Inv X aa σ H' s'/\Q b H'
def AP(X:Cx)(aa:List (Addr×Obj))(σ:St)(Q:List V->Hp->Prop)(us:List Value)(s':Shared):Prop:=∃vs H',Inv X aa σ H' s'/\Vals vs us/\Q vs H'
def SP(X:Cx)(aa:List (Addr×Obj))(D:Ends)(f:Flow)(s':Shared):Prop :=
 match f with
 | .next=>∃ σ' H',Inv X aa σ' H' s'/\D.nx σ' H'
 | .brk=>∃ σ' H',Inv X aa σ' H' s'/\D.bk σ' H'
 | .cont=>∃ σ' H',Inv X aa σ' H' s'/\D.ct σ' H'
 | .ret u=>∃v σ' H',Inv X aa σ' H' s'/\A0 v u/\D.rt v H'
def PE(X:Cx)(e:Expr)(t:TE):Prop :=
 ∀(aa:List (Addr×Obj)) (s:Shared) (σ:St) (H:Hp) (Q:VK),Inv X aa σ H s->t σ H Q->wpAny (model X.prog X.w) X.A (eval e X.env) (EP X aa σ Q) X.xe s
def PT(X:Cx)(e:Expr)(t:TT):Prop :=
 ∀(aa:List (Addr×Obj)) (s:Shared) (σ:St) (H:Hp) (Q:Bool->Hp->Prop),Inv X aa σ H s->t σ H Q->wpAny (model X.prog X.w) X.A (isTrue e X.env (eval e X.env)) (TP X aa σ Q) X.xe s
def PW(X:Cx)(e:Expr)(t:TT):Prop :=
 ∀(dh:Sem Value) (aa:List (Addr×Obj)) (s:Shared) (σ:St) (H:Hp) (Q:Bool->Hp->Prop),Inv X aa σ H s->t σ H Q->wpAny (model X.prog X.w) X.A (isTrue e X.env dh) (TP X aa σ Q) X.xe s
theorem PW.pt{X:Cx}{e:Expr}{t:TT}(h:PW X e t):PT X e t:=h _
def PA(X:Cx)(es:List Expr)(t:TA):Prop :=
 ∀(pos:Pos) (aa:List (Addr×Obj)) (s:Shared) (σ:St) (H:Hp) (Q:List V->Hp->Prop),Inv X aa σ H s->t σ H Q->wpAny (model X.prog X.w) X.A (spliced (backTo pos (starEach es X.env))) (AP X aa σ Q) X.xe s
def PS(X:Cx)(st:Stmt)(t:TS):Prop :=
 ∀(aa:List (Addr×Obj)) (s:Shared) (σ:St) (H:Hp) (D:Ends),Inv X aa σ H s->t D σ H->wpAny (model X.prog X.w) X.A (exec st X.env) (SP X aa D) X.xe s
def PSs(X:Cx)(st:List Stmt)(t:TS):Prop :=
 ∀(aa:List (Addr×Obj)) (s:Shared) (σ:St) (H:Hp) (D:Ends),Inv X aa σ H s->t D σ H->wpAny (model X.prog X.w) X.A (execs st X.env) (SP X aa D) X.xe s
theorem thn{α:Type}{t:Sem α}{Q Q':α->Shared->Prop}{M:Model}{A:Around}{E:Value->Shared->Prop}{s:Shared}(h:wpAny M A t Q E s)(hQ:∀a s,Q a s->Q' a s):wpAny M A t Q' E s:=Ybw h hQ λ_ _ x=>x
section
variable {X:Cx}
def Qb2(i:Nat):TE:=fun σ H Q=>∃v,σ[i]?=some (some v)/\Q v H
def tC(v:V):TE:=λ_ H Q=>Q v H
theorem Yh{i:Nat}{x:Str}{pos:Pos}(hN:X.N[i]?=some x)(hv:Vis X.env.scope x)(hd:(x==("__debug__" : Str))=false:=by decide) (h9:(x==("__classdict__" : Str))=false:=by decide):PE X (.Name x pos) (Qb2 i):=by
 intro aa s σ H Q I h
 obtain⟨v,e,h⟩:=h
 obtain⟨m,hn,hl⟩:=I.loc
 obtain⟨u,r,l⟩:=hl i x v hN e hv
 have ar:EP X aa σ Q u s:=⟨v,H,I,r,h⟩
 rcases l with⟨hk,hm⟩ | ⟨hk,c,hc,hcell⟩
 ·exact wpAny_Name (wpAny_loadName_local I.ok.kind hk hn hm ar) hd
 ·rcases hk with hk | hk
  ·exact wpAny_Name (wpAny_loadName_cell I.ok.kind hk hc hcell ar) hd
  ·exact wpAny_Name (wpAny_loadName_free I.ok.kind hk hc hcell ar h9) hd
theorem Yi{i j pos}:PE X (.Constant (.int i) j pos) (tC (.int i)):=λ_ _ _ H _ I h=>wpAny_Constant_int ⟨.int i,H,I.tok _,⟨_,rfl⟩,h⟩
theorem Qb3{b j pos}:PE X (.Constant (.bool b) j pos) (tC (.bl b)):=λ_ _ _ H _ I h=>Constant_bool ⟨.bl b,H,I,rfl,h⟩
theorem Yj{x j pos}:PE X (.Constant (.str x) j pos) (tC (.str x)):=λ_ _ _ H _ I h=>Calls.Constant_str ⟨.str x,H,I.tok _,⟨_,rfl⟩,h⟩
def Gl(X:Cx)(x:Str):Prop:=X.env.kindOf x=some .globalImplicit
theorem Uy{E:Value->Shared->Prop}{aa:List (Addr×Obj)}{s:Shared}{σ:St}{H:Hp}{x:Str}{u:Value}{pos:Pos}{Q:Value->Shared->Prop}(I:Inv X aa σ H s)(hg:Gl X x)(hm:X.mg x=some u)(h:Q u s)
  (hd:(x==("__debug__" : Str))=false:=by decide):wpAny (model X.prog X.w) X.A (eval (.Name x pos) X.env) Q E s :=
 Calls.Name_function_global I.ok.kind hg (Calls.loadGlobal_global (by rw [I.ok.glob];exact I.mod.glob.keeps I.bk) hm h) hd
theorem Dl{E:Value->Shared->Prop}{aa:List (Addr×Obj)}{s:Shared}{σ:St}{H:Hp}{x:Str}{u:Value}{pos:Pos}{Q:Value->Shared->Prop}(I:Inv X aa σ H s)(hg:Gl X x)(hm:X.mg x=none)(hv:bootBuiltins x=some u)(h:Q u s)
  (hn:x ≠ "__name__" := by decide) (hd:(x==("__debug__" : Str))=false:=by decide):wpAny (model X.prog X.w) X.A (eval (.Name x pos) X.env) Q E s:=by
 obtain⟨mb,h1,h2⟩:=I.mod.blt
 exact Calls.Name_function_global I.ok.kind hg (Calls.loadGlobal_builtin (by rw [I.ok.glob];exact I.mod.glob.keeps I.bk) hm (by rw [I.ok.blt];exact h1.keeps I.bk) ((h2 x hn).trans hv) h) hd
variable {a b:Expr}{ta tb:TE}{pos:Pos}
def PC(X:Cx)(op:CmpOp)(a b:Expr)(t:TE):Prop :=
 ∀(aa:List (Addr×Obj)) (s:Shared) (σ:St) (H:Hp) (Q:VK),Inv X aa σ H s->t σ H Q ->
  wpAny (model X.prog X.w) X.A (eval a X.env) (λv s₁=>wpAny (model X.prog X.w) X.A (eval b X.env) (λu s₂=>wpAny (model X.prog X.w) X.A (compareOp op v u) (EP X aa σ Q) X.xe s₂) X.xe s₁) X.xe s
def tB(t:TE):TT:=fun σ H Q=>t σ H λx H1=>∃c,x=.bl c/\Q c H1
theorem Yk{op:CmpOp}{t:TE}(h:PC X op a b t)(h1:behindInMarks op b=false:=by first | exact nobehind _ (by decide) (by decide) | rfl):PT X (.Compare a [op] [b] pos) (tB t):=by
 intro aa s σ H Q I hw
 refine wpAny_isTrue_Compare1 (thn (h aa s σ H _ I hw) λv s1 h1=>thn h1 λu s2 h2=>thn h2 λc s3 lp=>B6 lp λx H1 I1 r1 q1=>?_) h1
 obtain⟨d,rfl,q⟩:=q1
 cases r1
 exact Yc5 ⟨H1,I1,q⟩
theorem Yl{e:Expr}{t:TE}(h:PE X e t)(he:∀dh,isTrue e X.env dh=(do let v <- dh;standAt e.pos;holding [v] (truthy v)):=by intro _;rfl):PT X e (tB t):=by
 intro aa s σ H Q I hw
 refine isTrue_plain (thn (h aa s σ H _ I hw) λv s1 qr=>B6 qr λx H1 I1 r1 q1=>?_) (he _)
 obtain⟨d,rfl,q⟩:=q1
 cases r1
 exact Yc5 ⟨H1,I1,q⟩
variable {tA ir:TT}{rest:List Expr}
def Qe7(t u:TT):TT:=fun σ H Q=>t σ H λc H1=>if c=true then u σ H1 Q else Q false H1
def tOr(t u:TT):TT:=fun σ H Q=>t σ H λc H1=>if c=true then Q true H1 else u σ H1 Q
def Qe8(t:TT):TT:=fun σ H Q=>t σ H λc H1=>Q (!c) H1
theorem Uz(ha:PT X a tA):PW X (.BoolOp .And [a] pos) tA:=by
 intro wh aa s σ H Q I h
 refine isTrue_and (thn (ha aa s σ H Q I h) λc s1 e=>?_)
 cases c with
 | true=>exact isTrue_and_nil e
 | false=>exact e
theorem Ym(ha:PT X a tA):PW X (.BoolOp .Or [a] pos) tA:=by
 intro wh aa s σ H Q I h
 refine isTrue_or (thn (ha aa s σ H Q I h) λc s1 e=>?_)
 cases c with
 | false=>exact isTrue_or_nil e
 | true=>exact e
theorem Yn(ha:PT X a tA)(hb:PW X (.BoolOp .And (b :: rest) pos) ir):PW X (.BoolOp .And (a :: b :: rest) pos) (Qe7 tA ir):=by
 intro wh aa s σ H Q I h
 refine isTrue_and (thn (ha aa s σ H _ I h) λc s1 ⟨H1,I1,q1⟩=>?_)
 cases c with
 | true=>exact hb wh aa s1 σ H1 Q I1 q1
 | false=>exact⟨H1,I1,q1⟩
theorem Qb4(ha:PT X a tA)(hb:PW X (.BoolOp .Or (b :: rest) pos) ir):PW X (.BoolOp .Or (a :: b :: rest) pos) (tOr tA ir):=by
 intro wh aa s σ H Q I h
 refine isTrue_or (thn (ha aa s σ H _ I h) λc s1 ⟨H1,I1,q1⟩=>?_)
 cases c with
 | true=>exact⟨H1,I1,q1⟩
 | false=>exact hb wh aa s1 σ H1 Q I1 q1
theorem Yo(ha:PT X a tA):PT X (.UnaryOp .Not a pos) (Qe8 tA):=by
 intro aa s σ H Q I h
 exact isTrue_not (ha aa s σ H (λc H1=>Q (!c) H1) I h)
def Qb5(ta tb:TE):TE:=fun σ H Q=>ta σ H λx H1=>∃c,x=.bl c/\if c=true then tb σ H1 Q else Q (.bl false) H1
def Qb6(ta:TE):TE:=fun σ H Q=>ta σ H λx H1=>∃c,x=.bl c/\Q (.bl (!c)) H1
theorem Yp{op}{t:TE}(h:PE X a t):PE X (.BoolOp op [a] pos) t:=λaa s σ H Q I hw=>BoolOp_one (h aa s σ H Q I hw)
theorem Yq(ha:PE X a ta)(hb:PE X (.BoolOp .And (b :: rest) pos) tb):PE X (.BoolOp .And (a :: b :: rest) pos) (Qb5 ta tb):=by
 intro aa s σ H Q I h
 refine BoolOp_and (thn (ha aa s σ H _ I h) λv s1 se=>B6 se λx H1 I1 r1 q1=>?_)
 obtain⟨c,rfl,q1⟩:=q1
 cases r1
 refine Yc5 ?_
 cases c with
 | true=>exact hb aa s1 σ H1 Q I1 q1
 | false=>exact⟨.bl false,H1,I1,rfl,q1⟩
theorem Yr(ha:PE X a ta):PE X (.UnaryOp .Not a pos) (Qb6 ta):=by
 intro aa s σ H Q I h
 refine UnaryOp_ (thn (ha aa s σ H _ I h) λv s1 nh=>B6 nh λx H1 I1 r1 q1=>?_)
 obtain⟨c,rfl,q1⟩:=q1
 cases r1
 exact not_of (Yc5 ⟨.bl (!c),H1,I1,rfl,q1⟩)
end
def Dx(K:PySem.W.Frag)(H:Hp)(a:Addr)(xs:List V):Prop :=
 Rd H a (.lst xs) \/
  ∃(o:Obj) (ah:Array Value) (n:Nat),K.lookup a=some o/\o.cls=.type "list" /\ o.dict=none/\o.data=.seq ah n/\ah.size<=sizeLine/\Vals xs ah.toList
def Hr(K:PySem.W.Frag)(H:Hp)(a:Addr)(xs:List V):Prop :=
 Rd H a (.tup xs) \/
  ∃(o:Obj) (ah:Array Value) (n:Nat),K.lookup a=some o/\o.cls=.type "tuple" /\ o.data=.seq ah n/\ah.size<=sizeLine/\Vals xs ah.toList
def Qe9:Value->Option V
 | .none=>some .non
 | .bool b=>some (.bl b)
 | .int i _=>some (.int i)
 | .str x _=>some (.str x)
 | .bytes b _=>some (.byt b)
 | .float b _=>some (.flt b)
 | .ref a=>some (.ref a)
 | .type n=>some (.ty n)
 | _=>none
theorem A0.abs{x:V}{u:Value}(r:A0 x u):Qe9 u=some x:=by
 cases x with
 | non=>cases r;rfl
 | bl _=>cases r;rfl
 | int _=>obtain⟨t,rfl⟩:=r;rfl
 | str _=>obtain⟨t,rfl⟩:=r;rfl
 | byt _=>obtain⟨t,rfl⟩:=r;rfl
 | flt _=>obtain⟨t,rfl⟩:=r;rfl
 | ref _=>cases r;rfl
 | ty _=>cases r;rfl
theorem A0.inj{x y:V}{u:Value}(r:A0 x u)(q:A0 y u):x=y:=Ya0 (r.abs.symm.trans q.abs)
theorem Vals.inj:∀{xs ys:List V} {us:List Value},Vals xs us->Vals ys us->xs=ys
 | _,_,_,.nil,.nil=>rfl
 | _,_,_,.cons r t,.cons r' t'=>by rw [r.inj r',Vals.inj t t']
section
variable {X:Cx}{aa:List (Addr×Obj)}{σ:St}{H:Hp}{s:Shared}{a:Addr}{xs ys:List V}
theorem Dx.of{K:PySem.W.Frag}(h:H a=some (.lst xs)):Dx K H a xs:=.inl (.inl h)
theorem Hr.of{K:PySem.W.Frag}(h:H a=some (.tup xs)):Hr K H a xs:=.inl (.inl h)
theorem Inv.list(I:Inv X aa σ H s)(h:Dx X.K H a xs):∃ah:List Value,Vals xs ah/\PlainL s.heap a ah.toArray/\xs.length<=sizeLine:=by
 rcases h with h | ⟨o,ah,n,hk,hc,hd,hs,hz,r⟩
 ·obtain⟨z,ah,n,r,e⟩:=h.ok I.hok
  exact⟨ah,r,⟨_,n,e,rfl,rfl,rfl⟩,z⟩
 ·refine⟨ah.toList,r,⟨o,n,I.kIn a o hk,hc,hd,by simpa using hs⟩,?_⟩
  have e:=r.length
  simp only [Array.length_toList]at e
  omega
theorem Inv.tuple(I:Inv X aa σ H s)(h:Hr X.K H a xs):∃ah:List Value,Vals xs ah/\IsTup s.heap a ah.toArray/\xs.length<=sizeLine:=by
 rcases h with h | ⟨o,ah,n,hk,hc,hs,hz,r⟩
 ·obtain⟨z,ah,r,p⟩:=h.ok I.hok
  exact⟨ah,r,p,z⟩
 ·refine⟨ah.toList,r,⟨o,I.kIn a o hk,hc,n,by simpa using hs⟩,?_⟩
  have e:=r.length
  simp only [Array.length_toList]at e
  omega
theorem Inv.list_inj(I:Inv X aa σ H s)(h:Dx X.K H a xs)(h':Dx X.K H a ys):xs=ys:=by
 obtain⟨ah,r,⟨o,n,e,_,_,d⟩,_⟩:=I.list h
 obtain⟨its',r',⟨o',n',e',_,_,d'⟩,_⟩:=I.list h'
 rw [e]at e';cases e'
 rw [d]at d'
 injection d' with d1 _
 have:ah=its':=by simpa using Ydn Array.toList d1
 subst this
 exact r.inj r'
theorem Inv.tuple_inj(I:Inv X aa σ H s)(h:Hr X.K H a xs)(h':Hr X.K H a ys):xs=ys:=by
 obtain⟨ah,r,⟨o,e,_,n,d⟩,_⟩:=I.tuple h
 obtain⟨its',r',⟨o',e',_,n',d'⟩,_⟩:=I.tuple h'
 rw [e]at e';cases e'
 rw [d]at d'
 injection d' with d1 _
 have:ah=its':=by simpa using Ydn Array.toList d1
 subst this
 exact r.inj r'
end
abbrev Cx.wish(X:Cx)(E:Value->Shared->Prop):Cx:={ X with xe:=E }
abbrev Cx.nox(X:Cx):Cx:=X.wish λ_ _=>False
theorem Cx.Ok.wish{X:Cx}(ok:X.Ok)(E:Value->Shared->Prop):(X.wish E).Ok :=
 ⟨ok.mod,ok.kind,ok.glob,ok.blt,ok.above,ok.inj,ok.has,ok.cab,ok.hd,ok.frames,ok.stk,ok.exf,ok.bs,ok.bsz,ok.noex,ok.exfs,ok.funs,ok.frf⟩
theorem Cx.Ok.unwish{X:Cx}{E:Value->Shared->Prop}(ok:(X.wish E).Ok):X.Ok :=
 ⟨ok.mod,ok.kind,ok.glob,ok.blt,ok.above,ok.inj,ok.has,ok.cab,ok.hd,ok.frames,ok.stk,ok.exf,ok.bs,ok.bsz,ok.noex,ok.exfs,ok.funs,ok.frf⟩
section
variable {X:Cx}{aa:List (Addr×Obj)}{σ:St}{H:Hp}{s:Shared}{E:Value->Shared->Prop}
theorem Inv.wish(I:Inv X aa σ H s)(E:Value->Shared->Prop):Inv (X.wish E) aa σ H s:=⟨I.ok.wish E,I.os,I.bare,I.base,I.loc,I.cell,I.free,I.freeC,I.pin,I.hok,I.len⟩
theorem Inv.unwish(I:Inv (X.wish E) aa σ H s):Inv X aa σ H s:=⟨I.ok.unwish,I.os,I.bare,I.base,I.loc,I.cell,I.free,I.freeC,I.pin,I.hok,I.len⟩
theorem SP.unwish{D:Ends}{f:Flow}{s':Shared}(h:SP (X.wish E) aa D f s'):SP X aa D f s':=by
 cases f with
 | next=>obtain⟨σ',H',I,q⟩:=h;exact⟨σ',H',I.unwish,q⟩
 | brk=>obtain⟨σ',H',I,q⟩:=h;exact⟨σ',H',I.unwish,q⟩
 | cont=>obtain⟨σ',H',I,q⟩:=h;exact⟨σ',H',I.unwish,q⟩
 | ret u=>obtain⟨v,σ',H',I,r,q⟩:=h;exact⟨v,σ',H',I.unwish,r,q⟩
theorem PSs.nox{st:List Stmt}{t:TS}(h:PSs X.nox st t):PSs X st t:=λaa s σ H D I hw =>
 Ybw (h aa s σ H D (I.wish _) hw) (λ_ _ q=>q.unwish) λ_ _ z=>False.elim z
end
section
variable {X:Cx}{st:Stmt}{rest:List Stmt}{t u:TS}{e:Expr}{te:TE}{pos:Pos}
def Qb7:TS:=λD σ H=>D.nx σ H
def Qfa(t u:TS):TS:=λD σ H=>t { D with nx:=u D } σ H
theorem U0:PSs X [] Qb7:=λ_ _ σ H _ I h=>Yet ⟨σ,H,I,h⟩
theorem Rm(h1:PS X st t)(h2:PSs X rest u):PSs X (st :: rest) (Qfa t u):=by
 intro aa s σ H D I h
 refine wpAny_execs_cons (thn (h1 aa s σ H { D with nx:=u D } I h) λf s1 q=>?_)
 cases f with
 | next =>
  obtain⟨σ',H',I',q⟩:=q
  exact h2 aa s1 σ' H' D I' q
 | ret v=>exact q
 | brk=>exact q
 | cont=>exact q
theorem U3(h1:PS X st t):PSs X [st] t:=by
 intro aa s σ H D I h
 refine wpAny_execs_cons (thn (h1 aa s σ H D I h) λf s1 q=>?_)
 cases f with
 | next=>exact Yet q
 | ret v=>exact q
 | brk=>exact q
 | cont=>exact q
theorem Inv.quiet{aa:List (Addr×Obj)}{σ:St}{H:Hp}{s:Shared}(I:Inv X aa σ H s):interactive X.env=false:=by simp [interactive,I.ok.kind]
def Qb8(te:TE):TS:=λD σ H=>te σ H λ_ H1=>D.nx σ H1
theorem U4(he:PE X e te)(hs:swapsWith e none pos.line X.env=pure false:=by rfl):PS X (.Expr e pos) (Qb8 te):=by
 intro aa s σ H D I h
 exact wpAny_Expr_any (thn (he aa s σ H _ I h) λv s1 nj=>B6 nj λx H1 I1 r1 q1=>⟨σ,H1,I1,q1⟩) I.quiet hs
def Qfb(te:TE):TS:=λD σ H=>te σ H D.rt
theorem Ys(he:PE X e te):PS X (.Return (some e) pos) (Qfb te):=by
 intro aa s σ H D I h
 exact wpAny_Return_some (thn (he aa s σ H _ I h) λv s1 lq=>B6 lq λx H1 I1 r1 q1=>⟨x,σ,H1,I1,r1,q1⟩)
def Qfc(c:TT)(t u:TS):TS:=λD σ H=>c σ H λb H1=>if b=true then t D σ H1 else u D σ H1
theorem Qb9{c:Expr}{a b:List Stmt}{tc:TT}(hc:PT X c tc)(ha:PSs X a t)(hb:PSs X b u):PS X (.If c a b pos) (Qfc tc t u):=by
 intro aa s σ H D I h
 refine wpAny_If (thn (hc aa s σ H _ I h) λd s1 ⟨H1,I1,q1⟩=>?_)
 cases d with
 | true=>exact ha aa s1 σ H1 D I1 q1
 | false=>exact hb aa s1 σ H1 D I1 q1
end
abbrev TG:=V->St->Hp->(St->Hp->Prop)->Prop
abbrev TGs:=List V->St->Hp->(St->Hp->Prop)->Prop
def PG(X:Cx)(bz:Expr)(t:TG):Prop :=
 ∀(aa:List (Addr×Obj)) (s:Shared) (σ:St) (H:Hp) (v:V) (u:Value) (Q:St->Hp->Prop),Inv X aa σ H s->A0 v u->t v σ H Q ->
  wpAny (model X.prog X.w) X.A (assign bz X.env u) (λ_ s'=>∃ σ' H',Inv X aa σ' H' s'/\Q σ' H') X.xe s
def PGs(X:Cx)(ts:List Expr)(t:TGs):Prop :=
 ∀(aa:List (Addr×Obj)) (s:Shared) (σ:St) (H:Hp) (vs:List V) (us:List Value) (Q:St->Hp->Prop),Inv X aa σ H s->Vals vs us->t vs σ H Q ->
  wpAny (model X.prog X.w) X.A (assignInOrder ((assignEach ts X.env).map (·.2)) us) (λ_ s'=>∃ σ' H',Inv X aa σ' H' s'/\Q σ' H') X.xe s
abbrev TSet:=V->V->V->Hp->(Hp->Prop)->Prop
def PSet(X:Cx)(t:TSet):Prop :=
 ∀(aa:List (Addr×Obj)) (s:Shared) (σ:St) (H:Hp) (o i v:V) (ov iv u:Value) (Q:Hp->Prop),Inv X aa σ H s->A0 o ov->A0 i iv->A0 v u->t o i v H Q ->
  wpAny (model X.prog X.w) X.A (setItem ov iv u) (λ_ s'=>∃H',Inv X aa σ H' s'/\Q H') X.xe s
section
variable {X:Cx}{pos:Pos}
def Rn(i:Nat):TG:=λv σ H Q=>Q (σ.set i (some v)) H
theorem U5{i:Nat}{x:Str}(hN:X.N.Nodup)(hi:X.N[i]?=some x)(hx:Loc X.env.scope x)(hf:X.fn x=true\/X.env.scope.names.lookup x=some .local:=by first | exact .inl rfl | exact .inr rfl | assumption):PG X (.Name x pos) (Rn i):=by
 intro aa s σ H v u Q I r h
 exact wpAny_assign_Name (Ko I hN hi hx r (λs' I'=>⟨_,H,I',h⟩) hf)
def Qfd:TGs:=λvs σ H Q=>vs=[]/\Q σ H
def Qca(t:TG)(u:TGs):TGs:=λvs σ H Q=>∃v r,vs=v :: r/\t v σ H fun σ' H'=>u r σ' H' Q
theorem U6:PGs X [] Qfd:=by
 intro aa s σ H vs us Q I r h
 obtain⟨e,h⟩:=h
 subst e
 cases r
 exact assignInOrder_nil ⟨σ,H,I,h⟩
theorem Ro{e:Expr}{es:List Expr}{t:TG}{u:TGs}(h1:PG X e t)(h2:PGs X es u)
  (hs:(assignEach (e :: es) X.env).map (·.2)=assign e X.env :: (assignEach es X.env).map (·.2):=by rfl):PGs X (e :: es) (Qca t u):=by
 intro aa s σ H vs us Q I r h
 obtain⟨v,vr,e1,h⟩:=h
 subst e1
 cases r with
 | cons r rr =>
  rw [hs]
  refine assignInOrder_cons (thn (h1 aa s σ H _ _ _ I r h) λ_ s1 q0=>?_)
  obtain⟨σ1,H1,I1,q1⟩:=q0
  exact h2 aa s1 σ1 H1 _ _ Q I1 rr q1
def Qfe(K:PySem.W.Frag)(n:Nat)(t:TGs):TG:=λv σ H Q=>∃a xs,v=.ref a/\Hr K H a xs/\xs.length=n/\t xs σ H Q
theorem Yt{es:List Expr}{k:Nat}{t:TGs}{n:Nat}(hc:X.calm=true)(h:PGs X es t)
  (hn:(assignEach es X.env).length=n:=by rfl) (bv:(assignEach es X.env).findIdx? (·.1)=none:=by rfl):PG X (.Tuple es k pos) (Qfe X.K n t):=by
 intro aa s σ H v u Q I r hw
 obtain⟨a,xs,e1,hq,hl,hw⟩:=hw
 subst e1
 cases r
 obtain⟨ah,rv,ht,hz⟩:=I.tuple hq
 refine assign_Tuple_tuple (I.ok.hd hc) ht (by simp [hn,<- hl,rv.length]) bv λh' hx=>?_
 have I1:Inv X aa σ H { s with heap:=h' }:=I.kept (t':=s.toks) λb o e=>hx b o (Yan (Yae e)) e
 exact h aa _ σ H xs _ Q I1 (by simpa using rv) hw
def Qff(to ti:TE)(t:TSet):TG:=λv σ H Q=>to σ H λo H1=>ti σ H1 λi H2=>t o i v H2 λH3=>Q σ H3
theorem Yu{o i:Expr}{to ti:TE}{t:TSet}(ho:PE X o to)(hi:PE X i ti)(hs:PSet X t)
  (ha:∀v,assign (.Subscript o i pos) X.env v=(do
   let ov <- holding [v] (eval o X.env)
   let iv <- holding [v,ov] (eval i X.env)
   standAt pos
   holding [v,ov,iv] (setItem ov iv v)
   release [v,ov,iv] []):=by intro _;rfl):PG X (.Subscript o i pos) (Qff to ti t):=by
 intro aa s σ H v u Q I r h
 rw [ha]
 refine Yaa (Ybf (thn (ho aa s σ H _ I h) λov s1 p7=>B6 p7 λx H1 I1 r1 q1=>?_))
 refine Yaa (Ybf (thn (hi aa s1 σ H1 _ I1 q1) λiv s2 ng=>B6 ng λy H2 I2 r2 q2=>?_))
 refine Yaa (wpAny_standAt (Yaa (Ybf (thn (hs aa s2 σ H2 x y v ov iv u _ I2 r1 r2 r q2) λ_ s3 ⟨H3,I3,q3⟩=>?_))))
 exact wpAny_release ⟨σ,H3,I3,q3⟩
def U7(te:TE)(g:TG):TS:=λD σ H=>te σ H λx H1=>g x σ H1 D.nx
theorem Yv{tg e:Expr}{te:TE}{g:TG}(he:PE X e te)(hg:PG X tg g)(hs:swapsWithSole [tg] e pos.line X.env=pure false:=by rfl)(hw:swappedStores [tg] e X.env=pure none:=by rfl)
  (h1:(assignEach [tg] X.env).map (·.2)=[assign tg X.env]:=by rfl):PS X (.Assign [tg] e pos) (U7 te g):=by
 intro aa s σ H D I h
 refine wpAny_Assign_stores (thn (he aa s σ H _ I h) λv s1 ny=>B6 ny λx H1 I1 r1 q1=>?_) hs hw
 rw [h1]
 exact thn (hg aa s1 σ H1 x v _ I1 r1 q1) λ_ s2 q=>q
theorem Yw{i:Nat}{x:Str}{e:Expr}{te:TE}{bj:Pos}(hN:X.N.Nodup)(hi:X.N[i]?=some x)(hx:Loc X.env.scope x)(he:PE X e te)(hs:swapsWith e (some (.Name x bj)) pos.line X.env=pure false:=by rfl)(hf:X.fn x=true\/X.env.scope.names.lookup x=some .local:=by first | exact .inl rfl | exact .inr rfl | assumption) :
  PS X (.Assign [.Name x bj] e pos) (U7 te (Rn i)):=by
 intro aa s σ H D I h
 refine wpAny_Assign_Name (thn (he aa s σ H _ I h) λv s1 r0=>B6 r0 λy H1 I1 r1 q1=>?_) hs
 exact Ko I1 hN hi hx r1 (λs2 I2=>⟨_,H1,I2,q1⟩) hf
end
section
variable {X:Cx}{pos:Pos}
def Yx(c:TT)(tb:TS):TS:=λD σ H=>∃W:Nat->St->Hp->Prop,(∃m,W m σ H)/\∀m σ H,W m σ H ->
 c σ H λb H1=>if b=true then ∃N:St->Hp->Prop,(∀ σ' H',N σ' H'->∃m',m' < m/\W m' σ' H')/\tb { D with nx:=N,ct:=N,bk:=D.nx } σ H1 else D.nx σ H1
theorem Rp{c:Expr}{body:List Stmt}{tc:TT}{tb:TS}(hp:PassesOwn (model X.prog X.w) X.A X.env X.xe)(hc:PT X c tc)(hb:PSs X body tb):PS X (.While c body [] pos) (Yx tc tb):=by
 intro aa s σ H D I h
 obtain⟨W,⟨m0,w0⟩,turn⟩:=h
 refine wpAny_While (codeAny_whileLoop (λn s'=>∃ σ' H',Inv X aa σ' H' s'/\W n σ' H') ?_ m0 ⟨σ,H,I,w0⟩)
 rintro n s1 ⟨σ1,H1,I1,w1⟩
 refine Yc6 hp (thn (hc aa s1 σ1 H1 _ I1 (turn n σ1 H1 w1)) λb s2 ⟨H2,I2,q2⟩=>?_)
 cases b with
 | true =>
  obtain⟨N,hN,q2⟩:=q2
  rw [Yaj rfl]
  refine Yc6 hp (thn (hb aa s2 σ1 H2 _ I2 q2) λf s3 q3=>?_)
  cases f with
  | next =>
   obtain⟨σ3,H3,I3,n3⟩:=q3
   obtain⟨m',hm,w3⟩:=hN σ3 H3 n3
   exact⟨m',hm,σ3,H3,I3,w3⟩
  | cont =>
   obtain⟨σ3,H3,I3,n3⟩:=q3
   obtain⟨m',hm,w3⟩:=hN σ3 H3 n3
   exact⟨m',hm,σ3,H3,I3,w3⟩
  | brk=>exact q3
  | ret v=>exact q3
 | false =>
  rw [Yah Yag]
  exact Yet ⟨σ1,H2,I2,q2⟩
end
structure It where
 go:Nat->Hp->Prop
 yld:Nat->Hp->V->Hp->Prop
 stop:Nat->Hp->Prop
def Eo(X:Cx)(aa:List (Addr×Obj))(H:Hp)(b:Addr):Prop :=
 H b=none/\b≠X.env.locals/\b∉X.fs/\(b∈X.ex\/X.s₀.heap.objs.size<=b)/\(∀x c,X.env.cells.lookup x=some c->c≠b)/\∀p∈X.pn++aa,p.1≠b
theorem Inv.fpOk{X:Cx}{aa:List (Addr×Obj)}{σ:St}{H H':Hp}{s:Shared}{b:Addr}(I:Inv X aa σ H s)(hb:s.heap.objs.size<=b)(hn:H' b=none):Eo X aa H' b:=by
 refine⟨hn,Ybg (Yai I.lt hb),I.nofs hb,.inr (Yaq I.sz hb),λx c e z=>?_,λp hp z=>?_⟩
 ·obtain⟨v,q⟩:=I.cell x c e
  exact absurd (Yai q.lt (by rw [z];exact hb)) (Ycd _)
 ·exact absurd (Yai (Yae (I.pin p hp).1) (by rw [z];exact hb)) (Ycd _)
structure Turn(P:Program)(w:World)(K:PySem.W.Frag)(tg:Expr)(J:It)(fp:List Addr)(it:Addr)(tn:Nat->Heap->Prop):Prop where
 mem:it∈fp
 obj:∀i h,tn i h->∀b∈fp,∃o,h.get? b=some o/\∀v,o.data≠.cell v
 keep:∀i h h',tn i h->(∀b∈fp,∀o,h.get? b=some o->h'.get? b=some o)->tn i h'
 item:∀(X:Cx),X.prog=P->X.w=w->X.K=K->X.calm=true->∀(i:Nat) (aa:List (Addr×Obj)) (s:Shared) (σ:St) (H:Hp) (E:Value->Shared->Prop),Inv X aa σ H s->(∀b∈fp,Eo X aa H b)->tn i s.heap->J.go i H ->
  wpAny (model P w) X.A (pyNext (.ref it)) (λr s1=>∃u,r=some u /\
   wpAny (model P w) X.A (letOwnedTupleGo tg (.ref it) u) (λ_ s2=>∃x H',Inv X aa σ H' s2/\A0 x u/\J.yld i H x H'/\tn (i+1) s2.heap/\∀b∈fp,H' b=none) E s1) E s
 done:∀(X:Cx),X.prog=P->X.w=w->X.K=K->X.calm=true->∀(i:Nat) (aa:List (Addr×Obj)) (s:Shared) (σ:St) (H:Hp) (E:Value->Shared->Prop),Inv X aa σ H s->(∀b∈fp,Eo X aa H b)->tn i s.heap->J.stop i H ->
  wpAny (model P w) X.A (pyNext (.ref it)) (λr s1=>r=none/\Inv X aa σ H s1) E s
 self:∀(A:Around) (i:Nat) (s:Shared) (Q:Value->Shared->Prop) (E:Value->Shared->Prop),tn i s.heap->Q (.ref it) s->wpAny (model P w) A (pyIter (.ref it)) Q E s
abbrev TI:=St->Hp->(It->Hp->Prop)->Prop
def PIE(X:Cx)(aa:List (Addr×Obj))(σ:St)(tg:Expr)(R:It->Hp->Prop)(t9:Value)(s2:Shared):Prop :=
 ∃(it:Addr) (fp:List Addr) (tn:Nat->Heap->Prop) (J:It) (H':Hp),t9=.ref it/\Inv X aa σ H' s2/\Turn X.prog X.w X.K tg J fp it tn/\tn 0 s2.heap/\(∀b∈fp,Eo X aa H' b)/\R J H'
def PI(X:Cx)(tg av:Expr)(wi:TI):Prop :=
 ∀(aa:List (Addr×Obj)) (s:Shared) (σ:St) (H:Hp) (R:It->Hp->Prop),Inv X aa σ H s->wi σ H R ->
  wpAny (model X.prog X.w) X.A (eval av X.env) (λv s1=>wpAny (model X.prog X.w) X.A (pyIter v) (PIE X aa σ tg R) X.xe s1) X.xe s
theorem Rr{M:Model}{A:Around}{E:Value->Shared->Prop}{s:Shared}{tg:Expr}{it:Addr}{u:Value}{o:Obj}{n:String}{vs:Array Value}{Q:Unit->Shared->Prop}(ho:s.heap.get? it=some o)(hc:o.cls=.type n)(hd:o.data=.fields vs)
  (hn:["enumerate","zip","dict_itemiterator","dict_reverseitemiterator","odict_iterator","itertools.zip_longest","itertools.pairwise"].contains n=false) (hQ:Q () s):wpAny M A (letOwnedTupleGo tg (.ref it) u) Q E s:=by
 unfold letOwnedTupleGo
 cases tg <;> first
  | exact Yab hQ
  | (cases u <;> first
    | exact Yab hQ
    | (refine Yaa (wpAny_load ho ?_)
       rw [hc, hd]
       show wpAny M A (if (["enumerate", "zip", "dict_itemiterator", "dict_reverseitemiterator", "odict_iterator", "itertools.zip_longest", "itertools.pairwise"].contains n && vs[0]? == some (rawInt _)) = true then _ else _) Q E s
       rw [Yah (by intro h; rw [hn, Bool.false_and] at h; cases h)]
       exact Yab hQ))
def Itl(K:PySem.W.Frag)(a:Addr):It :=
 ⟨λi H=>∃xs x,Dx K H a xs/\xs[i]?=some x,λi H x H'=>H'=H/\∀xs,Dx K H a xs->xs[i]?=some x,λi H=>∃xs,Dx K H a xs/\xs.length<=i⟩
def Itt(K:PySem.W.Frag)(a:Addr):It :=
 ⟨λi H=>∃xs x,Hr K H a xs/\xs[i]?=some x,λi H x H'=>H'=H/\∀xs,Hr K H a xs->xs[i]?=some x,λi H=>∃xs,Hr K H a xs/\xs.length<=i⟩
def Itr(lo:Int)(n:Nat):It:=⟨λi _=>i < n,λi H x H'=>H'=H/\x=.int (lo+i),λi _=>n<=i⟩
theorem Pn{P:Program}{w:World}{K:PySem.W.Frag}{tg:Expr}(a it:Addr):Turn P w K tg (Itl K a) [it] it (λi h=>h.IsListIter it a i) where
 mem:=by simp
 obj:=λi h st b hb=>by
  have e:b=it:=by simpa using hb
  subst e
  obtain⟨o,e,c,d⟩:=st
  exact⟨o,e,λv z=>by rw [d]at z;cases z⟩
 keep:=λi h h' st k=>st.at λo e=>k it (by simp) o e
 item:=by
  intro X hP hw hK hc i aa s σ H E I hf st hg
  subst hP hw hK
  obtain⟨xs,x,hq,hx⟩:=hg
  obtain⟨ah,rv,p,hz⟩:=I.list hq
  obtain⟨u,hu,ru⟩:=rv.get hx
  obtain⟨f0,f1,f2,f3,f4,f5⟩:=hf it (by simp)
  refine wpAny_pyNext_list_item st p.isList (x:=u) (by simpa using hu) λh' ai sb=>?_
  have I1:Inv X aa σ H { s with heap:=h' }:=I.turned (t':=s.toks) (λb o hb e=>(sb.2 b hb).trans e) f0 f1 f3 f4 f5
  obtain⟨o,e,c,d⟩:=id ai
  exact⟨u,rfl,Rr (s:={ s with heap:=h' }) e c d (by decide) ⟨x,H,I1,ru,⟨rfl,λys hy=>by rw [I.list_inj hy hq];exact hx⟩,ai,λb hb=>(hf b hb).1⟩⟩
 done:=by
  intro X hP hw hK hc i aa s σ H E I hf st hg
  subst hP hw hK
  obtain⟨xs,hq,hx⟩:=hg
  obtain⟨ah,rv,p,hz⟩:=I.list hq
  obtain⟨f0,f1,f2,f3,f4,f5⟩:=hf it (by simp)
  have hl:=rv.length
  exact wpAny_pyNext_list_end (I.ok.hd hc) st p.isList (by simp;omega) λh' eb=>⟨rfl,I.turned (t':=s.toks) (λb o hb e=>eb b o hb e) f0 f1 f3 f4 f5⟩
 self:=λ_ _ _ _ _ st h=>wpAny_pyIter_listiter st h
theorem Mn{P:Program}{w:World}{K:PySem.W.Frag}{tg:Expr}(a it:Addr):Turn P w K tg (Itt K a) [it] it (λi h=>h.IsTupleIter it a i) where
 mem:=by simp
 obj:=λi h st b hb=>by
  have e:b=it:=by simpa using hb
  subst e
  obtain⟨o,e,c,d⟩:=st
  exact⟨o,e,λv z=>by rw [d]at z;cases z⟩
 keep:=λi h h' st k=>st.at λo e=>k it (by simp) o e
 item:=by
  intro X hP hw hK hc i aa s σ H E I hf st hg
  subst hP hw hK
  obtain⟨xs,x,hq,hx⟩:=hg
  obtain⟨ah,rv,p,hz⟩:=I.tuple hq
  obtain⟨u,hu,ru⟩:=rv.get hx
  obtain⟨f0,f1,f2,f3,f4,f5⟩:=hf it (by simp)
  refine wpAny_pyNext_tuple_item st (show s.heap.IsTuple a ah.toArray from p) (x:=u) (by simpa using hu) λh' ai sb=>?_
  have I1:Inv X aa σ H { s with heap:=h' }:=I.turned (t':=s.toks) (λb o hb e=>(sb.2 b hb).trans e) f0 f1 f3 f4 f5
  obtain⟨o,e,c,d⟩:=id ai
  exact⟨u,rfl,Rr (s:={ s with heap:=h' }) e c d (by decide) ⟨x,H,I1,ru,⟨rfl,λys hy=>by rw [I.tuple_inj hy hq];exact hx⟩,ai,λb hb=>(hf b hb).1⟩⟩
 done:=by
  intro X hP hw hK hc i aa s σ H E I hf st hg
  subst hP hw hK
  obtain⟨xs,hq,hx⟩:=hg
  obtain⟨ah,rv,p,hz⟩:=I.tuple hq
  obtain⟨f0,f1,f2,f3,f4,f5⟩:=hf it (by simp)
  have hl:=rv.length
  exact wpAny_pyNext_tuple_end (I.ok.hd hc) st (show s.heap.IsTuple a ah.toArray from p) (by simp;omega) λh' eb=>⟨rfl,I.turned (t':=s.toks) (λb o hb e=>eb b o hb e) f0 f1 f3 f4 f5⟩
 self:=λ_ _ _ _ _ st h=>wpAny_pyIter_tupleiter st h
theorem Mo{P:Program}{w:World}{K:PySem.W.Frag}{tg:Expr}(it:Addr)(lo:Int)(n:Nat):Turn P w K tg (Itr lo n) [it] it (λi h=>IsRangeIter h it (lo+(i:Nat) * 1) ((n:Int) - (i:Nat)) 1) where
 mem:=by simp
 obj:=λi h st b hb=>by
  have e:b=it:=by simpa using hb
  subst e
  exact⟨_,st,λv z=>by
   have z':Data.fields _=Data.cell v:=z
   cases z'⟩
 keep:=λi h h' st k=>k it (by simp) _ st
 item:=by
  intro X hP hw hK hc i aa s σ H E I hf st hg
  subst hP hw hK
  obtain⟨f0,f1,f2,f3,f4,f5⟩:=hf it (by simp)
  have W:=Walks.range (prog:=X.prog) (w:=X.w) (I.ok.hd hc) it lo 1 n
  refine W.item i s _ _ hg st λv h' tk hv ai kk=>?_
  obtain⟨t,rfl⟩:=hv
  have I1:Inv X aa σ H { s with heap:=h',toks:=tk }:=I.turned (λb o hb e=>kk b o (by simpa using hb) e) f0 f1 f3 f4 f5
  refine⟨_,rfl,Rr (s:={ s with heap:=h',toks:=tk }) (n := "range_iterator") ai rfl rfl (by decide) ⟨.int (lo+i),H,I1,⟨t,?_⟩,⟨rfl,rfl⟩,ai,λb hb=>(hf b hb).1⟩⟩
  rw [Int.mul_one]
 done:=by
  intro X hP hw hK hc i aa s σ H E I hf st hg
  subst hP hw hK
  obtain⟨f0,f1,f2,f3,f4,f5⟩:=hf it (by simp)
  exact wpAny_pyNext_range_end (I.ok.hd hc) st (by have:n<=i:=hg;omega) λh' eb=>⟨rfl,I.turned (t':=s.toks) (λb o hb e=>eb b o hb e) f0 f1 f3 f4 f5⟩
 self:=λ_ _ _ _ _ st h=>wpAny_pyIter_rangeiter st h
section
variable {X:Cx}{tg:Expr}
theorem Rs{aa:List (Addr×Obj)}{σ:St}{H:Hp}{s:Shared}{R:It->Hp->Prop}{E:Value->Shared->Prop}{lo hi:Int}{t u v:Tok}{tk:Nat}(I:Inv X aa σ H s)(h1:-(2 ^ 62)<=lo)(h2:lo < 2 ^ 62)(h3:-(2 ^ 62)<=hi)(h4:hi < 2 ^ 62)
  (q:R (Itr lo (hi - lo).toNat) H):wpAny (model X.prog X.w) X.A (pyIter (.ref s.heap.objs.size)) (PIE X aa σ tg R) E { s with heap:=s.heap.push { cls:=.type "range",data:=.fields #[.int lo t,.int hi u,.int 1 v] },toks:=tk }:=by
 refine wpAny_pyIter_range (IsRange.new ..) (small_one h1 h2 h3 h4) ?_
 have I1:Inv X aa σ H { s with heap:=s.heap.push { cls:=.type "range",data:=.fields #[.int lo t,.int hi u,.int 1 v] },toks:=tk }:=I.kept λb o e=>Heap.get?_push_of_some _ e
 refine⟨(s.heap.push { cls:=.type "range",data:=.fields #[.int lo t,.int hi u,.int 1 v] }).objs.size,[(s.heap.push { cls:=.type "range",data:=.fields #[.int lo t,.int hi u,.int 1 v] }).objs.size],_,_,H,rfl,
  I1.kept (t':=tk) λb o e=>Heap.get?_push_of_some _ e,Mo _ lo (hi - lo).toNat,?_,λb hb=>?_,q⟩
 ·have e1:lo+((0:Nat):Int) * 1=lo:=by simp
  have e2:(((hi - lo).toNat:Nat):Int) - ((0:Nat):Int)=Builtin.Range.rangeSize lo hi 1:=by rw [rangeSize_one];split <;> omega
  show IsRangeIter _ _ (lo+((0:Nat):Int) * 1) ((((hi - lo).toNat:Nat):Int) - ((0:Nat):Int)) 1
  rw [e1,e2]
  exact Heap.get?_push_size _ rfl
 ·have e:b=(s.heap.push { cls:=.type "range",data:=.fields #[.int lo t,.int hi u,.int 1 v] }).objs.size:=by simpa using hb
  subst e
  exact I1.fpOk (Yad _) (I1.hok.fresh (Yad _))
def Qcb(ta:TA):TI:=fun σ H R=>ta σ H λvs H1=>∃j:Int,vs=[.int j]/\-(2 ^ 62)<=j/\j < 2 ^ 62/\R (Itr 0 j.toNat) H1
theorem Po{a:Expr}{ta:TA}{p pos:Pos}(hg:Gl X "range") (hm:X.mg "range" = none) (ha:PA X [a] ta) (hs:starEach [a] X.env=[(false,eval a X.env)]:=by rfl):PI X tg (.Call (.Name "range" p) [a] [] pos) (Qcb ta):=by
 intro aa s σ H R I h
 refine Call_ (Dl I hg hm boot_range (Yce (thn (ha pos aa s σ H _ I h) λus s1 qi=>B6 qi λvs H1 I1 r1 q1=>?_) hs rfl))
 obtain⟨j,e,q1,q2,q⟩:=q1
 subst e
 cases r1 with
 | cons r rr =>
  cases rr
  obtain⟨t,rfl⟩:=r
  exact call_range_1 (Rs I1 (by omega) (by omega) q1 q2 (by simpa using q))
def Qfg(wi:TI)(g:TG)(tb:TS):TS:=λD σ H=>wi σ H λJ H1=>∃W:Nat->Nat->St->Hp->Prop,(∃m,W 0 m σ H1)/\∀i m σ H,W i m σ H ->
 (J.stop i H/\D.nx σ H)\/(J.go i H/\∃N:St->Hp->Prop,(∀ σ' H',N σ' H'->∃m',m' < m/\W (i+1) m' σ' H')/\∀x H',J.yld i H x H'->g x σ H' fun σ2 H2=>tb { D with nx:=N,ct:=N,bk:=D.nx } σ2 H2)
def Gn(fp:List Addr)(h:Heap):List (Addr×Obj):=fp.filterMap λb=>(h.get? b).map λo=>(b,o)
theorem Dm{fp:List Addr}{h:Heap}{b:Addr}{o:Obj}(hb:b∈fp)(e:h.get? b=some o):(b,o)∈Gn fp h:=List.mem_filterMap.mpr ⟨b,hb,by rw [e];rfl⟩
theorem Pp{fp:List Addr}{h:Heap}{p:Addr×Obj}(hp:p∈Gn fp h):p.1∈fp/\h.get? p.1=some p.2:=by
 obtain⟨b,hb,e⟩:=List.mem_filterMap.mp hp
 cases q:h.get? b with
 | none=>rw [q]at e;cases e
 | some o =>
  rw [q]at e
  have e':(b,o)=p:=Ya0 e
  subst e'
  exact⟨hb,q⟩
theorem Inv.pinned{aa:List (Addr×Obj)}{σ:St}{H:Hp}{s:Shared}{fp:List Addr}(I:Inv X aa σ H s)(hf:∀b∈fp,Eo X aa H b)(ho:∀b∈fp,∃o,s.heap.get? b=some o/\∀v,o.data≠.cell v):Inv X (aa++Gn fp s.heap) σ H s :=
 I.pins_of λp hp=>(Yat.mp hp).elim (λz=>I.pin p (Ya2 _ z)) λz=>by
  obtain⟨hb,e⟩:=Pp z
  obtain⟨f0,f1,f2,_⟩:=hf p.1 hb
  obtain⟨o,e',d⟩:=ho p.1 hb
  rw [e]at e';cases e'
  exact⟨e,f0,f1,f2,d⟩
theorem Inv.unpinned{aa pl:List (Addr×Obj)}{σ:St}{H:Hp}{s:Shared}(I:Inv X (aa++pl) σ H s):Inv X aa σ H s:=I.pins_of λp hp=>I.pin p (Ya2 _ (Ycs _ hp))
theorem Yy{av:Expr}{body:List Stmt}{wi:TI}{g:TG}{tb:TS}{pos:Pos}(hp:PassesOwn (model X.prog X.w) X.A X.env X.xe)(hc:X.calm=true)(hi:PI X tg av wi)(hg:PG X tg g)(hb:PSs X body tb)
  (hs:∀x,foldedSetIterable av X.env x=pure x:=by intro _;rfl):PS X (.For tg av body [] pos) (Qfg wi g tb):=by
 intro aa s σ H D I h
 refine wpAny_For (thn (hi aa s σ H _ I h) λv s1 h1=>thn h1 λt9 s2 h2=>?_) hs
 obtain⟨it,fp,tn,J,H2,e,I2,T,st2,f2,W,⟨m0,w0⟩,turn⟩:=h2
 subst e
 have et:∀{H':Hp},(∀b∈fp,H' b=none)->∀b∈fp,Eo X aa H' b:=λhn b hb=>⟨hn b hb,(f2 b hb).2⟩
 refine codeAny_forLoop_any (λn s'=>∃i σ' H',Inv X aa σ' H' s'/\tn i s'.heap/\(∀b∈fp,H' b=none)/\W i n σ' H') ?_ m0 ⟨0,σ,H2,I2,st2,λb hb=>(f2 b hb).1,w0⟩
 rintro n s3 ⟨i,σ3,H3,I3,st3,fr3,w3⟩
 rcases turn i n σ3 H3 w3 with⟨stop,qn⟩ | ⟨go,N,hN,step⟩
 ·refine Yc6 hp (thn (T.done X rfl rfl rfl hc i aa s3 σ3 H3 X.xe I3 (et fr3) st3 stop) λr s4 ⟨hr,I4⟩=>?_)
  subst hr
  exact Yet ⟨σ3,H3,I4,qn⟩
 ·refine Yc6 hp (thn (T.item X rfl rfl rfl hc i aa s3 σ3 H3 X.xe I3 (et fr3) st3 go) λr s4 ⟨u,hr,h4⟩=>?_)
  subst hr
  refine Yc6 hp (thn h4 λ_ s5 mo=>?_)
  obtain⟨x,H5,I5,r5,y5,st5,fr5⟩:=mo
  have I5':=I5.pinned (et fr5) (T.obj _ _ st5)
  refine Yc6 hp (thn (hg _ s5 σ3 H5 x u _ I5' r5 (step x H5 y5)) λ_ s6 lx=>?_)
  obtain⟨σ6,H6,I6,q6⟩:=lx
  refine Yc6 hp (thn (hb _ s6 σ6 H6 _ I6 q6) λf s7 q7=>?_)
  have again:∀{σ7:St} {H7:Hp},Inv X (aa++Gn fp s5.heap) σ7 H7 s7->N σ7 H7->∃m,m < n/\∃i σ' H',Inv X aa σ' H' s7/\tn i s7.heap/\(∀b∈fp,H' b=none)/\W i m σ' H':=λ{σ7 H7} I7 n7=>by
   obtain⟨m',hm,w7⟩:=hN σ7 H7 n7
   refine⟨m',hm,i+1,σ7,H7,I7.unpinned,T.keep _ _ _ st5 λb hb o e=>(I7.pin (b,o) (Ya2 _ (Ya2 _ (Dm hb e)))).1,λb hb=>?_,w7⟩
   obtain⟨o,e,d⟩:=T.obj _ _ st5 b hb
   exact(I7.pin (b,o) (Ya2 _ (Ya2 _ (Dm hb e)))).2.1
  cases f with
  | next=>obtain⟨σ7,H7,I7,n7⟩:=q7;exact again I7 n7
  | cont=>obtain⟨σ7,H7,I7,n7⟩:=q7;exact again I7 n7
  | brk=>obtain⟨σ7,H7,I7,q7⟩:=q7;exact⟨σ7,H7,I7.unpinned,q7⟩
  | ret v=>obtain⟨x7,σ7,H7,I7,r7,q7⟩:=q7;exact⟨x7,σ7,H7,I7.unpinned,r7,q7⟩
end
abbrev R2:=V->V->Hp->VK->Prop
def Go(X:Cx)(f:Value->Value->Sem Value)(r:R2):Prop :=
 ∀(aa:List (Addr×Obj)) (s:Shared) (σ:St) (H:Hp) (x y:V) (v u:Value) (Q:VK),Inv X aa σ H s->A0 x v->A0 y u->r x y H Q ->
  wpAny (model X.prog X.w) X.A (f v u) (EP X aa σ Q) X.xe s
def Ej(X:Cx)(f:Value)(r:List V->Hp->VK->Prop):Prop :=
 ∀(aa:List (Addr×Obj)) (s:Shared) (σ:St) (H:Hp) (xs:List V) (us:List Value) (Q:VK),Inv X aa σ H s->Vals xs us->r xs H Q ->
  wpAny (model X.prog X.w) X.A (call f us) (EP X aa σ Q) X.xe s
def tOp(r:R2)(ta tb:TE):TE:=fun σ H Q=>ta σ H λx H1=>tb σ H1 λy H2=>r x y H2 Q
def rI(C:Int->Int->Prop)(g:Int->Int->V):R2:=λx y H Q=>∃i j,x=.int i/\y=.int j/\C i j/\Q (g i j) H
def Xi(g:Int->Int->V):R2:=λx y H Q=>∃i j,x=.int i/\y=.int j/\Q (g i j) H
section
variable {X:Cx}{a b c:Expr}{ta tb tc:TE}{pos:Pos}
theorem Yz(ha:PE X a ta)(hb:PE X b tb){aa:List (Addr×Obj)}{s:Shared}{σ:St}{H:Hp}{R:V->V->Hp->Prop}(I:Inv X aa σ H s)
  (h:ta σ H λx H1=>tb σ H1 λy H2=>R x y H2) {Q:Value->Shared->Prop} {f:Value->Value->Sem Value}
  (hf:∀v u s2 x y H2,Inv X aa σ H2 s2->A0 x v->A0 y u->R x y H2->wpAny (model X.prog X.w) X.A (f v u) Q X.xe s2) :
  wpAny (model X.prog X.w) X.A (eval a X.env) (λv s₁=>wpAny (model X.prog X.w) X.A (eval b X.env) (λu s₂=>wpAny (model X.prog X.w) X.A (f v u) Q X.xe s₂) X.xe s₁) X.xe s:=by
 refine thn (ha aa s σ H _ I h) λv s1 mf=>B6 mf λx H1 I1 r1 q1=>?_
 refine thn (hb aa s1 σ H1 _ I1 q1) λu s2 re=>B6 re λy H2 I2 r2 q2=>?_
 exact hf v u s2 x y H2 I2 r1 r2 q2
theorem Qcd{op:Operator}{r:R2}(ho:Go X (binaryOp op) r)(ha:PE X a ta)(hb:PE X b tb):PE X (.BinOp a op b pos) (tOp r ta tb):=by
 intro aa s σ H Q I h
 exact wpAny_BinOp (Yz ha hb I h λv u s2 x y H2 I2 rx ry q=>ho aa s2 σ H2 x y v u Q I2 rx ry q)
theorem opI{f:Value->Value->Sem Value}{C:Int->Int->Prop}{g:Int->Int->Int}
  (rule:∀(i j:Int) (t u:Tok) (s:Shared) (Q:Value->Shared->Prop) (E:Value->Shared->Prop),C i j->Q (.int (g i j) s.toks) { s with toks:=s.toks+1 }->wpAny (model X.prog X.w) X.A (f (.int i t) (.int j u)) Q E s) :
  Go X f (rI C λi j=>.int (g i j)):=by
 intro aa s σ H x y v u Q I rx ry h
 obtain⟨i,j,rfl,rfl,hc,q⟩:=h
 obtain⟨t,rfl⟩:=rx
 obtain⟨t',rfl⟩:=ry
 exact rule i j t t' s _ _ hc ⟨.int (g i j),H,I.tok _,⟨_,rfl⟩,q⟩
theorem Qce{f:Value->Value->Sem Value}{g:Int->Int->Int}
  (rule:∀(i j:Int) (t u:Tok) (s:Shared) (Q:Value->Shared->Prop) (E:Value->Shared->Prop),Q (.int (g i j) s.toks) { s with toks:=s.toks+1 }->wpAny (model X.prog X.w) X.A (f (.int i t) (.int j u)) Q E s) :
  Go X f (Xi λi j=>.int (g i j)):=by
 intro aa s σ H x y v u Q I rx ry h
 obtain⟨i,j,rfl,rfl,q⟩:=h
 obtain⟨t,rfl⟩:=rx
 obtain⟨t',rfl⟩:=ry
 exact rule i j t t' s _ _ ⟨.int (g i j),H,I.tok _,⟨_,rfl⟩,q⟩
theorem Y0{f:Value->Value->Sem Value}{g:Int->Int->Bool}
  (rule:∀(i j:Int) (t u:Tok) (s:Shared) (Q:Value->Shared->Prop) (E:Value->Shared->Prop),Q (.bool (g i j)) s->wpAny (model X.prog X.w) X.A (f (.int i t) (.int j u)) Q E s) :
  Go X f (Xi λi j=>.bl (g i j)):=by
 intro aa s σ H x y v u Q I rx ry h
 obtain⟨i,j,rfl,rfl,q⟩:=h
 obtain⟨t,rfl⟩:=rx
 obtain⟨t',rfl⟩:=ry
 exact rule i j t t' s _ _ ⟨.bl (g i j),H,I,rfl,q⟩
def CDiv(i j:Int):Prop:=0 < j/\j < 1073741824
def CPow(i j:Int):Prop:=0<=j/\j<=1000000/\i.natAbs < 2 ^ 64
def CMul(i j:Int):Prop:=(-(2 ^ 64) < i/\i < 2 ^ 64)\/(-(2 ^ 64) < j/\j < 2 ^ 64)
theorem CMul.ok{i j:Int}(h:CMul i j):IntMulOk i j:=by
 rcases h with⟨h1,h2⟩ | ⟨h1,h2⟩
 ·exact .of_left (intBits_le_64 h1 h2)
 ·exact .of_right (intBits_le_64 h1 h2)
theorem Y1:Go X (binaryOp .Add) (Xi λi j=>.int (i+j)):=Qce λ_ _ _ _ _ _ _ q=>add_int q
theorem Y2:Go X (binaryOp .Sub) (Xi λi j=>.int (i - j)):=Qce λ_ _ _ _ _ _ _ q=>sub_int q
theorem Y3:Go X (binaryOp .Mult) (rI CMul λi j=>.int (i * j)):=opI λ_ _ _ _ _ _ _ hc q=>mul_int q hc.ok
theorem U8:Go X (binaryOp .FloorDiv) (rI CDiv λi j=>.int (i / j)):=opI λi j _ _ _ _ _ hc q=>by
 have h1:(0:Int) < j:=hc.1
 have h2:j < 1073741824:=hc.2
 exact floordiv_int (by omega) (by rw [Int.fdiv_eq_ediv_of_nonneg i (by omega)];exact q) (.inl (PyProof.noPylong_small (by omega)))
theorem Y4:Go X (binaryOp .Mod) (rI (λ_ j=>0 < j) λi j=>.int (i % j)):=opI λi j _ _ _ _ _ hc q=>by
 have h1:(0:Int) < j:=hc
 exact mod_int' (by omega) (by rw [Int.fmod_eq_emod_of_nonneg i (by omega)];exact q)
theorem Y5:Go X (binaryOp .Pow) (rI CPow λi j=>.int (i ^ j.toNat)):=opI λ_ _ _ _ _ _ _ hc q=>pow_int_small hc.1 hc.2.1 hc.2.2 q
end
section
variable {X:Cx}{a b c:Expr}{ta tb tc:TE}{pos:Pos}
theorem Y6{aa:List (Addr×Obj)}{σ:St}{H:Hp}{s:Shared}{Q:VK}{k k':Bool}(I:Inv X aa σ H s)(q:Q (.bl k) H)(e:k=k'):EP X aa σ Q (.bool k') s:=by
 subst e
 exact⟨.bl k,H,I,rfl,q⟩
theorem Qcf:Go X (compareOp .Lt) (Xi λi j=>.bl (decide (i < j))):=Y0 λ_ _ _ _ _ _ _ q=>lt_int q
theorem Qcg:Go X (compareOp .Gt) (Xi λi j=>.bl (decide (j < i))):=Y0 λ_ _ _ _ _ _ _ q=>gt_int q
theorem Qch:Go X (compareOp .GtE) (Xi λi j=>.bl (decide (j<=i))):=Y0 λ_ _ _ _ _ _ _ q=>ge_int q
theorem Pq:Go X (compareOp .In) (λx y H Q=>∃i j,x=.str i/\y=.str j/\Q (.bl (!(Builtin.Str.occurrences j i 0 j.length 1).isEmpty)) H):=by
 intro aa s σ H x y v u Q I rx ry h
 obtain⟨i,j,rfl,rfl,q⟩:=h
 obtain⟨t,rfl⟩:=rx
 obtain⟨t',rfl⟩:=ry
 exact in_str (Y6 I q rfl)
theorem nomark(b:Expr){op:CmpOp}(h:op≠.In:=by decide)(h2:op≠.NotIn:=by decide):behindInMarks op b=false:=by
 have e1:(op==CmpOp.In)=false:=by cases op <;> first | rfl | exact absurd rfl h
 have e2:(op==CmpOp.NotIn)=false:=by cases op <;> first | rfl | exact absurd rfl h2
 cases b <;> simp [behindInMarks,e1,e2]
theorem U9{op:CmpOp}{r:R2}(ho:Go X (compareOp op) r)(ha:PE X a ta)(hb:PE X b tb)(hm:behindInMarks op b=false):PE X (.Compare a [op] [b] pos) (tOp r ta tb):=by
 intro aa s σ H Q I h
 exact wpAny_Compare1 (Yz ha hb I h λv u s2 x y H2 I2 rx ry q=>ho aa s2 σ H2 x y v u Q I2 rx ry q) hm
def Xj(t:TE):TT:=fun σ H Q=>t σ H λx H'=>∃k,x=.bl k/\Q k H'
theorem Va{op:CmpOp}{r:R2}(ho:Go X (compareOp op) r)(ha:PE X a ta)(hb:PE X b tb)(hm:behindInMarks op b=false):PT X (.Compare a [op] [b] pos) (Xj (tOp r ta tb)):=by
 intro aa s σ H Q I h
 refine wpAny_isTrue_Compare1 (thn (ha aa s σ H _ I h) λv s1 qx=>B6 qx λx H1 I1 r1 q1=>thn (hb aa s1 σ H1 _ I1 q1) λu s2 nn=>B6 nn λy H2 I2 r2 q2 =>
  thn (ho aa s2 σ H2 x y v u _ I2 r1 r2 q2) λc s3 ⟨z,H3,I3,r3,k,e,q3⟩=>?_) hm
 subst e
 cases r3
 exact Yc5 ⟨H3,I3,q3⟩
theorem Fj:(sizeLine:Nat) < 2 ^ 63:=by rw [sizeLine_eq];decide
theorem Mp:Go X (binaryOp .Add) (λx y H Q=>∃i j,x=.str i/\y=.str j/\i.length+j.length<=sizeLine/\Q (.str (i++j)) H):=by
 intro aa s σ H x y v u Q I rx ry h
 obtain⟨i,j,rfl,rfl,hz,q⟩:=h
 obtain⟨t,rfl⟩:=rx
 obtain⟨t',rfl⟩:=ry
 exact add_str (λt' tk=>⟨.str (i++j),H,I.tok _,⟨_,rfl⟩,q⟩) hz
theorem Ek{x:V}{us:List Value}(r:Vals [x] us):∃u,us=[u]/\A0 x u:=by
 cases r with
 | cons r1 r2=>cases r2;exact⟨_,rfl,r1⟩
theorem Ic:Ej X (.type "int") (λxs H Q=>(∃i,xs=[.int i]/\Q (.int i) H)\/∃k,xs=[.bl k]/\Q (.int (if k then 1 else 0)) H):=by
 intro aa s σ H xs us Q I r h
 rcases h with⟨i,rfl,q⟩ | ⟨k,rfl,q⟩
 ·obtain⟨u,rfl,t,rfl⟩:=Ek r
  exact call_int_int ⟨.int i,H,I,⟨_,rfl⟩,q⟩
 ·obtain⟨u,rfl,r1⟩:=Ek r
  cases r1
  exact call_int_bool ⟨.int (if k then 1 else 0),H,I.tok _,⟨_,rfl⟩,q⟩
end
section
variable {prog:Program}{w:World}{A:Around}{E:Value->Shared->Prop}{s:Shared}{K:PySem.W.Frag}{x dx C f:Addr}{mA:Str->Option Value}{name:Str}{v:Value}
end
theorem Fi.some_of{v:V}{o:Option Value}(r:Fi (some v) o):∃u,o=some u/\A0 v u:=by
 cases o with
 | none=>exact(show False from r).elim
 | some u=>exact⟨u,rfl,r⟩
section
variable {P:Program}{w:World}{H H':Hp}{h h':Heap}{a C dx:Addr}{fs fs':List (Str×V)}
end
section
variable {X:Cx}{aa:List (Addr×Obj)}{σ:St}{H:Hp}{s:Shared}{a C dx:Addr}{fs:List (Str×V)}{f:Str}{v:V}{A:Around}{E:Value->Shared->Prop}
end
section
variable {X:Cx}{o e value:Expr}{f:Str}{pos bj yo:Pos}{ta tv:TE}
end
section
variable {X:Cx}{aa:List (Addr×Obj)}{σ:St}{H:Hp}{s:Shared}{A:Around}{E:Value->Shared->Prop}{Q:Value->Shared->Prop}{c:Value}{b:Bool}
end
structure Room(k:Nat)(A:Around):Prop where
 hd:A.handled=none
 dp:A.depth+3 * k+5 < recursionLimit
 un:A.units+16 * k+200 < cLine
 gd:A.guards=some []
theorem Room.mono{j k:Nat}{A:Around}(r:Room k A)(h:j<=k):Room j A:=⟨r.hd,by have:=r.dp;omega,by have:=r.un;omega,r.gd⟩
theorem Room.deeper{k:Nat}{A:Around}(r:Room (k+1) A)(env:Env):Room k (A.deeper env) :=
 ⟨r.hd,by have:=r.dp;show A.depth+1+3 * k+5 < _;omega,by have:=r.un;show A.units+3+16 * k+200 < _;omega,r.gd⟩
theorem Room.depth{k:Nat}{A:Around}(r:Room k A):A.depth < recursionLimit:=by have:=r.dp;omega
theorem Room.units{k:Nat}{A:Around}(r:Room k A):A.units+64 < cLine:=by have:=r.un;omega
def Qfh:TA:=λ_ H Q=>Q [] H
def Qci(ta:TE)(tr:TA):TA:=fun σ H Q=>ta σ H λx H1=>tr σ H1 λxs H2=>Q (x :: xs) H2
section
variable {X:Cx}{e:Expr}{es:List Expr}{te:TE}{t:TA}{pos:Pos}
theorem Rt:PA X [] Qfh:=λ_ _ _ _ H Q I h=>Yci ⟨[],H,I,.nil,h⟩
theorem N1(ha:PE X e te)(hr:PA X es t)(hs:starEach (e :: es) X.env=(false,eval e X.env) :: starEach es X.env:=by rfl):PA X (e :: es) (Qci te t):=by
 intro pos aa s σ H Q I h
 rw [hs]
 show wpAny _ _ (spliced ((false,eval e X.env) :: backTo pos (starEach es X.env))) _ _ s
 refine Ybv (thn (ha aa s σ H _ I h) λu s1 qe=>B6 qe λx H1 I1 r1 q1=>?_)
 exact thn (hr pos aa s1 σ H1 _ I1 q1) λus s2 qa=>B6 qa λxs H2 I2 r2 q2=>⟨x :: xs,H2,I2,.cons r1 r2,q2⟩
def Qfi(t:TA):TE:=fun σ H Q=>t σ H λxs H1=>xs.length<=sizeLine/\∀p,H1 p=none->Q (.ref p) (upd H1 p (.tup xs))
def Qfj(t:TA):TE:=fun σ H Q=>t σ H λxs H1=>xs.length<=sizeLine/\∀p,H1 p=none->Q (.ref p) (upd H1 p (.lst xs))
theorem Y7{x1}(h:PA X es t):PE X (.Tuple es x1 pos) (Qfi t):=by
 intro aa s σ H Q I hq
 refine wpAny_Tuple_spliced (thn (h pos aa s σ H _ I hq) λus s1 ⟨xs,H1,I1,r,z,q⟩=>⟨by rw [<- r.length];exact z,?_⟩)
 have hf:H1 s1.heap.objs.size=none:=I1.hok.fresh (Yad _)
 refine⟨.ref s1.heap.objs.size,upd H1 s1.heap.objs.size (.tup xs),I1.laid (t':=s1.toks) (λb u e=>Heap.get?_push_of_some _ e) (Yad _) ?_,rfl,q _ hf⟩
 exact⟨z,us,r,⟨_,Heap.get?_push_size _ rfl,rfl,_,rfl⟩⟩
theorem Y8(h:PA X es t):PE X (.List es pos) (Qfj t):=by
 intro aa s σ H Q I hq
 refine wpAny_List_spliced (thn (h pos aa s σ H _ I hq) λus s1 ⟨xs,H1,I1,r,z,q⟩=>⟨by rw [<- r.length];exact z,?_⟩)
 have hf:H1 s1.heap.objs.size=none:=I1.hok.fresh (Yad _)
 refine⟨.ref s1.heap.objs.size,upd H1 s1.heap.objs.size (.lst xs),I1.laid (t':=s1.toks) (λb u e=>Heap.get?_push_of_some _ e) (Yad _) ?_,rfl,q _ hf⟩
 exact⟨z,us,0,r,Heap.get?_push_size _ rfl⟩
end
abbrev Sp:=List V->Hp->VK->XK->Prop
abbrev CXT:=List Env->Hp->Shared->XK->Value->Shared->Prop
structure Env0(P:Program)(w:World)(K:PySem.W.Frag)(mg:Str->Option Value)(base:Heap)(A:Around)(outer:List Env)(s:Shared)(H:Hp):Prop where
 frames:A.frames=some outer
 mod:Mod K mg base
 bs:∀b o,base.get? b=some o->s.heap.get? b=some o/\H b=none
 bsz:base.objs.size<=s.heap.objs.size
 funs:s.heap.FunFrames base outer
 frf:∀b∈frs outer,H b=none
 hok:HOk P w H s.heap
 bare:AllBare s.gens
def CE(outer:List Env)(P:Program)(w:World)(H:Hp)(s:Shared)(Q:VK)(u:Value)(s':Shared):Prop :=
 ∃v H',s'.os=s.os/\AllBare s'.gens/\Un (frs outer) [] H H' s.heap s'.heap/\HOk P w H' s'.heap/\A0 v u/\Q v H'
def CR(CX:CXT)(outer:List Env)(P:Program)(w:World)(H:Hp)(s:Shared)(Q:VK)(E:XK)(r:Result)(s':Shared):Prop :=
 match r with
 | .ok (.ret u)=>CE outer P w H s Q u s'
 | .ok _=>False
 | .error e=>CX outer H s E e s'
structure FnOk(P:Program)(w:World)(K:PySem.W.Frag)(mg:Str->Option Value)(base:Heap)(CX:CXT)(k:Nat)(f:Addr)(fd:FuncData)(ps:List Str)(sp:Sp):Prop where
 len:∀vs H Q E,sp vs H Q E->vs.length=ps.length
 run:∀(A:Around) (outer:List Env) (s:Shared) (H:Hp) (args:Args) (us:List Value) (vs:List V) (Q:VK) (E:XK),Room k A->Env0 P w K mg base A outer s H->BindsTo s fd args (ps.zip us)->Vals vs us->sp vs H Q E ->
  codeAny (model P w) A (.call (.ref f) args) (CR CX outer P w H s Q E) s
theorem FnOk.mono{P:Program}{w:World}{K:PySem.W.Frag}{mg:Str->Option Value}{base:Heap}{CX:CXT}{j k:Nat}{f:Addr}{fd:FuncData}{ps:List Str}{sp:Sp}(F:FnOk P w K mg base CX j f fd ps sp)(h:j<=k) :
  FnOk P w K mg base CX k f fd ps sp:=⟨F.len,λA outer s H args us vs Q E hr=>F.run A outer s H args us vs Q E (hr.mono h)⟩
theorem FnOk.imp{P:Program}{w:World}{K:PySem.W.Frag}{mg:Str->Option Value}{base:Heap}{CX:CXT}{k:Nat}{f:Addr}{fd:FuncData}{ps:List Str}{sp lv:Sp}(F:FnOk P w K mg base CX k f fd ps sp)
  (h:∀vs H Q E,lv vs H Q E->sp vs H Q E):FnOk P w K mg base CX k f fd ps lv :=
 ⟨λvs H Q E q=>F.len vs H Q E (h _ _ _ _ q),λA outer s H args us vs Q E hr he hb hv hs=>F.run A outer s H args us vs Q E hr he hb hv (h _ _ _ _ hs)⟩
section
variable {X:Cx}{aa:List (Addr×Obj)}{σ:St}{H:Hp}{s s':Shared}
theorem Inv.env0(I:Inv X aa σ H s):Env0 X.prog X.w X.K X.mg X.base X.A X.stack s H :=
 ⟨I.ok.frames,I.ok.mod,I.bs,Yaq I.ok.bsz I.sz,I.stack,I.stkFree,I.hok,I.bare⟩
theorem Inv.after{Q:VK}{u:Value}(I:Inv X aa σ H s)(h:CE X.stack X.prog X.w H s Q u s'):EP X aa σ Q u s':=by
 obtain⟨v,H',os,bare,un,hok,r,q⟩:=h
 obtain⟨hh,g,d,t,os'⟩:=s'
 obtain rfl:os'=s.os:=os
 exact⟨v,H',I.call (h':=hh) (g':=g) (d':=d) (t':=t) (ch:=[]) un hok bare (λb z=>absurd z (by simp)),r,q⟩
end
def Qcj(sp:Sp)(jc:List V)(E:XK)(t:TA):TE:=fun σ H Q=>t σ H λvs H1=>sp (vs++jc) H1 Q E
def Binds(K:PySem.W.Frag)(fd:FuncData)(ps:List Str)(ds:List Value):Prop :=
 ∀(s:Shared) (us:List Value),K.In s.heap->(us++ds).length=ps.length->BindsTo s fd ⟨us,[]⟩ (ps.zip (us++ds))
theorem Binds.all{K:PySem.W.Frag}{fd:FuncData}{ps:List Str}(h:∀us:List Value,us.length=ps.length->bindArgs fd ⟨us,[]⟩=pure (ps.zip us)):Binds K fd ps []:=λs us _ hl=>by
 rw [Yeu]at hl ⊢
 exact .of_eq (h us hl)
def Passes(CX:CXT)(X:Cx)(E:XK):Prop:=∀(aa:List (Addr×Obj)) (σ:St) (H:Hp) (s:Shared) (e:Value) (s':Shared),Inv X aa σ H s->CX X.stack H s E e s'->X.xe e s'
section
variable {X:Cx}{CX:CXT}{k:Nat}{f C:Addr}{fd:FuncData}{ps:List Str}{sp:Sp}{jc:List V}{ds:List Value}{E:XK}{x m:Str}{p pos aw:Pos}{e o:Expr}{es:List Expr}{ta:TE}{t:TA}
theorem Y9{aa:List (Addr×Obj)}{σ:St}{H:Hp}{s:Shared}{Q:VK}{us:List Value}{vs:List V}(F:FnOk X.prog X.w X.K X.mg X.base CX k f fd ps sp)(hr:Room k X.A)(hb:Binds X.K fd ps ds)(hd:Vals jc ds)(hx:Passes CX X E)
  (I:Inv X aa σ H s) (r:Vals vs us) (h:sp (vs++jc) H Q E):wpAny (model X.prog X.w) X.A (call (.ref f) us) (EP X aa σ Q) X.xe s:=by
 have r2:Vals (vs++jc) (us++ds):=r.append hd
 have hl:(us++ds).length=ps.length:=by rw [<- r2.length];exact F.len _ _ _ _ h
 refine wpAny_call (Ye3 (F.run X.A X.stack s H ⟨us,[]⟩ (us++ds) (vs++jc) Q E hr I.env0 (hb s us I.kIn hl) r2 h) λr s' hq=>?_)
 cases r with
 | error e=>exact hx aa σ H s e s' I hq
 | ok fl =>
  cases fl with
  | ret u=>exact I.after hq
  | next=>exact False.elim hq
  | brk=>exact False.elim hq
  | cont=>exact False.elim hq
theorem Vb(F:FnOk X.prog X.w X.K X.mg X.base CX k f fd ps sp)(hr:Room k X.A)(hg:Gl X x)(hm:X.mg x=some (.ref f))(hk:PySem.W.keepIn X.K (.ref f)=true)(hb:Binds X.K fd ps ds)(hd:Vals jc ds)(hx:Passes CX X E)
  (ha:PA X (e :: es) t) (hdb:(x==("__debug__" : Str))=false:=by decide) (he:starEach (e :: es) X.env=(false,eval e X.env) :: starEach es X.env:=by rfl) (hpl:(backTo pos (starEach es X.env)).any (·.1)=false:=by rfl) :
  PE X (.Call (.Name x p) (e :: es) [] pos) (Qcj sp jc E t):=by
 intro aa s σ H Q I h
 refine Ycf (Uy I hg hm ?_ hdb)
 refine PySem.W.callWith_K (h₀:=X.base) I.ok.mod.kin hk (thn (ha pos aa s σ H _ I h) λus s1 pi=>B6 pi λvs H1 I1 r q=>⟨I1.kIn,?_⟩) he hpl
 exact Y9 F hr hb hd hx I1 r q
end
section
variable {X:Cx}{CX:CXT}{k:Nat}{f C:Addr}{fd:FuncData}{ps ks:List Str}{sp:Sp}{E:XK}{x m:Str}{p pos aw zad:Pos}{e o:Expr}{es:List Expr}{kws:List Keyword}{te ta:TE}{t tk:TA}{nm:Option Str}
variable {g:List Value->List Value->List Value}{gV:List V->List V->List V}
end
structure FnScope(N P:List Str)(sc:Scope):Prop where
 kind:sc.kind=.function
 co:sc.isCoroutine=false
 gen:sc.isGenerator=false
 nd:N.Nodup
 pre:N.take P.length=P
 par:∀x∈P,sc.names.lookup x=some .local\/sc.names.lookup x=some .cell
 nofree:∀y∈sc.names,y.2≠.free
theorem Ie{kindOf:Str->Option NameKind}{x:Str}:∀{binds:List (Str×Value)} {m:Str->Option Value},(∀v,(x,v)∉binds)->bindL kindOf binds m x=m x
 | [],_,_=>rfl
 | (n,v) :: r,m,h=>by
  unfold bindL
  rw [Ie λw hw=>h w (Yam _ hw)]
  split
  ·have:x≠n:=by rintro rfl;exact h v Yas
   simp [this]
  ·rfl
theorem Ig{kindOf:Str->Option NameKind}{x:Str}:∀{binds:List (Str×Value)} {m:Str->Option Value},(∀v,(x,v)∉binds)->bindC kindOf binds m x=m x
 | [],_,_=>rfl
 | (n,v) :: r,m,h=>by
  unfold bindC
  rw [Ig λw hw=>h w (Yam _ hw)]
  split
  ·rfl
  ·have:x≠n:=by rintro rfl;exact h v Yas
   simp [this]
theorem Ih{kindOf:Str->Option NameKind}{x:Str}{v:Value}:∀{P:List Str} {vs:List Value} {i:Nat} {m:Str->Option Value},P.Nodup->P[i]?=some x->vs[i]?=some v->kindOf x=some .local ->
  bindL kindOf (P.zip vs) m x=some v
 | [],_,_,_,_,h,_,_=>by simp at h
 | _ :: _,[],_,_,_,_,h,_=>by simp at h
 | p :: P,w :: vs,0,m,nd,h1,h2,hk=>by
  simp at h1 h2;subst h1;subst h2
  show bindL kindOf ((p,w) :: P.zip vs) m p=_
  unfold bindL
  rw [Ie λv hv=>(Ycn.mp nd).1 (List.of_mem_zip hv).1,Yaj hk]
  simp
 | p :: P,w :: vs,i+1,m,nd,h1,h2,hk=>by
  show bindL kindOf ((p,w) :: P.zip vs) m x=_
  unfold bindL
  exact Ih (i:=i) (Ycn.mp nd).2 (by simpa using h1) (by simpa using h2) hk
theorem Ii{kindOf:Str->Option NameKind}{x:Str}{v:Value}:∀{P:List Str} {vs:List Value} {i:Nat} {m:Str->Option Value},P.Nodup->P[i]?=some x->vs[i]?=some v->kindOf x≠some .local ->
  bindC kindOf (P.zip vs) m x=some v
 | [],_,_,_,_,h,_,_=>by simp at h
 | _ :: _,[],_,_,_,_,h,_=>by simp at h
 | p :: P,w :: vs,0,m,nd,h1,h2,hk=>by
  simp at h1 h2;subst h1;subst h2
  show bindC kindOf ((p,w) :: P.zip vs) m p=_
  unfold bindC
  rw [Ig λv hv=>(Ycn.mp nd).1 (List.of_mem_zip hv).1,Yah hk]
  simp
 | p :: P,w :: vs,i+1,m,nd,h1,h2,hk=>by
  show bindC kindOf ((p,w) :: P.zip vs) m x=_
  unfold bindC
  exact Ii (i:=i) (Ycn.mp nd).2 (by simpa using h1) (by simpa using h2) hk
def start(N:List Str)(vs:List V):St:=vs.map some++List.replicate (N.length - vs.length) none
def Mq(CX:CXT)(P:Program)(w:World)(K:PySem.W.Frag)(mg:Str->Option Value)(base:Heap)(N:List Str)(qual:Str)(scope:Scope)(f:Addr)(cd:Value)(A:Around)(outer:List Env)(s:Shared)(H:Hp)(E:XK):Cx where
 prog:=P
 w:=w
 K:=K
 mg:=mg
 base:=base
 A:=A.deeper (envOfC qual scope s.heap.objs.size f cd)
 N:=N
 s₀:=s
 H₀:=H
 env:=envOfC qual scope s.heap.objs.size f cd
 outer:=outer
 stack:=envOfC qual scope s.heap.objs.size f cd :: outer
 ex:=[]
 calm:=true
 fn:=λ_=>true
 pn:=[]
 xe:=λe s'=>wpAny (model P w) (A.deeper (envOfC qual scope s.heap.objs.size f cd)) («leaving» (envOfC qual scope s.heap.objs.size f cd) e) (λ_ sr=>CX outer H s E e sr) (λe' sr=>CX outer H s E e' sr) s'
theorem Kq{sc:Scope}{n:Nat}{x:Str}(h:sc.names.lookup x=some .cell):∃c,(cellsFrom n sc.names []).lookup x=some c:=by
 have q:=PySem.W.cellsFrom_some sc.names n [] (.inl h)
 exact Option.isSome_iff_exists.mp q
theorem Pr{CX:CXT}{P:Program}{w:World}{K:PySem.W.Frag}{mg:Str->Option Value}{base:Heap}{N ps:List Str}{qual:Str}{scope:Scope}{f:Addr}{cd:Value}{A:Around}{outer:List Env}{s s1:Shared}{H:Hp}{E:XK}{us:List Value}{vs:List V}
  (S:FnScope N ps scope) (hd:A.handled=none) (e0:Env0 P w K mg base A outer s H) (hl:vs.length=ps.length) (r:Vals vs us)
  (x:InCallC s s.heap.objs.size (bindL (envOfC qual scope s.heap.objs.size f cd).kindOf (ps.zip us) λ_=>none) (cellsFrom (s.heap.objs.size+1) scope.names []) (bindC (envOfC qual scope s.heap.objs.size f cd).kindOf (ps.zip us) λ_=>none) s1) :
  Inv (Mq CX P w K mg base N qual scope f cd A outer s H E) [] (start N vs) H s1:=by
 have hpl:ps.length<=N.length:=by have:=Ydn List.length S.pre;rw [Yb1]at this;omega
 obtain⟨h1,tk,rfl,hk⟩:=x.done
 have lr:∀b:Addr,b∉(Mq CX P w K mg base N qual scope f cd A outer s H E).ex:=λb z=>absurd (show b∈([]:List Addr) from z) (by simp)
 refine⟨⟨e0.mod,S.kind,rfl,rfl,Yad _,λy z c h1 h2=>?_,λy hy=>?_,λy c _ h=>?_,λ_=>hd,Around.frames_deeper e0.frames,.inr ⟨rfl,rfl⟩,λb z=>absurd z (lr b),e0.bs,e0.bsz,λb _ _=>lr b,λb z=>absurd z (lr b),e0.funs,e0.frf⟩,
  rfl,e0.bare,Un.kept hk,⟨_,x.toInCall.ns,λi y v h1 h2 h3=>?_⟩,λy c h=>⟨_,x.cell y c h⟩,e0.hok.fresh (Yad _),λy c h=>?_,λp hp=>absurd (show p∈([]:List (Addr×Obj)) from hp) (by simp),e0.hok.kept hk,?_⟩
 ·exact name_of_addr x.apart (Ydb h1) (Ydb h2)
 ·have hy:scope.names.lookup y=some .cell\/scope.names.lookup y=some .free:=hy
  rcases hy with hy | hy
  ·exact Kq hy
  ·exact absurd rfl (S.nofree _ (Ydb hy))
 ·exact Ybu (x.above y c (Ydb h))
 ·have hi:i < vs.length:=by
   unfold start at h2
   by_cases hi:i < vs.length
   ·exact hi
   ·rw [List.getElem?_append_right (by simpa using hi)]at h2
    rw [List.getElem?_replicate]at h2
    split at h2 <;> cases h2
  have ha:vs[i]?=some v:=by
   unfold start at h2
   rw [List.getElem?_append_left (by simpa using hi),List.getElem?_map]at h2
   cases e:vs[i]? with
   | none=>rw [e]at h2;cases h2
   | some a=>rw [e]at h2;cases h2;rfl
  obtain⟨u,hu,rv⟩:=r.get ha
  have hp:ps[i]?=some y:=by
   rw [<- S.pre,List.getElem?_take_of_lt (by omega)];exact h1
  have ndP:ps.Nodup:=by rw [<- S.pre];exact S.nd.sublist (List.take_sublist _ _)
  refine⟨u,rv,?_⟩
  rcases S.par y (Yaz hp) with k | k
  ·exact .inl ⟨k,Ih ndP hp hu k⟩
  ·obtain⟨c,e⟩:=Kq (n:=s.heap.objs.size+1) k
   refine .inr ⟨.inl k,c,e,?_⟩
   have q:=x.cell y c e
   rw [Ii ndP hp hu (by show scope.names.lookup y≠_;rw [k];decide)]at q
   exact q
 ·exact e0.hok.fresh (Ybu (x.above y c (Ydb h)))
 ·unfold start
  show _=N.length
  rw [Yao,Yac,List.length_replicate]
  omega
theorem Qck{CX:CXT}{P:Program}{w:World}{K:PySem.W.Frag}{mg:Str->Option Value}{base:Heap}{k:Nat}{f:Addr}{name qual:Str}{params:Arguments}{body:List Stmt}{scope:Scope}{dV kV d3 pm az ct oc:Value}{an od:Option Addr}
  {jd:Array (Option Value)} {N ps:List Str} {sp:Sp} (lk:K.lookup f=some ⟨oc,od,.func (PySem.W.fnOf name qual params body scope dV kV d3 pm an az ct),jd⟩) (h9:PySem.W.codeIn K az qual=true) (S:FnScope N ps scope)
  (len:∀vs H Q E,sp vs H Q E->vs.length=ps.length)
  (d4:∀(A:Around) (outer:List Env) (s:Shared) (H:Hp) (vs:List V) (Q:VK) (E:XK),Room k (A.deeper (envOfC qual scope s.heap.objs.size f az))->sp vs H Q E ->
   ∃t,PSs (Mq CX P w K mg base N qual scope f az A outer s H E) body t/\t { nx:=λ_ H'=>Q .non H',rt:=Q } (start N vs) H) :
  FnOk P w K mg base CX (k+1) f (PySem.W.fnOf name qual params body scope dV kV d3 pm an az ct) ps sp:=by
 refine⟨len,λA outer s H args us vs Q E hr e0 hb r fw=>?_⟩
 have hl:=len _ _ _ _ fw
 have KX:K.In s.heap:=e0.mod.kin.keeps λb o e=>(e0.bs b o e).1
 have lim:s.heap.NoLimit:=e0.mod.nolimit.keeps λb o e=>(e0.bs b o e).1
 have rp:∀y∈ps.zip us,scope.names.lookup y.1=some .local\/(scope.names.lookup y.1=some .cell/\((cellsFrom (s.heap.objs.size+1) scope.names []).lookup y.1).isSome=true):=λ⟨n,v⟩ hy=>by
  rcases S.par n (List.of_mem_zip hy).1 with q | q
  ·exact .inl q
  ·exact .inr ⟨q,PySem.W.cellsFrom_some _ _ _ (.inl q)⟩
 refine codeAny_call_function hr.depth (KX _ _ lk) rfl S.co S.gen rfl (PySem.W.codeRec_of KX h9) (hb _ _ _ _ ?_)
 refine wpAny_newFunctionEnv_cells S.kind rp λenv he s1 x=>?_
 subst he
 refine⟨lim.keeps x.toInCall.keep,codeAny_func ?_⟩
 obtain⟨t,ht,hq⟩:=d4 A outer s H vs Q E (hr.deeper _) fw
 have I:Inv (Mq CX P w K mg base N qual scope f az A outer s H E) [] (start N vs) H s1:=Pr S hr.hd e0 hl r x
 refine Ybw (ht [] s1 (start N vs) H _ I hq) (λfl s' hs=>?_) λe s' hs=>hs
 have ar:∀{σ':St} {H':Hp} {v:V} {u:Value},Inv (Mq CX P w K mg base N qual scope f az A outer s H E) [] σ' H' s'->A0 v u->Q v H'->CE outer P w H s Q u s' :=
  λ{σ' H' v u} J rv q=>⟨v,H',J.os,J.bare,J.base,J.hok,rv,q⟩
 cases fl with
 | ret u =>
  obtain⟨v,σ',H',J,rv,q⟩:=hs
  exact ar J rv q
 | next =>
  obtain⟨σ',H',J,q⟩:=hs
  exact ar (v:=V.non) (u:=Value.none) J rfl q
 | brk =>
  obtain⟨_,_,_,q⟩:=hs
  exact False.elim q
 | cont =>
  obtain⟨_,_,_,q⟩:=hs
  exact False.elim q
section
variable {X:Cx}{x:Str}{p pos:Pos}{e:Expr}{es:List Expr}{t:TA}{id T:String}{r:List V->Hp->VK->Prop}
def tCB(r:List V->Hp->VK->Prop)(t:TA):TE:=fun σ H Q=>t σ H λvs H1=>r vs H1 Q
theorem Ru(hc:Ej X (.builtin id) r)(hg:Gl X x)(hm:X.mg x=none)(hv:bootBuiltins x=some (.builtin id))(ha:PA X (e :: es) t)(hn:x ≠ "__name__" := by decide) (hdb:(x==("__debug__" : Str))=false:=by decide)
  (he:starEach (e :: es) X.env=(false,eval e X.env) :: starEach es X.env:=by rfl) (hpl:(backTo pos (starEach es X.env)).any (·.1)=false:=by rfl):PE X (.Call (.Name x p) (e :: es) [] pos) (tCB r t):=by
 intro aa s σ H Q I h
 refine Ycf (Dl I hg hm hv ?_ hn hdb)
 exact Yda (thn (ha pos aa s σ H _ I h) λus s1 rj=>B6 rj λvs H1 I1 r1 q1=>hc aa s1 σ H1 vs us Q I1 r1 q1) he hpl
theorem Ij(hc:Ej X (.type T) r)(hg:Gl X x)(hm:X.mg x=none)(hv:bootBuiltins x=some (.type T))(ha:PA X (e :: es) t)(hn:x ≠ "__name__" := by decide) (hdb:(x==("__debug__" : Str))=false:=by decide)
  (he:starEach (e :: es) X.env=(false,eval e X.env) :: starEach es X.env:=by rfl) (hpl:(backTo pos (starEach es X.env)).any (·.1)=false:=by rfl):PE X (.Call (.Name x p) (e :: es) [] pos) (tCB r t):=by
 intro aa s σ H Q I h
 refine Ycf (Dl I hg hm hv ?_ hn hdb)
 exact Yce (thn (ha pos aa s σ H _ I h) λus s1 m7=>B6 m7 λvs H1 I1 r1 q1=>hc aa s1 σ H1 vs us Q I1 r1 q1) he hpl
end
end L2
namespace HT
open PySem PyProof.Rows
section
open PySem.SeqAt
open PySem.AutoSeq1 (wpAny_loadPart')
open PySem.MeetsSeq PySem.MeetsSeq2 PySem.MeetsSeq3
end
section
variable {prog:Program}{w:World}{A:Around}{E:Value->Shared->Prop}{s:Shared}
theorem cat_tup{t b:Addr}{vs ws:List Value}{Q:Value->Shared->Prop}(ht:IsTup s.heap t vs.toArray)(hb:IsTup s.heap b ws.toArray)(hv:vs≠[])
  (h1:ws=[]->Q (.ref t) s) (h2:ws≠[]->Q (.ref s.heap.objs.size) { s with heap:=s.heap.push { cls:=.type "tuple",data:=.seq (vs++ws).toArray } })
  (hsz:vs.length+ws.length<=sizeLine):wpAny (model prog w) A (binaryOp .Add (.ref t) (.ref b)) Q E s:=by
 obtain⟨⟨cls,dd,data,sl⟩,ho,hc,n,hd⟩:=id ht
 obtain⟨⟨cls2,dd2,data2,ku⟩,cj,hc2,n2,kc⟩:=id hb
 simp only at hc hd hc2 kc
 subst hc hd hc2 kc
 have e:vs.toArray++ws.toArray=(vs++ws).toArray:=by simp
 by_cases hw:ws=[]
 ·exact concat_meets ⟨_,ho,rfl⟩ ⟨_,cj,rfl⟩ noFill_tuple_add seq_tuple_add Yd7 Ydy (Ydv _ _)
   (tuple_addW1 t b vs.toArray ws.toArray n n2 dd dd2 sl ku (by simpa using hv) (by simp [hw])) ⟨ho,cj,h1 hw⟩
 ·refine concat_meets ⟨_,ho,rfl⟩ ⟨_,cj,rfl⟩ noFill_tuple_add seq_tuple_add Yd7 Ydy (Ydv _ _)
   (tuple_addW2 t b vs.toArray ws.toArray n n2 dd dd2 sl ku (by simpa using hv) (by simpa using hw) (by rw [Yar,Yar];exact hsz)) ⟨ho,cj,?_⟩
  rw [e]
  exact h2 hw
def sIx(n d:Nat):Option Int->Nat
 | none=>d
 | some v=>if v < 0 then(v+(n:Int)).toNat else min v.toNat n
theorem sIx_none(n d:Nat):sIx n d none=d:=rfl
theorem Za(n d:Nat)(hd:d<=n)(o:Option Int):sIx n d o<=n:=by
 cases o with
 | none=>exact hd
 | some v =>
  show(if v < 0 then(v+(n:Int)).toNat else min v.toNat n)<=n
  by_cases hv:v < 0
  ·rw [Yaj hv];omega
  ·rw [Yah hv];exact Nat.min_le_right _ _
theorem N2(v:Int)(n d:Nat):(if v < 0 then max (v+(n:Int)) 0 else min v (n:Int))=((sIx n d (some v):Nat):Int):=by
 show(if v < 0 then max (v+(n:Int)) 0 else min v (n:Int))=(((if v < 0 then(v+(n:Int)).toNat else min v.toNat n):Nat):Int)
 by_cases hv:v < 0
 ·simp only [if_pos hv];omega
 ·simp only [if_neg hv];omega
theorem Mr(lo hi:Option Int)(n:Nat):Builtin.Slice.sliceAdjust lo hi 1 (n:Int)=(((sIx n 0 lo:Nat):Int),((sIx n n hi:Nat):Int)):=by
 have h1:¬((1:Int) < 0):=by omega
 unfold Builtin.Slice.sliceAdjust
 simp only [h1,if_false]
 refine Prod.ext ?_ ?_
 ·cases lo with
  | none=>rfl
  | some v=>exact N2 v n 0
 ·cases hi with
  | none=>rfl
  | some v=>exact N2 v n n
theorem Ms(i j:Nat):Builtin.Slice.slicePlaces (i:Int) (j:Int) 1=j - i:=by
 unfold Builtin.Slice.slicePlaces
 have h1:(1:Int) > 0:=by omega
 simp only [h1,if_true,Int.ediv_one]
 split <;> omega
theorem Gp{v:Value}{o:Option Int}{Q:Option Int->Shared->Prop}(p:IsPart v o)(h:Q o s):wpAny (model prog w) A (Builtin.Slice.slicePartIndex v) Q E s:=by
 cases p with
 | none=>exact slicePart_none h
 | int i t=>exact slicePart_int h
theorem C9{sl:Addr}{vl vu:Value}{lo hi:Option Int}{n:Nat}{Q:Int×Int×Nat->Shared->Prop}(hs:s.heap.IsSliceOf sl vl vu .none)(pl:IsPart vl lo)(pu:IsPart vu hi)
  (h:Q (((sIx n 0 lo:Nat):Int),1,sIx n n hi - sIx n 0 lo) s):wpAny (model prog w) A (Builtin.Slice.sliceApplied (.ref sl) (pure (n:Int))) Q E s:=by
 obtain⟨os,hos,hcs,hds⟩:=id hs
 unfold Builtin.Slice.sliceApplied Builtin.Slice.sliceFields
 refine Yaa (Yaa (Ya8 hos hds (x:=vl) rfl (Yaa (Ya8 hos hds (x:=vu) rfl (Yaa (Ya8 hos hds (x:=.none) rfl (Yab ?_)))))))
 refine Yaa (slicePart_none ?_)
 show wpAny _ _ (if((1:Int)==0)=true then _ else _) _ _ s
 rw [Yah (by decide)]
 refine Yaa (Gp pl (Yaa (Gp pu (Yaa (Yab ?_)))))
 show wpAny _ _ (match Builtin.Slice.sliceAdjust lo hi 1 (n:Int) with | (lo,hi)=>pure (lo,(1:Int),Builtin.Slice.slicePlaces lo hi 1)) _ _ s
 rw [Mr lo hi n]
 show wpAny _ _ (pure (((sIx n 0 lo:Nat):Int),(1:Int),Builtin.Slice.slicePlaces ((sIx n 0 lo:Nat):Int) ((sIx n n hi:Nat):Int) 1)) _ _ s
 rw [Ms]
 exact Yab h
theorem Rv(xs:Array Value)(i k:Nat):((List.range k).filterMap λ(m:Nat)=>xs[((i:Int)+(m:Int) * 1).toNat]?).toArray=((xs.toList.drop i).take k).toArray:=by
 have e:(λ(m:Nat)=>xs[((i:Int)+(m:Int) * 1).toNat]?)=λm=>xs[i+m]?:=by
  funext m
  have:((i:Int)+(m:Int) * 1).toNat=i+m:=by omega
  rw [this]
 rw [e]
 have:=pick_run xs i k
 rw [List.filterMap_map]at this
 have e2:((λx=>xs[x]?) ∘ λx=>i+x)=λm=>xs[i+m]?:=rfl
 rw [e2]at this
 rw [this]
theorem getItem_tuple_cut{t sl:Addr}{items:Array Value}{vl vu:Value}{lo hi:Option Int}{Q:Value->Shared->Prop}(ht:IsTup s.heap t items)(hs:s.heap.IsSliceOf sl vl vu .none)(pl:IsPart vl lo)(pu:IsPart vu hi)
  (hw:¬(sIx items.size 0 lo=0/\sIx items.size items.size hi=items.size))
  (h:Q (.ref s.heap.objs.size) { s with heap:=s.heap.push { cls:=.type "tuple",data:=.seq ((items.toList.drop (sIx items.size 0 lo)).take (sIx items.size items.size hi - sIx items.size 0 lo)).toArray } })
  (hsz:items.size<=sizeLine):wpAny (model prog w) A (getItem (.ref t) (.ref sl)) Q E s:=by
 have fj:sizeOk (.seq ((items.toList.drop (sIx items.size 0 lo)).take (sIx items.size items.size hi - sIx items.size 0 lo)).toArray):=by
  show((items.toList.drop (sIx items.size 0 lo)).take (sIx items.size items.size hi - sIx items.size 0 lo)).toArray.size<=sizeLine
  rw [Yar,Yb1,Yb8,Yax]
  omega
 have hj:sIx items.size items.size hi<=items.size:=Za _ _ (Yad _) hi
 obtain⟨os,hos,hcs,hds⟩:=id hs
 have xj:s.TypeIs (.ref sl) "slice" := ⟨os,hos,hcs⟩
 unfold getItem
 try with_reducible refine Ybf ?_
 first | refine Yaa (Yab ?_) | skip
 refine Yaa (wpAny_sequenceKey ht.typeIs (by decide) ?_)
 refine Yaa (wpAny_callSpecial?_slot (name:=Str.ofString "__getitem__") ht.typeIs Ybo
  (Ya3 Ybo ht.typeIs entry_tuple_getitem ?_ (args_tuple_getitem _ _)))
 show wpAny _ _ (Builtin.Tuple.tupleItemsOf (.ref t) >>= _) _ _ s
 refine Yaa (tupleItemsOf_ ht ?_)
 refine Yaa (Ydj xj ?_)
 rw [Yaj (by decide)]
 refine Yaa (C9 hs pl pu ?_)
 have ik:¬((((sIx items.size 0 lo:Nat):Int)==0 && (1:Int)==1 && (sIx items.size items.size hi - sIx items.size 0 lo)==items.size)=true):=by
  intro q
  rw [Yb2,Yb2]at q
  have q1:((sIx items.size 0 lo:Nat):Int)=0:=eq_of_beq q.1.1
  have q2:sIx items.size items.size hi - sIx items.size 0 lo=items.size:=eq_of_beq q.2
  exact hw ⟨by omega,by omega⟩
 show wpAny _ _ (if(((sIx items.size 0 lo:Nat):Int)==0 && (1:Int)==1 && (sIx items.size items.size hi - sIx items.size 0 lo)==items.size)=true then _ else _) _ _ s
 rw [Yah ik,Rv]
 first
  | exact Yaa (m:=Builtin.Tuple.tupleExact _) (Yay (Yab ⟨_,rfl,Yab h⟩) fj)
  | exact Yaa (m:=Builtin.Tuple.tupleExact _) (Yay (Yaa (Yab (Yab ⟨_,rfl,Yab h⟩))) fj)
  | exact Yaa (Yaa (m:=Builtin.Tuple.tupleExact _) (Yay (Yab (Yab ⟨_,rfl,Yab h⟩)) fj))
  | exact Yaa (Yaa (m:=Builtin.Tuple.tupleExact _) (Yay (Yab ⟨_,rfl,Yab h⟩) fj))
end
end HT
namespace L2
open PySem PySem.Spec PyProof.Rows
abbrev TO:=St->Hp->(Option Int->Hp->Prop)->Prop
def PO(X:Cx)(e:Option Expr)(t:TO):Prop :=
 ∀(aa:List (Addr×Obj)) (s:Shared) (σ:St) (H:Hp) (Q:Option Int->Hp->Prop),Inv X aa σ H s->t σ H Q ->
  wpAny (model X.prog X.w) X.A (evalPart e X.env) (λu s'=>∃o H',Inv X aa σ H' s'/\IsPart u o/\Q o H') X.xe s
def Vc:TO:=λ_ H Q=>Q none H
def Qcl(t:TE):TO:=fun σ H Q=>t σ H λx H1=>∃i,x=.int i/\Q (some i) H1
section
variable {X:Cx}{e:Expr}{te:TE}{lo hi:Option Expr}{tl th:TO}{pos p2:Pos}
theorem Vd:PO X none Vc:=by
 intro aa s σ H Q I h
 rw [evalPart_none]
 exact Yab ⟨none,H,I,.none,h⟩
theorem Ve(h:PE X e te):PO X (some e) (Qcl te):=by
 intro aa s σ H Q I hw
 rw [evalPart_some]
 refine thn (h aa s σ H _ I hw) λu s1 m9=>B6 m9 λx H1 I1 r1 q1=>?_
 obtain⟨i,rfl,q⟩:=q1
 obtain⟨t,rfl⟩:=r1
 exact⟨some i,H1,I1,.int i t,q⟩
def SlR(X:Cx)(r:V->Option Int->Option Int->Hp->VK->Prop):Prop :=
 ∀(aa:List (Addr×Obj)) (s:Shared) (σ:St) (H:Hp) (x:V) (v vl vu:Value) (lo hi:Option Int) (sl:Addr) (Q:VK),Inv X aa σ H s->A0 x v->s.heap.IsSliceOf sl vl vu .none->IsPart vl lo->IsPart vu hi->r x lo hi H Q ->
  ∃T id,typeLookup (.type T) "__getitem__" = pure (some (.builtin id))/\s.TypeIs v T/\wpAny (model X.prog X.w) X.A (getItem v (.ref sl)) (EP X aa σ Q) X.xe s
def tSl(r:V->Option Int->Option Int->Hp->VK->Prop)(te:TE)(tl th:TO):TE:=fun σ H Q=>te σ H λx H1=>tl σ H1 λl H2=>th σ H2 λu H3=>r x l u H3 Q
theorem Rw{r:V->Option Int->Option Int->Hp->VK->Prop}(hr:SlR X r)(he:PE X e te)(hl:PO X lo tl)(hu:PO X hi th):PE X (.Subscript e (.Slice lo hi none p2) pos) (tSl r te tl th):=by
 intro aa s σ H Q I h
 refine Subscript_ (thn (he aa s σ H _ I h) λv s1 mi=>B6 mi λx H1 I1 r1 q1=>?_)
 refine wpAny_Slice (thn (hl aa s1 σ H1 _ I1 q1) λvl s2 m5=>B6 m5 λl H2 I2 pl q2=>thn (hu aa s2 σ H2 _ I2 q2) λvu s3 po=>B6 po λu H3 I3 pu q3=>?_)
 rw [evalPart_none]
 refine Yab ?_
 have I4:Inv X aa σ H3 { s3 with heap:=s3.heap.push { cls:=.type "slice",data:=.fields #[vl,vu,.none] } }:=I3.kept (t':=s3.toks) λb ob q=>Heap.get?_push_of_some _ q
 obtain⟨T,id,hT,ht,hg⟩:=hr aa { s3 with heap:=s3.heap.push { cls:=.type "slice",data:=.fields #[vl,vu,.none] } } σ H3 x v vl vu l u s3.heap.objs.size Q I4 r1 (Heap.IsSliceOf.new ..) pl pu q3
 show wpAny (model X.prog X.w) X.A (subscriptTail e (.Slice lo hi none p2) v (.ref s3.heap.objs.size)) (EP X aa σ Q) X.xe { s3 with heap:=s3.heap.push { cls:=.type "slice",data:=.fields #[vl,vu,.none] } }
 exact tail_any (ops:=[.ref s3.heap.objs.size,v]) ht hT hg (by with_unfolding_all rfl)
def Hu(xs:List V)(lo hi:Option Int):List V:=(xs.drop (HT.sIx xs.length 0 lo)).take (HT.sIx xs.length xs.length hi - HT.sIx xs.length 0 lo)
theorem Fu(xs:List V)(lo hi:Option Int):(Hu xs lo hi).length<=xs.length:=by
 unfold Hu
 rw [Yb1,Yb8]
 omega
def Qfl(K:PySem.W.Frag):V->Option Int->Option Int->Hp->VK->Prop:=λx lo hi H Q=>∃a xs,x=.ref a/\Hr K H a xs /\
 ¬(HT.sIx xs.length 0 lo=0/\HT.sIx xs.length xs.length hi=xs.length)/\∀p,H p=none->Q (.ref p) (upd H p (.tup (Hu xs lo hi)))
theorem Zb:SlR X (Qfl X.K):=by
 intro aa s σ H x v vl vu lo hi sl Q I rx hs pl pu h
 obtain⟨a,xs,rfl,hx,hw,q⟩:=h
 cases rx
 obtain⟨ah,r,ht,hz⟩:=I.tuple hx
 have aj:ah.toArray.size=xs.length:=by rw [Yar];exact r.length.symm
 refine⟨"tuple",_,Ybo.lookup,ht.typeIs,?_⟩
 refine HT.getItem_tuple_cut ht hs pl pu (by rw [aj];exact hw) ?_ (by rw [aj];exact hz)
 rw [aj]
 refine⟨.ref s.heap.objs.size,_,I.laid (t':=s.toks) (o:=.tup (Hu xs lo hi)) (λb ob q=>Heap.get?_push_of_some _ q) (Yad _) ?_,rfl,q _ (I.hok.fresh (Yad _))⟩
 exact⟨Yaq (Fu xs lo hi) hz,_,(r.drop (HT.sIx xs.length 0 lo)).take (HT.sIx xs.length xs.length hi - HT.sIx xs.length 0 lo),IsTup.new _ _⟩
theorem Vals.nil_iff{xs:List V}{us:List Value}(r:Vals xs us):us=[]↔xs=[]:=by
 cases r with
 | nil=>simp
 | cons _ _=>simp
end
def Uu(n:Nat)(i:Int):Option Nat:=if 0<=i then(if i < n then some i.toNat else none) else if -(n:Int)<=i then some (i+n).toNat else none
def atI{α:Type}(xs:List α)(i:Int):Option α:=(Uu xs.length i).bind λj=>xs[j]?
theorem N3{n:Nat}{i:Int}{j:Nat}(h:Uu n i=some j):seqIndex? i n=some j/\j < n/\-(n:Int)<=i/\i < n:=by
 unfold Uu at h
 by_cases h0:0<=i
 ·rw [Yaj h0]at h
  by_cases h1:i < n
  ·rw [Yaj h1]at h
   have e:i.toNat=j:=Ya0 h
   exact⟨by rw [seqIndex_of h0 h1,e],by omega,by omega,h1⟩
  ·rw [Yah h1]at h;cases h
 ·rw [Yah h0]at h
  by_cases h1:-(n:Int)<=i
  ·rw [Yaj h1]at h
   have e:(i+n).toNat=j:=Ya0 h
   exact⟨by rw [seqIndex_neg (by omega) h1,e],by omega,h1,by omega⟩
  ·rw [Yah h1]at h;cases h
theorem Jm{α:Type}{xs:List α}{i:Int}{v:α}(h:atI xs i=some v):∃j,seqIndex? i xs.length=some j/\xs[j]?=some v/\j < xs.length/\-(xs.length:Int)<=i/\i < xs.length:=by
 unfold atI at h
 cases e:Uu xs.length i with
 | none=>rw [e]at h;cases h
 | some j =>
  rw [e]at h
  obtain⟨h1,h2,h3,h4⟩:=N3 e
  exact⟨j,h1,h,h2,h3,h4⟩
theorem Bn{α:Type}{xs:List α}{j:Nat}{v:α}(h:xs[j]?=some v):atI xs (j:Int)=some v:=by
 have hj:j < xs.length:=(List.getElem?_eq_some_iff.mp h).1
 have e:Uu xs.length (j:Int)=some j:=by
  unfold Uu
  rw [Yaj (by omega),Yaj (by omega)];simp
 unfold atI;rw [e];exact h
def N4(b:Expr):Prop:=∀o i,subscripted b false o i=operate [o,i] (getItem o i)
def IxR(X:Cx)(r:R2):Prop :=
 ∀(value slice:Expr) (aa:List (Addr×Obj)) (s:Shared) (σ:St) (H:Hp) (x y:V) (v u:Value) (Q:VK),Inv X aa σ H s->A0 x v->A0 y u->r x y H Q ->
  subscripted slice false v u=operate [v,u] (getItem v u)->wpAny (model X.prog X.w) X.A (subscriptTail value slice v u) (EP X aa σ Q) X.xe s
def MtR(X:Cx)(id:String)(r:V->List V->Hp->VK->Prop):Prop :=
 ∀(aa:List (Addr×Obj)) (s:Shared) (σ:St) (H:Hp) (x:V) (xs:List V) (v:Value) (us:List Value) (Q:VK),Inv X aa σ H s->A0 x v->Vals xs us->r x xs H Q ->
  wpAny (model X.prog X.w) X.A (call (.builtin id) (v :: us)) (EP X aa σ Q) X.xe s
section
variable {X:Cx}{a b:Expr}{ta tb:TE}{pos:Pos}
theorem Qco{r:R2}(hr:IxR X r)(ha:PE X a ta)(hb:PE X b tb)(hs:N4 b):PE X (.Subscript a b pos) (tOp r ta tb):=by
 intro aa s σ H Q I h
 exact Subscript_ (Yz ha hb I h λv u s2 x y H2 I2 rx ry q=>hr a b aa s2 σ H2 x y v u Q I2 rx ry q (hs _ _))
def Qfm(K:PySem.W.Frag):R2:=λx y H Q=>∃p xs i v,x=.ref p/\y=.int i/\Dx K H p xs/\atI xs i=some v/\Q v H
def Qfn(K:PySem.W.Frag):R2:=λx y H Q=>∃p xs i v,x=.ref p/\y=.int i/\Hr K H p xs/\atI xs i=some v/\Q v H
def Qfo:R2:=λx y H Q=>∃z i c,x=.str z/\y=.int i/\z.length<=sizeLine/\atI z.cps.toList i=some c/\Q (.str ⟨#[c]⟩) H
theorem N5:IxR X (Qfm X.K):=by
 intro value slice aa s σ H x y v u Q I rx ry h hs
 obtain⟨p,xs,i,z,rfl,rfl,hq,he,q⟩:=h
 cases rx
 obtain⟨t,rfl⟩:=ry
 obtain⟨ah,r,pl,hz⟩:=I.list hq
 obtain⟨j,h1,h2,h3,h4,h5⟩:=Jm he
 obtain⟨w,ew,fy⟩:=r.get h2
 have hl:=r.length
 have hn:=Fj
 have ar:EP X aa σ Q w s:=⟨z,H,I,fy,q⟩
 by_cases h0:0<=i
 ·have hj:i.toNat=j:=by
   rw [seqIndex_of h0 h5]at h1
   exact Ya0 h1
  exact item_listR pl.isList h0 (by omega) (by rw [hj];simpa using ew) ar hs
 ·have hj:(i+(ah.toArray.size:Int)).toNat=j:=by
   rw [seqIndex_neg (by omega) h4]at h1
   rw [Yar,<- hl]
   exact Ya0 h1
  exact subscriptTail_builtinR (x:=w) pl.isList.typeIs slot_list_getitem.lookup
   (wpAny_getItem_list_neg (Q:=λr s'=>r=w/\EP X aa σ Q r s') pl.isList (by omega) (by rw [Yar] <;> omega) (by omega) (by rw [hj];simpa using ew) ⟨rfl,ar⟩) hs
theorem Zc:IxR X (Qfn X.K):=by
 intro value slice aa s σ H x y v u Q I rx ry h hs
 obtain⟨p,xs,i,z,rfl,rfl,hq,he,q⟩:=h
 cases rx
 obtain⟨t,rfl⟩:=ry
 obtain⟨ah,r,pl,hz⟩:=I.tuple hq
 obtain⟨j,h1,h2,h3,h4,h5⟩:=Jm he
 obtain⟨w,ew,fy⟩:=r.get h2
 have hl:=r.length
 have hn:=Fj
 have ar:EP X aa σ Q w s:=⟨z,H,I,fy,q⟩
 exact subscriptTail_builtinR (x:=w) pl.typeIs slot_tuple_getitem.lookup
  (getItem_tuple (j:=j) (Q:=λr s'=>r=w/\EP X aa σ Q r s') pl (by omega) (by omega) (by rw [Yar,<- hl];exact h1) (by simpa using ew) ⟨rfl,ar⟩) hs
theorem Zd:IxR X Qfo:=by
 intro value slice aa s σ H x y v u Q I rx ry h hs
 obtain⟨z,i,c,rfl,rfl,hz,he,q⟩:=h
 obtain⟨t,rfl⟩:=rx
 obtain⟨t',rfl⟩:=ry
 obtain⟨j,h1,h2,h3,h4,h5⟩:=Jm he
 have hl:z.cps.toList.length=z.length:=by simp [Str.length]
 rw [hl]at h1 h4 h5
 have hn:=Fj
 exact tail_any (typeIs_str s z t) slot_str_getitem.lookup (getItem_str (c:=c) (by
  have e1:decide (i < -(2 ^ 63:Int))=false:=Ybn (by omega)
  have e2:decide (i>=2 ^ 63)=false:=Ybn (by omega)
  rw [e1,e2,Bool.or_false]) (by rw [h1];simpa using h2) ⟨.str ⟨#[c]⟩,H,I.tok _,⟨_,rfl⟩,q⟩) hs
theorem Mu(ah:List Value)(n j:Nat)(u:Value):Obj.mapSeq (·.setIfInBounds j u) { cls:=.type "list",data:=.seq ah.toArray n }={ cls:=.type "list",data:=.seq (ah.set j u).toArray n }:=by
 simp [Obj.mapSeq]
theorem Inv.lst{aa:List (Addr×Obj)}{σ:St}{H:Hp}{s:Shared}{p:Addr}{xs:List V}(I:Inv X aa σ H s)(h:H p=some (.lst xs)) :
  ∃(ah:List Value) (n:Nat),Vals xs ah/\s.heap.get? p=some { cls:=.type "list",data:=.seq ah.toArray n }/\xs.length<=sizeLine:=by
 obtain⟨z,ah,n,r,e⟩:=I.hok p _ h
 exact⟨ah,n,r,e,z⟩
theorem Inv.lstUpd{aa:List (Addr×Obj)}{σ:St}{H:Hp}{s:Shared}{p:Addr}{xs ys:List V}{ah its':List Value}{n n':Nat}{f:Obj->Obj}(I:Inv X aa σ H s)(h:H p=some (.lst xs))
  (ho:s.heap.get? p=some { cls:=.type "list",data:=.seq ah.toArray n }) (hf:f { cls:=.type "list",data:=.seq ah.toArray n }={ cls:=.type "list",data:=.seq its'.toArray n' }) (r:Vals ys its') (hz:ys.length<=sizeLine) (t:Nat) :
  Inv X aa σ (upd H p (.lst ys)) { s with heap:=s.heap.update p f,toks:=t }:=by
 have e:(s.heap.update p f).get? p=some { cls:=.type "list",data:=.seq its'.toArray n' }:=by
  rw [Heap.get?_update_self f ho (by rw [hf] <;> rfl),hf]
 refine I.write (x:=p) (e:=p) (by rw [h];trivial) (.inl rfl) (λb u hb q=>(Heap.get?_update_other _ _ (Ybe hb)).trans q) ⟨_,e⟩ ?_
 exact⟨hz,its',n',r,e⟩
def Qcp:V->V->V->Hp->(Hp->Prop)->Prop:=λo i v H Q=>∃p xs k j,o=.ref p/\i=.int k/\H p=some (.lst xs)/\Uu xs.length k=some j/\Q (upd H p (.lst (xs.set j v)))
theorem Rx:PSet X Qcp:=by
 intro aa s σ H o i v ov iv u Q I ro ri rv h
 obtain⟨p,xs,k,j,rfl,rfl,hp,hj,q⟩:=h
 cases ro
 obtain⟨t,rfl⟩:=ri
 obtain⟨ah,n,r,ho,hz⟩:=I.lst hp
 obtain⟨h1,h2,h3,h4⟩:=N3 hj
 have hl:=r.length
 have hn:=Fj
 have I':Inv X aa σ (upd H p (.lst (xs.set j v))) { s with heap:=s.heap.update p (Obj.mapSeq (·.setIfInBounds j u)) } :=
  I.lstUpd hp ho (Mu ah n j u) (r.set rv j) (by rw [List.length_set];exact hz) s.toks
 by_cases h0:0<=k
 ·have hk:k.toNat=j:=by
   rw [seqIndex_of h0 h4]at h1
   exact Ya0 h1
  exact PySem.W.ki_setAt ho h0 (by omega) (by rw [Yar,<- hl];exact h4) (by rw [hk];exact⟨_,I',q⟩)
 ·have hk:(k+(ah.toArray.size:Int)).toNat=j:=by
   rw [seqIndex_neg (by omega) h3]at h1
   rw [Yar,<- hl]
   exact Ya0 h1
  exact PySem.W.ki_setBack ho (by omega) (by rw [Yar,<- hl];exact h3) (by omega) (by rw [hk];exact⟨_,I',q⟩)
theorem Jn(lo hi:Option Int)(n:Nat):(sliceBounds lo hi none n).1=((HT.sIx n 0 lo:Nat):Int)/\(sliceBounds lo hi none n).2.1=((HT.sIx n n hi:Nat):Int)/\(sliceBounds lo hi none n).2.2=1:=by
 refine⟨?_,?_,rfl⟩
 ·cases lo with
  | none=>simp [sliceBounds,HT.sIx]
  | some i =>
   simp only [sliceBounds,HT.sIx,Option.getD_none,show(1:Int) > 0 by decide,if_true]
   by_cases h:i < 0
   ·simp only [h,if_true] <;> omega
   ·simp only [h,if_false] <;> omega
 ·cases hi with
  | none=>simp [sliceBounds,HT.sIx]
  | some i =>
   simp only [sliceBounds,HT.sIx,Option.getD_none,show(1:Int) > 0 by decide,if_true]
   by_cases h:i < 0
   ·simp only [h,if_true] <;> omega
   ·simp only [h,if_false] <;> omega
theorem Hv(ah:List Value)(lo hi:Option Int):slicePick ah.toArray lo hi none=((ah.drop (HT.sIx ah.length 0 lo)).take (HT.sIx ah.length ah.length hi - HT.sIx ah.length 0 lo)).toArray:=by
 obtain⟨h1,h2,h3⟩:=Jn lo hi ah.toArray.size
 unfold slicePick
 rw [h1,h2,h3]
 simp only [sliceRange_one,pick_run,List.size_toArray] <;> rfl
def Qfp(K:PySem.W.Frag):V->Option Int->Option Int->Hp->VK->Prop:=λx lo hi H Q=>∃a xs,x=.ref a/\Dx K H a xs/\∀p,H p=none->Q (.ref p) (upd H p (.lst (Hu xs lo hi)))
theorem Vf:SlR X (Qfp X.K):=by
 intro aa s σ H x v vl vu lo hi sl Q I rx hs pl pu h
 obtain⟨a,xs,rfl,hx,q⟩:=h
 cases rx
 obtain⟨ah,r,ht,hz⟩:=I.list hx
 have aj:=r.length
 refine⟨"list",_,slot_list_getitem.lookup,ht.isList.typeIs,?_⟩
 refine wpAny_getItem_list_slice ht.isList hs pl pu .none (by simp) ?_ (by rw [Yar] <;> omega)
 rw [Hv,<- aj]
 refine⟨.ref s.heap.objs.size,_,I.laid (t':=s.toks) (o:=.lst (Hu xs lo hi)) (λb ob q=>Heap.get?_push_of_some _ q) (Yad _) ?_,rfl,q _ (I.hok.fresh (Yad _))⟩
 exact⟨Yaq (Fu xs lo hi) hz,_,0,(r.drop (HT.sIx xs.length 0 lo)).take (HT.sIx xs.length xs.length hi - HT.sIx xs.length 0 lo),Heap.get?_push_size _ rfl⟩
theorem Jo:Go X (compareOp .NotIn) (λx y H Q=>∃i j,x=.str i/\y=.str j/\Q (.bl (!(!(Builtin.Str.occurrences j i 0 j.length 1).isEmpty))) H):=by
 intro aa s σ H x y v u Q I rx ry h
 obtain⟨i,j,rfl,rfl,q⟩:=h
 obtain⟨t,rfl⟩:=rx
 obtain⟨t',rfl⟩:=ry
 exact notIn_str ⟨.bl _,H,I,rfl,q⟩
theorem Dn:Ej X (.builtin "len") (λxs H Q=>∃p ys,xs=[.ref p]/\(Dx X.K H p ys\/Hr X.K H p ys)/\Q (.int ys.length) H):=by
 intro aa s σ H xs us Q I r h
 obtain⟨p,ys,rfl,hq,q⟩:=h
 obtain⟨u,rfl,rx⟩:=Ek r
 cases rx
 have hn:=Fj
 rcases hq with hq | hq
 ·obtain⟨ah,r',pl,hz⟩:=I.list hq
  have aj:=r'.length
  exact Calls.call_len_list pl.isList (by simp only [List.size_toArray] <;> omega) ⟨.int ys.length,H,I.tok _,⟨s.toks+1,by rw [Yar,aj]⟩,q⟩
 ·obtain⟨ah,r',pl,hz⟩:=I.tuple hq
  have aj:=r'.length
  exact len_tuple pl (by simp only [List.size_toArray] <;> omega) ⟨.int ys.length,H,I.tok _,⟨s.toks+1,by rw [Yar,aj]⟩,q⟩
theorem Jp:Ej X (.builtin "len") (λxs H Q=>∃z,xs=[.str z]/\z.length<=sizeLine/\Q (.int z.length) H):=by
 intro aa s σ H xs us Q I r h
 obtain⟨z,rfl,hz,q⟩:=h
 obtain⟨u,rfl,t,rfl⟩:=Ek r
 have hn:=Fj
 exact len_str (by omega) ⟨.int z.length,H,I.tok _,⟨_,rfl⟩,q⟩
theorem El:Ej X (.type "tuple") (λxs H Q=>∃p ys,xs=[.ref p]/\((Dx X.K H p ys/\∀l,H l=none->Q (.ref l) (upd H l (.tup ys)))\/(Hr X.K H p ys/\Q (.ref p) H))):=by
 intro aa s σ H xs us Q I r h
 obtain⟨p,ys,rfl,h⟩:=h
 obtain⟨u,rfl,rx⟩:=Ek r
 cases rx
 rcases h with⟨hq,q⟩ | ⟨hq,q⟩
 ·obtain⟨ah,r',pl,hz⟩:=I.list hq
  have aj:=r'.length
  refine call_tuple_list pl.isList (λh' kp=>?_) (by simp only [List.size_toArray] <;> omega)
  have I1:Inv X aa σ H { s with heap:=h' }:=I.kept (t':=s.toks) kp
  have I2:Inv X aa σ (upd H h'.objs.size (.tup ys)) { s with heap:=h'.push { cls:=.type "tuple",data:=.seq ah.toArray } } :=
   I1.laid (t':=s.toks) (λb o e=>Heap.get?_push_of_some _ e) (Yad _) (show Bm X.prog X.w _ _ _ (.tup ys) from⟨hz,ah,r',IsTup.new _ _⟩)
  exact⟨.ref h'.objs.size,_,I2,rfl,q _ (I1.hok.fresh (Yad _))⟩
 ·obtain⟨ah,r',pl,hz⟩:=I.tuple hq
  exact call_tuple_same pl ⟨.ref p,H,I,rfl,q⟩
def tyV(K:PySem.W.Frag)(T:String)(x:V)(H:Hp):Prop:=match x with
 | .str _=>T = "str"
 | .int _=>T = "int"
 | .ref p=>(T = "list" /\ ∃xs,Dx K H p xs)\/(T = "tuple" /\ ∃o,K.lookup p=some o/\o.cls=.type "tuple" /\ o.dict=none) \/
   (T = "dict" /\ ((∃ae,H p=some (.dK ae))\/∃ae,H p=some (.dT ae)))\/(T = "set" /\ ∃S n,H p=some (.set S n))
 | _=>False
theorem Ry{aa:List (Addr×Obj)}{σ:St}{H:Hp}{s:Shared}{T:String}{x:V}{v:Value}(I:Inv X aa σ H s)(r:A0 x v)(ty:tyV X.K T x H) :
  s.TypeIs v T/\∀a,v=.ref a->∃ob,s.heap.get? a=some ob/\ob.dict=none:=by
 cases x with
 | str z =>
  obtain⟨t,rfl⟩:=r
  cases (show T = "str" from ty)
  exact⟨typeIs_str s z t,λ_ e=>nomatch e⟩
 | int i =>
  obtain⟨t,rfl⟩:=r
  cases (show T = "int" from ty)
  exact⟨typeIs_int s i t,λ_ e=>nomatch e⟩
 | ref p =>
  cases r
  rcases ty with⟨rfl,xs,hq⟩ | ⟨rfl,o,hk,hc,hd⟩ | ⟨rfl,hk⟩ | ⟨rfl,S,n,hk⟩
  ·obtain⟨ah,_,pl,_⟩:=I.list hq
   refine⟨pl.isList.typeIs,λa e=>?_⟩
   cases e
   obtain⟨o,n,e,c,hd,_⟩:=pl
   exact⟨o,e,hd⟩
  ·refine⟨⟨o,I.kIn p o hk,hc⟩,λa e=>?_⟩
   cases e
   exact⟨o,I.kIn _ o hk,hd⟩
  ·have z:∃o,s.heap.get? p=some o/\o.ExactDict:=by
    rcases hk with⟨ae,hk⟩ | ⟨ae,hk⟩
    ·obtain⟨_,_,_,_,o,_,_,e,ex,_⟩:=I.hok p _ hk
     exact⟨o,e,ex⟩
    ·obtain⟨_,_,_,_,o,_,_,e,ex,_⟩:=I.hok p _ hk
     exact⟨o,e,ex⟩
   obtain⟨o,e,ex⟩:=z
   refine⟨⟨o,e,ex.1⟩,λa e2=>?_⟩
   cases e2
   exact⟨o,e,ex.2.1⟩
  ·obtain⟨o,_,_,_,e,ex,_⟩:=I.hok p _ hk
   refine⟨⟨o,e,ex.1⟩,λa e2=>?_⟩
   cases e2
   exact⟨o,e,ex.2.1⟩
 | _=>exact False.elim ty
def Qfq(K:PySem.W.Frag)(T:String)(r:V->List V->Hp->VK->Prop)(to:TE):TE:=fun σ H Q=>to σ H λx H1=>tyV K T x H1/\r x [] H1 Q
def tBM(K:PySem.W.Frag)(T:String)(r:V->List V->Hp->VK->Prop)(to:TE)(t:TA):TE:=fun σ H Q=>to σ H λx H1=>tyV K T x H1/\t σ H1 λxs H2=>r x xs H2 Q
variable {o e:Expr}{es:List Expr}{to:TE}{t:TA}{name:Str}{aw aq:Pos}{T id:String}{r:V->List V->Hp->VK->Prop}
theorem Ze(pa:PlainAttrs T)(slot:Slot T name id)(j5:typeOf (.builtin id)=pure (.type "method_descriptor")) (hm:MtR X id r) (ho:PE X o to)
  (bu:attributeBase o name X.env (eval o X.env)=eval o X.env:=by rfl) (bt:(aw.endLine==aq.line)=true:=by rfl):PE X (.Call (.Attribute o name aw) [] [] aq) (Qfq X.K T r to):=by
 intro aa s σ H Q I h
 refine wpAny_Call_method0_late bu bt (thn (ho aa s σ H _ I h) λv s1 pj=>?_)
 obtain⟨x,H1,I1,r1,ty,q1⟩:=pj
 obtain⟨h1,h2⟩:=Ry I1 r1 ty
 exact⟨T,id,pa,slot,j5,h1,h2,Yd8 rfl (PySem.evalArgs_none (hm aa s1 σ H1 x [] v [] Q I1 r1 .nil q1))⟩
theorem Xk(pa:PlainAttrs T)(slot:Slot T name id)(j5:typeOf (.builtin id)=pure (.type "method_descriptor")) (hm:MtR X id r) (ho:PE X o to) (ha:PA X (e :: es) t)
  (bu:attributeBase o name X.env (eval o X.env)=eval o X.env:=by rfl)
  (ig:((backTo aq (starEach (e :: es) X.env)).all (λx=>!x.1) && (backToKw aq (keywordEach [] X.env)).all (λx=>x.1.isSome)
   && decide ((e :: es).length+([]:List Keyword).length+(if([]:List Keyword).isEmpty then 0 else 1) < 30))=true:=by rfl)
  (bt:(aw.endLine==aq.line)=true:=by rfl) (hs:starEach (e :: es) X.env=(false,eval e X.env) :: starEach es X.env:=by rfl) (dc:(backTo aq (starEach es X.env)).any (·.1)=false:=by rfl) :
  PE X (.Call (.Attribute o name aw) (e :: es) [] aq) (tBM X.K T r to t):=by
 intro aa s σ H Q I h
 refine wpAny_Call_method_late bu ig bt rfl (thn (ho aa s σ H _ I h) λv s1 nq=>?_)
 obtain⟨x,H1,I1,r1,ty,q1⟩:=nq
 obtain⟨h1,h2⟩:=Ry I1 r1 ty
 refine⟨T,id,pa,slot,j5,h1,h2,?_⟩
 have hA:=ha aq aa s1 σ H1 _ I1 q1
 rw [hs]at hA ⊢
 refine Yd8 (by show(false || (backTo aq (starEach es X.env)).any (·.1))=false;rw [dc] <;> rfl) (Calls.evalArgs_plain ?_)
 exact thn hA λus s2 si=>B6 si λvs H2 I2 r2 q2=>hm aa s2 σ H2 x vs v us Q I2 r1 r2 q2
end
def MtM(X:Cx)(id:String)(r:V->List V->Hp->VK->Prop):Prop :=
 ∀(aa:List (Addr×Obj)) (s:Shared) (σ:St) (H:Hp) (x:V) (xs:List V) (v:Value) (us:List Value) (Q:VK),Inv X aa σ H s->A0 x v->Vals xs us->r x xs H Q ->
  wpAny (model X.prog X.w) X.A (call (.builtin id) (v :: us)) (EP X aa σ Q) X.xe s
theorem Vals.one:∀{x:V} {us:List Value},Vals [x] us->∃u,us=[u]/\A0 x u
 | _,_,.cons r .nil=>⟨_,rfl,r⟩
theorem Vals.zero:∀{us:List Value},Vals [] us->us=[]
 | _,.nil=>rfl
theorem Vals.eraseIdx:∀{xs:List V} {us:List Value} (i:Nat),Vals xs us->Vals (xs.eraseIdx i) (us.eraseIdx i)
 | _,_,_,.nil=>.nil
 | _,_,0,.cons _ t=>t
 | _,_,i+1,.cons r t=>.cons r (Vals.eraseIdx i t)
theorem Ik{α:Type}:∀(l:List α) (i:Nat),(l.eraseIdx i).length<=l.length
 | [],_=>Yad _
 | _ :: _,0=>Yev _
 | _ :: r,i+1=>Nat.succ_le_succ (Ik r i)
section
variable {X:Cx}{aa:List (Addr×Obj)}{σ:St}{H:Hp}{s:Shared}{l b:Addr}{xs ys zs:List V}
theorem Inv.lset{ah its':List Value}{n:Nat}{f:Array Value->Array Value}{t':Nat}(I:Inv X aa σ H s)(hH:H l=some (.lst xs))
  (e:s.heap.get? l=some { cls:=.type "list",data:=.seq ah.toArray n }) (hf:f ah.toArray=its'.toArray) (hv:Vals ys its') (hz:ys.length<=sizeLine) :
  Inv X aa σ (upd H l (.lst ys)) { s with heap:=s.heap.update l (Obj.mapSeq f),toks:=t' }:=by
 have q:=PySem.IsL.update e f
 rw [hf]at q
 refine I.write (x:=l) (e:=l) (by rw [hH];exact trivial) (.inl rfl) (λb' u hb hu=>(Heap.get?_update_other s.heap (Obj.mapSeq f) (Ybe hb)).trans hu) ⟨_,q⟩ ?_
 exact⟨hz,its',_,hv,q⟩
theorem Inv.lnew{ah:List Value}{t':Nat}(I:Inv X aa σ H s)(hv:Vals ys ah)(hz:ys.length<=sizeLine) :
  Inv X aa σ (upd H s.heap.objs.size (.lst ys)) { s with heap:=s.heap.push { cls:=.type "list",data:=.seq ah.toArray },toks:=t' } :=
 I.laid (λ_ _ q=>Heap.get?_push_of_some _ q) (Yad _) ⟨hz,ah,0,hv,Heap.get?_push_size _ rfl⟩
theorem Inv.fresh(I:Inv X aa σ H s):H s.heap.objs.size=none:=I.hok.fresh (Yad _)
theorem Inv.lstM(I:Inv X aa σ H s)(hH:H l=some (.lst xs)):xs.length<=sizeLine/\∃(ah:List Value) (n:Nat),Vals xs ah/\xs.length=ah.length/\s.heap.get? l=some { cls:=.type "list",data:=.seq ah.toArray n }:=by
 obtain⟨z,ah,n,r,e⟩:=I.hok l _ hH
 exact⟨z,ah,n,r,r.length,e⟩
theorem Rz{n:Nat}(h:n<=sizeLine):Builtin.List.listTooLong n=false:=by
 unfold Builtin.List.listTooLong
 exact Ybn (by omega)
end
section
variable {X:Cx}
def Vg:V->List V->Hp->VK->Prop:=λx vs H Q=>∃l xs y,x=.ref l/\vs=[y]/\H l=some (.lst xs)/\xs.length < sizeLine/\Q .non (upd H l (.lst (xs++[y])))
theorem Il:MtM X "list.append" Vg:=by
 intro aa s σ H x vs v us Q I rx rv h
 obtain⟨l,xs,y,rfl,rfl,hH,hz,q⟩:=h
 cases rx
 obtain⟨u,rfl,ru⟩:=rv.one
 obtain⟨z,ah,n,r,hl,e⟩:=I.lstM hH
 refine call_meets F.slot_list_append ⟨_,e,rfl⟩ F.entry_list_append (F.args_list_append_2 _ _) (PySem.list_append l ah.toArray n u (by rw [Yar];omega)) ⟨e,?_⟩
 refine⟨.non,_,I.lset (its':=ah++[u]) hH e (by simp) (r.append (.cons ru .nil)) ?_,rfl,q⟩
 rw [Yao,Yeg]
 omega
def Vh:V->List V->Hp->VK->Prop:=λx vs H Q=>∃l b xs zs,x=.ref l/\vs=[.ref b]/\H l=some (.lst xs)/\H b=some (.lst zs)/\xs.length+zs.length<=sizeLine/\Q .non (upd H l (.lst (xs++zs)))
theorem Ps:MtM X "list.extend" Vh:=by
 intro aa s σ H x vs v us Q I rx rv h
 obtain⟨l,b,xs,zs,rfl,rfl,hH,hB,hz,q⟩:=h
 cases rx
 obtain⟨u,rfl,ru⟩:=rv.one
 cases ru
 obtain⟨z,ah,n,r,hl,e⟩:=I.lstM hH
 obtain⟨z2,its2,n2,r2,km,e2⟩:=I.lstM hB
 have hsz:ah.toArray.size+its2.toArray.size<=sizeLine:=by rw [Yar,Yar];omega
 have sj:¬(!ah.toArray.isEmpty && Builtin.List.listTooLong (ah.toArray.size+its2.toArray.size))=true:=by
  rw [Rz hsz,Bool.and_false]
  exact Yag
 refine call_meets F.slot_list_extend ⟨_,e,rfl⟩ F.entry_list_extend (F.args_list_extend_2 _ _)
  (AutoSeq1.list_extend_list_list_0 l ah.toArray n b its2.toArray n2 sj (by rw [Yar];omega) (by omega)) ⟨e,e2,?_⟩
 refine⟨.non,_,I.lset (its':=ah++its2) hH e (by simp) (r.append r2) ?_,rfl,q⟩
 rw [Yao]
 omega
def Zf:V->List V->Hp->VK->Prop:=λx vs H Q=>∃l xs i k y,x=.ref l/\vs=[.int i]/\H l=some (.lst xs)/\-(2 ^ 63)<=i/\i < 2 ^ 63/\seqIndex? i xs.length=some k/\xs[k]?=some y/\Q y (upd H l (.lst (xs.eraseIdx k)))
theorem R0:MtM X "list.pop" Zf:=by
 intro aa s σ H x vs v us Q I rx rv h
 obtain⟨l,xs,i,k,y,rfl,rfl,hH,h1,h2,hk,hy,q⟩:=h
 cases rx
 obtain⟨u,rfl,ru⟩:=rv.one
 obtain⟨t,rfl⟩:=ru
 obtain⟨z,ah,n,r,hl,e⟩:=I.lstM hH
 obtain⟨w,hw,fy⟩:=r.get hy
 refine call_meets F.slot_list_pop ⟨_,e,rfl⟩ F.entry_list_pop (F.args_list_pop_2 _ _)
  (MeetsSeq.list_pop_at l ah.toArray n i t k w (fitsIndex_both h1 h2) (by rw [Yar,<- hl];exact hk) (by rw [<- Array.getElem?_toList];exact hw) (by rw [Yar];omega)) ⟨e,?_⟩
 refine⟨y,_,I.lset (its':=ah.eraseIdx k) hH e ?_ (r.eraseIdx k) ?_,fy,q⟩
 ·show ah.toArray.eraseIdxIfInBounds k=(ah.eraseIdx k).toArray
  rw [List.eraseIdxIfInBounds_toArray]
 ·have:=Ik xs k
  omega
def Qfs:R2:=λx y H Q=>∃l b xs zs,x=.ref l/\y=.ref b/\H l=some (.lst xs)/\H b=some (.lst zs)/\xs.length+zs.length<=sizeLine/\∀p,H p=none->Q (.ref p) (upd H p (.lst (xs++zs)))
theorem Zg:Go X (binaryOp .Add) Qfs:=by
 intro aa s σ H x y v u Q I rx ry h
 obtain⟨l,b,xs,zs,rfl,rfl,hH,hB,hz,q⟩:=h
 cases rx
 cases ry
 obtain⟨z,ah,n,r,hl,e⟩:=I.lstM hH
 obtain⟨z2,its2,n2,r2,km,e2⟩:=I.lstM hB
 refine PySem.P.add_list e e2 ?_ (by rw [Yar,Yar];omega)
 have ea:ah.toArray++its2.toArray=(ah++its2).toArray:=by simp
 rw [ea]
 exact⟨.ref _,_,I.lnew (t':=s.toks) (r.append r2) (by rw [Yao];omega),rfl,q _ I.fresh⟩
end
section
variable {prog:Program}{w:World}{A:Around}{E:Value->Shared->Prop}{s:Shared}
end
section
variable {X:Cx}
end
section
variable {κ:Type} [DecidableEq κ]
def E6(ae:List (κ×V))(k:κ):Option V:=(ae.find? λkv=>decide (kv.1=k)).map (·.2)
def E7(ae:List (κ×V))(k:κ)(v:V):List (κ×V) :=
 if(ae.any λkv=>decide (kv.1=k))=true then ae.map (λkv=>if kv.1=k then(kv.1,v) else kv) else ae++[(k,v)]
theorem Gq{p:κ×V}{r:List (κ×V)}{k:κ}(e:p.1=k):E6 (p :: r) k=some p.2:=by simp [E6,List.find?_cons,e]
theorem Gr{p:κ×V}{r:List (κ×V)}{k:κ}(e:¬p.1=k):E6 (p :: r) k=E6 r k:=by simp [E6,List.find?_cons,e]
theorem Kr(k:κ):∀ae:List (κ×V),(ae.any λkv=>decide (kv.1=k))=(E6 ae k).isSome
 | []=>rfl
 | p :: r=>by
  rw [Ycv]
  by_cases e:p.1=k
  ·simp only [Gq e,decide_eq_true e,Bool.true_or,Option.isSome_some]
  ·rw [Gr e,Ybn e,Bool.false_or];exact Kr k r
theorem Dy(ae:List (κ×V))(k:κ)(v:V):(E7 ae k v).length<=ae.length+1:=by
 unfold E7
 split
 ·rw [Yac];omega
 ·rw [Yao,Ybk,List.length_nil];omega
theorem Fi.isSome_eq{o:Option V}{u:Option Value}(r:Fi o u):o.isSome=u.isSome:=by
 cases o with
 | none=>cases u with
  | none=>rfl
  | some _=>exact(show False from r).elim
 | some _=>cases u with
  | none=>exact(show False from r).elim
  | some _=>rfl
theorem Fi.getD{o:Option V}{u:Option Value}{d:V}{d':Value}(r:Fi o u)(rd:A0 d d'):A0 (o.getD d) (u.getD d'):=by
 cases o with
 | none=>cases u with
  | none=>exact rd
  | some _=>exact(show False from r).elim
 | some _=>cases u with
  | none=>exact(show False from r).elim
  | some _=>exact r
theorem KV.val{ae:List (κ×V)}{vs:List (κ×Value)}(r:KV ae vs)(k:κ):Fi (E6 ae k) (valueAt vs k):=by
 unfold KV at r
 induction r with
 | nil=>exact True.intro
 | @cons p q ps qs h t ih =>
  obtain⟨h1,h2⟩:=h
  by_cases e:p.1=k
  ·have e':q.1=k:=h1.symm.trans e
   have b:valueAt (q :: qs) k=some q.2:=by simp [valueAt,List.find?_cons,e']
   rw [Gq e,b];exact h2
  ·have e':¬q.1=k:=λz=>e (h1.trans z)
   have b:valueAt (q :: qs) k=valueAt qs k:=by simp [valueAt,List.find?_cons,e']
   rw [Gr e,b];exact ih
theorem KV.any{ae:List (κ×V)}{vs:List (κ×Value)}(r:KV ae vs)(k:κ):(ae.any λkv=>decide (kv.1=k))=vs.any λkv=>decide (kv.1=k):=by
 unfold KV at r
 induction r with
 | nil=>rfl
 | cons h t ih=>rw [Ycv,Ycv,ih,h.1]
theorem KV.repl{ae:List (κ×V)}{vs:List (κ×Value)}(r:KV ae vs)(k:κ){y:V}{u:Value}(ry:A0 y u) :
  KV (ae.map λkv=>if kv.1=k then(kv.1,y) else kv) (vs.map λkv=>if kv.1=k then(kv.1,u) else kv):=by
 unfold KV at r ⊢
 induction r with
 | nil=>exact .nil
 | @cons p q ps qs h t ih =>
  rw [Ybm,Ybm]
  refine .cons ?_ ih
  obtain⟨h1,h2⟩:=h
  by_cases e:p.1=k
  ·rw [Yaj e,Yaj (h1.symm.trans e)];exact⟨h1,ry⟩
  ·rw [Yah e,Yah (λz=>e (h1.trans z))];exact⟨h1,h2⟩
theorem KV.put{ae:List (κ×V)}{vs:List (κ×Value)}(r:KV ae vs)(k:κ){y:V}{u:Value}(ry:A0 y u):KV (E7 ae k y) (stored vs k u):=by
 unfold E7 stored
 rw [r.any k]
 by_cases e:(vs.any λkv=>decide (kv.1=k))=true
 ·rw [Yaj e,Yaj e];exact r.repl k ry
 ·rw [Yah e,Yah e];exact Paired.snoc r ⟨rfl,ry⟩
theorem KV.length{ae:List (κ×V)}{vs:List (κ×Value)}(r:KV ae vs):ae.length=vs.length:=Ycc r
end
theorem Ks{P:Program}{w:World}{k:Key}{u:Value}(r:A0 (kV k) u):(Aw P w).is k u=true:=by
 cases k with
 | inl i=>obtain⟨t,e⟩:=(show ∃t,u=Value.int i t from r);subst e;exact C2 P w i t
 | inr x=>obtain⟨t,e⟩:=(show ∃t,u=Value.str x t from r);subst e;exact Km P w x t
theorem Im{P:Program}{w:World}:∀{ks:List Key} {us:List Value},Vals (ks.map kV) us->ItemsAre (Aw P w) ks us
 | [],_,r=>by rw [List.map_nil]at r;cases r;exact .nil
 | k :: ks,_,r=>by
  rw [Ybm]at r
  cases r with
  | cons h t=>exact .cons (Ks h) (Im t)
abbrev KT(H:Hp):List (List Key×V)->List (List Key×Addr×Value)->Prop:=Paired λp q=>p.1=q.1/\H q.2.1=some (.tup (p.1.map kV))/\A0 p.2 q.2.2
theorem KT.val{H:Hp}{ae:List (List Key×V)}{xs:List (List Key×Addr×Value)}(r:KT H ae xs)(k:List Key):Fi (E6 ae k) ((atKey xs k).map (·.2)):=by
 induction r with
 | nil=>exact True.intro
 | @cons p q ps qs h t ih =>
  obtain⟨h1,_,h2⟩:=h
  by_cases e:p.1=k
  ·have e':q.1=k:=h1.symm.trans e
   have b:atKey (q :: qs) k=some q.2:=by simp [atKey,List.find?_cons,e']
   rw [Gq e,b];exact h2
  ·have e':¬q.1=k:=λz=>e (h1.trans z)
   have b:atKey (q :: qs) k=atKey qs k:=by simp [atKey,List.find?_cons,e']
   rw [Gr e,b];exact ih
theorem KT.repl{H:Hp}{ae:List (List Key×V)}{xs:List (List Key×Addr×Value)}(r:KT H ae xs)(k:List Key){y:V}{u:Value}(ry:A0 y u) :
  KT H (ae.map λkv=>if kv.1=k then(kv.1,y) else kv) (xs.map (putAt k u)):=by
 induction r with
 | nil=>exact .nil
 | @cons p q ps qs h t ih =>
  rw [Ybm,Ybm]
  refine .cons ?_ ih
  obtain⟨h1,h2,h3⟩:=h
  unfold putAt
  by_cases e:p.1=k
  ·rw [Yaj e,Yaj (h1.symm.trans e)];exact⟨h1,h2,ry⟩
  ·rw [Yah e,Yah (λz=>e (h1.trans z))];exact⟨h1,h2,h3⟩
theorem KT.put{H:Hp}{ae:List (List Key×V)}{xs:List (List Key×Addr×Value)}(r:KT H ae xs)(k:List Key){b:Addr}{y:V}{u:Value}(hb:H b=some (.tup (k.map kV)))(ry:A0 y u) :
  KT H (E7 ae k y) (storedH xs k b u):=by
 have e:(ae.any λkv=>decide (kv.1=k))=(atKey xs k).isSome:=by
  rw [Kr,(r.val k).isSome_eq,Option.isSome_map]
 unfold E7 storedH
 rw [e]
 by_cases q:(atKey xs k).isSome=true
 ·rw [Yaj q,Yaj q];exact r.repl k ry
 ·rw [Yah q,Yah q];exact Paired.snoc r ⟨rfl,hb,ry⟩
theorem KT.keeps{H H':Hp}{ae:List (List Key×V)}{xs:List (List Key×Addr×Value)}(r:KT H ae xs)(ht:∀b ys,H b=some (.tup ys)->H' b=some (.tup ys)):KT H' ae xs :=
 Paired.mapP r λ_ _ z=>⟨z.1,ht _ _ z.2.1,z.2.2⟩
section
variable {P:Program}{w:World}{H:Hp}{h:Heap}{a:Addr}
theorem Xl{u:HO}(ok:HOk P w H h)(e:Rd H a u):Bm P w H h a u:=e.ok ok
theorem Gu{ae:List (Key×V)}(ok:HOk P w H h)(e:Rd H a (.dK ae)):ae.length<=sizeLine/\(a==sysModules)=false/\∃vs,KV ae vs/\h.DictOf (Aw P w) a vs :=
 show Bm P w H h a (.dK ae) from Xl ok e
theorem Xm{ae:List (Key×V)}(ok:HOk P w H h)(e:H a=some (.dK ae)):ae.length<=sizeLine/\(a==sysModules)=false/\∃vs,KV ae vs/\h.DictOf (Aw P w) a vs:=Gu ok (.inl e)
theorem Fk{ks:List Key}(ok:HOk P w H h)(e:H a=some (.tup (ks.map kV))):(tupleKind (Aw P w)).is h ks a:=by
 obtain⟨_,ah,r,o,h1,h2,n,h3⟩:=(show Bm P w H h a (.tup (ks.map kV)) from ok a _ e)
 exact⟨o,ah.toArray,n,h1,h2,h3,by simpa using Im r⟩
theorem Io{ae:List (List Key×V)}(ok:HOk P w H h)(e:Rd H a (.dT ae)):ae.length<=sizeLine/\(a==sysModules)=false /\
  ∃xs,KT H ae xs/\h.DictOfH (tupleKind (Aw P w)) a xs:=by
 obtain⟨z,y,xs,r,o,es,ep,h1,h2,h3,h4,h5⟩:=(show Bm P w H h a (.dT ae) from Xl ok e)
 refine⟨z,y,xs,r,o,es,ep,h1,h2,h3,h4,λx hx=>?_,h5⟩
 have all:∀{l:List (List Key×V)} {m:List (List Key×Addr×Value)},KT H l m->∀x∈m,(tupleKind (Aw P w)).is h x.1 x.2.1:=by
  intro l m q
  induction q with
  | nil=>intro x hx;exact nomatch hx
  | @cons p q ps qs hq t ih =>
   intro x hx
   rcases Ya1.mp hx with e | hx
   ·subst e
    exact Fk ok (by rw [<- hq.1];exact hq.2.1)
   ·exact ih x hx
 exact all r x hx
theorem N6{ae:List (List Key×V)}(ok:HOk P w H h)(e:H a=some (.dT ae)):ae.length<=sizeLine/\(a==sysModules)=false /\
  ∃xs,KT H ae xs/\h.DictOfH (tupleKind (Aw P w)) a xs:=Io ok (.inl e)
end
def DGet(H:Hp)(a:Addr)(y:V)(r:Option V):Prop :=
 (∃ae k,Rd H a (.dK ae)/\y=kV k/\r=E6 ae k)\/∃ae k b,Rd H a (.dT ae)/\y=.ref b/\H b=some (.tup (k.map kV))/\r=E6 ae k
def DPut(H:Hp)(a:Addr)(y v:V)(H':Hp):Prop :=
 (∃ae k,H a=some (.dK ae)/\y=kV k/\ae.length < sizeLine/\H'=upd H a (.dK (E7 ae k v))) \/
 ∃ae k b,H a=some (.dT ae)/\y=.ref b/\H b=some (.tup (k.map kV))/\ae.length < sizeLine/\H'=upd H a (.dT (E7 ae k v))
theorem DGet.k{H:Hp}{a:Addr}{ae:List (Key×V)}{k:Key}(e:H a=some (.dK ae)):DGet H a (kV k) (E6 ae k):=.inl ⟨ae,k,.inl e,rfl,rfl⟩
theorem DGet.t{H:Hp}{a b:Addr}{ae:List (List Key×V)}{k:List Key}(e:H a=some (.dT ae))(eb:H b=some (.tup (k.map kV))):DGet H a (.ref b) (E6 ae k):=.inr ⟨ae,k,b,.inl e,rfl,eb,rfl⟩
theorem DPut.k{H:Hp}{a:Addr}{ae:List (Key×V)}{k:Key}{v:V}(e:H a=some (.dK ae))(hl:ae.length < sizeLine):DPut H a (kV k) v (upd H a (.dK (E7 ae k v))):=.inl ⟨ae,k,e,rfl,hl,rfl⟩
theorem DPut.t{H:Hp}{a b:Addr}{ae:List (List Key×V)}{k:List Key}{v:V}(e:H a=some (.dT ae))(eb:H b=some (.tup (k.map kV)))(hl:ae.length < sizeLine) :
  DPut H a (.ref b) v (upd H a (.dT (E7 ae k v))):=.inr ⟨ae,k,b,e,rfl,eb,hl,rfl⟩
section
variable {X:Cx}{aa:List (Addr×Obj)}{σ:St}{H:Hp}{s:Shared}{a:Addr}{y v:V}{u r:Value}{o:Option V}{A:Around}{E:Value->Shared->Prop}
theorem Inv.big(I:Inv X aa σ H s):sysModules < s.heap.objs.size:=by
 have h:mainGlobals < s.heap.objs.size:=(I.mod.glob.keeps I.bk).lt
 exact Yeh (by decide) h
theorem Pt{Q:Value->Shared->Prop}(hu:A.units+1 < cLine)(I:Inv X aa σ H s)(g:DGet H a y (some v))(ry:A0 y u)(h:∀w' s',Inv X aa σ H s'->A0 v w'->Q w' s') :
  wpAny (model X.prog X.w) A (getItem (.ref a) u) Q E s:=by
 rcases g with⟨ae,k,e,ey,l⟩ | ⟨ae,k,b,e,ey,eb,l⟩
 ·subst ey
  obtain⟨z,hd,vs,rel,dd⟩:=Gu I.hok e
  obtain⟨w',hw,fy⟩:=Fi.some_of (v:=v) (o:=valueAt vs k) (by rw [l];exact rel.val k)
  exact wpAny_getItem_of (Ks ry) dd.mapOf hw (h w' _ (I.tok _) fy)
 ·subst ey
  cases (show u=Value.ref b from ry)
  obtain⟨z,hd,xs,rel,dd⟩:=Io I.hok e
  obtain⟨w',hw,fy⟩:=Fi.some_of (v:=v) (o:=(atKey xs k).map (·.2)) (by rw [l];exact rel.val k)
  obtain⟨p,hp,d7⟩:=Yap.mp hw
  refine wpAny_getItem_heap (Ydz hu) (Fk I.hok eb) dd hp ?_
  rw [d7]
  exact h w' _ (I.tok _) fy
theorem Vi{Q:Value->Shared->Prop}(hu:A.units+1 < cLine)(I:Inv X aa σ H s)(g:DGet H a y o)(ry:A0 y u)(h:∀s',Inv X aa σ H s'->Q (.bool (!o.isSome)) s') :
  wpAny (model X.prog X.w) A (compareOp .NotIn u (.ref a)) Q E s:=by
 rcases g with⟨ae,k,e,ey,l⟩ | ⟨ae,k,b,e,ey,eb,l⟩
 ·subst ey
  obtain⟨z,hd,vs,rel,dd⟩:=Gu I.hok e
  refine wpAny_notIn_of (Ks ry) hd dd.mapOf ?_
  rw [<- (rel.val k).isSome_eq,<- l]
  exact h _ (I.tok _)
 ·subst ey
  cases (show u=Value.ref b from ry)
  obtain⟨z,hd,xs,rel,dd⟩:=Io I.hok e
  refine wpAny_notIn_heap (Ydz hu) (Fk I.hok eb) hd dd ?_
  have q:=(rel.val k).isSome_eq
  rw [Option.isSome_map]at q
  rw [<- q,<- l]
  exact h _ (I.tok _)
theorem Jq{h':Heap}{t':Nat}{ob:HO}(I:Inv X aa σ H s)(mu:Mut (H a))(hs:Heap.SameBut a s.heap h')(he:∃q,h'.get? a=some q)(new:Bm X.prog X.w (upd H a ob) h' a ob) :
  Inv X aa σ (upd H a ob) { s with heap:=h',toks:=t' } :=
 I.write (x:=a) (e:=a) mu (.inl rfl) (λb q hb z=>(hs.2 b hb).trans z) he new
theorem Zh{P:Program}{w:World}{H':Hp}{h':Heap}{ae:List (Key×V)}{vs:List (Key×Value)}(z:ae.length<=sizeLine)(hd:(a==sysModules)=false)(rel:KV ae vs)(dd:h'.DictOf (Aw P w) a vs) :
  Bm P w H' h' a (.dK ae):=⟨z,hd,vs,rel,dd⟩
theorem Pu{H':Hp}{Q:Unit->Shared->Prop}(hu:A.units+1 < cLine)(I:Inv X aa σ H s)(g:DPut H a y v H')(ry:A0 y u)(rv:A0 v r)(h:∀s',Inv X aa σ H' s'->Q () s') :
  wpAny (model X.prog X.w) A (setItem (.ref a) u r) Q E s:=by
 rcases g with⟨ae,k,e,ey,l,eH⟩ | ⟨ae,k,b,e,ey,eb,l,eH⟩
 ·subst ey eH
  obtain⟨z,hd,vs,rel,dd⟩:=Xm I.hok e
  have hz:vs.length<=sizeLine:=by rw [<- rel.length];exact z
  have hl:(E7 ae k v).length<=sizeLine:=by have:=Dy ae k v;omega
  refine wpAny_setItem_pairs (hsz:=hz) (Ks ry) dd λh' li hs=>h _ ?_
  have he:∃q,h'.get? a=some q:=let⟨q,_,_,hq,_⟩:=li;⟨q,hq⟩
  exact Jq I (by rw [e];exact True.intro) hs he (Zh hl hd (rel.put k rv) li)
 ·subst ey eH
  cases (show u=Value.ref b from ry)
  obtain⟨z,hd,xs,rel,dd⟩:=N6 I.hok e
  have hz:xs.length<=sizeLine:=by rw [<- Ycc rel];exact z
  have hl:(E7 ae k v).length<=sizeLine:=by have:=Dy ae k v;omega
  refine wpAny_setItem_heap (hsz:=hz) (Ydz hu) (Fk I.hok eb) dd λh' li hs=>h _ ?_
  obtain⟨q,es,ep,hq,h2,h3,h4,_,h5⟩:=li
  refine Jq I (by rw [e];exact True.intro) hs ⟨q,hq⟩ ⟨hl,hd,_,(rel.put k eb rv).keeps λc ys ec=>?_,q,es,ep,hq,h2,h3,h4,h5⟩
  rw [Ap (N0 ec e (λz=>nomatch z))]
  exact ec
end
section
variable {X:Cx}{aa:List (Addr×Obj)}{σ:St}{H:Hp}{s:Shared}{a:Addr}{ae:List (Key×V)}{k:Key}{u:Value}{A:Around}{E:Value->Shared->Prop}
theorem Qcq{Q:Value->Shared->Prop}(I:Inv X aa σ H s)(e:Rd H a (.dK ae))(h:∀t s',Inv X aa σ H s'->Q (.int ae.length t) s'):wpAny (model X.prog X.w) A (call (.builtin "len") [.ref a]) Q E s:=by
 obtain⟨z,hd,vs,rel,dd⟩:=Gu I.hok e
 refine call_len_dict hd dd (by rw [<- rel.length];rw [sizeLine_eq]at z;omega) ?_
 rw [<- rel.length]
 exact h _ _ (I.tok _)
end
def Zi(i:Expr):Prop:=∀ov iv,subscripted i false ov iv=operate [ov,iv] (getItem ov iv)
theorem Vj{prog:Program}{w:World}{A:Around}{E:Value->Shared->Prop}{s:Shared}{env:Env}{value slice:Expr}{pos:Pos}{T id:String}{Q:Value->Shared->Prop}
  (hl:typeLookup (.type T) "__getitem__" = pure (some (.builtin id))) (hs:Zi slice)
  (h:wpAny (model prog w) A (eval value env) (λo s₁=>wpAny (model prog w) A (eval slice env) (λi s₂=>s₂.TypeIs o T/\wpAny (model prog w) A (getItem o i) Q E s₂) E s₁) E s) :
  wpAny (model prog w) A (eval (.Subscript value slice pos) env) Q E s:=by
 refine Subscript_ (Ybw h (λo s₁ h₁=>Ybw h₁ (λi s₂ h₂=>?_) λ_ _ x=>x) λ_ _ x=>x)
 obtain⟨hT,h₂⟩:=h₂
 unfold subscriptTail
 refine Yaa ?_
 rw [getitemInPython_of_ne hT.not_modules]
 refine Yaa (Yew hT hl ?_)
 have ar:wpAny (model prog w) A (subscripted slice false o i) (λr s₃=>wpAny (model prog w) A (letTemporaryGo value o r >>= λ_=>pure r) Q E s₃) E s₂:=by
  rw [hs o i]
  exact wpAny_operating (Ybw h₂ (λr s₃ h₃=>Yaa (wpAny_letTemporaryGo (Yab h₃))) λ_ _ x=>x)
 first
  | exact Yab (Yaa ar)
  | exact Yaa (Yab (Yaa ar))
  | exact Yaa ar
theorem Ku{X:Cx}{aa:List (Addr×Obj)}{σ:St}{H:Hp}{s:Shared}{a:Addr}{y:V}{o:Option V}(I:Inv X aa σ H s)(g:DGet H a y o):s.TypeIs (.ref a) "dict" := by
 rcases g with⟨ae,k,e,_,_⟩ | ⟨ae,k,b,e,_,_,_⟩
 ·obtain⟨_,_,vs,_,dd⟩:=Gu I.hok e
  exact dd.typeIs
 ·obtain⟨_,_,xs,_,dd⟩:=Io I.hok e
  exact dd.typeIs
def Qcr(td ty:TE):TE:=fun σ H Q=>td σ H λx H1=>ty σ H1 λy H2=>∃a v,x=.ref a/\DGet H2 a y (some v)/\Q v H2
def N7(ty td:TE):TE:=fun σ H Q=>ty σ H λy H1=>td σ H1 λx H2=>∃a o,x=.ref a/\DGet H2 a y o/\Q (.bl (!o.isSome)) H2
def Qcs(td ty tv:TE):TS:=λD σ H=>tv σ H λv H1=>td σ H1 λx H2=>ty σ H2 λy H3=>∃a H4,x=.ref a/\DPut H3 a y v H4/\D.nx σ H4
section
variable {X:Cx}{o i e value:Expr}{pos bj yo:Pos}{td ty tv:TE}
theorem Vk(hu:X.A.units+1 < cLine)(ho:PE X o td)(hi:PE X i ty)(hs:Zi i):PE X (.Subscript o i pos) (Qcr td ty):=by
 intro aa s σ H Q I h
 refine Vj PySem.F.slot_dict_getitem.lookup hs (thn (ho aa s σ H _ I h) λu s1 me=>B6 me λx H1 I1 rx q1=>thn (hi aa s1 σ H1 _ I1 q1) λiv s2 pb=>?_)
 obtain⟨y,H2,I2,ry,a,v,ex,g,q2⟩:=pb
 subst ex
 obtain rfl:u=Value.ref a:=rx
 exact⟨Ku I2 g,Pt hu I2 g ry λw' s3 I3 fy=>⟨v,H2,I3,fy,q2⟩⟩
theorem Pw(hu:X.A.units+1 < cLine)(hi:PE X i ty)(ho:PE X o td):PC X .NotIn i o (N7 ty td):=by
 intro aa s σ H Q I h
 refine thn (hi aa s σ H _ I h) λiv s1 rh=>B6 rh λy H1 I1 ry q1=>thn (ho aa s1 σ H1 _ I1 q1) λu s2 qg=>?_
 obtain⟨x,H2,I2,rx,a,ov,ex,g,q2⟩:=qg
 subst ex
 obtain rfl:u=Value.ref a:=rx
 exact Vi hu I2 g ry λs3 I3=>⟨.bl (!ov.isSome),H2,I3,rfl,q2⟩
theorem Vl(hu:X.A.units+1 < cLine)(ho:PE X o td)(hi:PE X i ty)(hv:PE X value tv)(hs:swapsWith value (some (.Subscript o i bj)) pos.line X.env=pure false) :
  PS X (.Assign [.Subscript o i bj] value pos) (Qcs td ty tv):=by
 intro aa s σ H D I h
 refine wpAny_Assign_Subscript (thn (hv aa s σ H _ I h) λr s1 nw=>B6 nw λv H1 I1 rv q1=>thn (ho aa s1 σ H1 _ I1 q1) λu s2 qt=>B6 qt λx H2 I2 rx q2=>thn (hi aa s2 σ H2 _ I2 q2) λiv s3 pz=>?_) hs
 obtain⟨y,H3,I3,ry,a,H4,ex,g,q3⟩:=pz
 subst ex
 obtain rfl:u=Value.ref a:=rx
 exact Pu hu I3 g ry rv λs4 I4=>⟨σ,H4,I4,q3⟩
end
theorem R3{P:Program}{w:World}{H:Hp}(h:Heap)(hb:sysModules < h.objs.size):Bm P w H (h.push { cls:=.type "dict",data:=.dict #[] }) h.objs.size (.dK []) :=
 ⟨Ya4 _,Ydt.mpr (Ybe (Yan hb)),[],.nil,Heap.DictOf.new h⟩
theorem Kv{P:Program}{w:World}{H:Hp}(h:Heap)(hb:sysModules < h.objs.size):Bm P w H (h.push { cls:=.type "dict",data:=.dict #[] }) h.objs.size (.dT []) :=
 ⟨Ya4 _,Ydt.mpr (Ybe (Yan hb)),[],.nil,_,#[],0,Heap.get?_push_size _ rfl,⟨rfl,rfl,rfl⟩,rfl,rfl,Ydf⟩
def Zj:TE:=λ_ H Q=>∀p,H p=none->Q (.ref p) (upd H p (.dK []))
def Zk:TE:=λ_ H Q=>∀p,H p=none->Q (.ref p) (upd H p (.dT []))
section
variable {X:Cx}{pos:Pos}
theorem R4:PE X (.Dict [] [] pos) Zj:=λaa s σ H Q I h =>
 wpAny_Dict_empty ⟨.ref s.heap.objs.size,_,I.laid (a:=s.heap.objs.size) (o:=.dK []) (t':=s.toks) (λ_ _ q=>Heap.get?_push_of_some _ q) (Yad _) (R3 s.heap I.big),rfl,h _ (I.hok.fresh (Yad _))⟩
theorem R5:PE X (.Dict [] [] pos) Zk:=λaa s σ H Q I h =>
 wpAny_Dict_empty ⟨.ref s.heap.objs.size,_,I.laid (a:=s.heap.objs.size) (o:=.dT []) (t':=s.toks) (λ_ _ q=>Heap.get?_push_of_some _ q) (Yad _) (Kv s.heap I.big),rfl,h _ (I.hok.fresh (Yad _))⟩
end
structure M1(X:Cx)(o:Expr)(m:Str)(aw:Pos)(e:Expr)(aq:Pos):Prop where
 base:attributeBase o m X.env (eval o X.env)=eval o X.env
 few:((backTo aq (starEach [e] X.env)).all (λx=>!x.1) && (backToKw aq (keywordEach [] X.env)).all (λx=>x.1.isSome)
  && decide (([e]:List Expr).length+([]:List Keyword).length+(if([]:List Keyword).isEmpty then 0 else 1) < 30))=true
 line:(aw.endLine==aq.line)=true
 trees:backTo aq (starEach [e] X.env)=[(false,eval e X.env)]
structure M2(X:Cx)(o:Expr)(m:Str)(aw:Pos)(e f:Expr)(aq:Pos):Prop where
 base:attributeBase o m X.env (eval o X.env)=eval o X.env
 few:((backTo aq (starEach [e,f] X.env)).all (λx=>!x.1) && (backToKw aq (keywordEach [] X.env)).all (λx=>x.1.isSome)
  && decide (([e,f]:List Expr).length+([]:List Keyword).length+(if([]:List Keyword).isEmpty then 0 else 1) < 30))=true
 line:(aw.endLine==aq.line)=true
 trees:backTo aq (starEach [e,f] X.env)=[(false,eval e X.env),(false,eval f X.env)]
def IsD(H:Hp)(a:Addr):Prop:=(∃ae,Rd H a (.dK ae))\/∃ae,Rd H a (.dT ae)
theorem Zl{X:Cx}{aa:List (Addr×Obj)}{σ:St}{H:Hp}{s:Shared}{a:Addr}(I:Inv X aa σ H s)(d:IsD H a) :
  s.TypeIs (.ref a) "dict" /\ (∀b,Value.ref a=.ref b->∃ob,s.heap.get? b=some ob/\ob.dict=none)/\(a==sysModules)=false:=by
 rcases d with⟨ae,e⟩ | ⟨ae,e⟩
 ·obtain⟨_,hd,vs,_,dd⟩:=Gu I.hok e
  refine⟨dd.typeIs,λb q=>?_,hd⟩
  cases q
  obtain⟨ob,_,_,h1,h2,_⟩:=dd
  exact⟨ob,h1,h2.2.1⟩
 ·obtain⟨_,hd,xs,_,dd⟩:=Io I.hok e
  refine⟨dd.typeIs,λb q=>?_,hd⟩
  cases q
  obtain⟨ob,_,_,h1,h2,_⟩:=dd
  exact⟨ob,h1,h2.2.1⟩
section
variable {X:Cx}{aa:List (Addr×Obj)}{σ:St}{H:Hp}{s:Shared}{a:Addr}{y d:V}{u r:Value}{o:Option V}{A:Around}{E:Value->Shared->Prop}
theorem Zm{Q:Value->Shared->Prop}(hu:A.units+1 < cLine)(I:Inv X aa σ H s)(g:DGet H a y o)(ry:A0 y u)(rd:A0 d r)(h:∀w' s',Inv X aa σ H s'->A0 (o.getD d) w'->Q w' s') :
  wpAny (model X.prog X.w) A (call (.builtin "dict.get") [.ref a,u,r]) Q E s:=by
 rcases g with⟨ae,k,e,ey,l⟩ | ⟨ae,k,b,e,ey,eb,l⟩
 ·subst ey
  obtain⟨z,hd,vs,rel,dd⟩:=Gu I.hok e
  refine call_meetsIn Yei dd.typeIs PySem.F.entry_dict_get (PySem.F.args_dict_get_3 _ _ _) (meets_dict_get_default (Aw X.prog X.w) a (Ks ry) hd r) ⟨_,dd.mapOf,h _ _ (I.tok _) ?_⟩
  rw [l]
  exact(rel.val k).getD rd
 ·subst ey
  cases (show u=Value.ref b from ry)
  obtain⟨z,hd,xs,rel,dd⟩:=Io I.hok e
  refine call_meetsIn Yei dd.typeIs PySem.F.entry_dict_get (PySem.F.args_dict_get_3 _ _ _) (meetsH_dict_get_default (tupleKind (Aw X.prog X.w)) a b hd r) ⟨Ydz hu,k,xs,Fk I.hok eb,dd,h _ _ (I.tok _) ?_⟩
  rw [l]
  exact(rel.val k).getD rd
end
def Zn(td ty tx:TE):TE:=fun σ H Q=>td σ H λx H1=>∃a,x=.ref a/\IsD H1 a/\ty σ H1 λy H2=>tx σ H2 λz H3=>∃o,DGet H3 a y o/\Q (o.getD z) H3
section
variable {X:Cx}{o e f:Expr}{aw aq:Pos}{td ty tx:TE}
theorem R6(hu:X.A.units+1 < cLine)(ho:PE X o td)(he:PE X e ty)(hf:PE X f tx)(m:M2 X o "get" aw e f aq):PE X (.Call (.Attribute o "get" aw) [e,f] [] aq) (Zn td ty tx):=by
 intro aa s σ H Q I h
 refine wpAny_Call_method m.base m.few m.line PySem.F.plainAttrs_dict Yei PySem.F.type_dict_get (thn (ho aa s σ H _ I h) λu s1 ou=>?_)
 obtain⟨x,H1,I1,rx,a,ex,d,q1⟩:=ou
 subst ex
 obtain rfl:u=Value.ref a:=rx
 obtain⟨t1,t2,_⟩:=Zl I1 d
 refine⟨t1,t2,?_⟩
 rw [m.trees]
 refine Yd8 rfl (Calls.evalArgs_plain (Ybv (thn (he aa s1 σ H1 _ I1 q1) λiv s2 qo=>B6 qo λy H2 I2 ry q2 =>
  Ybv (thn (hf aa s2 σ H2 _ I2 q2) λfv s3 ⟨z,H3,I3,rz,ov,g,q3⟩=>Yci ?_))))
 exact Zm hu I3 g ry rz λw' s4 I4 fy=>⟨_,H3,I4,fy,q3⟩
end
section
variable {X:Cx}{aa:List (Addr×Obj)}{σ:St}{H:Hp}{s:Shared}{a:Addr}{ae:List (Key×V)}{A:Around}{E:Value->Shared->Prop}
end
section
variable {X:Cx}{aa:List (Addr×Obj)}{σ:St}{H:Hp}{s:Shared}{a:Addr}{y:V}{u:Value}{A:Around}{E:Value->Shared->Prop}
end
end L2
namespace Att
open PySem PySem.W PySem.Calls PyProof.Rows
theorem Gb{P:Params}{h:Heap}:∀(ns:List Int) (vs:List Value),WellAll P h vs (ns.map WData.int)->IntsAre vs ns:=by
 intro ns
 induction ns with
 | nil =>
  intro vs w
  rw [List.map_nil]at w
  cases w
  exact .nil
 | cons n ns ih =>
  intro vs w
  rw [Ybm]at w
  cases w with
  | cons a b =>
   cases a
   exact .cons _ _ (ih _ b)
theorem Px{l:OpenLaw}{n:Nat}(hn:l.most=some n){P:Params}{h:Heap}{args:List WData}{ju:List Value}
  (bp:l.row.toRowW.claim.pre args=true) (xp:WellAll P h ju args) :
  ∃a vs ns,ju=[Value.ref a]/\args=[WData.list (ns.map WData.int)]/\h.get? a=some { cls:=.type "list",data:=.seq vs.toArray }/\IntsAre vs ns/\ns.length<=n:=by
 have hsh:WShape.hasAll [] args [.list .int]=true:=(pre_splitW bp).1
 have hc:l.pre.holds [] { args:=args }=true:=(pre_splitW bp).2
 obtain⟨d,r,rfl,h1,h2⟩:=hasAllW_cons hsh
 obtain rfl:=hasAllW_nil h2
 obtain⟨xs,rfl,h3⟩:=hasW_list h1
 obtain⟨ns,rfl⟩:=items_int h3
 have aj:ns.length<=n:=by
  unfold OpenLaw.pre at hc
  have h4:(WTm.not (.lt (.lit (.int (n:Int))) (.len (.arg 0)))).holds [] { args:=[.list (ns.map .int)] }=true:=by
   have h4:=(holds_andW hc).1
   rw [hn]at h4
   exact h4
  have h5:=condW_of h4 (w_not (w_lt w_lit (w_len_list (w_arg rfl))))
  rw [Yac]at h5
  refine Nat.le_of_not_lt λq=>?_
  have q':(n:Int) < ((ns.length:Nat):Int):=by omega
  first
   | (rw [Ybi q']at h5;exact absurd h5 (by decide))
   | (simp at h5;omega)
 cases xp with
 | cons w1 w2 =>
  cases w2
  cases w1 with
  | list ho iu=>exact⟨_,_,ns,rfl,rfl,ho,Gb ns _ iu,aj⟩
theorem Py(l:OpenLaw)(args:List WData):l.row.toRowW.claim.post args (.bool true) args=true :=
 postW_of (r:=l.row.toRowW) (X:=(true==true))
  (show WShape.has [] (.bool true) .bool=true by first | rfl | decide | simp [WShape.has,WShape.arms,WShape.armsAll])
  (show(WTm.eq .res (.lit (.bool true))).value [] { args:=args,res:=some (.bool true),after:=args }=some (.bool (true==true)) from w_eq_bool (w_res rfl) w_lit) rfl
theorem attach_call{l:OpenLaw}{n:Nat}{q:Program}{dy:List Str}{XP:(Str->Option Value)->Heap->Prop}{YP:World->Heap->Prop}{d:DefRec}
  (hn:l.most=some n) (j9:d.params.defaults=[])
  (call:∀(w:World) (s₀ s₁:Shared) (mg mb:Str->Option Value) (fa:Addr) (o:Obj) (pm cd d3:Value) (a:Addr) (vs:List Value) (ns:List Int),
   Ground q dy [] XP w s₀ mg mb s₁.heap->YP w s₁.heap ->
   s₁.heap.get? fa=some o->o.data=.func (docDef d.name d.params d.body d.scope pm cd d3)->s₁.heap.CodeRec cd d.name->mg d.name=some (.ref fa) ->
   s₁.heap.get? a=some { cls:=.type "list",data:=.seq vs.toArray }->IntsAre vs ns->ns.length<=n->s₁.gens=#[] ->
   codeAny (model l.prog w) callerA (.call (.ref fa) ⟨[.ref a],[]⟩) (λr s'=>r=.ok (.ret (.bool true))/\OldK s₁.heap s'.heap/\s'.os=s₁.os/\AllBare s'.gens) s₁) :
  WalkO q dy XP YP l.row.toRowW d [] (λf vs=>PySem.call f vs):=by
 intro w s₀ s₁ mg mb G Y fa o pm cd d3 dV kV ho hd h9 hD hmg hg args ju as bp hlay hrd xp hlo
 obtain rfl:dV=.none:=Dflts.none hD j9
 obtain rfl:kV=.none:=Dflts.noKw hD
 obtain⟨a,vs,ns,rfl,rfl,hobj,hints,aj⟩:=Px hn bp xp
 refine enter_call (Ye3 (call w s₀ s₁ mg mb fa o pm cd d3 a vs ns G Y ho (fd_plain hd) h9 hmg hobj hints aj hg) λr s' hq=>?_)
 obtain⟨rfl,h2,h3,h4⟩:=hq
 exact⟨.inl ⟨.bool true,.bool true,[],rfl,λ_=>rfl,.bool true,Py l _,λ_=>⟨List.Pairwise.nil,λ_ hm=>(nomatch hm)⟩⟩,h2,h3,h4⟩
section
variable {prog:Program}{w:World}{A:Around}{E:Value->Shared->Prop}{s:Shared}{K:Frag}
end
end Att
namespace L2
open PySem PySem.Spec PyProof.Rows
theorem Ip:∀{vs:List Value} {ns:List Int},IntsAre vs ns->Vals (ns.map V.int) vs
 | _,_,.nil=>.nil
 | _,_,.cons n t h=>.cons ⟨t,rfl⟩ (Ip h)
def Only(H:Hp):Prop:=∀b,H b=none\/∃o xs,H b=some (.frz o (.lst xs))
theorem R7{P:Program}{w:World}{K:PySem.W.Frag}{mg mb:Str->Option Value}{CX:CXT}{k:Nat}{fa a:Addr}{fd:FuncData}{x:Str}{sp:Sp}{s₁:Shared}{vs:List Value}{ns:List Int}
  (KX:K.In s₁.heap) (fq:s₁.heap.Ns mainGlobals mg) (hb:s₁.heap.Ns builtinsNs mb) (hbb:∀x:Str,x ≠ "__name__" -> mb x=bootBuiltins x) (y0:s₁.heap.NoLimit) (hg:s₁.gens=#[])
  (ha:s₁.heap.get? a=some { cls:=.type "list",data:=.seq vs.toArray }) (hi:IntsAre vs ns) (hl:ns.length<=sizeLine) (hr:Room k callerA)
  (F:∀base:Heap,K.In base->base.Ns mainGlobals mg->FnOk P w K mg base CX k fa fd [x] sp) (p6:∀(s:Shared) (u:Value),BindsTo s fd ⟨[u],[]⟩ [(x,u)])
  (fw:∀H:Hp,Only H->Dx K H a (ns.map V.int)->sp [.ref a] H (λv _=>v=.bl true) λ_ _ _=>False)
  (yg:∀H e s',CX [] H s₁ (λ_ _ _=>False) e s'->False) :
  codeAny (model P w) callerA (.call (.ref fa) ⟨[.ref a],[]⟩) (λr s'=>r=.ok (.ret (.bool true))/\OldK s₁.heap s'.heap/\s'.os=s₁.os/\AllBare s'.gens) s₁:=by
 have rv:=Ip hi
 have wx:=hi.length
 have j6:∀H:Hp,Only H->Dx K H a (ns.map V.int)->HOk P w H s₁.heap->(∀b,H b≠none->b=a)->(H a≠none->K.lookup a=none) ->
   codeAny (model P w) callerA (.call (.ref fa) ⟨[.ref a],[]⟩) (λr s'=>r=.ok (.ret (.bool true))/\OldK s₁.heap s'.heap/\s'.os=s₁.os/\AllBare s'.gens) s₁:=by
  intro H hO hS hok hA hK
  have ft:∀{b:Addr} {o:Obj},s₁.heap.get? b=some o->H b=none->(Jl s₁.heap H).get? b=some o:=λe n=>Rl e n
  have lr:∀{b:Addr} {o:Obj} {es:Array DictEntry} {ep:Nat},s₁.heap.get? b=some o->o.data=.dict es ep->H b=none:=λ{b o es ep} e d=>by
   cases q:H b with
   | none=>rfl
   | some u =>
    have e':b=a:=hA b (by rw [q];simp)
    subst e'
    rw [ha]at e;cases e
    have d':Data.seq vs.toArray _=Data.dict es ep:=d
    cases d'
  have ui:∀{b:Addr} {m:Str->Option Value},s₁.heap.Ns b m->(Jl s₁.heap H).Ns b m:=λ{b m} ⟨o,es,ep,e,d,r⟩=>⟨o,es,ep,ft e (lr e d),d,r⟩
  have hKb:K.In (Jl s₁.heap H):=λb o e=>ft (KX b o e) (by
   cases q:H b with
   | none=>rfl
   | some u =>
    have e':b=a:=hA b (by rw [q];simp)
    subst e'
    rw [hK (by rw [q];simp)]at e;cases e)
  have hM:Mod K mg (Jl s₁.heap H):=⟨hKb,ui fq,⟨mb,ui hb,hbb⟩,let⟨mc,h1,h2⟩:=y0;⟨mc,ui h1,h2⟩⟩
  have e0:Env0 P w K mg (Jl s₁.heap H) callerA [] s₁ H:=⟨rfl,hM,λb o e=>Uw e,Nat.le_of_eq (Pl _ _),trivial,λb hb=>absurd (show b∈([]:List Addr) from hb) (by simp),hok,.of_eq hg⟩
  refine Ye3 ((F _ hKb (ui fq)).run callerA [] s₁ H ⟨[.ref a],[]⟩ [.ref a] [.ref a] _ _ hr e0 (p6 s₁ (.ref a)) (.cons rfl .nil) (fw H hO hS)) λr s' h=>?_
  cases r with
  | error e=>exact(yg H e s' h).elim
  | ok fl =>
   cases fl with
   | next=>exact False.elim h
   | brk=>exact False.elim h
   | cont=>exact False.elim h
   | ret u =>
    obtain⟨v,H',os,bare,un,hok',r',q⟩:=h
    have q':v=.bl true:=q
    subst q'
    obtain rfl:u=Value.bool true:=r'
    refine⟨rfl,OldK.of_keep λb o e=>?_,os,bare⟩
    cases q:H b with
    | none=>exact un.keep b o e q (by intro z;exact absurd (show b∈([]:List Addr) from z) (by simp)) (by simp)
    | some u =>
     rcases hO b with z | ⟨ob,xs,z⟩
     ·rw [q]at z;cases z
     ·have z2:=un.frzs b ob _ z
      obtain⟨e1,_⟩:=hok b _ z
      obtain⟨e2,_⟩:=hok' b _ z2
      rw [e]at e1;cases e1
      exact e2
 cases hk:K.lookup a with
 | some o =>
  have e:=KX a o hk
  rw [ha]at e
  cases e
  refine j6 (λ_=>none) (λ_=>.inl rfl) (.inr ⟨_,vs.toArray,_,hk,rfl,rfl,rfl,by rw [Yar,wx];exact hl,by simpa using rv⟩) (λb u z=>by have z':(none:Option HO)=some u:=z;cases z') (λb z=>absurd rfl z) λz=>absurd rfl z
 | none =>
  refine j6 (λb=>if b=a then some (.frz { cls:=.type "list",data:=.seq vs.toArray } (.lst (ns.map V.int))) else none) (λb=>?_) (.inl (.inr ⟨{ cls:=.type "list",data:=.seq vs.toArray },Yaj rfl⟩)) (λb u z=>?_) (λb z=>?_) λ_=>hk
  ·by_cases hb:b=a
   ·exact .inr ⟨_,_,Yaj hb⟩
   ·exact .inl (Yah hb)
  ·by_cases hb:b=a
   ·have z':=(Yaj hb).symm.trans z
    cases z'
    subst hb
    exact⟨ha,by rw [Yac];exact hl,vs,_,rv,ha⟩
   ·have z':=(Yah hb).symm.trans z
    cases z'
  ·by_cases hb:b=a
   ·exact hb
   ·exact absurd (Yah hb) z
theorem walk_of{l:PySem.W.OpenLaw}{n k:Nat}{q:Program}{dy:List Str}{XP:(Str->Option Value)->Heap->Prop}{YP:World->Heap->Prop}{d:DefRec}{K:Params->PySem.W.Frag}{CX:World->CXT}{sp:World->Sp}{x:Str}
  (hn:l.most=some n) (kf:n<=sizeLine) (j9:d.params.defaults=[]) (hr:Room k callerA)
  (hY:∀(w:World) (h:Heap),YP w h->(K w.params).In h)
  (F:∀(w:World) (mg:Str->Option Value) (fa:Addr) (h:Heap),(K w.params).In h->h.Ns mainGlobals mg->mg d.name=some (.ref fa) ->
   ∃fd:FuncData,(∀(s:Shared) (u:Value),BindsTo s fd ⟨[u],[]⟩ [(x,u)]) /\
    ∀base:Heap,(K w.params).In base->base.Ns mainGlobals mg->FnOk l.prog w (K w.params) mg base (CX w) k fa fd [x] (sp w))
  (fw:∀(w:World) (H:Hp) (a:Addr) (ns:List Int),ns.length<=n->Only H->Dx (K w.params) H a (ns.map V.int)->sp w [.ref a] H (λv _=>v=.bl true) λ_ _ _=>False)
  (yg:∀(w:World) (H:Hp) (s:Shared) (e:Value) (s':Shared),CX w [] H s (λ_ _ _=>False) e s'->False) :
  PySem.W.WalkO q dy XP YP l.row.toRowW d [] (λf vs=>PySem.call f vs):=by
 refine Att.attach_call hn j9 λw s₀ s₁ mg mb fa o pm cd d3 a vs ns G Y ho hd h9 hmg hobj hints aj hg=>?_
 have KX:=hY w _ Y
 obtain⟨fd,hb,hF⟩:=F w mg fa _ KX G.T.g hmg
 exact R7 KX G.T.g G.T.b G.T.builtins G.T.nolimit hg hobj hints (Yaq aj kf) hr hF hb (λH hO hS=>fw w H a ns aj hO hS) λH e s'=>yg w H s₁ e s'
def A3(s:Stmt):Arguments:=match s with
 | .FunctionDef _ a _ _ _ _ _ _ _ _=>a
 | _=>{ posonlyargs:=[],args:=[],vararg:=none,kwonlyargs:=[],kw_defaults:=[],kwarg:=none,defaults:=[] }
def Av(s:Stmt):List Stmt:=match s with
 | .FunctionDef _ _ b _ _ _ _ _ _ _=>b
 | _=>[]
def Ah(s:Stmt):Scope:=match s with
 | .FunctionDef _ _ _ _ _ _ sc _ _ _=>sc
 | _=>{ kind:=.function,names:=[],isGenerator:=false,isCoroutine:=false }
abbrev Ep:CXT:=λ_ _ _ _ _ _=>False
abbrev E0:XK:=λ_ _ _=>False
theorem Qct{X:Cx}:Passes Ep X E0:=λ_ _ _ _ _ _ _ h=>h.elim
structure Fun(K:PySem.W.Frag)(x qual:Str)(st:Stmt)(f:Addr)(fd:FuncData):Prop where
 ex:∃(oc:Value) (od:Option Addr) (kV d3 pm:Value) (an:Option Addr) (az ct:Value) (jd:Array (Option Value)),
  fd=PySem.W.fnOf x qual (A3 st) (Av st) (Ah st) .none kV d3 pm an az ct/\K.lookup f=some ⟨oc,od,.func fd,jd⟩/\PySem.W.codeIn K az qual=true
 kp:PySem.W.keepIn K (.ref f)=true
section
variable {P:Program}{w:World}{K:PySem.W.Frag}{mg:Str->Option Value}{base:Heap}
theorem Fun.ok{x qual:Str}{st:Stmt}{f:Addr}{fd:FuncData}{N ps:List Str}{k:Nat}{sp:Sp}(F:Fun K x qual st f fd)(S:FnScope N ps (Ah st))(len:∀vs H Q E,sp vs H Q E->vs.length=ps.length)
  (d4:∀(az:Value) (A:Around) (outer:List Env) (s:Shared) (H:Hp) (vs:List V) (Q:VK) (E:XK),Room k (A.deeper (envOfC qual (Ah st) s.heap.objs.size f az))->sp vs H Q E ->
   ∃t,PSs (Mq Ep P w K mg base N qual (Ah st) f az A outer s H E).nox (Av st) t/\t { nx:=λ_ H'=>Q .non H',rt:=Q } (start N vs) H):FnOk P w K mg base Ep (k+1) f fd ps sp:=by
 obtain⟨oc,od,kV,d3,pm,an,az,ct,jd,rfl,lk,h9⟩:=F.ex
 refine Qck lk h9 S len λA outer s H vs Q E hr fw=>?_
 obtain⟨t,h,q⟩:=d4 az A outer s H vs Q E hr fw
 exact⟨t,h.nox,q⟩
theorem Fun.binds{x qual:Str}{st:Stmt}{f:Addr}{fd:FuncData}{ps:List Str}(F:Fun K x qual st f fd)
  (h:∀(kV d3 pm:Value) (an:Option Addr) (az ct:Value) (us:List Value),us.length=ps.length->bindArgs (PySem.W.fnOf x qual (A3 st) (Av st) (Ah st) .none kV d3 pm an az ct) ⟨us,[]⟩=pure (ps.zip us)):Binds K fd ps []:=by
 obtain⟨oc,od,kV,d3,pm,an,az,ct,jd,rfl,lk,h9⟩:=F.ex
 exact .all (h kV d3 pm an az ct)
theorem Bo{x qual:Str}{st:Stmt}{f:Addr}{oc:Value}{od an:Option Addr}{jd:Array (Option Value)}{kV d3 pm az ct:Value}(l:K.lookup f=some ⟨oc,od,.func (PySem.W.fnOf x qual (A3 st) (Av st) (Ah st) .none kV d3 pm an az ct),jd⟩)
  (c:PySem.W.codeIn K az qual=true) (k:PySem.W.keepIn K (.ref f)=true):Fun K x qual st f (PySem.W.fnOf x qual (A3 st) (Av st) (Ah st) .none kV d3 pm an az ct):=⟨⟨oc,od,kV,d3,pm,an,az,ct,jd,rfl,l,c⟩,k⟩
end
theorem Dz{A:Around}{k:Nat}(hr:Room k A):A.units+1 < cLine:=Nat.lt_of_le_of_lt (Nat.add_le_add_left (by decide:1<=64) _) hr.units
theorem Az{n:Nat}(h:n<=1000):n < sizeLine:=Nat.lt_of_le_of_lt h (by decide)
section
variable {X:Cx}
theorem Pz:Ej X (.builtin "len") (λxs H Q=>∃a ae,xs=[V.ref a]/\H a=some (.dK ae)/\Q (.int ae.length) H):=by
 intro aa s σ H xs us Q I r h
 obtain⟨a,ae,rfl,ha,q⟩:=h
 obtain⟨u,rfl,ru⟩:=Ek r
 cases ru
 exact Qcq I (.inl ha) λt s' I'=>⟨.int ae.length,H,I',⟨t,rfl⟩,q⟩
end
def Same(H H':Hp):Prop:=∀b o,H b=some o->H' b=some o
section
variable {κ:Type} [DecidableEq κ]
end
end L2
set_option maxHeartbeats 4000000
namespace L2
open PySem
def D1(cells:List (Str×Addr)):List (Str×NameKind)->List (Str×Addr)->List (Str×Addr)
 | [],af=>af
 | (n,k) :: r,af=>if k=NameKind.free then D1 cells r ((n,(cells.lookup n).getD 0) :: af) else D1 cells r af
theorem Em{scope:Scope}{env:Env}(h:∀x∈scope.names,x.2=.free->∃c,env.cells.lookup x.1=some c) :
  closureFor scope env=pure (D1 env.cells scope.names []):=by
 have key:∀(names:List (Str×NameKind)) (af:List (Str×Addr)),(∀x∈names,x.2=.free->∃c,env.cells.lookup x.1=some c) ->
   (do
     let mut cs:=af
     for (name,kind) in names do
      if kind==.free then cs:=(name,<- cellOf env name) :: cs
     return cs:Sem (List (Str×Addr)))=pure (D1 env.cells names af):=by
  intro names
  induction names with
  | nil=>intro af _;rfl
  | cons x r ih =>
   intro af h
   obtain⟨n,k⟩:=x
   have hr:∀y∈r,y.2=.free->∃c,env.cells.lookup y.1=some c:=λy hy=>h y (Yam _ hy)
   by_cases hk:k=.free
   ·subst hk
    obtain⟨c,hc⟩:=h (n,.free) Yas rfl
    have e:cellOf env n=pure c:=by unfold cellOf;rw [hc]
    have q:=ih ((n,c) :: af) hr
    simp only [List.forIn_cons,beq_self_eq_true,if_true,e]
    unfold D1
    rw [Yaj rfl,hc]
    exact q
   ·have hb:(k==NameKind.free)=false:=by simpa using hk
    have q:=ih af hr
    simp only [List.forIn_cons,hb,Bool.false_eq_true,if_false]
    unfold D1
    rw [Yah hk]
    exact q
 exact key scope.names [] h
theorem Gv{cells:List (Str×Addr)}:∀{names:List (Str×NameKind)} {af:List (Str×Addr)},
  (∀x∈names,x.2=.free->∃c,cells.lookup x.1=some c)->(∀x c,af.lookup x=some c->cells.lookup x=some c) ->
  ∀x c,(D1 cells names af).lookup x=some c->cells.lookup x=some c
 | [],_,_,h,x,c,e=>h x c e
 | (n,k) :: r,af,hf,h,x,c,e=>by
  unfold D1 at e
  have hr:∀y∈r,y.2=.free->∃c,cells.lookup y.1=some c:=λy hy=>hf y (Yam _ hy)
  by_cases hk:k=.free
  ·rw [Yaj hk]at e
   refine Gv hr (λy d q=>?_) x c e
   obtain⟨c',cx⟩:=hf (n,k) Yas hk
   have cx:cells.lookup n=some c':=cx
   rw [List.lookup_cons]at q
   cases hy:y==n with
   | true =>
    rw [hy,cx]at q
    have e1:y=n:=by simpa using hy
    rw [e1,cx]
    exact q
   | false=>rw [hy]at q;exact h y d q
  ·rw [Yah hk]at e
   exact Gv hr h x c e
theorem Er{cells:List (Str×Addr)}{x:Str}:∀{names:List (Str×NameKind)} {af:List (Str×Addr)},
  (∃c,af.lookup x=some c)->∃c,(D1 cells names af).lookup x=some c
 | [],_,h=>h
 | (n,k) :: r,af,⟨c,h⟩=>by
  unfold D1
  split
  ·refine Er ?_
   rw [List.lookup_cons]
   cases x==n with
   | true=>exact⟨_,rfl⟩
   | false=>exact⟨c,h⟩
  ·exact Er ⟨c,h⟩
theorem E8{cells:List (Str×Addr)}{x:Str}:∀{names:List (Str×NameKind)} {af:List (Str×Addr)},
  (x,NameKind.free)∈names->∃c,(D1 cells names af).lookup x=some c
 | (n,k) :: r,af,h=>by
  unfold D1
  rcases Ya1.mp h with e | e
  ·cases e
   rw [Yaj rfl]
   refine Er ?_
   rw [List.lookup_cons,beq_self_eq_true]
   exact⟨_,rfl⟩
  ·split
   ·exact E8 e
   ·exact E8 e
end L2
namespace PySem
open Sem (wp)
section
variable {prog:Program}{w:World}{A:Around}{E:Value->Shared->Prop}{R:Result->Shared->Prop}{s:Shared}
theorem Kw{du bz av:Expr}{cv:List Expr}{scope:Scope}{pos:Pos}{it af:Value}{env:Env}(I:Nat->Shared->Prop)
  (turn:∀n s,I n s->wpAny (model prog w) A (pyNext it) (λr s₁=>match r with
   | none=>R (.ok .next) s₁
   | some v=>wpAny (model prog w) A (letOwnedTupleGo bz it v) (λ_ s₁'=>wpAny (model prog w) A (assign bz env v) (λ_ s₂ =>
     wpAny (model prog w) A (forIn cv true λc r=>if r=true then do let ok <- isTrue c env (eval c env);pure (ForInStep.yield ok) else pure (ForInStep.yield r)) (λok s₃ =>
      if ok=true then wpAny (model prog w) A (eval du env) (λx s₄ =>
       wpAny (model prog w) A (call (.builtin "list.append") [af,x]) (λ_ s₅=>∃m,m < n/\I m s₅) (λ_ _=>False) s₄) (λ_ _=>False) s₃
      else ∃m,m < n/\I m s₃) (λ_ _=>False) s₂) (λ_ _=>False) s₁') (λ_ _=>False) s₁) (λ_ _=>False) s)
  (n:Nat) (h:I n s) :
  codeAny (model prog w) A (.compLoop (.ListComp du [⟨bz,av,cv,0⟩] scope pos) 0 it af env) R s:=by
 refine codeAny_loop rfl I (λn s hI=>?_) n h
 show wpAny _ A ((compTurn (.ListComp du [⟨bz,av,cv,0⟩] scope pos) 0 it af env).onRaise (λx=>do noteFrame x env;theTreesLotGoes x)) _ _ s
 refine wpAny_noted ?_
 rw [compTurn_list]
 refine Yaa (wpAny_standAt (Yaa (Ybw (turn n s hI) (λr s₁ h₁=>?_) λ_ _ h'=>h'.elim)))
 cases r with
 | none=>exact Yab h₁
 | some v =>
  refine Yaa (Ybw h₁ (λ_ s₁' h₁'=>?_) λ_ _ h'=>h'.elim)
  refine Yaa (Ybw h₁' (λ_ s₂ h₂=>Yaa (Ybw h₂ (λok s₃ h₃=>?_) λ_ _ h'=>h'.elim)) λ_ _ h'=>h'.elim)
  cases ok with
  | false=>exact Yab ⟨rfl,h₃⟩
  | true =>
   exact Yaa (Yaa (Ybw h₃ (λx s₄ h₄=>Yaa (Ybw h₄ (λ_ s₅ h₅=>Yab (Yab ⟨rfl,h₅⟩)) λ_ _ h'=>h'.elim)) λ_ _ h'=>h'.elim))
end
end PySem
namespace L2
open PySem PySem.Spec PyProof.Rows
def Kx(mp:List (Option Nat))(σ:St):St:=mp.map λo=>match o with | some i=>(σ[i]?).join | none=>none
def Vm(pn:List (Str×NameKind))(x:Str):Bool:=decide (pn.lookup x=some .cell) || decide (pn.lookup x=some .free)
def R8(N:List Str)(pn cn:List (Str×NameKind))(N':List Str)(mp:List (Option Nat)):Bool :=
 decide (N'.length=mp.length) && decide N'.Nodup &&
 (List.range N'.length).all (λk=>match mp[k]?,N'[k]? with
  | some (some i),some x=>decide (N[i]?=some x) && Vm pn x && decide ((x,NameKind.free)∈cn) && decide (cn.lookup x=some .free)
  | _,_=>true) &&
 cn.all (λp=>decide (p.2≠.cell)) && cn.all (λp=>decide (p.2≠.free) || Vm pn p.1) && cn.all (λp=>decide (p.2≠.local) || decide (cn.lookup p.1=some .local))
structure CompOk(N:List Str)(pn cn:List (Str×NameKind))(N':List Str)(mp:List (Option Nat)):Prop where
 len:N'.length=mp.length
 nd:N'.Nodup
 map:∀(k i:Nat) (x:Str),mp[k]?=some (some i)->N'[k]?=some x->N[i]?=some x/\(pn.lookup x=some .cell\/pn.lookup x=some .free)/\(x,NameKind.free)∈cn/\cn.lookup x=some .free
 nocell:∀p∈cn,p.2≠.cell
 free:∀p∈cn,p.2=.free->(pn.lookup p.1=some .cell\/pn.lookup p.1=some .free)
 loc:∀p∈cn,p.2=.local->cn.lookup p.1=some .local
theorem Ky{pn:List (Str×NameKind)}{x:Str}(h:Vm pn x=true):pn.lookup x=some .cell\/pn.lookup x=some .free:=by
 unfold Vm at h
 rcases(Bool.or_eq_true _ _).mp h with h | h
 ·exact .inl (Yaw h)
 ·exact .inr (Yaw h)
theorem A9{N:List Str}{pn cn:List (Str×NameKind)}{N':List Str}{mp:List (Option Nat)}(h:R8 N pn cn N' mp=true):CompOk N pn cn N' mp:=by
 unfold R8 at h
 obtain⟨h,h6⟩:=(Yb2 _ _).mp h
 obtain⟨h,h5⟩:=(Yb2 _ _).mp h
 obtain⟨h,h4⟩:=(Yb2 _ _).mp h
 obtain⟨h,h3⟩:=(Yb2 _ _).mp h
 obtain⟨h1,h2⟩:=(Yb2 _ _).mp h
 refine⟨Yaw h1,Yaw h2,λk i x e1 e2=>?_,λp hp=>Yaw (Yb9.mp h4 p hp),λp hp e=>?_,λp hp e=>?_⟩
 ·have hk:k < N'.length:=(List.getElem?_eq_some_iff.mp e2).1
  have q:=Yb9.mp h3 k (Ybh.mpr hk)
  simp only [e1,e2]at q
  obtain⟨q,q4⟩:=(Yb2 _ _).mp q
  obtain⟨q,q3⟩:=(Yb2 _ _).mp q
  obtain⟨q1,q2⟩:=(Yb2 _ _).mp q
  exact⟨Yaw q1,Ky q2,Yaw q3,Yaw q4⟩
 ·rcases(Bool.or_eq_true _ _).mp (Yb9.mp h5 p hp) with z | z
  ·exact absurd e (Yaw z)
  ·exact Ky z
 ·rcases(Bool.or_eq_true _ _).mp (Yb9.mp h6 p hp) with z | z
  ·exact absurd e (Yaw z)
  ·exact Yaw z
theorem Jr{env:Env}:∀{names:List (Str×NameKind)} {x:Str},names.lookup x=some .free ->
  (names.map λ(n,k)=>if(k==NameKind.free && env.scope.kind==.function && env.kindOf n==some .cell) then(n,NameKind.cell) else(n,k)).lookup x=some .cell \/
  (names.map λ(n,k)=>if(k==NameKind.free && env.scope.kind==.function && env.kindOf n==some .cell) then(n,NameKind.cell) else(n,k)).lookup x=some .free
 | [],_,h=>by simp at h
 | (n,k) :: r,x,h=>by
  have ih:=@Jr env r x
  rw [Ybm]
  cases hx:x==n with
  | true =>
   simp only [List.lookup_cons,hx]at h
   cases h
   by_cases hc:(NameKind.free==NameKind.free && env.scope.kind==.function && env.kindOf n==some .cell)=true
   ·refine .inl ?_
    simp only [hc,if_true,List.lookup_cons,hx]
   ·refine .inr ?_
    simp only [if_neg hc,List.lookup_cons,hx]
  | false =>
   simp only [List.lookup_cons,hx]at h
   by_cases hc:(k==NameKind.free && env.scope.kind==.function && env.kindOf n==some .cell)=true
   ·simp only [hc,if_true,List.lookup_cons,hx];exact ih h
   ·simp only [if_neg hc,List.lookup_cons,hx];exact ih h
theorem Js{env:Env}:∀{names:List (Str×NameKind)} {x:Str},(∀p∈names,p.2≠.cell) ->
  ((names.map λ(n,k)=>if(k==NameKind.free && env.scope.kind==.function && env.kindOf n==some .cell) then(n,NameKind.cell) else(n,k)).lookup x=some .cell \/
  (names.map λ(n,k)=>if(k==NameKind.free && env.scope.kind==.function && env.kindOf n==some .cell) then(n,NameKind.cell) else(n,k)).lookup x=some .free)->(x,NameKind.free)∈names
 | [],_,_,h=>by simp at h
 | (n,k) :: r,x,hn,h=>by
  have ih:=@Js env r x λp hp=>hn p (Yam _ hp)
  rw [Ybm]at h
  cases hx:x==n with
  | true =>
   have e:x=n:=by simpa using hx
   subst e
   have hk:=hn (x,k) Yas
   by_cases hc:(k==NameKind.free && env.scope.kind==.function && env.kindOf x==some .cell)=true
   ·have:k=.free:=by
     simp only [Bool.and_eq_true]at hc
     simpa using hc.1.1
    rw [this];exact Yas
   ·simp only [if_neg hc,List.lookup_cons,hx]at h
    rcases h with h | h
    ·exact absurd (Ya0 h) hk
    ·rw [Ya0 h];exact Yas
  | false =>
   by_cases hc:(k==NameKind.free && env.scope.kind==.function && env.kindOf n==some .cell)=true
   ·simp only [hc,if_true,List.lookup_cons,hx]at h;exact Yam _ (ih h)
   ·simp only [if_neg hc,List.lookup_cons,hx]at h;exact Yam _ (ih h)
end L2
namespace PySem
open Sem (wp)
section
variable {prog:Program}{w:World}{A:Around}{E:Value->Shared->Prop}{R:Result->Shared->Prop}{s:Shared}
variable {I:Addr}{fp wr:List Addr}{G:Array GenState->Array GenState->Prop}{n:Nat}{P:Nat->Value->Prop}{St:Nat->Shared->Prop}
end
end PySem
namespace L2
open PySem PySem.Spec PyProof.Rows
def Bd(X:Cx)(N':List Str)(scope:Scope)(C:Addr)(s:Shared)(H:Hp)(fp:List Addr):Cx :=
 { X with N:=N',s₀:=s,H₀:=H,env:=compEnvC scope (D1 X.env.cells scope.names []) C X.env,outer:=X.stack,stack:=X.stack,ex:=fp,fn:=λ_=>false,pn:=[],xe:=λ_ _=>False }
def PIfs(X:Cx)(cv:List Expr)(t:TT):Prop :=
 ∀(aa:List (Addr×Obj)) (s:Shared) (σ:St) (H:Hp) (Q:Bool->Hp->Prop),Inv X aa σ H s->t σ H Q ->
  wpAny (model X.prog X.w) X.A (forIn cv true λc r=>if r=true then do let ok <- isTrue c X.env (eval c X.env);pure (ForInStep.yield ok) else pure (ForInStep.yield r)) (TP X aa σ Q) X.xe s
def Qfu:TT:=λ_ H Q=>Q true H
theorem R9{X:Cx}:PIfs X [] Qfu:=λ_ _ _ H _ I h=>wpAny_tests_nil ⟨H,I,h⟩
theorem Sa{X:Cx}{c:Expr}{t:TT}(h:PT X c t):PIfs X [c] t:=λaa s σ H Q I hw=>wpAny_tests_one (h aa s σ H Q I hw)
def Sb(p:Addr)(J:It)(g:TG)(tst:TT)(te:TE)(Q:Hp->Prop)(σ:St)(H:Hp):Prop :=
 ∃W:Nat->Nat->List V->St->Hp->Prop,(∃m,W 0 m [] σ H)/\∀i m af σ' H',W i m af σ' H' ->
  (J.stop i H'/\Q H')\/(J.go i H'/\∃N:List V->St->Hp->Prop,(∀af σ H,N af σ H->∃m',m' < m/\W (i+1) m' af σ H)/\∀x H2,J.yld i H' x H2->g x σ' H2 fun σ3 H3=>tst σ3 H3 λb H4 =>
   if b=true then te σ3 H4 λv H5=>∃ac,H5 p=some (.lst ac)/\ac.length < sizeLine/\N (ac++[v]) σ3 (upd H5 p (.lst (ac++[v])))
   else N af σ3 H4)
def Sc(mp:List (Option Nat))(wi:TI)(g:TG)(tst:TT)(te:TE):TE:=fun σ H Q=>wi σ H λJ H1=>∀p,H1 p=none ->
 Sb p J g tst te (λH'=>Q (.ref p) H') (Kx mp σ) (upd H1 p (.lst []))
section
variable {X:Cx}{N':List Str}{mp:List (Option Nat)}{du tg av:Expr}{cv:List Expr}{scope:Scope}{pos:Pos}{wi:TI}{g:TG}{tst:TT}{te:TE}
theorem Inv.comp0{aa:List (Addr×Obj)}{σ:St}{H:Hp}{s:Shared}{fp:List Addr}{tn:Heap->Prop}{h₁:Heap}{tk:Nat}{C:Addr}(ok:CompOk X.N X.env.scope.names scope.names N' mp)(hk:scope.kind=.function)
  (I:Inv X aa σ H s) (hf:∀b∈fp,Eo X aa H b) (tp:∀b∈fp,∃o,s.heap.get? b=some o) (hC:C=s.heap.objs.size+1)
  (fq:∃m,h₁.Ns C m) (keep:∀b o,s.heap.get? b=some o->h₁.get? b=some o) (d5:∃n,h₁.get? s.heap.objs.size=some { cls:=.type "list",data:=.seq #[] n }) :
  Inv (Bd X N' scope C s H fp) [] (Kx mp σ) (upd H s.heap.objs.size (.lst [])) { s with heap:=h₁,toks:=tk }:=by
 subst hC
 have kg:∀x∈scope.names,x.2=.free->∃c,X.env.cells.lookup x.1=some c:=λx hx e=>I.ok.has x.1 (ok.free x hx e)
 have sub:∀x c,(D1 X.env.cells scope.names []).lookup x=some c->X.env.cells.lookup x=some c:=Gv kg (λx c e=>by simp at e)
 have hlt:∀b∈fp,b < s.heap.objs.size:=λb hb=>let⟨_,e⟩:=tp b hb;Yae e
 have hnC:H (s.heap.objs.size+1)=none:=I.hok.fresh (Yev _)
 have mq:H s.heap.objs.size=none:=I.hok.fresh (Yad _)
 have kd:∀b∈fp,b∉frs X.stack:=λb hb z=>by
  obtain⟨_,f1,f2,_⟩:=hf b hb
  rcases Ya1.mp (I.stkSub b z) with e | e
  ·exact f1 e
  ·exact f2 e
 refine⟨⟨I.ok.mod,hk,I.ok.glob,I.ok.blt,Yev _,λx y c e1 e2=>I.ok.inj x y c (sub x c e1) (sub y c e2),λx e=>?_,λx c e=>(nomatch e),I.ok.hd,I.ok.frames,.inl rfl,λb hb=>⟨?_,λx c e=>?_⟩,I.bs,Yaq I.ok.bsz I.sz,λb o e hb=>?_,kd,I.stack,I.stkFree⟩,
  rfl,I.bare,Un.laid keep (Yad _) mq,?_,λx c e=>?_,?_,λx c e=>?_,λp hp=>(nomatch hp),I.hok.laid keep (Yad _) ?_,?_⟩
 ·exact E8 (Js ok.nocell e)
 ·exact Yan (Nat.lt_succ_of_lt (hlt b hb))
 ·exact(hf b hb).2.2.2.2.1 x c (sub x c e)
 ·rcases(hf b hb).2.2.2.1 with z | z
  ·exact I.ok.noex b o e z
  ·exact absurd (Yai (Yae e) (Yaq I.ok.bsz z)) (Ycd _)
 ·obtain⟨m,hm⟩:=fq
  refine⟨m,hm,λi x v e1 e2 e3=>?_⟩
  have j8:(Kx mp σ)[i]?=some (some v):=e2
  unfold Kx at j8
  rw [List.getElem?_map]at j8
  cases hmp:mp[i]? with
  | none=>rw [hmp]at j8;cases j8
  | some o =>
   rw [hmp]at j8
   cases o with
   | none=>cases j8
   | some j =>
    have e4:σ[j]?=some (some v):=by
     have q:(σ[j]?).join=some v:=Ya0 j8
     cases hj:σ[j]? with
     | none=>rw [hj]at q;cases q
     | some y=>rw [hj]at q;exact Ydn some q
    obtain⟨a1,a2,a3,a4⟩:=ok.map i j x hmp e1
    obtain⟨m0,hn0,gh⟩:=I.loc
    obtain⟨u,r,l⟩:=gh j x v a1 e4 (a2.elim (λz=>.inr (.inl z)) λz=>.inr (.inr z))
    refine⟨u,r,.inr ⟨?_,?_⟩⟩
    ·exact Jr a4
    ·rcases l with⟨l1,_⟩ | ⟨_,c,l2,l3⟩
     ·have l1:X.env.scope.names.lookup x=some .local:=l1
      rcases a2 with a2 | a2 <;> rw [a2]at l1 <;> cases l1
     ·obtain⟨c',cx⟩:∃c',(D1 X.env.cells scope.names []).lookup x=some c':=E8 a3
      have:c'=c:=Ya0 ((sub x c' cx).symm.trans l2)
      subst this
      exact⟨c',cx,l3.keeps keep⟩
 ·obtain⟨v,z⟩:=I.cell x c (sub x c e)
  exact⟨v,z.keeps keep⟩
 ·show upd H s.heap.objs.size (.lst []) (s.heap.objs.size+1)=none
  rw [Ap (Nat.succ_ne_self _)];exact hnC
 ·obtain⟨v,z⟩:=I.cell x c (sub x c e)
  show upd H s.heap.objs.size (.lst []) c=none
  rw [Ap (Yan z.lt)];exact I.freeC x c (sub x c e)
 ·obtain⟨n,e⟩:=d5
  exact⟨Ya4 _,[],n,.nil,e⟩
 ·show(Kx mp σ).length=N'.length
  unfold Kx
  rw [Yac,ok.len]
theorem Kz{aa:List (Addr×Obj)}{σ:St}{H:Hp}{s:Shared}{it:Addr}{fp:List Addr}{tn:Nat->Heap->Prop}{J:It}{Q:Addr->Hp->Prop}{E:Value->Shared->Prop}{RR:Value->Addr->Result->Shared->Prop}
  (ok:CompOk X.N X.env.scope.names scope.names N' mp) (hk:scope.kind=.function) (hc:X.calm=true) (I:Inv X aa σ H s) (T:Turn X.prog X.w X.K tg J fp it tn) (st:tn 0 s.heap) (hf:∀b∈fp,Eo X aa H b)
  (hg:∀C s H fp,PG (Bd X N' scope C s H fp) tg g) (ht:∀C s H fp,PIfs (Bd X N' scope C s H fp) cv tst) (he:∀C s H fp,PE (Bd X N' scope C s H fp) du te)
  (h:∀p,H p=none->Sb p J g tst te (Q p) (Kx mp σ) (upd H p (.lst [])))
  (hRR:∀C s' H',Inv X aa σ H' s'->(∃m,s'.heap.Ns C m)->H' C=none->X.s₀.heap.objs.size<=C->C≠X.env.locals->(∀x c,X.env.cells.lookup x=some c->c≠C)->(∀q∈X.pn++aa,q.1≠C)->Q s.heap.objs.size H'->RR (.ref s.heap.objs.size) C (.ok .next) s') :
  wpAny (model X.prog X.w) X.A (newList []) (λaf s₃=>wpAny (model X.prog X.w) X.A (newFunctionEnv scope X.env.globals (D1 X.env.cells scope.names []) [] X.env.qual none .none (some X.env)) (λsm s₄ =>
   codeAny (model X.prog X.w) X.A (.compStart (.ListComp du [⟨tg,av,cv,0⟩] scope pos) 0 (.ref it) af { sm with scope:=relabel scope X.env }) (RR af sm.locals) s₄) E s₃) E s:=by
 refine Yay (wpAny_newFunctionEnv ok.nocell (by intro y hy;simp at hy) (λh₁ fq₁ hsb₁=>?_) hk)
 dsimp only at fq₁ hsb₁ ⊢
 generalize uz:s.heap.push { cls:=.type "list",dict:=none,data:=.seq ([]:List Value).toArray }=H2 at fq₁ hsb₁ ⊢
 have hC:H2.objs.size=s.heap.objs.size+1:=by rw [<- uz,Ycj]
 have keep:∀b o,s.heap.get? b=some o->h₁.get? b=some o:=λb o e =>
  hsb₁.extBut b o (by rw [hC];exact Yan (Nat.lt_succ_of_lt (Yae e))) (Heap.get?_push_of_some _ (uz ▸ Heap.get?_push_of_some _ e))
 have d5:∃n,h₁.get? s.heap.objs.size=some { cls:=.type "list",data:=.seq #[] n } :=
  ⟨_,hsb₁.extBut _ _ (by rw [hC];exact Yan (Yde _)) (Heap.get?_push_of_some _ (uz ▸ Heap.get?_push_size _ rfl))⟩
 have tp:∀b∈fp,∃o,s.heap.get? b=some o:=λb hb=>let⟨o,e,_⟩:=T.obj _ _ st b hb;⟨o,e⟩
 have iq:s.heap.objs.size<=H2.objs.size:=by rw [hC];exact Yev _
 have I0:=I.comp0 (tn:=tn 0) (C:=H2.objs.size) (tk:=s.toks+([]:List (Str×Value)).length) ok hk hf tp hC ⟨_,fq₁⟩ keep d5
 have st0:tn 0 h₁:=T.keep _ _ _ st λb hb o e=>keep b o e
 obtain⟨W,⟨m0,w0⟩,turn⟩:=h _ (I.hok.fresh (Yad _))
 have kd:∀b∈fp,b∉frs X.stack:=I0.ok.exfs
 have et:∀{H':Hp},(∀b∈fp,H' b=none)->∀b∈fp,Eo (Bd X N' scope H2.objs.size s H fp) [] H' b:=λhn b hb =>
  ⟨hn b hb,(I0.ok.exf b hb).1,kd b hb,.inl hb,(I0.ok.exf b hb).2,λq hq=>(nomatch hq)⟩
 have loop:∀s₃:Shared,s₃={ s with heap:=h₁,toks:=s.toks+([]:List (Str×Value)).length } ->
   codeAny (model X.prog X.w) X.A (.compLoop (.ListComp du [⟨tg,av,cv,0⟩] scope pos) 0 (.ref it) (.ref s.heap.objs.size) (compEnvC scope (D1 X.env.cells scope.names []) H2.objs.size X.env)) (RR (.ref s.heap.objs.size) H2.objs.size) s₃:=by
  rintro s₃ rfl
  refine Kw (λn s'=>∃i af σ' H',Inv (Bd X N' scope H2.objs.size s H fp) [] σ' H' s'/\tn i s'.heap/\(∀b∈fp,H' b=none)/\W i n af σ' H') ?_ m0
   ⟨0,[],_,_,I0,st0,λb hb=>by rw [Ap (Yan (let⟨_,e⟩:=tp b hb;Yae e))];exact(hf b hb).1,w0⟩
  rintro n s3 ⟨i,af,σ3,H3,I3,st3,fr3,w3⟩
  rcases turn i n af σ3 H3 w3 with⟨stop,qn⟩ | ⟨go,N,hN,step⟩
  ·refine thn (T.done (Bd X N' scope H2.objs.size s H fp) rfl rfl rfl hc i [] s3 σ3 H3 _ I3 (et fr3) st3 stop) λr s4 ⟨hr,I4⟩=>?_
   subst hr
   refine hRR _ s4 H3 ?_ (let⟨m,hm,_⟩:=I4.loc;⟨m,hm⟩) I4.free (Yaq I.sz iq) (Ybg (Yai I.lt iq)) (λx c e=>?_) (λq hq=>?_) qn
   ·exact I.call' I4.os I4.base I4.hok I4.bare λb hb=>let⟨_,f1,_,f3,f4,f5⟩:=hf b hb;⟨f3,f1,f4,f5⟩
   ·obtain⟨v,z⟩:=I.cell x c e
    exact Yan (Yai z.lt iq)
   ·exact Yan (Yai (Yae (I.pin q hq).1) iq)
  ·refine thn (T.item (Bd X N' scope H2.objs.size s H fp) rfl rfl rfl hc i [] s3 σ3 H3 _ I3 (et fr3) st3 go) λr s4 ⟨u,hr,h4⟩=>?_
   subst hr
   refine thn h4 λ_ s5 qp=>?_
   obtain⟨x,H5,I5,r5,y5,st5,fr5⟩:=qp
   have I5':=I5.pinned (et fr5) (T.obj _ _ st5)
   refine thn (hg _ _ _ _ _ s5 σ3 H5 x u _ I5' r5 (step x H5 y5)) λ_ s6 rf=>?_
   obtain⟨σ6,H6,I6,q6⟩:=rf
   refine thn (ht _ _ _ _ _ s6 σ6 H6 _ I6 q6) λb s7 ⟨H7,I7,q7⟩=>?_
   have again:∀{σ8:St} {H8:Hp} {jn:List V} {s8:Shared},Inv (Bd X N' scope H2.objs.size s H fp) ([]++Gn fp s5.heap) σ8 H8 s8->(∃m',m' < n/\W (i+1) m' jn σ8 H8) ->
     ∃m,m < n/\∃i af σ' H',Inv (Bd X N' scope H2.objs.size s H fp) [] σ' H' s8/\tn i s8.heap/\(∀b∈fp,H' b=none)/\W i m af σ' H':=λ{σ8 H8 jn s8} I8 hw=>by
    obtain⟨m',hm,w8⟩:=hw
    refine⟨m',hm,i+1,jn,σ8,H8,I8.unpinned,T.keep _ _ _ st5 λb hb o e=>(I8.pin (b,o) (Ya2 _ (Ya2 _ (Dm hb e)))).1,λb hb=>?_,w8⟩
    obtain⟨o,e,d⟩:=T.obj _ _ st5 b hb
    exact(I8.pin (b,o) (Ya2 _ (Ya2 _ (Dm hb e)))).2.1
   cases b with
   | false =>
    rw [Yah Yag]
    rw [Yah Yag]at q7
    exact again I7 (hN _ _ _ q7)
   | true =>
    rw [Yaj rfl]
    rw [Yaj rfl]at q7
    refine thn (he _ _ _ _ _ s7 σ6 H7 _ I7 q7) λy s8 lw=>?_
    obtain⟨v,H8,I8,r8,ac,e8,z8,w8⟩:=lw
    refine thn (Il (X:=Bd X N' scope H2.objs.size s H fp) _ s8 σ6 H8 (.ref s.heap.objs.size) [v] (.ref s.heap.objs.size) [y] (λ_ H9=>H9=upd H8 s.heap.objs.size (.lst (ac++[v]))) I8 rfl (.cons r8 .nil) ⟨_,ac,v,rfl,rfl,e8,z8,rfl⟩) λ_ s9 qu=>?_
    obtain⟨_,H9,I9,_,e9⟩:=qu
    subst e9
    exact again I9 (hN _ _ _ w8)
 exact codeAny_compStart_list (loop _ rfl) (T.self _ 0 _ _ _ st0 (loop _ rfl))
theorem Inv.letgo{aa:List (Addr×Obj)}{σ:St}{H:Hp}{s:Shared}{C:Addr}{h':Heap}(I:Inv X aa σ H s)(hn:H C=none)(h1:X.s₀.heap.objs.size<=C)(hL:C≠X.env.locals)(h2:∀x c,X.env.cells.lookup x=some c->c≠C)
  (h3:∀q∈X.pn++aa,q.1≠C) (hs:Heap.SameBut C s.heap h'):Inv X aa σ H { s with heap:=h' } :=
 I.turned (t':=s.toks) (λb o hb e=>(hs.2 b hb).trans e) hn hL (.inr h1) h2 h3
theorem Vn(hc:X.calm=true)(hi:PI X tg av wi)(hg:∀C s H fp,PG (Bd X N' scope C s H fp) tg g)(ht:∀C s H fp,PIfs (Bd X N' scope C s H fp) cv tst)(he:∀C s H fp,PE (Bd X N' scope C s H fp) du te)
  (ok:CompOk X.N X.env.scope.names scope.names N' mp) (hk:scope.kind=.function:=by rfl) (hs:∀x,foldedSetIterable av X.env x=pure x:=by intro _;rfl) :
  PE X (.ListComp du [⟨tg,av,cv,0⟩] scope pos) (Sc mp wi g tst te):=by
 intro aa s σ H Q I h
 rw [eval_ListComp]
 refine wpAny_comprehension_free (use:=none) rfl hs (Em λx hx e=>I.ok.has x.1 (ok.free x hx e)) hk ok.loc (thn (hi aa s σ H _ I h) λv s1 h1=>thn h1 λt9 s2 h2=>?_)
 obtain⟨it,fp,tn,J,H2,e,I2,T,st2,f2,hw⟩:=h2
 subst e
 refine Kz (Q:=λp H'=>Q (.ref p) H') (RR:=λaf C=>compPost (model X.prog X.w) X.A X.xe none (EP X aa σ Q) af C) ok hk hc I2 T st2 f2 hg ht he hw ?_
 intro C s' H' I' fq hn h1 hL kg jw q
 obtain⟨m,hm⟩:=fq
 exact⟨m,hm,λh' dw=>⟨.ref s2.heap.objs.size,H',I'.letgo hn h1 hL kg jw dw,rfl,q⟩⟩
theorem Vo{i:Nat}{y:Str}{py ic:Pos}(hc:X.calm=true)(hN:X.N.Nodup)(dz:X.N[i]?=some y)(hy:X.env.scope.names.lookup y=some .local)
  (hi:PI X tg av wi) (hg:∀C s H fp,PG (Bd X N' scope C s H fp) tg g) (ht:∀C s H fp,PIfs (Bd X N' scope C s H fp) cv tst) (he:∀C s H fp,PE (Bd X N' scope C s H fp) du te)
  (ok:CompOk X.N X.env.scope.names scope.names N' mp) (vi:swapsWith (.ListComp du [⟨tg,av,cv,0⟩] scope pos) (some (.Name y py)) ic.line X.env=pure true:=by rfl)
  (hk:scope.kind=.function:=by rfl) (hs:∀x,foldedSetIterable av X.env x=pure x:=by intro _;rfl) :
  PS X (.Assign [.Name y py] (.ListComp du [⟨tg,av,cv,0⟩] scope pos) ic) (U7 (Sc mp wi g tst te) (Rn i)):=by
 intro aa s σ H D I h
 rw [exec_Assign_Name_used _ _ _ _ vi]
 refine Yaa (wpAny_standAt (Yaa ?_))
 show wpAny _ _ (do let _ <- comprehension (.ListComp du [⟨tg,av,cv,0⟩] scope pos) scope X.env _ (newList []) false (eval av X.env) (some (assign (.Name y py) X.env))) _ _ s
 refine Yaa (Ybw (wpAny_comprehension_free (use:=some (assign (.Name y py) X.env)) (Q:=λ_ s'=>SP X aa D .next s') rfl hs (Em λx hx e=>I.ok.has x.1 (ok.free x hx e)) hk ok.loc
  (thn (hi aa s σ H _ I h) λv s1 h1=>thn h1 λt9 s2 h2=>?_)) (λ_ s' hq=>Yab (Yab hq)) λ_ _ e=>e)
 obtain⟨it,fp,tn,J,H2,e,I2,T,st2,f2,hw⟩:=h2
 subst e
 refine Kz (Q:=λp H'=>D.nx (σ.set i (some (.ref p))) H') (RR:=λaf C=>compPost (model X.prog X.w) X.A X.xe (some (assign (.Name y py) X.env)) (λ_ s'=>SP X aa D .next s') af C) ok hk hc I2 T st2 f2 hg ht he hw ?_
 intro C s' H' I' fq hn h1 hL kg jw q
 obtain⟨m,hm⟩:=fq
 show wpAny _ _ (assign (.Name y py) X.env (.ref s2.heap.objs.size)) _ _ s'
 refine wpAny_assign_Name (Ib I' hN dz (.inl hy) (v:=.ref s2.heap.objs.size) rfl (λsr I'' di=>?_) (.inr hy))
 obtain⟨a,hsb,ha⟩:=di
 have hCa:C≠a:=by
  rcases ha with rfl | ha
  ·exact hL
  ·exact(kg _ _ ha).symm
 refine⟨m,hm.sameBut hsb hCa,λh' dw=>?_⟩
 exact⟨_,H',I''.letgo hn h1 hL kg jw dw,q⟩
end
section
variable {K:PySem.W.Frag}{a p:Addr}{xs:List V}{g:TG}{tst:TT}{te:TE}{Q:Hp->Prop}{σ:St}{H:Hp}
theorem Vp{J:It}(n:Nat)(Pv:Nat->List V->St->Hp->Prop)(h0:Pv 0 [] σ H)
  (i0:∀i af σ H,i < n->Pv i af σ H->J.go i H) (h8:∀af σ H,Pv n af σ H->J.stop n H/\Q H)
  (hs:∀i x af σ H H2,i < n->Pv i af σ H->J.yld i H x H2->g x σ H2 fun σ3 H3=>tst σ3 H3 λb H4 =>
   if b=true then te σ3 H4 λv H5=>∃ac,H5 p=some (.lst ac)/\ac.length < sizeLine/\Pv (i+1) (ac++[v]) σ3 (upd H5 p (.lst (ac++[v]))) else Pv (i+1) af σ3 H4) :
  Sb p J g tst te Q σ H:=by
 refine⟨λi m af σ H=>m=n - i/\i<=n/\Pv i af σ H,⟨n,by simp,Ya4 _,h0⟩,?_⟩
 rintro i m af σ H ⟨rfl,hi,pv⟩
 by_cases hlt:i < n
 ·exact .inr ⟨i0 i af σ H hlt pv,Pv (i+1),λaf σ H q=>⟨n - (i+1),by omega,rfl,hlt,q⟩,λx H2 y=>hs i x af σ H H2 hlt pv y⟩
 ·have e:i=n:=by omega
  subst e
  exact .inl (h8 af σ H pv)
end
section
variable {X:Cx}
def Qfv:V->Option Int->Option Int->Hp->VK->Prop:=λx lo hi H Q=>∃z,x=.str z/\z.length<=sizeLine/\Q (.str (Txt.slice z lo hi)) H
theorem Zo:SlR X Qfv:=by
 intro aa s σ H x v vl vu lo hi sl Q I rx hs pl pu h
 obtain⟨z,rfl,hz,q⟩:=h
 obtain⟨t,rfl⟩:=rx
 refine⟨"str",_,F.slot_str_getitem.lookup,typeIs_str _ _ _,?_⟩
 have ar:∀t' k,EP X aa σ Q (.str (Txt.slice z lo hi) t') { s with toks:=k }:=λt' k=>⟨.str _,H,I.tok _,⟨_,rfl⟩,q⟩
 cases pl with
 | none =>
  cases pu with
  | none=>exact Ydc (l:=none) (u:=none) (st:=none) hs rfl (Yex ⟨Yaq (Txt.slice_le z _ _) hz,ar⟩)
  | int j tj=>exact Ydc (l:=none) (u:=some (j,tj)) (st:=none) hs rfl (Yex ⟨Yaq (Txt.slice_le z _ _) hz,ar⟩)
 | int i ti =>
  cases pu with
  | none=>exact Ydc (l:=some (i,ti)) (u:=none) (st:=none) hs rfl (Yex ⟨Yaq (Txt.slice_le z _ _) hz,ar⟩)
  | int j tj=>exact Ydc (l:=some (i,ti)) (u:=some (j,tj)) (st:=none) hs rfl (Yex ⟨Yaq (Txt.slice_le z _ _) hz,ar⟩)
theorem Sd(hc:X.calm=true):Ej X (.builtin "all") (λxs H Q=>∃(p:Addr) (bs:List Bool),xs=[.ref p]/\Dx X.K H p (bs.map V.bl)/\Q (.bl (bs.all id)) H):=by
 intro aa s σ H xs us Q I r h
 obtain⟨p,bs,rfl,hq,q⟩:=h
 obtain⟨u,rfl,rx⟩:=Ek r
 cases rx
 obtain⟨ah,r',pl,hz⟩:=I.list hq
 have aj:=r'.length
 rw [Yac]at aj
 refine call_all_walk (wpAny_pyIter_list pl.isList ?_)
 have ay:p≠s.heap.objs.size:=Yan (let⟨_,ho,_⟩:=pl.isList;Yae ho)
 refine⟨s.heap.objs.size,_,_,_,_,_,λi=>bs.getD i true,rfl,Walks.list (show X.A.in1.handled=none from I.ok.hd hc) s.heap.objs.size p ay ah.toArray,?_,?_,λh' tk k=>?_⟩
 ·exact⟨⟨_,Heap.get?_push_size _ rfl,rfl,rfl⟩,pl.isList.at λo e=>Heap.get?_push_of_some _ e⟩
 ·intro i v s' Q' E' hP hQ'
  have hv:ah[i]?=some v:=by simpa using hP
  have hi:i < bs.length:=by rw [aj];exact(List.getElem?_eq_some_iff.mp hv).1
  obtain⟨u,hu,ru⟩:=r'.get (i:=i) (x:=V.bl bs[i]) (by simp [hi])
  rw [hv]at hu
  cases hu
  cases (show v=Value.bool bs[i] from ru)
  refine Yc5 ?_
  have e:bs.getD i true=bs[i]:=by simp [hi]
  have hQ2:Q' (bs.getD i true) s':=hQ'
  rw [e]at hQ2
  exact hQ2
 ·have e:(List.range ah.toArray.size).all (λi=>bs.getD i true)=bs.all id:=by
   rw [Yar,<- aj]
   rw [Yey,Yb9,Yb9]
   constructor
   ·intro a x hx
    obtain⟨i,hi,rfl⟩:=List.mem_iff_getElem.mp hx
    have:=a i (Ybh.mpr hi)
    simpa [hi] using this
   ·intro a i hi
    have hi:=Ybh.mp hi
    have:=a bs[i] (Yc0 hi)
    simpa [hi] using this
  rw [e]
  exact⟨.bl _,H,I.kept λb o e=>k b o (by
   intro hb
   have:b=s.heap.objs.size:=by simpa using hb
   exact absurd (Yae e) (by rw [this];exact Ycd _)) (Heap.get?_push_of_some _ e),rfl,q⟩
theorem Mv{ys:List Str}{us:List Value}(h:Vals (ys.map V.str) us):StrsAre us ys:=by
 induction ys generalizing us with
 | nil=>cases h;exact .nil
 | cons y ys ih =>
  cases h with
  | cons r t =>
   obtain⟨tk,rfl⟩:=r
   exact .cons y tk (ih t)
theorem Vq:MtR X "str.join" (λx xs H Q=>∃z p ys,x=.str z/\xs=[.ref p]/\Dx X.K H p (ys.map V.str)/\(ys.map (·.length)).sum+ys.length * z.length<=16777216/\Q (.str (Txt.join z ys)) H):=by
 intro aa s σ H x xs v us Q I rx r h
 obtain⟨z,p,ys,rfl,rfl,hq,hz,q⟩:=h
 obtain⟨t,rfl⟩:=rx
 obtain⟨u,rfl,ru⟩:=Ek r
 cases ru
 obtain⟨ah,r',pl,_⟩:=I.list hq
 exact join_list pl.isList (Mv (by simpa using r')) hz λt' k=>⟨.str _,H,I.tok _,⟨_,rfl⟩,q⟩
end
theorem P0{H:Hp}{p:Addr}(h:H p=none)(o:HO):Same H (upd H p o):=λb u q=>by rw [Ap (Bk q h)];exact q
section
variable {H H':Hp}{d l p:Addr}{s n:Int}{ns:List Int}{o:HO}
end
theorem seven{n:Nat}(h:n<=1000):n<=sizeLine:=Ybu (Az h)
end L2
namespace PySem
open Sem (wp)
open AutoSeq1 (wpAny_loadPart')
set_option maxRecDepth 100000
section
variable {prog:Program}{w:World}{A:Around}{E:Value->Shared->Prop}{s:Shared}
theorem D2{it t:Addr}{i:Nat}{items}{x:Value}{Q:Value->Shared->Prop}(cr:s.heap.IsTupleIter it t i)
  (ht:s.heap.IsTuple t items) (hx:items[i]?=some x)
  (hQ:∀h',h'.IsTupleIter it t (i+1)->Heap.SameBut it s.heap h'->Q x { s with heap:=h' }) :
  wpAny (model prog w) A (Builtin.SmallTypes.nextOf (.ref it)) Q E s:=by
 obtain⟨o,ho,hc,hd⟩:=id cr
 obtain⟨ol,hol,_,nl,hdl⟩:=ht
 unfold Builtin.SmallTypes.nextOf
 refine Yaa (wpAny_callSpecial?_slot (name:=Str.ofString "__next__") cr.typeIs F.slot_tuple_iterator_next
  (Ya3 F.slot_tuple_iterator_next cr.typeIs F.entry_tuple_iterator_next ?_ (F.args_tuple_iterator_next_1 _)))
 show wpAny _ _ (field (.ref it) 0 >>= _) _ _ s
 refine Yaa (Ya8 ho hd (x:=.ref t) rfl ?_)
 show wpAny _ _ (if(Value.ref t==Value.none)=true then _ else _) _ _ s
 rw [Yah (show ¬((Value.ref t==Value.none)=true) from Yag)]
 show wpAny _ _ (field (.ref it) 1 >>= _) _ _ s
 refine Yaa (Ya8 ho hd (x:=.int i 0) rfl ?_)
 show wpAny _ _ (seqItems? (.ref t) >>= _) _ _ s
 refine Yaa (Yb3 hol hdl ?_)
 simp only [Int.toNat_natCast,hx]
 refine Yaa (wpAny_setField ho hd (by simp) (Yab ⟨x,rfl,Yab (hQ _ ?_ (Ybs ..))⟩))
 exact⟨_,Heap.get?_update_self _ ho (Obj.isFreed_of_fields (Yd0 hd _)),(Obj.cls_mapFields ..).trans hc,by
  rw [Yd0 hd];simp [rawInt]⟩
theorem Ei{it t:Addr}{i:Nat}{items}{Q:Value->Shared->Prop}(hh:A.handled=none)
  (cr:s.heap.IsTupleIter it t i) (ht:s.heap.IsTuple t items) (hx:items[i]?=none)
  (hE:∀h' e,Heap.ExtBut it s.heap h'->(∃o,h'.get? e=some o/\o.cls=.type "StopIteration")->E (.ref e) { s with heap:=h' }) :
  wpAny (model prog w) A (Builtin.SmallTypes.nextOf (.ref it)) Q E s:=by
 obtain⟨o,ho,hc,hd⟩:=id cr
 obtain⟨ol,hol,_,nl,hdl⟩:=ht
 unfold Builtin.SmallTypes.nextOf
 refine Yaa (wpAny_callSpecial?_slot (name:=Str.ofString "__next__") cr.typeIs F.slot_tuple_iterator_next
  (Ya3 F.slot_tuple_iterator_next cr.typeIs F.entry_tuple_iterator_next ?_ (F.args_tuple_iterator_next_1 _)))
 show wpAny _ _ (field (.ref it) 0 >>= _) _ _ s
 refine Yaa (Ya8 ho hd (x:=.ref t) rfl ?_)
 show wpAny _ _ (if(Value.ref t==Value.none)=true then _ else _) _ _ s
 rw [Yah (show ¬((Value.ref t==Value.none)=true) from Yag)]
 show wpAny _ _ (field (.ref it) 1 >>= _) _ _ s
 refine Yaa (Ya8 ho hd (x:=.int i 0) rfl ?_)
 show wpAny _ _ (seqItems? (.ref t) >>= _) _ _ s
 refine Yaa (Yb3 hol hdl ?_)
 simp only [Int.toNat_natCast,hx]
 refine Yaa (Ycb (Yaa (wpAny_setField ho hd (by simp) ?_)))
 show wpAny _ _ (newExc (.type "StopIteration") [] >>= _) _ _ _
 refine Yaa ?_
 simp only [newExc,newTuple]
 refine Yaa (Yay ?_ (by size_fits))
 refine Yaa (m:=firstArgMember _ _) (wpAny_of_eq (a:=Value.none) (by first | rfl | (simp only [firstArgMember];rfl)) ?_)
 refine Yay ?_ (by size_fits)
 simp only [raiseNew]
 refine Yaa (wpAny_handled ?_)
 first | rw [show A.in1.handled=none from hh] | rw [hh]
 refine Yaa (Yab (wpAny_throw ?_))
 exact hE _ _ (((Ybs ..).extBut.push _).push _) ⟨_,Heap.get?_push_size _ rfl,rfl⟩
end
theorem Gw{prog:Program}{w:World}{A:Around}(hh:A.handled=none)(it l:Addr)(ay:l≠it)(items:Array Value) :
  Draws prog w A it [it,l] items.size (λi v=>items[i]?=some v) (λi h=>h.IsTupleIter it l i/\h.IsTuple l items) where
 live:=λ_ _ st=>let⟨o,ho,_⟩:=st.1;⟨o,ho⟩
 frame:=λ_ _ _ st hk=>⟨st.1.at λo e=>hk it (by simp) o e,st.2.at λo e=>hk l (by simp) o e⟩
 item:=λi s Q E hi st hQ=>by
  refine D2 st.1 st.2 (x:=items[i]) (by simp [hi]) λh' ip dw=>?_
  exact hQ _ h' s.toks (by simp [hi]) ⟨ip,st.2.extBut dw.extBut ay⟩ dw
 done:=λs Q E st hE=>Ei hh st.1 st.2 (by simp) hE
section
variable {prog:Program}{w:World}{A:Around}{E:Value->Shared->Prop}{s:Shared}
end
end PySem
namespace L2
open PySem PySem.Spec PyProof.Rows
def Hw(ds:List PyData)(lo hi:Option Int):List PyData:=(ds.drop (HT.sIx ds.length 0 lo)).take (HT.sIx ds.length ds.length hi - HT.sIx ds.length 0 lo)
section
variable {X:Cx}{k:Nat}
noncomputable def Ml(h:Heap)(e:PyData)(u:Value):Bool:=@decide (∃d as,Reads h u d as/\d.canLay0=true/\PyData.eqv d e=true) (Classical.propDecidable _)
theorem Zp{h:Heap}{e d:PyData}{u:Value}{as:List Addr}(r:Reads h u d as)(c:d.canLay0=true):Ml h e u=PyData.eqv d e:=by
 unfold Ml
 cases q:PyData.eqv d e with
 | true=>exact @Ybi _ (Classical.propDecidable _) ⟨d,as,r,c,q⟩
 | false =>
  refine @Ybn _ (Classical.propDecidable _) λmw=>?_
  obtain⟨d',je,r',_,q'⟩:=mw
  rw [SeqAt.Reads.unique d d' u as je c r r',q']at q
  cases q
theorem Da{A:Around}{s:Shared}{e:PyData}{v:Value}{bs:List Addr}(rv:Reads s.heap v e bs)(ce:e.canLay0=true)(hu:A.units+64 < cLine):∀{ds:List PyData} {us:List Value} {as:List Addr},ReadsAll s.heap us ds as ->
  PyData.canLayAll0 ds=true->PyData.depthAll ds<=64->(∀u∈us,SeqAt.EqAt A s u v (Ml s.heap e u))/\us.any (Ml s.heap e)=ds.any λd=>PyData.eqv d e
 | [],_,_,r,_,_=>by
  cases r
  exact⟨(λ_ z=>nomatch z),rfl⟩
 | d :: ds,_,_,r,c,dp=>by
  cases r with
  | cons r1 r2 =>
   simp only [PyData.canLayAll0,Bool.and_eq_true]at c
   simp only [PyData.depthAll]at dp
   obtain⟨i1,i2⟩:=Da rv ce hu r2 c.2 (by omega)
   have e1:=Zp (e:=e) r1 c.1
   refine⟨λu hu'=>?_,?_⟩
   ·rcases Ya1.mp hu' with rfl | z
    ·rw [e1]
     exact SeqAt.eqAt_reads d e A s _ v _ _ r1 rv c.1 ce (by omega)
    ·exact i1 u z
   ·rw [Ycv,Ycv,e1,i2]
end
section
variable {X:Cx}{aa:List (Addr×Obj)}{σ:St}{H:Hp}{s:Shared}{h':Heap}
theorem Inv.track{T:Addr}{o:HO}(I:Inv X aa σ H s)(hT:Eo X aa H T)(new:Bm X.prog X.w (upd H T o) s.heap T o):Inv X aa σ (upd H T o) s:=by
 obtain⟨f0,f1,_,f3,f4,f5⟩:=hT
 have nT:∀b u,H b=some u->b≠T:=λb u e z=>by rw [z,f0]at e;cases e
 refine I.step (H':=upd H T o) (h':=s.heap) (g':=s.gens) (d':=s.drawn) (t':=s.toks) (ch:=[T]) (λb hb=>?_) (λb o _ _ _ e _=>e) (λb o _ _ _ e _=>⟨o.slots,e⟩)
  (λb u hc _ n=>by rw [Ap (λz=>hc (by simp [z]))];exact n) (λb o _ e=>⟨o,e⟩) (λb xs e=>by rw [Ap (nT b _ e)];exact e) (λb u v e=>by rw [Ap (nT b _ e)];exact e)
  (λb ps e=>⟨#[],by rw [Ap (nT b _ e),e];simp⟩) (λm hm=>hm) (λb u e=>?_) I.bare
 ·have e:b=T:=by simpa using hb
  subst e
  exact⟨f3,f1,f4,f5⟩
 ·by_cases hb:b=T
  ·subst hb
   rw [Bh]at e
   cases e
   exact new
  ·rw [Ap hb]at e
   exact(I.hok b u e).stay (λ_ _ _ q=>q) (λc q=>by rw [Ap (nT c _ q)];exact q) λc xs q=>by rw [Ap (nT c _ q)];exact q
end
section
variable {X:Cx}
theorem Zq{J:It}{g:TG}{tb:TS}{D:Ends}{σ:St}{H:Hp}(n:Nat)(Pv:Nat->St->Hp->Prop)(h0:Pv 0 σ H)(i0:∀i σ H,i < n->Pv i σ H->J.go i H)(h8:∀ σ H,Pv n σ H->J.stop n H/\D.nx σ H)
  (hs:∀i x σ H H2,i < n->Pv i σ H->J.yld i H x H2->g x σ H2 fun σ2 H3=>tb { D with nx:=Pv (i+1),ct:=Pv (i+1),bk:=D.nx } σ2 H3) :
  ∃W:Nat->Nat->St->Hp->Prop,(∃m,W 0 m σ H)/\∀i m σ H,W i m σ H ->
   (J.stop i H/\D.nx σ H)\/(J.go i H/\∃N:St->Hp->Prop,(∀ σ' H',N σ' H'->∃m',m' < m/\W (i+1) m' σ' H')/\∀x H',J.yld i H x H'->g x σ H' fun σ2 H2=>tb { D with nx:=N,ct:=N,bk:=D.nx } σ2 H2):=by
 refine⟨λi m σ H=>m=n - i/\i<=n/\Pv i σ H,⟨n,by simp,Ya4 _,h0⟩,?_⟩
 rintro i m σ H ⟨rfl,hi,p⟩
 by_cases hlt:i < n
 ·exact .inr ⟨i0 i σ H hlt p,Pv (i+1),fun σ' H' p'=>⟨n - (i+1),by omega,rfl,hlt,p'⟩,λx H' y=>hs i x σ H H' hlt p y⟩
 ·have e:i=n:=by omega
  subst e
  exact .inl (h8 σ H p)
theorem Jt:Go X (binaryOp .Mult) (λx y H Q=>∃z n,x=.str z/\y=.int n/\(n=0\/n=1)/\Q (.str (if n=0 then Str.empty else z)) H):=by
 intro aa s σ H x y v u Q I rx ry h
 obtain⟨z,n,rfl,rfl,hn,q⟩:=h
 obtain⟨t,rfl⟩:=rx
 obtain⟨t',rfl⟩:=ry
 rcases hn with rfl | rfl
 ·exact P.mul_str_none (by decide) (by decide) ⟨.str Str.empty,H,I.tok _,⟨_,rfl⟩,by simpa using q⟩
 ·refine P.mul_str (by decide) (λ_ z=>by simp at z) (λ_ z=>by simp at z) ?_
  rw [Yah (by decide),Yaj (by simp)]
  exact⟨.str z,H,I,⟨_,rfl⟩,by simpa using q⟩
end
theorem Same.tr{H H1 H2:Hp}(a:Same H H1)(b:Same H1 H2):Same H H2:=λc o h=>b c o (a c o h)
section
variable {X:Cx}
end
end L2
namespace HT
open PySem PySem.Spec PyProof.Rows
section
variable {prog:Program}{w:World}{A:Around}{E:Value->Shared->Prop}{s:Shared}
theorem getItem_tuple_all{t sl:Addr}{items:Array Value}{vl vu:Value}{lo hi:Option Int}{Q:Value->Shared->Prop}(ht:IsTup s.heap t items)(hs:s.heap.IsSliceOf sl vl vu .none)(pl:IsPart vl lo)(pu:IsPart vu hi)
  (hw:sIx items.size 0 lo=0/\sIx items.size items.size hi=items.size)
  (h:Q (.ref t) s):wpAny (model prog w) A (getItem (.ref t) (.ref sl)) Q E s:=by
 obtain⟨os,hos,hcs,hds⟩:=id hs
 have xj:s.TypeIs (.ref sl) "slice" := ⟨os,hos,hcs⟩
 unfold getItem
 try with_reducible refine Ybf ?_
 first | refine Yaa (Yab ?_) | skip
 refine Yaa (wpAny_sequenceKey ht.typeIs (by decide) ?_)
 refine Yaa (wpAny_callSpecial?_slot (name:=Str.ofString "__getitem__") ht.typeIs Ybo
  (Ya3 Ybo ht.typeIs entry_tuple_getitem ?_ (args_tuple_getitem _ _)))
 show wpAny _ _ (Builtin.Tuple.tupleItemsOf (.ref t) >>= _) _ _ s
 refine Yaa (tupleItemsOf_ ht ?_)
 refine Yaa (Ydj xj ?_)
 rw [Yaj (by decide)]
 refine Yaa (C9 hs pl pu ?_)
 have xn:(((sIx items.size 0 lo:Nat):Int)==0 && (1:Int)==1 && (sIx items.size items.size hi - sIx items.size 0 lo)==items.size)=true:=by
  rw [hw.1,hw.2];simp
 show wpAny _ _ (if(((sIx items.size 0 lo:Nat):Int)==0 && (1:Int)==1 && (sIx items.size items.size hi - sIx items.size 0 lo)==items.size)=true then _ else _) _ _ s
 rw [Yaj xn]
 unfold Builtin.Tuple.tupleIsExact
 refine Yaa (Yaa (Ydj ht.typeIs (Yab ?_)))
 rw [Yaj (by decide)]
 refine Yaa (Ycb ?_)
 first
  | exact Yab ⟨_,rfl,Yab h⟩
  | exact Yaa (Yab (Yab ⟨_,rfl,Yab h⟩))
  | exact Yaa (Yab ⟨_,rfl,Yab h⟩)
end
end HT
namespace L2
open PySem PySem.Spec PyProof.Rows
section
variable {X:Cx}
theorem Se{ds:List PyData}{lo hi:Option Int}(h:HT.sIx ds.length 0 lo=0/\HT.sIx ds.length ds.length hi=ds.length):Hw ds lo hi=ds:=by
 unfold Hw
 rw [h.1,h.2,List.drop_zero,Nat.sub_zero,Yb5 (Yad _)]
end
section
variable {X:Cx}
end
end L2
namespace PySem
open Sem (wp)
open AutoSeq1 (wpAny_loadPart')
set_option maxRecDepth 100000
section
variable {prog:Program}{w:World}{K:Type} [DecidableEq K]
end
end PySem
namespace L2
open PySem PySem.Spec PyProof.Rows
section
variable {X:Cx}
theorem Gx{α β:Type}{F:α->β->Prop}:∀{l₁:List α} {l₂:List β} {j:Nat} {a:α},Paired F l₁ l₂->l₁[j]?=some a->∃b,l₂[j]?=some b/\F a b
 | _,_,_,_,.nil,e=>by simp at e
 | _,_,0,_,.cons r _,e=>by simp at e;subst e;exact⟨_,rfl,r⟩
 | _,_,j+1,a,.cons _ t,e=>by
  obtain⟨b,h1,h2⟩:=Gx (j:=j) (a:=a) t (by simpa using e)
  exact⟨b,by simpa using h1,h2⟩
end
section
variable {X:Cx}{K:PySem.W.Frag}
variable {o e:Expr}{es:List Expr}{to:TE}{t:TA}{name:Str}{aw aq:Pos}{T id:String}{r:V->List V->Hp->VK->Prop}
theorem P7:MtR X "str.join" (λx xs H Q=>∃z p ys,x=.str z/\xs=[.ref p]/\H p=some (.lst (ys.map V.str))/\(ys.map (·.length)).sum+ys.length * z.length<=16777216/\Q (.str (Txt.join z ys)) H):=by
 intro aa s σ H x xs v us Q I rx r h
 obtain⟨z,p,ys,e1,e2,hp,hz,q⟩:=h
 exact Vq aa s σ H x xs v us Q I rx r ⟨z,p,ys,e1,e2,Dx.of hp,hz,q⟩
end
def Cal(P:Program)(w:World)(K:PySem.W.Frag)(mg:Str->Option Value)(base:Heap)(n:Nat)(x:Str)(ps:List Str)(sp:Sp):Prop :=
 ∃g gd,FnOk P w K mg base Ep n g gd ps sp/\Binds K gd ps []/\PySem.W.keepIn K (.ref g)=true/\mg x=some (.ref g)
theorem Cal.mono{P:Program}{w:World}{K:PySem.W.Frag}{mg:Str->Option Value}{base:Heap}{n m:Nat}{x:Str}{ps:List Str}{sp:Sp}(c:Cal P w K mg base n x ps sp)(h:n<=m):Cal P w K mg base m x ps sp :=
 let⟨g,gd,G,r⟩:=c;⟨g,gd,G.mono h,r⟩
end L2
namespace L2
open PySem PySem.Spec PySem.Calls PyProof.Rows
section
variable {prog:Program}{w:World}{A:Around}{E:Value->Shared->Prop}{s:Shared}{K:PySem.W.Frag}{x C:Addr}{ox:Obj}{od:Option Obj}{name:Str}
end
abbrev bmV:List Value:=[.type "ValueError",.type "Exception",.type "BaseException",.type "object"]
def Qhq(K:PySem.W.Frag)(C:Addr)(cd:ClassData)(sl:Array (Option Value)):Bool:=cd.mro.head?==some (.ref C) && !cd.hasDel && PySem.W.tailIn K bmV cd.mro.tail && sl.size==6 && sl[4]?==some (some (.builtin "ValueError.__new__"))
theorem Qfw{sl:Array (Option Value)}{v:Option Value}(h:sl.size=6)(e:sl[4]?=some v):∃k0 k1 k2 k3 k5,sl=#[k0,k1,k2,k3,v,k5]:=by
 obtain⟨l⟩:=sl
 match l,h with
 | [k0,k1,k2,k3,k4,k5],_ =>
  have:k4=v:=by simpa using e
  subst this
  exact⟨k0,k1,k2,k3,k5,rfl⟩
section
variable {prog:Program}{w:World}{A:Around}{E:Value->Shared->Prop}{h:Heap}{g:Array GenState}{d:Drawn}{t:Nat}{os:OsState}{K:PySem.W.Frag}{C:Addr}
end
section
open Builtin Builtin.ObjectAttr
variable {prog:Program}{w:World}{A:Around}{E:Value->Shared->Prop}{s:Shared}{K:PySem.W.Frag}{x C:Addr}{ox:Obj}{od:Option Obj}{name:Str}{v:Value}{R:Result->Shared->Prop}
end
end L2
namespace L2
open PySem PySem.Spec PySem.Calls PyProof.Rows
def XD(dx:Addr)(fs:List (Str×V)):HO:=.ext λh=>∃mA,h.Ns1 dx mA/\(∀f,Fi (fs.lookup f) (mA f))/\PySem.Within mA (fs.map (·.1))
section
variable {P:Program}{w:World}{H:Hp}{h:Heap}{e C t dx:Addr}{d:Option Addr}{fs:List (Str×V)}
end
section
variable {X:Cx}{aa:List (Addr×Obj)}{σ:St}{H:Hp}{s:Shared}{e C t dx:Addr}{fs:List (Str×V)}{f:Str}{v:V}{A:Around}{E:Value->Shared->Prop}
end
section
variable {X:Cx}{CX:CXT}{k:Nat}{f C:Addr}{fd:FuncData}{ps:List Str}{sp:Sp}{E:XK}{x:Str}{p pos bj aw:Pos}{e o value:Expr}{es:List Expr}{t:TA}{ta tv:TE}{fl:Str}
end
section
variable {X:Cx}
end
section
variable {M:Model}{A:Around}{E:Value->Shared->Prop}{s:Shared}{base:Heap}{env:Env}{outer:List Env}{L e:Addr}{cls:Value}{d:Option Addr}{vs:Array Value}
end
section
variable {prog:Program}{w:World}{A:Around}{E:Value->Shared->Prop}{s:Shared}{K:PySem.W.Frag}{env:Env}{e C:Addr}{d:Option Addr}{vs:Array Value}
end
def XR(e C:Addr)(d:Option Addr):HO:=.ext λh=>∃vs:Array Value,h.get? e=some ⟨.ref C,d,.fields vs,#[]⟩/\vs.size=6
section
variable {X:Cx}{aa:List (Addr×Obj)}{σ:St}{H:Hp}{s:Shared}{a C:Addr}{d:Option Addr}{h':Heap}
end
section
variable {M:Model}{A:Around}{E:Value->Shared->Prop}{s:Shared}{base:Heap}{env:Env}{outer:List Env}{L e:Addr}{cls:Value}{d:Option Addr}{vs:Array Value}
end
section
variable {prog:Program}{w:World}{A:Around}{E:Value->Shared->Prop}{s:Shared}{K:PySem.W.Frag}{e C D:Addr}{d:Option Addr}{vs:Array Value}
end
section
variable {X:Cx}{aa:List (Addr×Obj)}{σ:St}{H:Hp}{s:Shared}
end
end L2
namespace L2
open PySem PySem.Spec PyProof.Rows
inductive AV where
 | D (d:PyData) | R (a:Addr) | C (ds:List PyData) | X (C:Addr) (fs:List (Str×PyData))
 deriving Inhabited
mutual
def Cano:PyData->Bool
 | .int _=>true
 | .str _=>true
 | .tuple xs=>Ax xs
 | _=>false
def Ax:List PyData->Bool
 | []=>true
 | x :: xs=>Cano x && Ax xs
end
structure KeyTree(d:PyData):Prop where
 can:Cano d=true
 lay:d.canLay0=true
 dep:d.depth<=6
def Vr(K:PySem.W.Frag)(H:Hp)(a:Addr)(xs:List V):Prop :=
 (∃o,H a=some (.frz o (.lst xs))) \/
  ∃(o:Obj) (ah:Array Value) (n:Nat),K.lookup a=some o/\o.cls=.type "list" /\ o.dict=none/\o.data=.seq ah n/\ah.size<=sizeLine/\Vals xs ah.toList
theorem Vr.sq{K:PySem.W.Frag}{H:Hp}{a:Addr}{xs:List V}(h:Vr K H a xs):Dx K H a xs:=by
 rcases h with⟨o,h⟩ | h
 ·exact .inl (.inr ⟨o,h⟩)
 ·exact .inr h
def Lit:List PyData->Bool
 | .str _ :: _=>true
 | .tuple _ :: _=>true
 | _=>false
def Uv(K:PySem.W.Frag)(H:Hp)(a:Addr)(ds:List PyData)(xs:List V):Prop :=
 H a=some (.tup xs)\/(Lit ds=true/\∃(o:Obj) (ah:Array Value) (n:Nat),K.lookup a=some o/\o.cls=.type "tuple" /\ o.data=.seq ah n/\ah.size<=sizeLine/\Vals xs ah.toList)
theorem Uv.sq{K:PySem.W.Frag}{H:Hp}{a:Addr}{ds:List PyData}{xs:List V}(h:Uv K H a ds xs):Hr K H a xs:=by
 rcases h with h | h
 ·exact Hr.of h
 ·exact .inr h.2
mutual
def Dk(K:PySem.W.Frag)(H:Hp):PyData->V->Prop
 | .none,x=>x=.non
 | .bool b,x=>x=.bl b
 | .int i,x=>x=.int i
 | .str z,x=>x=.str z
 | .list ds,x=>∃a xs,x=.ref a/\Vr K H a xs/\Aj K H ds xs
 | .tuple ds,x=>∃a xs,x=.ref a/\Uv K H a ds xs/\Aj K H ds xs
 | .dict _,_=>False
def Aj(K:PySem.W.Frag)(H:Hp):List PyData->List V->Prop
 | [],xs=>xs=[]
 | d :: ds,xs=>∃x r,xs=x :: r/\Dk K H d x/\Aj K H ds r
end
structure Kp(H H':Hp):Prop where
 t:∀b xs,H b=some (.tup xs)->H' b=some (.tup xs)
 f:∀b o u,H b=some (.frz o u)->H' b=some (.frz o u)
theorem Kp.refl{H:Hp}:Kp H H:=⟨λ_ _ h=>h,λ_ _ _ h=>h⟩
theorem Kp.trans{H H1 H2:Hp}(a:Kp H H1)(b:Kp H1 H2):Kp H H2:=⟨λc xs h=>b.t c xs (a.t c xs h),λc o u h=>b.f c o u (a.f c o u h)⟩
theorem Kp.new{H:Hp}{p:Addr}(h:H p=none)(o:HO):Kp H (upd H p o) :=
 ⟨λb xs e=>by rw [Ap (Bk e h)];exact e,λb o' u e=>by rw [Ap (Bk e h)];exact e⟩
def Mt:HO->Prop
 | .lst _=>True
 | .dK _=>True
 | .dT _=>True
 | .dd _=>True
 | _=>False
theorem Kp.put{H:Hp}{p:Addr}{o0:HO}(h:H p=some o0)(m:Mt o0)(o:HO):Kp H (upd H p o) :=
 ⟨λb xs e=>by rw [Ap (N0 e h (by intro z;subst z;exact m))];exact e,λb o' u e=>by rw [Ap (N0 e h (by intro z;subst z;exact m))];exact e⟩
theorem Vr.kp{K:PySem.W.Frag}{H H':Hp}{a:Addr}{xs:List V}(S:Kp H H')(h:Vr K H a xs):Vr K H' a xs:=by
 rcases h with⟨o,h⟩ | h
 ·exact .inl ⟨o,S.f _ _ _ h⟩
 ·exact .inr h
theorem Uv.kp{K:PySem.W.Frag}{H H':Hp}{a:Addr}{ds:List PyData}{xs:List V}(S:Kp H H')(h:Uv K H a ds xs):Uv K H' a ds xs:=by
 rcases h with h | h
 ·exact .inl (S.t _ _ h)
 ·exact .inr h
section
variable {K:PySem.W.Frag}{H H':Hp}
mutual
theorem Dk.kp(S:Kp H H'):∀(d:PyData) (x:V),Dk K H d x->Dk K H' d x
 | .none,x,h=>by simp only [Dk]at h ⊢;exact h
 | .bool b,x,h=>by simp only [Dk]at h ⊢;exact h
 | .int i,x,h=>by simp only [Dk]at h ⊢;exact h
 | .str z,x,h=>by simp only [Dk]at h ⊢;exact h
 | .list ds,x,h=>by
  simp only [Dk]at h ⊢
  obtain⟨a,xs,e,q,r⟩:=h
  exact⟨a,xs,e,q.kp S,Aj.kp S ds xs r⟩
 | .tuple ds,x,h=>by
  simp only [Dk]at h ⊢
  obtain⟨a,xs,e,q,r⟩:=h
  exact⟨a,xs,e,q.kp S,Aj.kp S ds xs r⟩
 | .dict _,x,h=>by simp only [Dk]at h
theorem Aj.kp(S:Kp H H'):∀(ds:List PyData) (xs:List V),Aj K H ds xs->Aj K H' ds xs
 | [],xs,h=>by simp only [Aj]at h ⊢;exact h
 | d :: ds,xs,h=>by
  simp only [Aj]at h ⊢
  obtain⟨x,r,e,h1,h2⟩:=h
  exact⟨x,r,e,Dk.kp S d x h1,Aj.kp S ds r h2⟩
end
theorem D3{i:Int}:Dk K H (.int i) (.int i):=by simp only [Dk]
theorem K0{b:Bool}:Dk K H (.bool b) (.bl b):=by simp only [Dk]
theorem Mw{z:Str}:Dk K H (.str z) (.str z):=by simp only [Dk]
theorem Zr:Dk K H .none .non:=by simp only [Dk]
theorem Dk.int{x:V}{i:Int}(h:Dk K H (.int i) x):x=.int i:=by simp only [Dk]at h;exact h
theorem Dk.bl{x:V}{i:Bool}(h:Dk K H (.bool i) x):x=.bl i:=by simp only [Dk]at h;exact h
theorem Dk.str{x:V}{i:Str}(h:Dk K H (.str i) x):x=.str i:=by simp only [Dk]at h;exact h
theorem Dk.non{x:V}(h:Dk K H .none x):x=.non:=by simp only [Dk]at h;exact h
theorem Dk.tup{x:V}{ds:List PyData}(h:Dk K H (.tuple ds) x):∃a xs,x=.ref a/\Uv K H a ds xs/\Aj K H ds xs:=by simp only [Dk]at h;exact h
theorem Dk.lst{x:V}{ds:List PyData}(h:Dk K H (.list ds) x):∃a xs,x=.ref a/\Vr K H a xs/\Aj K H ds xs:=by simp only [Dk]at h;exact h
theorem Es{a:Addr}{xs:List V}{ds:List PyData}(h:H a=some (.tup xs))(r:Aj K H ds xs):Dk K H (.tuple ds) (.ref a):=by simp only [Dk];exact⟨a,xs,rfl,.inl h,r⟩
theorem Zs{a:Addr}{xs:List V}{ds:List PyData}(h:Vr K H a xs)(r:Aj K H ds xs):Dk K H (.list ds) (.ref a):=by simp only [Dk];exact⟨a,xs,rfl,h,r⟩
theorem Cc:Aj K H [] []:=by simp only [Aj]
theorem Bw{d:PyData}{ds:List PyData}{x:V}{xs:List V}(h:Dk K H d x)(r:Aj K H ds xs):Aj K H (d :: ds) (x :: xs):=by simp only [Aj];exact⟨x,xs,rfl,h,r⟩
theorem Aj.cons{d:PyData}{ds:List PyData}{xs:List V}(h:Aj K H (d :: ds) xs):∃x r,xs=x :: r/\Dk K H d x/\Aj K H ds r:=by simp only [Aj]at h;exact h
theorem Aj.nil{xs:List V}(h:Aj K H [] xs):xs=[]:=by simp only [Aj]at h;exact h
theorem Aj.length:∀{ds:List PyData} {xs:List V},Aj K H ds xs->xs.length=ds.length
 | [],_,h=>by rw [h.nil];rfl
 | _ :: ds,_,h=>by
  obtain⟨x,r,rfl,_,h2⟩:=h.cons
  rw [Ybk,Ybk,Aj.length h2]
theorem Aj.get:∀{ds:List PyData} {xs:List V} {i:Nat} {d:PyData},Aj K H ds xs->ds[i]?=some d->∃x,xs[i]?=some x/\Dk K H d x
 | [],_,_,_,_,e=>by simp at e
 | _ :: ds,_,0,d,h,e=>by
  obtain⟨x,r,rfl,h1,_⟩:=h.cons
  simp at e;subst e
  exact⟨x,rfl,h1⟩
 | _ :: ds,_,i+1,d,h,e=>by
  obtain⟨x,r,rfl,_,h2⟩:=h.cons
  obtain⟨y,e1,e2⟩:=Aj.get (i:=i) (d:=d) h2 (by simpa using e)
  exact⟨y,by simpa using e1,e2⟩
theorem Aj.append:∀{ds es:List PyData} {xs ys:List V},Aj K H ds xs->Aj K H es ys->Aj K H (ds++es) (xs++ys)
 | [],_,_,_,h,k=>by rw [h.nil];exact k
 | _ :: ds,_,_,_,h,k=>by
  obtain⟨x,r,rfl,h1,h2⟩:=h.cons
  exact Bw h1 (Aj.append h2 k)
theorem Aj.drop:∀(n:Nat) {ds:List PyData} {xs:List V},Aj K H ds xs->Aj K H (ds.drop n) (xs.drop n)
 | 0,_,_,h=>h
 | _+1,[],_,h=>by rw [h.nil];exact Cc
 | n+1,_ :: ds,_,h=>by
  obtain⟨x,r,rfl,_,h2⟩:=h.cons
  exact Aj.drop n h2
theorem Aj.take:∀(n:Nat) {ds:List PyData} {xs:List V},Aj K H ds xs->Aj K H (ds.take n) (xs.take n)
 | 0,_,_,_=>Cc
 | _+1,[],_,h=>by rw [h.nil];exact Cc
 | n+1,_ :: ds,_,h=>by
  obtain⟨x,r,rfl,h1,h2⟩:=h.cons
  exact Bw h1 (Aj.take n h2)
theorem Aj.cut{ds:List PyData}{xs:List V}(h:Aj K H ds xs)(lo hi:Option Int):Aj K H (Hw ds lo hi) (Hu xs lo hi):=by
 unfold Hw Hu
 rw [h.length]
 exact(h.drop _).take _
theorem Aj.atI{ds:List PyData}{xs:List V}{i:Int}{d:PyData}(h:Aj K H ds xs)(e:atI ds i=some d):∃x,L2.atI xs i=some x/\Dk K H d x:=by
 unfold L2.atI at e ⊢
 rw [h.length]
 cases q:Uu ds.length i with
 | none=>rw [q]at e;cases e
 | some j =>
  rw [q]at e
  obtain⟨x,hx,hd⟩:=h.get (show ds[j]?=some d from e)
  exact⟨x,hx,hd⟩
def Vs(K:PySem.W.Frag)(H:Hp):List (Str×PyData)->List (Str×V)->Prop:=Paired λp q=>p.1=q.1/\Dk K H p.2 q.2
theorem Vs.kp{fs:List (Str×PyData)}{vs:List (Str×V)}(S:Kp H H')(h:Vs K H fs vs):Vs K H' fs vs:=Paired.mapP h λp q r=>⟨r.1,Dk.kp S _ _ r.2⟩
def XFs(K:PySem.W.Frag)(H:Hp)(d:Option Addr)(fs:List (Str×PyData)):Prop:=match d with
 | none=>fs=[]
 | some d=>∃od ae,H d=some (.frz od (XD d ae))/\Vs K H fs ae
theorem XFs.kp{d:Option Addr}{fs:List (Str×PyData)}(S:Kp H H')(h:XFs K H d fs):XFs K H' d fs:=by
 cases d with
 | none=>exact h
 | some d=>obtain⟨od,ae,q,r⟩:=h;exact⟨od,ae,S.f _ _ _ q,r.kp S⟩
def RelA(K:PySem.W.Frag)(H:Hp):AV->V->Prop
 | .D d,v=>Dk K H d v
 | .R a,v=>v=.ref a
 | .C ds,v=>∃a xs,v=.ref a/\(∀H,Hr K H a xs)/\Aj K H ds xs
 | .X C fs,v=>∃a o d,v=.ref a/\H a=some (.frz o (XR a C d))/\XFs K H d fs
theorem Cv{i:Int}:RelA K H (.D (.int i)) (.int i):=D3 (K:=K) (H:=H)
theorem D4{i:Bool}:RelA K H (.D (.bool i)) (.bl i):=K0 (K:=K) (H:=H)
theorem Gy{i:Str}:RelA K H (.D (.str i)) (.str i):=Mw (K:=K) (H:=H)
theorem Mx:RelA K H (.D .none) .non:=Zr (K:=K) (H:=H)
theorem RelA.int{x:V}{i:Int}(h:RelA K H (.D (.int i)) x):x=.int i:=Dk.int (K:=K) (H:=H) h
theorem RelA.bl{x:V}{i:Bool}(h:RelA K H (.D (.bool i)) x):x=.bl i:=Dk.bl (K:=K) (H:=H) h
theorem RelA.str{x:V}{i:Str}(h:RelA K H (.D (.str i)) x):x=.str i:=Dk.str (K:=K) (H:=H) h
theorem RelA.non{x:V}(h:RelA K H (.D .none) x):x=.non:=Dk.non (K:=K) (H:=H) h
theorem RelA.tup{x:V}{ds:List PyData}(h:RelA K H (.D (.tuple ds)) x):∃a xs,x=.ref a/\Uv K H a ds xs/\Aj K H ds xs:=Dk.tup (K:=K) (H:=H) h
theorem RelA.lst{x:V}{ds:List PyData}(h:RelA K H (.D (.list ds)) x):∃a xs,x=.ref a/\Vr K H a xs/\Aj K H ds xs:=Dk.lst (K:=K) (H:=H) h
theorem RelA.ref{x:V}{a:Addr}(h:RelA K H (.R a) x):x=.ref a:=h
theorem C7{a:Addr}:RelA K H (.R a) (.ref a):=rfl
theorem P8{d:PyData}{v:V}(h:Dk K H d v):RelA K H (.D d) v:=h
theorem Sf{a:Addr}{xs:List V}{ds:List PyData}(h:H a=some (.tup xs))(r:Aj K H ds xs):RelA K H (.D (.tuple ds)) (.ref a):=Es (K:=K) (H:=H) h r
abbrev An(K:PySem.W.Frag)(H:Hp):List AV->List V->Prop:=Paired (RelA K H)
theorem RelA.kp(S:Kp H H'):∀{x:AV} {v:V},RelA K H x v->RelA K H' x v
 | .D d,v,h=>Dk.kp S d v h
 | .R a,_,h=>h
 | .C ds,v,⟨a,xs,e,q,r⟩=>⟨a,xs,e,q,Aj.kp S ds xs r⟩
 | .X C fs,v,⟨a,o,d,e,q,r⟩=>⟨a,o,d,e,S.f _ _ _ q,r.kp S⟩
theorem An.kp(S:Kp H H'){xs:List AV}{vs:List V}(h:An K H xs vs):An K H' xs vs:=Paired.mapP h λ_ _ q=>q.kp S
theorem An.length{xs:List AV}{vs:List V}(h:An K H xs vs):xs.length=vs.length:=Ycc h
theorem An.append{xs ys:List AV}{us ws:List V}(h:An K H xs us)(s:An K H ys ws):An K H (xs++ys) (us++ws):=by
 induction h with
 | nil=>exact s
 | cons r t ih=>exact .cons r ih
theorem An.get:∀{xs:List AV} {us:List V} {i:Nat} {x:AV},An K H xs us->xs[i]?=some x->∃u,us[i]?=some u/\RelA K H x u
 | _,_,_,_,.nil,e=>by simp at e
 | _,_,0,_,.cons r _,e=>by simp at e;subst e;exact⟨_,rfl,r⟩
 | _,_,i+1,x,.cons _ t,e=>by
  obtain⟨u,h1,h2⟩:=An.get (i:=i) (x:=x) t (by simpa using e)
  exact⟨u,by simpa using h1,h2⟩
theorem An.set{x:AV}{u:V}(r:RelA K H x u):∀{xs:List AV} {us:List V} (i:Nat),An K H xs us->An K H (xs.set i x) (us.set i u)
 | _,_,_,.nil=>.nil
 | _,_,0,.cons _ t=>.cons r t
 | _,_,i+1,.cons q t=>.cons q (An.set r i t)
theorem An.drop:∀{xs:List AV} {us:List V} (n:Nat),An K H xs us->An K H (xs.drop n) (us.drop n)
 | _,_,0,r=>r
 | _,_,_+1,.nil=>.nil
 | _,_,n+1,.cons _ t=>An.drop n t
theorem An.take:∀{xs:List AV} {us:List V} (n:Nat),An K H xs us->An K H (xs.take n) (us.take n)
 | _,_,0,_=>.nil
 | _,_,_+1,.nil=>.nil
 | _,_,n+1,.cons r t=>.cons r (An.take n t)
theorem An.eraseIdx:∀{xs:List AV} {us:List V} (n:Nat),An K H xs us->An K H (xs.eraseIdx n) (us.eraseIdx n)
 | _,_,_,.nil=>by simp;exact .nil
 | _,_,0,.cons _ t=>t
 | _,_,n+1,.cons r t=>.cons r (An.eraseIdx n t)
def Sg(xs:List AV)(lo hi:Option Int):List AV:=(xs.drop (HT.sIx xs.length 0 lo)).take (HT.sIx xs.length xs.length hi - HT.sIx xs.length 0 lo)
theorem An.cut{xs:List AV}{us:List V}(h:An K H xs us)(lo hi:Option Int):An K H (Sg xs lo hi) (Hu us lo hi):=by
 unfold Sg Hu
 rw [h.length]
 exact(h.drop _).take _
theorem An.atI{xs:List AV}{us:List V}{i:Int}{x:AV}(h:An K H xs us)(e:atI xs i=some x):∃u,L2.atI us i=some u/\RelA K H x u:=by
 unfold L2.atI at e ⊢
 rw [<- h.length]
 cases q:Uu xs.length i with
 | none=>rw [q]at e;cases e
 | some j =>
  rw [q]at e
  obtain⟨x,hx,hd⟩:=h.get (show xs[j]?=some x from e)
  exact⟨x,hx,hd⟩
def dats:List AV->Option (List PyData)
 | []=>some []
 | .D d :: r=>match dats r with
  | some ds=>some (d :: ds)
  | none=>none
 | .R _ :: _=>none
 | .C _ :: _=>none
 | .X _ _ :: _=>none
@[simp] theorem dats_nil:dats []=some []:=rfl
theorem Bi:∀(ds:List PyData),dats (ds.map .D)=some ds
 | []=>rfl
 | d :: ds=>by simp only [List.map_cons,dats,Bi ds]
theorem Ju:∀{xs:List AV} {ds:List PyData},dats xs=some ds->xs=ds.map .D
 | [],ds,h=>by cases h;rfl
 | .D d :: r,ds,h=>by
  simp only [dats]at h
  cases q:dats r with
  | none=>rw [q]at h;cases h
  | some es=>rw [q]at h;cases h;rw [Ju q];rfl
 | .R _ :: _,_,h=>by simp [dats]at h
 | .C _ :: _,_,h=>by simp [dats]at h
 | .X _ _ :: _,_,h=>by simp [dats]at h
theorem An.dk:∀{ds:List PyData} {vs:List V},An K H (ds.map .D) vs->Aj K H ds vs
 | [],_,h=>by cases h;exact Cc
 | _ :: _,_,h=>by
  rw [Ybm]at h
  cases h with
  | cons r t=>exact Bw r (An.dk t)
theorem Aj.rel:∀{ds:List PyData} {vs:List V},Aj K H ds vs->An K H (ds.map .D) vs
 | [],_,h=>by rw [h.nil];exact .nil
 | _ :: _,_,h=>by
  obtain⟨x,r,rfl,h1,h2⟩:=h.cons
  exact .cons h1 (Aj.rel h2)
theorem An.dats{xs:List AV}{vs:List V}{ds:List PyData}(h:An K H xs vs)(e:dats xs=some ds):Aj K H ds vs:=by rw [Ju e]at h;exact h.dk
inductive MO where
 | lst (xs:List AV) | dk (ae:List (Key×AV)) | dt (ae:List (List Key×AV)) | dd (ae:List (PyData×AV))
abbrev M:=Addr->Option MO
def Ao(μ:M)(a:Addr)(m:MO):M:=λb=>if b=a then some m else μ b
theorem Ab{μ:M}{a:Addr}{m:MO}:Ao μ a m a=some m:=by unfold Ao;rw [Yaj rfl]
theorem Ag{μ:M}{a b:Addr}{m:MO}(h:b≠a):Ao μ a m b=μ b:=by unfold Ao;rw [Yah h]
theorem Bu{μ:M}{a:Addr}{m n:MO}:Ao (Ao μ a m) a n=Ao μ a n:=by funext b;unfold Ao;split <;> rfl
def Db{κ:Type}(K:PySem.W.Frag)(H:Hp):List (κ×AV)->List (κ×V)->Prop:=Paired λp q=>p.1=q.1/\RelA K H p.2 q.2
theorem Db.kp{κ:Type}(S:Kp H H'){xs:List (κ×AV)}{vs:List (κ×V)}(h:Db K H xs vs):Db K H' xs vs:=Paired.mapP h λ_ _ q=>⟨q.1,q.2.kp S⟩
def Vt(K:PySem.W.Frag)(H:Hp):List (PyData×AV)->List (PyData×Addr×Value)->Prop:=Paired λp q=>p.1=q.1/\KeyTree p.1/\Dk K H p.1 (.ref q.2.1)/\∃v,RelA K H p.2 v/\A0 v q.2.2
theorem Vt.kp(S:Kp H H'){xs:List (PyData×AV)}{vs:List (PyData×Addr×Value)}(h:Vt K H xs vs):Vt K H' xs vs:=Paired.mapP h λ_ _ ⟨a,b,c,v,r,q⟩=>⟨a,b,Dk.kp S _ _ c,v,r.kp S,q⟩
def Jv(K:PySem.W.Frag)(H:Hp):MO->HO->Prop
 | .lst xs,o=>∃vs,o=.lst vs/\An K H xs vs
 | .dk ae,o=>∃vs,o=.dK vs/\Db K H ae vs
 | .dt ae,o=>∃vs,o=.dT vs/\Db K H ae vs
 | .dd ae,o=>∃xs,o=.dd xs/\Vt K H ae xs
theorem Jv.kp(S:Kp H H'){m:MO}{o:HO}(h:Jv K H m o):Jv K H' m o:=by
 cases m with
 | lst xs=>obtain⟨vs,e,r⟩:=h;exact⟨vs,e,r.kp S⟩
 | dk xs=>obtain⟨vs,e,r⟩:=h;exact⟨vs,e,r.kp S⟩
 | dt xs=>obtain⟨vs,e,r⟩:=h;exact⟨vs,e,r.kp S⟩
 | dd xs=>obtain⟨vs,e,r⟩:=h;exact⟨vs,e,r.kp S⟩
theorem Cp{xs:List AV}{vs:List V}(h:An K H xs vs):Jv K H (.lst xs) (.lst vs):=⟨vs,rfl,h⟩
def Cn(K:PySem.W.Frag)(μ:M)(H:Hp):Prop:=∀a m,μ a=some m->∃o,H a=some o/\Jv K H m o
theorem Cn.none{μ:M}{p:Addr}(c:Cn K μ H)(h:H p=none):μ p=none:=by
 cases q:μ p with
 | none=>rfl
 | some m=>obtain⟨o,e,_⟩:=c p m q;rw [h]at e;cases e
theorem Cn.over{μ:M}{p:Addr}{o:HO}(c:Cn K μ H)(h:H p=Option.none):Cn K μ (upd H p o):=λa m e=>by
 obtain⟨o',e',r⟩:=c a m e
 exact⟨o',by rw [Ap (Bk e' h)];exact e',r.kp (Kp.new h o)⟩
theorem Cn.new{μ:M}{p:Addr}{m:MO}{o:HO}(c:Cn K μ H)(h:H p=Option.none)(r:Jv K H m o):Cn K (Ao μ p m) (upd H p o):=λa m' e=>by
 by_cases ha:a=p
 ·subst ha;rw [Ab]at e;cases e;exact⟨o,Bh,r.kp (Kp.new h o)⟩
 ·rw [Ag ha]at e;exact c.over h a m' e
theorem Cn.put{μ:M}{p:Addr}{m:MO}{o o0:HO}(c:Cn K μ H)(h:H p=some o0)(hm:Mt o0)(r:Jv K H m o):Cn K (Ao μ p m) (upd H p o):=λa m' e=>by
 by_cases ha:a=p
 ·subst ha;rw [Ab]at e;cases e;exact⟨o,Bh,r.kp (Kp.put h hm o)⟩
 ·rw [Ag ha]at e
  obtain⟨o',e',r'⟩:=c a m' e
  exact⟨o',by rw [Ap ha];exact e',r'.kp (Kp.put h hm o)⟩
def Sub(μ ν:M):Prop:=∀a m,μ a=some m->ν a=some m
theorem Sub.refl{μ:M}:Sub μ μ:=λ_ _ h=>h
theorem Sub.new{μ ν:M}{p:Addr}{m:MO}(h:Sub μ ν)(e:μ p=none):Sub μ (Ao ν p m):=λa m' e'=>by
 rw [Ag (by intro z;subst z;rw [e]at e';cases e')];exact h a m' e'
theorem Sub.none{μ ν:M}{p:Addr}(h:Sub μ ν)(e:ν p=none):μ p=none:=by
 cases q:μ p with
 | none=>rfl
 | some m=>rw [h p m q]at e;cases e
theorem Cn.sub{μ ν:M}(c:Cn K ν H)(h:Sub μ ν):Cn K μ H:=λa m e=>c a m (h a m e)
abbrev ASt:=List (Option AV)
def Iq(K:PySem.W.Frag)(H:Hp)(a:Option AV)(b:Option V):Prop:=∀x,a=some x->∃v,b=some v/\RelA K H x v
abbrev C3(K:PySem.W.Frag)(H:Hp):ASt->St->Prop:=Paired (Iq K H)
theorem Iq.kp{a:Option AV}{b:Option V}(S:Kp H H')(h:Iq K H a b):Iq K H' a b:=λx e=>let⟨v,e2,r⟩:=h x e;⟨v,e2,r.kp S⟩
theorem C3.kp{τ:ASt}{σ:St}(S:Kp H H')(h:C3 K H τ σ):C3 K H' τ σ:=Paired.mapP h λ_ _ q=>q.kp S
theorem C3.get:∀{τ:ASt} {σ:St} {i:Nat} {x:AV},C3 K H τ σ->τ[i]?=some (some x)->∃v,σ[i]?=some (some v)/\RelA K H x v
 | _,_,_,_,.nil,e=>by simp at e
 | _,_,0,_,.cons r _,e=>by simp at e;subst e;obtain⟨v,rfl,q⟩:=r _ rfl;exact⟨v,rfl,q⟩
 | _,_,i+1,x,.cons _ t,e=>by
  obtain⟨u,h1,h2⟩:=C3.get (i:=i) (x:=x) t (by simpa using e)
  exact⟨u,by simpa using h1,h2⟩
theorem Gz{x:AV}{v:V}(r:RelA K H x v):Iq K H (some x) (some v):=λy e=>by cases e;exact⟨v,rfl,r⟩
theorem G0{b:Option V}:Iq K H none b:=λy e=>nomatch e
theorem C3.set{x:AV}{v:V}(r:RelA K H x v):∀{τ:ASt} {σ:St} (i:Nat),C3 K H τ σ->C3 K H (τ.set i (some x)) (σ.set i (some v))
 | _,_,_,.nil=>.nil
 | _,_,0,.cons _ t=>.cons (Gz r) t
 | _,_,i+1,.cons q t=>.cons q (C3.set r i t)
def Jw(N:List Str)(xs:List AV):ASt:=xs.map some++List.replicate (N.length - xs.length) none
theorem C3.rep:∀(n:Nat),C3 K H (List.replicate n none) (List.replicate n none)
 | 0=>.nil
 | n+1=>.cons G0 (C3.rep n)
theorem C3.somes:∀{xs:List AV} {vs:List V},An K H xs vs->C3 K H (xs.map some) (vs.map some)
 | _,_,.nil=>.nil
 | _,_,.cons r t=>.cons (Gz r) (C3.somes t)
theorem C3.append{τ τ':ASt}{σ σ':St}(h:C3 K H τ σ)(s:C3 K H τ' σ'):C3 K H (τ++τ') (σ++σ'):=by
 induction h with
 | nil=>exact s
 | cons r t ih=>exact .cons r ih
theorem C3.begin{N:List Str}{xs:List AV}{vs:List V}(h:An K H xs vs):C3 K H (Jw N xs) (start N vs):=by
 unfold Jw start
 rw [h.length]
 exact(C3.somes h).append (C3.rep _)
def Qcu(mp:List (Option Nat))(τ:ASt):ASt:=mp.map λo=>match o with
 | none=>none
 | some j=>match τ[j]? with
  | some x=>x
  | none=>none
theorem C3.sub{τ:ASt}{σ:St}(h:C3 K H τ σ):∀(mp:List (Option Nat)),C3 K H (Qcu mp τ) (Kx mp σ)
 | []=>.nil
 | none :: mp=>.cons G0 (C3.sub h mp)
 | some j :: mp=>by
  refine .cons (λx e=>?_) (C3.sub h mp)
  have e':τ[j]?=some (some x):=by
   dsimp only at e
   cases q:τ[j]? with
   | none=>rw [q]at e;cases e
   | some y=>rw [q]at e;exact Ydn some e
  obtain⟨v,hv,r⟩:=h.get e'
  refine⟨v,?_,r⟩
  show(σ[j]?).join=some v
  rw [hv];rfl
end
abbrev AE:=ASt->M->(AV->M->Prop)->Prop
abbrev AT:=ASt->M->(Bool->M->Prop)->Prop
abbrev AA:=ASt->M->(List AV->M->Prop)->Prop
abbrev AO:=ASt->M->(Option Int->M->Prop)->Prop
abbrev AS:=(ASt->M->Prop)->(AV->M->Prop)->(ASt->M->Prop)->(ASt->M->Prop)->ASt->M->Prop
abbrev AG:=AV->ASt->M->(ASt->M->Prop)->Prop
abbrev AGs:=List AV->ASt->M->(ASt->M->Prop)->Prop
abbrev A2:=AV->AV->M->(AV->M->Prop)->Prop
abbrev AC:=List AV->M->(AV->M->Prop)->Prop
@[irreducible] def brP (b:Bool) (T F:Prop):Prop:=match b with
 | true=>T
 | false=>F
@[irreducible] def opt {α:Type} (o:Option α) (k:α->Prop):Prop:=match o with
 | some x=>k x
 | none=>False
theorem br{b:Bool}{T F:Prop}(h1:b=true->T)(h2:b=false->F):brP b T F:=by
 unfold brP;cases b with
 | true=>exact h1 rfl
 | false=>exact h2 rfl
theorem Vu{b:Bool}{T F:Prop}(hb:b=true)(h:T):brP b T F:=by subst hb;unfold brP;exact h
theorem My{b:Bool}{T F:Prop}(hb:b=false)(h:F):brP b T F:=by subst hb;unfold brP;exact h
theorem Si{T F:Prop}:brP true T F=T:=by unfold brP;rfl
theorem br_e{b:Bool}{T F:Prop}(h:brP b T F):(b=true/\T)\/(b=false/\F):=by
 unfold brP at h;cases b with
 | true=>exact .inl ⟨rfl,h⟩
 | false=>exact .inr ⟨rfl,h⟩
theorem Ac{α:Type}{o:Option α}{x:α}{k:α->Prop}(h:o=some x)(q:k x):opt o k:=by subst h;unfold opt;exact q
theorem Aq{α:Type}{o:Option α}{k:α->Prop}(h:opt o k):∃x,o=some x/\k x:=by
 unfold opt at h;cases o with
 | none=>exact h.elim
 | some x=>exact⟨x,rfl,h⟩
theorem dif{p:Prop} [Decidable p]{T F:Prop}(h1:p->T)(h2:¬p->F):brP (decide p) T F:=br (λh=>h1 (Yaw h)) (λh=>h2 (of_decide_eq_false h))
def LV(K:PySem.W.Frag)(H:Hp)(R:AV->M->Prop)(Q:VK):Prop:=∀x μ v H',Kp H H'->Cn K μ H'->RelA K H' x v->R x μ->Q v H'
def LB(K:PySem.W.Frag)(H:Hp)(R:Bool->M->Prop)(Q:Bool->Hp->Prop):Prop:=∀b μ H',Kp H H'->Cn K μ H'->R b μ->Q b H'
def LA(K:PySem.W.Frag)(n:Nat)(H:Hp)(R:List AV->M->Prop)(Q:List V->Hp->Prop):Prop:=∀xs μ vs H',Kp H H'->Cn K μ H'->An K H' xs vs->xs.length=n->R xs μ->Q vs H'
def LO(K:PySem.W.Frag)(H:Hp)(R:Option Int->M->Prop)(Q:Option Int->Hp->Prop):Prop:=∀b μ H',Kp H H'->Cn K μ H'->R b μ->Q b H'
def LS(K:PySem.W.Frag)(H:Hp)(R:ASt->M->Prop)(Q:St->Hp->Prop):Prop:=∀ τ μ σ H',Kp H H'->C3 K H' τ σ->Cn K μ H'->R τ μ->Q σ H'
theorem LV.kp{K:PySem.W.Frag}{H H':Hp}{R:AV->M->Prop}{Q:VK}(h:LV K H R Q)(S:Kp H H'):LV K H' R Q:=λx μ v H2 S2=>h x μ v H2 (S.trans S2)
theorem LB.kp{K:PySem.W.Frag}{H H':Hp}{R:Bool->M->Prop}{Q:Bool->Hp->Prop}(h:LB K H R Q)(S:Kp H H'):LB K H' R Q:=λx μ H2 S2=>h x μ H2 (S.trans S2)
theorem LS.kp{K:PySem.W.Frag}{H H':Hp}{R:ASt->M->Prop}{Q:St->Hp->Prop}(h:LS K H R Q)(S:Kp H H'):LS K H' R Q:=λx μ v H2 S2=>h x μ v H2 (S.trans S2)
structure LE'(K:PySem.W.Frag)(H:Hp)(k:ASt->M->Prop)(r:AV->M->Prop)(b c:ASt->M->Prop)(D:Ends):Prop where
 nx:LS K H k D.nx
 rt:LV K H r D.rt
 bk:LS K H b D.bk
 ct:LS K H c D.ct
theorem LE'.kp{K:PySem.W.Frag}{H H':Hp}{k:ASt->M->Prop}{r:AV->M->Prop}{b c:ASt->M->Prop}{D:Ends}(h:LE' K H k r b c D)(S:Kp H H'):LE' K H' k r b c D:=⟨h.nx.kp S,h.rt.kp S,h.bk.kp S,h.ct.kp S⟩
def cE(K:PySem.W.Frag)(t:AE):TE:=fun σ H Q=>∃ τ μ R,C3 K H τ σ/\Cn K μ H/\t τ μ R/\LV K H R Q
def cT(K:PySem.W.Frag)(t:AT):TT:=fun σ H Q=>∃ τ μ R,C3 K H τ σ/\Cn K μ H/\t τ μ R/\LB K H R Q
def cA(K:PySem.W.Frag)(n:Nat)(t:AA):TA:=fun σ H Q=>∃ τ μ R,C3 K H τ σ/\Cn K μ H/\t τ μ R/\LA K n H R Q
def cO(K:PySem.W.Frag)(t:AO):TO:=fun σ H Q=>∃ τ μ R,C3 K H τ σ/\Cn K μ H/\t τ μ R/\LO K H R Q
def cS(K:PySem.W.Frag)(t:AS):TS:=λD σ H=>∃ τ μ k r b c,C3 K H τ σ/\Cn K μ H/\t k r b c τ μ/\LE' K H k r b c D
def cG(K:PySem.W.Frag)(t:AG):TG:=λv σ H Q=>∃x τ μ R,RelA K H x v/\C3 K H τ σ/\Cn K μ H/\t x τ μ R/\LS K H R Q
def cGs(K:PySem.W.Frag)(t:AGs):TGs:=λvs σ H Q=>∃xs τ μ R,An K H xs vs/\C3 K H τ σ/\Cn K μ H/\t xs τ μ R/\LS K H R Q
def cR(K:PySem.W.Frag)(r:A2):R2:=λx y H Q=>∃a b μ R,RelA K H a x/\RelA K H b y/\Cn K μ H/\r a b μ R/\LV K H R Q
def cC(K:PySem.W.Frag)(r:AC):List V->Hp->VK->Prop:=λxs H Q=>∃as μ R,An K H as xs/\Cn K μ H/\r as μ R/\LV K H R Q
def cM(K:PySem.W.Frag)(r:AV->AC):V->List V->Hp->VK->Prop:=λx xs H Q=>∃a as μ R,RelA K H a x/\An K H as xs/\Cn K μ H/\r a as μ R/\LV K H R Q
def VE(X:Cx)(e:Expr)(t:AE):Prop:=PE X e (cE X.K t)
def VT(X:Cx)(e:Expr)(t:AT):Prop:=PT X e (cT X.K t)
def VW(X:Cx)(e:Expr)(t:AT):Prop:=PW X e (cT X.K t)
def VA(X:Cx)(es:List Expr)(t:AA):Prop:=PA X es (cA X.K es.length t)
def VO(X:Cx)(e:Option Expr)(t:AO):Prop:=PO X e (cO X.K t)
def VS(X:Cx)(st:Stmt)(t:AS):Prop:=PS X st (cS X.K t)
def VSs(X:Cx)(st:List Stmt)(t:AS):Prop:=PSs X st (cS X.K t)
def VG(X:Cx)(e:Expr)(t:AG):Prop:=PG X e (cG X.K t)
def VGs(X:Cx)(es:List Expr)(t:AGs):Prop:=PGs X es (cGs X.K t)
def VOp(X:Cx)(f:Value->Value->Sem Value)(r:A2):Prop:=Go X f (cR X.K r)
def VIx(X:Cx)(r:A2):Prop:=IxR X (cR X.K r)
def VCall(X:Cx)(f:Value)(r:AC):Prop:=Ej X f (cC X.K r)
def VMt(X:Cx)(id:String)(r:AV->AC):Prop:=MtR X id (cM X.K r)
section
variable {X:Cx}
theorem PE.imp{e:Expr}{t u:TE}(h:PE X e t)(i:∀ σ H Q,u σ H Q->t σ H Q):PE X e u:=λaa s σ H Q I q=>h aa s σ H Q I (i σ H Q q)
theorem PT.imp{e:Expr}{t u:TT}(h:PT X e t)(i:∀ σ H Q,u σ H Q->t σ H Q):PT X e u:=λaa s σ H Q I q=>h aa s σ H Q I (i σ H Q q)
theorem PW.imp{e:Expr}{t u:TT}(h:PW X e t)(i:∀ σ H Q,u σ H Q->t σ H Q):PW X e u:=λwh aa s σ H Q I q=>h wh aa s σ H Q I (i σ H Q q)
theorem PA.imp{e:List Expr}{t u:TA}(h:PA X e t)(i:∀ σ H Q,u σ H Q->t σ H Q):PA X e u:=λpos aa s σ H Q I q=>h pos aa s σ H Q I (i σ H Q q)
theorem PO.imp{e:Option Expr}{t u:TO}(h:PO X e t)(i:∀ σ H Q,u σ H Q->t σ H Q):PO X e u:=λaa s σ H Q I q=>h aa s σ H Q I (i σ H Q q)
theorem PS.imp{e:Stmt}{t u:TS}(h:PS X e t)(i:∀D σ H,u D σ H->t D σ H):PS X e u:=λaa s σ H D I q=>h aa s σ H D I (i D σ H q)
theorem PSs.imp{e:List Stmt}{t u:TS}(h:PSs X e t)(i:∀D σ H,u D σ H->t D σ H):PSs X e u:=λaa s σ H D I q=>h aa s σ H D I (i D σ H q)
theorem PG.imp{e:Expr}{t u:TG}(h:PG X e t)(i:∀v σ H Q,u v σ H Q->t v σ H Q):PG X e u:=λaa s σ H v w Q I r q=>h aa s σ H v w Q I r (i v σ H Q q)
theorem PGs.imp{e:List Expr}{t u:TGs}(h:PGs X e t)(i:∀v σ H Q,u v σ H Q->t v σ H Q):PGs X e u:=λaa s σ H v w Q I r q=>h aa s σ H v w Q I r (i v σ H Q q)
def Mz(i:Nat):AE:=fun τ μ R=>match τ[i]? with
 | some (some x)=>R x μ
 | _=>False
theorem Sj{K:PySem.W.Frag}{i:Nat}{σ:St}{H:Hp}{Q:VK}(h:cE K (Mz i) σ H Q):Qb2 i σ H Q:=by
 obtain⟨τ,μ,R,hs,hc,h,hq⟩:=h
 unfold Mz at h
 split at h
 ·rename_i x e
  obtain⟨v,ev,r⟩:=hs.get e
  exact⟨v,ev,hq _ _ _ _ Kp.refl hc r h⟩
 ·exact h.elim
theorem vv(i:Nat){x:Str}{pos:Pos}(hN:X.N[i]?=some x:=by rfl)(hv:Vis X.env.scope x:=by first | exact Or.inl rfl | exact Or.inr (Or.inl rfl) | exact Or.inr (Or.inr rfl))(hd:(x==("__debug__" : Str))=false:=by decide)
  (h9:(x==("__classdict__" : Str))=false:=by decide):VE X (.Name x pos) (Mz i):=(Yh hN hv hd h9).imp λ_ _ _ h=>Sj h
def vC(x:AV):AE:=λ_ μ R=>R x μ
theorem G1{e:Expr}{v:V}{d:PyData}(h:PE X e (tC v))(r:∀H,Dk X.K H d v):VE X e (vC (.D d)):=h.imp fun σ H Q zz1=>B4 zz1 fun τ μ R hs hc h hq=>hq _ _ _ _ Kp.refl hc (P8 (r H)) h
theorem Af{i j pos}:VE X (.Constant (.int i) j pos) (vC (.D (.int i))):=G1 Yi λ_=>D3
theorem Fv{b j pos}:VE X (.Constant (.bool b) j pos) (vC (.D (.bool b))):=G1 Qb3 λ_=>K0
theorem Bg{x j pos}:VE X (.Constant (.str x) j pos) (vC (.D (.str x))):=G1 Yj λ_=>Mw
def Xn(r:A2)(ta tb:AE):AE:=fun τ μ R=>ta τ μ λx μ1=>tb τ μ1 λy μ2=>r x y μ2 R
theorem Gd{K:PySem.W.Frag}{r:A2}{ta tb:AE}{σ:St}{H:Hp}{Q:VK}(h:cE K (Xn r ta tb) σ H Q):tOp (cR K r) (cE K ta) (cE K tb) σ H Q:=by
 obtain⟨τ,μ,R,hs,hc,h,hq⟩:=h
 exact⟨τ,μ,_,hs,hc,h,λx μ1 v H1 S1 c1 rx hx=>⟨τ,μ1,_,hs.kp S1,c1,hx,λy μ2 u H2 S2 c2 ry hy=>⟨x,y,μ2,R,rx.kp S2,ry,c2,hy,hq.kp (S1.trans S2)⟩⟩⟩
variable {a b c:Expr}{ta tb tc:AE}{pos:Pos}
theorem A4{op:Operator}{r:A2}(ho:VOp X (binaryOp op) r)(ha:VE X a ta)(hb:VE X b tb):VE X (.BinOp a op b pos) (Xn r ta tb):=(Qcd ho ha hb).imp λ_ _ _ h=>Gd h
theorem G2{op:CmpOp}{r:A2}(ho:VOp X (compareOp op) r)(ha:VE X a ta)(hb:VE X b tb)(hm:behindInMarks op b=false):VE X (.Compare a [op] [b] pos) (Xn r ta tb):=(U9 ho ha hb hm).imp λ_ _ _ h=>Gd h
def N8(t:AE):AT:=fun τ μ R=>t τ μ λx μ1=>match x with
 | .D (.bool k)=>R k μ1
 | _=>False
theorem Fl{K:PySem.W.Frag}{t:AE}{u:TE}(hu:∀ σ H Q,cE K t σ H Q->u σ H Q){σ:St}{H:Hp}{Q:Bool->Hp->Prop}(h:cT K (N8 t) σ H Q):Xj u σ H Q:=by
 obtain⟨τ,μ,R,hs,hc,h,hq⟩:=h
 refine hu _ _ _ ⟨τ,μ,_,hs,hc,h,λx μ1 v H1 S1 c1 rx hx=>?_⟩
 split at hx
 ·cases RelA.bl rx
  exact⟨_,rfl,hq _ _ _ S1 c1 hx⟩
 ·exact hx.elim
theorem Be{op:CmpOp}{r:A2}(ho:VOp X (compareOp op) r)(ha:VE X a ta)(hb:VE X b tb)(hm:behindInMarks op b=false):VT X (.Compare a [op] [b] pos) (N8 (Xn r ta tb)) :=
 (Va ho ha hb hm).imp λ_ _ _ h=>Fl (λ_ _ _ q=>Gd q) h
theorem Et{e:Expr}{t:AE}(h:VE X e t)(he:∀dh,isTrue e X.env dh=(do let v <- dh;standAt e.pos;holding [v] (truthy v)):=by intro _;rfl):VT X e (N8 t) :=
 (Yl h he).imp λ_ _ _ h=>by
  have h:=Fl (λ_ _ _ q=>q) h
  exact h
def Qfx(t u:AT):AT:=fun τ μ R=>t τ μ λk μ1=>brP k (u τ μ1 R) (R false μ1)
def vOr(t u:AT):AT:=fun τ μ R=>t τ μ λk μ1=>brP k (R true μ1) (u τ μ1 R)
def Qfy(t:AT):AT:=fun τ μ R=>t τ μ λk μ1=>R (!k) μ1
theorem VW.pt{e:Expr}{t:AT}(h:VW X e t):VT X e t:=PW.pt h
variable {rest:List Expr}{tA ir:AT}
theorem Ge(ha:VT X a tA):VW X (.BoolOp .And [a] pos) tA:=Uz ha
theorem Jx(ha:VT X a tA):VW X (.BoolOp .Or [a] pos) tA:=Ym ha
theorem Jy(ha:VT X a tA)(hb:VW X (.BoolOp .And (b :: rest) pos) ir):VW X (.BoolOp .And (a :: b :: rest) pos) (Qfx tA ir) :=
 (Yn ha hb).imp fun σ H Q zz3=>B4 zz3 fun τ μ R hs hc h hq=>⟨τ,μ,_,hs,hc,h,λk μ1 H1 S1 c1 hk=>by
  rcases br_e hk with⟨rfl,hk'⟩ | ⟨rfl,hk'⟩
  ·exact⟨τ,μ1,R,hs.kp S1,c1,hk',hq.kp S1⟩
  ·exact hq _ _ _ S1 c1 hk'⟩
theorem K7(ha:VT X a tA)(hb:VW X (.BoolOp .Or (b :: rest) pos) ir):VW X (.BoolOp .Or (a :: b :: rest) pos) (vOr tA ir) :=
 (Qb4 ha hb).imp fun σ H Q zz4=>B4 zz4 fun τ μ R hs hc h hq=>⟨τ,μ,_,hs,hc,h,λk μ1 H1 S1 c1 hk=>by
  rcases br_e hk with⟨rfl,hk'⟩ | ⟨rfl,hk'⟩
  ·exact hq _ _ _ S1 c1 hk'
  ·exact⟨τ,μ1,R,hs.kp S1,c1,hk',hq.kp S1⟩⟩
theorem G3(ha:VT X a tA):VT X (.UnaryOp .Not a pos) (Qfy tA):=(Yo ha).imp fun σ H Q zz5=>B4 zz5 fun τ μ R hs hc h hq=>⟨τ,μ,_,hs,hc,h,λk μ1 H1 S1 c1 hk=>hq _ _ _ S1 c1 hk⟩
theorem Zt{op}{t:AE}(h:VE X a t):VE X (.BoolOp op [a] pos) t:=Yp h
def Qcv(ta tb:AE):AE:=fun τ μ R=>ta τ μ λx μ1=>match x with
 | .D (.bool k)=>brP k (tb τ μ1 R) (R (.D (.bool false)) μ1)
 | _=>False
def Qcw(ta:AE):AE:=fun τ μ R=>ta τ μ λx μ1=>match x with
 | .D (.bool k)=>R (.D (.bool (!k))) μ1
 | _=>False
theorem Zu(ha:VE X a ta)(hb:VE X (.BoolOp .And (b :: rest) pos) tb):VE X (.BoolOp .And (a :: b :: rest) pos) (Qcv ta tb) :=
 (Yq ha hb).imp fun σ H Q zz6=>B4 zz6 fun τ μ R hs hc h hq=>⟨τ,μ,_,hs,hc,h,λx μ1 v H1 S1 c1 rx hk=>by
  split at hk
  ·cases RelA.bl rx
   rcases br_e hk with⟨rfl,hk'⟩ | ⟨rfl,hk'⟩
   ·exact⟨true,rfl,⟨τ,μ1,R,hs.kp S1,c1,hk',hq.kp S1⟩⟩
   ·exact⟨false,rfl,hq _ _ _ _ S1 c1 D4 hk'⟩
  ·exact hk.elim⟩
theorem Zv(ha:VE X a ta):VE X (.UnaryOp .Not a pos) (Qcw ta) :=
 (Yr ha).imp fun σ H Q zz8=>B4 zz8 fun τ μ R hs hc h hq=>⟨τ,μ,_,hs,hc,h,λx μ1 v H1 S1 c1 rx hk=>by
  split at hk
  ·cases RelA.bl rx
   exact⟨_,rfl,hq _ _ _ _ S1 c1 D4 hk⟩
  ·exact hk.elim⟩
def M3:AA:=λ_ μ R=>R [] μ
def N9(ta:AE)(tr:AA):AA:=fun τ μ R=>ta τ μ λx μ1=>tr τ μ1 λxs μ2=>R (x :: xs) μ2
theorem Ad:VA X [] M3:=Rt.imp fun σ H Q zz10=>B4 zz10 fun τ μ R hs hc h hq=>hq [] μ [] H Kp.refl hc .nil rfl h
theorem Aa{e:Expr}{es:List Expr}{te:AE}{t:AA}(ha:VE X e te)(hr:VA X es t)(hs:starEach (e :: es) X.env=(false,eval e X.env) :: starEach es X.env:=by rfl):VA X (e :: es) (N9 te t) :=
 (N1 ha hr hs).imp fun σ H Q zz11=>B4 zz11 fun τ μ R hs hc h hq=>⟨τ,μ,_,hs,hc,h,λx μ1 v H1 S1 c1 rx hx=>⟨τ,μ1,_,hs.kp S1,c1,hx,λxs μ2 vs H2 S2 c2 rs hl hxs =>
  hq (x :: xs) μ2 (v :: vs) H2 (S1.trans S2) c2 (.cons (rx.kp S2) rs) (by rw [Ybk,hl];rfl) hxs⟩⟩
def Qfz(t:AA):AE:=fun τ μ R=>t τ μ λxs μ1=>match dats xs with
 | some ds=>R (.D (.tuple ds)) μ1
 | none=>False
def Qf0(t:AA):AE:=fun τ μ R=>t τ μ λxs μ1=>∀p,μ1 p=none->R (.R p) (Ao μ1 p (.lst xs))
variable {es:List Expr}{t:AA}
theorem Bp{k:Nat}(h:VA X es t)(hn:es.length<=sizeLine:=by decide):VE X (.Tuple es k pos) (Qfz t) :=
 (Y7 h).imp fun σ H Q zz12=>B4 zz12 fun τ μ R hs hc h hq=>⟨τ,μ,_,hs,hc,h,λxs μ1 vs H1 S1 c1 rs hl hx=>⟨by rw [<- rs.length,hl];exact hn,λp hp=>by
  split at hx
  ·rename_i ds e
   refine hq _ _ _ _ (S1.trans (Kp.new hp _)) (c1.over hp) ?_ hx
   exact Es Bh (Aj.kp (Kp.new hp _) _ _ (rs.dats e))
  ·exact hx.elim⟩⟩
theorem B9(h:VA X es t)(hn:es.length<=sizeLine:=by decide):VE X (.List es pos) (Qf0 t) :=
 (Y8 h).imp fun σ H Q zz13=>B4 zz13 fun τ μ R hs hc h hq=>⟨τ,μ,_,hs,hc,h,λxs μ1 vs H1 S1 c1 rs hl hx=>⟨by rw [<- rs.length,hl];exact hn,λp hp =>
  hq _ _ _ _ (S1.trans (Kp.new hp _)) (c1.new hp (Cp (rs))) C7 (hx p (c1.none hp))⟩⟩
mutual
theorem Dk.reads{aa:List (Addr×Obj)}{σ:St}{H:Hp}{s:Shared}(I:Inv X aa σ H s):∀(d:PyData) (x:V) (u:Value),Dk X.K H d x->A0 x u->∃as,Reads s.heap u d as
 | .none,x,u,h,r=>by cases h.non;cases r;exact⟨_,.none⟩
 | .bool b,x,u,h,r=>by cases h.bl;cases r;exact⟨_,.bool b⟩
 | .int i,x,u,h,r=>by cases h.int;obtain⟨t,rfl⟩:=r;exact⟨_,.int i t⟩
 | .str z,x,u,h,r=>by cases h.str;obtain⟨t,rfl⟩:=r;exact⟨_,.str z t⟩
 | .list ds,x,u,h,r=>by
  obtain⟨a,xs,rfl,q,k⟩:=h.lst
  cases r
  obtain⟨ah,rv,⟨o,n,e,c,_,d⟩,_⟩:=I.list q.sq
  obtain⟨as,ra⟩:=Aj.reads I ds xs ah k rv
  exact⟨_,.list e c d (by simpa using ra)⟩
 | .tuple ds,x,u,h,r=>by
  obtain⟨a,xs,rfl,q,k⟩:=h.tup
  cases r
  obtain⟨ah,rv,⟨o,e,c,n,d⟩,_⟩:=I.tuple q.sq
  obtain⟨as,ra⟩:=Aj.reads I ds xs ah k rv
  exact⟨_,.tuple e c d (by simpa using ra)⟩
 | .dict _,x,u,h,_=>by simp only [Dk]at h
theorem Aj.reads{aa:List (Addr×Obj)}{σ:St}{H:Hp}{s:Shared}(I:Inv X aa σ H s):∀(ds:List PyData) (xs:List V) (us:List Value),Aj X.K H ds xs->Vals xs us->∃as,ReadsAll s.heap us ds as
 | [],xs,us,h,r=>by
  have e:=h.nil
  subst e
  cases r
  exact⟨_,.nil⟩
 | d :: ds,xs,us,h,r=>by
  obtain⟨x,xr,rfl,h1,h2⟩:=h.cons
  cases r with
  | cons r1 r2 =>
   obtain⟨as,ra⟩:=Dk.reads I d x _ h1 r1
   obtain⟨bs,rb⟩:=Aj.reads I ds xr _ h2 r2
   exact⟨_,.cons ra rb⟩
end
def see(μ:M):AV->Option PyData
 | .X _ _=>none
 | .D d=>some d
 | .C ds=>some (.tuple ds)
 | .R a=>match μ a with
  | some (.lst xs)=>match dats xs with
   | some ds=>some (.list ds)
   | none=>none
  | _=>none
@[simp] theorem see_D {μ:M} {d:PyData}:see μ (.D d)=some d:=rfl
theorem Cu{aa:List (Addr×Obj)}{σ:St}{H:Hp}{s:Shared}{μ:M}{x:AV}{v:V}{u:Value}{d:PyData}(I:Inv X aa σ H s)(hc:Cn X.K μ H)(rx:RelA X.K H x v)(r:A0 v u)(e:see μ x=some d):∃as,Reads s.heap u d as:=by
 cases x with
 | X C fs=>cases e
 | D d'=>cases e;exact Dk.reads I _ _ _ rx r
 | C ds =>
  cases e
  obtain⟨a,xs,rfl,q,k⟩:=rx
  cases r
  obtain⟨ah,rv,⟨o,e,c,n,d⟩,_⟩:=I.tuple (q H)
  obtain⟨as,ra⟩:=Aj.reads I ds xs ah k rv
  exact⟨_,.tuple e c d (by simpa using ra)⟩
 | R a =>
  dsimp only [see]at e
  split at e
  ·rename_i xs ex
   split at e
   ·rename_i ds ed
    cases e
    cases (show v=.ref a from rx)
    cases r
    obtain⟨o,ho,vs,rfl,rs⟩:=hc a _ ex
    obtain⟨ah,rv,⟨o,n,e,c,_,dd⟩,_⟩:=I.list (Dx.of ho)
    obtain⟨as,ra⟩:=Aj.reads I ds vs ah (rs.dats ed) rv
    exact⟨_,.list e c dd (by simpa using ra)⟩
   ·cases e
  ·cases e
def Bq(d:PyData):Prop:=d.canLay0=true/\d.depth<=64
def aEq:A2:=λx y μ R=>match x,y with
 | .D d,.D e=>Bq d/\Bq e/\R (.D (.bool (PyData.eqv d e))) μ
 | x,y=>opt (see μ x) λd=>opt (see μ y) λe=>Bq d/\Bq e/\R (.D (.bool (PyData.eqv d e))) μ
theorem Vv{x y:AV}{μ:M}{R:AV->M->Prop}(h:aEq x y μ R):∃d e,see μ x=some d/\see μ y=some e/\Bq d/\Bq e/\R (.D (.bool (PyData.eqv d e))) μ:=by
 have g:∀(h:opt (see μ x) λd=>opt (see μ y) λe=>Bq d/\Bq e/\R (.D (.bool (PyData.eqv d e))) μ),∃d e,see μ x=some d/\see μ y=some e/\Bq d/\Bq e/\R (.D (.bool (PyData.eqv d e))) μ:=by
  intro h
  obtain⟨d,ed,h⟩:=Aq h
  obtain⟨e,ee,h⟩:=Aq h
  exact⟨d,e,ed,ee,h⟩
 cases x with
 | D d =>
  cases y with
  | D e=>exact⟨_,_,rfl,rfl,h⟩
  | _=>exact g h
 | _=>exact g h
def aNe:A2:=λx y μ R=>match x,y with
 | .D d,.D e=>Bq d/\Bq e/\R (.D (.bool (!PyData.eqv d e))) μ
 | x,y=>opt (see μ x) λd=>opt (see μ y) λe=>Bq d/\Bq e/\R (.D (.bool (!PyData.eqv d e))) μ
theorem Vw{x y:AV}{μ:M}{R:AV->M->Prop}(h:aNe x y μ R):∃d e,see μ x=some d/\see μ y=some e/\Bq d/\Bq e/\R (.D (.bool (!PyData.eqv d e))) μ:=by
 unfold aNe at h
 split at h
 ·exact⟨_,_,rfl,rfl,h⟩
 ·obtain⟨d,ed,h⟩:=Aq h
  obtain⟨e,ee,h⟩:=Aq h
  exact⟨d,e,ed,ee,h⟩
variable {k:Nat}
theorem Hx(hr:Room k X.A):VOp X (compareOp .Eq) aEq:=by
 intro aa s σ H x y v u Q I rx ry zz14
 refine Dv zz14 λa b μ R ra rb hc h hq=>?_
 obtain⟨d,e,ed,ee,h⟩:=Vv h
 ·obtain⟨as,r1⟩:=Cu I hc ra rx ed
  obtain⟨bs,r2⟩:=Cu I hc rb ry ee
  have hu:=hr.un
  have:=h.1.2
  exact SeqAt.compareEq_reads r1 r2 h.1.1 h.2.1.1 (by omega) ⟨.bl _,H,I,rfl,hq _ _ _ _ Kp.refl hc D4 h.2.2⟩
theorem Qf3(hr:Room k X.A):VOp X (compareOp .NotEq) aNe:=by
 intro aa s σ H x y v u Q I rx ry zz15
 refine Dv zz15 λa b μ R ra rb hc h hq=>?_
 obtain⟨d,e,ed,ee,h⟩:=Vw h
 ·obtain⟨as,r1⟩:=Cu I hc ra rx ed
  obtain⟨bs,r2⟩:=Cu I hc rb ry ee
  have hu:=hr.un
  have:=h.1.2
  exact SeqAt.compareNe_reads r1 r2 h.1.1 h.2.1.1 (by omega) ⟨.bl _,H,I,rfl,hq _ _ _ _ Kp.refl hc D4 h.2.2⟩
def Ir:PyData->Option Key
 | .int i=>some (.inl i)
 | .str z=>some (.inr z)
 | _=>none
def items(μ:M):AV->Option (List AV)
 | .D (.tuple ds)=>some (ds.map .D)
 | .C ds=>some (ds.map .D)
 | .D (.list ds)=>some (ds.map .D)
 | .R a=>match μ a with
  | some (.lst xs)=>some xs
  | _=>none
 | _=>none
theorem Is{H:Hp}{μ:M}{x:AV}{v:V}{xs:List AV}(hc:Cn X.K μ H)(rx:RelA X.K H x v)(e:items μ x=some xs):∃p vs,v=.ref p/\(Dx X.K H p vs\/Hr X.K H p vs)/\An X.K H xs vs:=by
 unfold items at e
 split at e
 ·cases e;obtain⟨a,vs,rfl,q,r⟩:=RelA.tup rx;exact⟨a,vs,rfl,.inr q.sq,r.rel⟩
 ·cases e;obtain⟨a,vs,rfl,q,r⟩:=rx;exact⟨a,vs,rfl,.inr (q H),r.rel⟩
 ·cases e;obtain⟨a,vs,rfl,q,r⟩:=RelA.lst rx;exact⟨a,vs,rfl,.inl q.sq,r.rel⟩
 ·split at e
  ·rename_i ys ey
   cases e
   obtain⟨o,ho,vs,rfl,rs⟩:=hc _ _ ey
   exact⟨_,vs,rx,.inl (Dx.of ho),rs⟩
  ·cases e
 ·cases e
def Sk:AV->Bool
 | .D (.tuple _)=>true
 | .C _=>true
 | _=>false
theorem Ca{H:Hp}{μ:M}{x:AV}{v:V}{xs:List AV}(hc:Cn X.K μ H)(rx:RelA X.K H x v)(e:items μ x=some xs):∃p vs,v=.ref p/\((Sk x=false/\Dx X.K H p vs)\/(Sk x=true/\Hr X.K H p vs))/\An X.K H xs vs:=by
 unfold items at e
 split at e
 ·cases e;obtain⟨a,vs,rfl,q,r⟩:=RelA.tup rx;exact⟨a,vs,rfl,.inr ⟨rfl,q.sq⟩,r.rel⟩
 ·cases e;obtain⟨a,vs,rfl,q,r⟩:=rx;exact⟨a,vs,rfl,.inr ⟨rfl,q H⟩,r.rel⟩
 ·cases e;obtain⟨a,vs,rfl,q,r⟩:=RelA.lst rx;exact⟨a,vs,rfl,.inl ⟨rfl,q.sq⟩,r.rel⟩
 ·split at e
  ·rename_i ys ey
   cases e
   obtain⟨o,ho,vs,rfl,rs⟩:=hc _ _ ey
   exact⟨_,vs,rx,.inl ⟨rfl,Dx.of ho⟩,rs⟩
  ·cases e
 ·cases e
def aIn(nb:Bool->Bool):A2:=λx y μ R=>match y with
 | .D (.str j)=>match x with
  | .D (.str i)=>R (.D (.bool (nb (!(Builtin.Str.occurrences j i 0 j.length 1).isEmpty)))) μ
  | _=>False
 | .C ds=>opt (see μ x) λd=>Bq d/\Bq (.tuple ds)/\R (.D (.bool (nb (ds.any λe=>PyData.eqv e d)))) μ
 | .D (.tuple ds)=>opt (see μ x) λd=>Bq d/\Bq (.tuple ds)/\R (.D (.bool (nb (ds.any λe=>PyData.eqv e d)))) μ
 | y=>opt (see μ x) λd=>opt (items μ y) λys=>opt (dats ys) λds=>Bq d/\Bq (.tuple ds)/\R (.D (.bool (nb (ds.any λe=>PyData.eqv e d)))) μ
theorem Oa{nb:Bool->Bool}{x y:AV}{μ:M}{R:AV->M->Prop}(h:aIn nb x y μ R)(hn:∀z,y≠.D (.str z)):∃d ys ds,see μ x=some d/\items μ y=some ys/\dats ys=some ds/\Bq d/\Bq (.tuple ds)/\R (.D (.bool (nb (ds.any λe=>PyData.eqv e d)))) μ:=by
 unfold aIn at h
 split at h
 ·exact absurd rfl (hn _)
 ·obtain⟨d,ed,h⟩:=Aq h
  exact⟨d,_,_,ed,rfl,Bi _,h⟩
 ·obtain⟨d,ed,h⟩:=Aq h
  exact⟨d,_,_,ed,rfl,Bi _,h⟩
 ·obtain⟨d,ed,h⟩:=Aq h
  obtain⟨ys,ey,h⟩:=Aq h
  obtain⟨ds,eds,h⟩:=Aq h
  exact⟨d,ys,ds,ed,ey,eds,h⟩
theorem K8{ds:List PyData}(h:Bq (.tuple ds)):PyData.canLayAll0 ds=true/\PyData.depthAll ds<=64:=by
 obtain⟨h1,h2⟩:=h
 simp only [PyData.canLay0]at h1
 simp only [PyData.depth]at h2
 exact⟨h1,by omega⟩
theorem P9(hr:Room k X.A):VOp X (compareOp .In) (aIn λb=>b):=by
 intro aa s σ H x y v u Q I rx ry zz16
 refine Dv zz16 λa b μ R ra rb hc h hq=>?_
 by_cases hb:∃z,b=.D (.str z)
 ·obtain⟨z,rfl⟩:=hb
  unfold aIn at h
  dsimp only at h
  split at h
  ·cases RelA.str ra;cases RelA.str rb
   exact Pq aa s σ H _ _ v u Q I rx ry ⟨_,_,rfl,rfl,hq _ _ _ _ Kp.refl hc D4 h⟩
  ·exact h.elim
 ·obtain⟨d,ys,ds,ed,ey,eds,h⟩:=Oa h λz e=>hb ⟨z,e⟩
  ·skip
   obtain⟨ok1,ko,h⟩:=h
   obtain⟨as,r1⟩:=Cu I hc ra rx ed
   obtain⟨p,vs,rfl,hp,rs⟩:=Is hc rb ey
   cases ry
   obtain⟨c1,c2⟩:=K8 ko
   have hs:=rs.dats eds
   have hu:=hr.un
   have q:=hq _ _ _ _ Kp.refl hc D4 h
   rcases hp with hp | hp
   ·obtain⟨ah,r,pl,hz⟩:=I.list hp
    obtain⟨bs,rb⟩:=Aj.reads I ds vs ah hs r
    have e:=λA=>Da (A:=A) r1 ok1.1
    refine SeqAt.in_listAt (Ml s.heap d) pl.isList (λw hw=>(e _ (by first | (show X.A.units+64 < _;omega) | (show X.A.units+1+64 < _;omega) | (show X.A.units+1+1+64 < _;omega)) rb c1 c2).1 w (by simpa using hw)) ⟨.bl _,H,I,rfl,?_⟩
    rw [show ah.toArray.any (Ml s.heap d)=ah.any (Ml s.heap d) by simp,(e X.A (by omega) rb c1 c2).2]
    exact q
   ·obtain⟨ah,r,pl,hz⟩:=I.tuple hp
    obtain⟨bs,rb⟩:=Aj.reads I ds vs ah hs r
    have e:=λA=>Da (A:=A) r1 ok1.1
    refine SeqAt.in_tupleAt (Ml s.heap d) pl (λw hw=>(e _ (by first | (show X.A.units+64 < _;omega) | (show X.A.units+1+64 < _;omega) | (show X.A.units+1+1+64 < _;omega)) rb c1 c2).1 w (by simpa using hw)) ⟨.bl _,H,I,rfl,?_⟩
    rw [show ah.toArray.any (Ml s.heap d)=ah.any (Ml s.heap d) by simp,(e X.A (by omega) rb c1 c2).2]
    exact q
theorem Gf(hr:Room k X.A):VOp X (compareOp .NotIn) (aIn λb=>!b):=by
 intro aa s σ H x y v u Q I rx ry zz17
 refine Dv zz17 λa b μ R ra rb hc h hq=>?_
 by_cases hb:∃z,b=.D (.str z)
 ·obtain⟨z,rfl⟩:=hb
  unfold aIn at h
  dsimp only at h
  split at h
  ·cases RelA.str ra;cases RelA.str rb
   exact Jo aa s σ H _ _ v u Q I rx ry ⟨_,_,rfl,rfl,hq _ _ _ _ Kp.refl hc D4 h⟩
  ·exact h.elim
 ·obtain⟨d,ys,ds,ed,ey,eds,h⟩:=Oa h λz e=>hb ⟨z,e⟩
  ·skip
   obtain⟨ok1,ko,h⟩:=h
   obtain⟨as,r1⟩:=Cu I hc ra rx ed
   obtain⟨p,vs,rfl,hp,rs⟩:=Is hc rb ey
   cases ry
   obtain⟨c1,c2⟩:=K8 ko
   have hs:=rs.dats eds
   have hu:=hr.un
   have q:=hq _ _ _ _ Kp.refl hc D4 h
   rcases hp with hp | hp
   ·obtain⟨ah,r,pl,hz⟩:=I.list hp
    obtain⟨bs,rb⟩:=Aj.reads I ds vs ah hs r
    have e:=λA=>Da (A:=A) r1 ok1.1
    refine SeqAt.notIn_listAt (Ml s.heap d) pl.isList (λw hw=>(e _ (by first | (show X.A.units+64 < _;omega) | (show X.A.units+1+64 < _;omega) | (show X.A.units+1+1+64 < _;omega)) rb c1 c2).1 w (by simpa using hw)) ⟨.bl _,H,I,rfl,?_⟩
    rw [show ah.toArray.any (Ml s.heap d)=ah.any (Ml s.heap d) by simp,(e X.A (by omega) rb c1 c2).2]
    exact q
   ·obtain⟨ah,r,pl,hz⟩:=I.tuple hp
    obtain⟨bs,rb⟩:=Aj.reads I ds vs ah hs r
    have e:=λA=>Da (A:=A) r1 ok1.1
    refine SeqAt.notIn_tupleAt (Ml s.heap d) pl (λw hw=>(e _ (by first | (show X.A.units+64 < _;omega) | (show X.A.units+1+64 < _;omega) | (show X.A.units+1+1+64 < _;omega)) rb c1 c2).1 w (by simpa using hw)) ⟨.bl _,H,I,rfl,?_⟩
    rw [show ah.toArray.any (Ml s.heap d)=ah.any (Ml s.heap d) by simp,(e X.A (by omega) rb c1 c2).2]
    exact q
def aI(C:Int->Int->Prop)(g:Int->Int->PyData):A2:=λx y μ R=>match x,y with
 | .D (.int i),.D (.int j)=>C i j/\R (.D (g i j)) μ
 | _,_=>False
def aI0(g:Int->Int->PyData):A2:=λx y μ R=>match x,y with
 | .D (.int i),.D (.int j)=>R (.D (g i j)) μ
 | _,_=>False
theorem o_I{f:Value->Value->Sem Value}{C:Int->Int->Prop}{g:Int->Int->V}{g':Int->Int->PyData}(h:Go X f (rI C g))(hg:∀i j H,Dk X.K H (g' i j) (g i j)):VOp X f (aI C g'):=by
 intro aa s σ H x y v u Q I rx ry zz20
 refine Dv zz20 λa b μ R ra rb hc h' hq=>?_
 cases a with
 | D d =>
  cases d with
  | int i =>
   cases b with
   | D e =>
    cases e with
    | int j =>
     cases RelA.int ra;cases RelA.int rb
     exact h aa s σ H _ _ v u Q I rx ry ⟨_,_,rfl,rfl,h'.1,hq _ _ _ _ Kp.refl hc (P8 (hg _ _ _)) h'.2⟩
    | _=>exact False.elim h'
   | _=>exact False.elim h'
  | _=>exact False.elim h'
 | _=>exact False.elim h'
theorem Vx{f:Value->Value->Sem Value}{g:Int->Int->V}{g':Int->Int->PyData}(h:Go X f (Xi g))(hg:∀i j H,Dk X.K H (g' i j) (g i j)):VOp X f (aI0 g'):=by
 intro aa s σ H x y v u Q I rx ry zz21
 refine Dv zz21 λa b μ R ra rb hc h' hq=>?_
 cases a with
 | D d =>
  cases d with
  | int i =>
   cases b with
   | D e =>
    cases e with
    | int j =>
     cases RelA.int ra;cases RelA.int rb
     exact h aa s σ H _ _ v u Q I rx ry ⟨_,_,rfl,rfl,hq _ _ _ _ Kp.refl hc (P8 (hg _ _ _)) h'⟩
    | _=>exact False.elim h'
   | _=>exact False.elim h'
  | _=>exact False.elim h'
 | _=>exact False.elim h'
abbrev Qcy:A2:=aI0 λi j=>.int (i - j)
abbrev Qcz:A2:=aI CDiv λi j=>.int (i / j)
abbrev Qf5:A2:=aI (λ_ j=>0 < j) λi j=>.int (i % j)
abbrev Qf6:A2:=aI CPow λi j=>.int (i ^ j.toNat)
abbrev aLt:A2:=aI0 λi j=>.bool (decide (i < j))
abbrev aGt:A2:=aI0 λi j=>.bool (decide (j < i))
abbrev aGe:A2:=aI0 λi j=>.bool (decide (j<=i))
theorem Xo:VOp X (binaryOp .Sub) Qcy:=Vx Y2 λ_ _ _=>D3
theorem M4:VOp X (binaryOp .FloorDiv) Qcz:=o_I U8 λ_ _ _=>D3
theorem Fw:VOp X (binaryOp .Mod) Qf5:=o_I Y4 λ_ _ _=>D3
theorem Qc0:VOp X (binaryOp .Pow) Qf6:=o_I Y5 λ_ _ _=>D3
theorem Vy:VOp X (compareOp .Lt) aLt:=Vx Qcf λ_ _ _=>K0
theorem Vz:VOp X (compareOp .Gt) aGt:=Vx Qcg λ_ _ _=>K0
theorem Qf7:VOp X (compareOp .GtE) aGe:=Vx Qch λ_ _ _=>K0
def Qf8:A2:=λx y μ R=>match x,y with
 | .D (.int i),.D (.int j)=>CMul i j/\R (.D (.int (i * j))) μ
 | .D (.str z),.D (.int n)=>(n=0\/n=1)/\R (.D (.str (if n=0 then Str.empty else z))) μ
 | _,_=>False
theorem G4:VOp X (binaryOp .Mult) Qf8:=by
 intro aa s σ H x y v u Q I rx ry zz22
 refine Dv zz22 λa b μ R ra rb hc h hq=>?_
 cases a with
 | D d =>
  cases d with
  | int i =>
   cases b with
   | D e =>
    cases e with
    | int j =>
     cases RelA.int ra;cases RelA.int rb
     exact Y3 aa s σ H _ _ v u Q I rx ry ⟨_,_,rfl,rfl,h.1,hq _ _ _ _ Kp.refl hc Cv h.2⟩
    | _=>exact False.elim h
   | _=>exact False.elim h
  | str z =>
   cases b with
   | D e =>
    cases e with
    | int j =>
     cases RelA.str ra;cases RelA.int rb
     exact Jt aa s σ H _ _ v u Q I rx ry ⟨_,_,rfl,rfl,h.1,hq _ _ _ _ Kp.refl hc Gy h.2⟩
    | _=>exact False.elim h
   | _=>exact False.elim h
  | _=>exact False.elim h
 | _=>exact False.elim h
def Qf9:A2:=λx y μ R=>match x,y with
 | .D (.int i),.D (.int j)=>R (.D (.int (i+j))) μ
 | .D (.str i),.D (.str j)=>i.length+j.length<=sizeLine/\R (.D (.str (i++j))) μ
 | .D (.tuple i),.D (.tuple j)=>i.length+j.length<=sizeLine/\R (.D (.tuple (i++j))) μ
 | .R i,.R j=>opt (μ i) λm=>opt (μ j) λn=>match m,n with
  | .lst xs,.lst ys=>xs.length+ys.length<=sizeLine/\∀p,μ p=none->R (.R p) (Ao μ p (.lst (xs++ys)))
  | _,_=>False
 | _,_=>False
theorem Qga{K:PySem.W.Frag}{aa:List (Addr×Obj)}{σ:St}{H:Hp}{s:Shared}{v u:Value}{x y:V}{ds es:List PyData}{Q:VK}(hK:X.K=K)(I:Inv X aa σ H s)(rx:A0 x v)(ry:A0 y u)(hx:Dk K H (.tuple ds) x)(hy:Dk K H (.tuple es) y)
  (hz:ds.length+es.length<=sizeLine) (q:∀z H',Kp H H'->(∀ μ,Cn K μ H->Cn K μ H')->Dk K H' (.tuple (ds++es)) z->Q z H'):wpAny (model X.prog X.w) X.A (binaryOp .Add v u) (EP X aa σ Q) X.xe s:=by
 subst hK
 obtain⟨a,xs,rfl,ha,hxs⟩:=hx.tup
 obtain⟨b,ys,rfl,hb,hys⟩:=hy.tup
 cases rx
 cases ry
 obtain⟨ah,r1,p1,_⟩:=I.tuple ha.sq
 obtain⟨its2,r2,p2,_⟩:=I.tuple hb.sq
 have l1:=hxs.length
 have l2:=hys.length
 by_cases hv:xs=[]
 ·subst hv
  have e:ah=[]:=r1.nil_iff.mpr rfl
  subst e
  have ed:ds=[]:=List.length_eq_zero_iff.mp l1.symm
  subst ed
  obtain⟨⟨cls,dd,data,sl⟩,ho,hc,n,hd⟩:=id p1
  obtain⟨⟨cls2,dd2,data2,ku⟩,cj,hc2,n2,kc⟩:=id p2
  simp only at hc hd hc2 kc
  subst hc hd hc2 kc
  exact concat_meets ⟨_,ho,rfl⟩ ⟨_,cj,rfl⟩ noFill_tuple_add seq_tuple_add Yd7 Ydy (Ydv _ _)
   (tuple_addW0 a b [].toArray its2.toArray n n2 dd dd2 sl ku rfl) ⟨ho,cj,.ref b,H,I,rfl,q _ _ Kp.refl (λ_ c=>c) (by simpa using hy)⟩
 ·refine HT.cat_tup p1 p2 (λz=>hv (r1.nil_iff.mp z)) (λz=>⟨.ref a,H,I,rfl,q _ _ Kp.refl (λ_ c=>c) ?_⟩) (λz=>?_) (by rw [<- r1.length,<- r2.length,l1,l2];exact hz)
  ·have e:ys=[]:=r2.nil_iff.mp z
   subst e
   have ed:es=[]:=List.length_eq_zero_iff.mp l2.symm
   subst ed
   simpa using hx
  ·have hf:=I.hok.fresh (Yad s.heap.objs.size)
   refine⟨.ref s.heap.objs.size,_,I.laid (t':=s.toks) (o:=.tup (xs++ys)) (λb ob q=>Heap.get?_push_of_some _ q) (Yad _) ?_,rfl,q _ _ (Kp.new hf _) (λ_ c=>c.over hf) ?_⟩
   ·exact⟨by rw [Yao,l1,l2];exact hz,_,r1.append r2,IsTup.new _ _⟩
   ·exact Es Bh (Aj.kp (Kp.new hf _) _ _ (hxs.append hys))
theorem Bx:VOp X (binaryOp .Add) Qf9:=by
 intro aa s σ H x y v u Q I rx ry zz23
 refine Dv zz23 λa b μ R ra rb hc h hq=>?_
 cases a with
 | D d =>
  cases d with
  | int i =>
   cases b with
   | D e =>
    cases e with
    | int j =>
     cases RelA.int ra;cases RelA.int rb
     exact Y1 aa s σ H _ _ v u Q I rx ry ⟨_,_,rfl,rfl,hq _ _ _ _ Kp.refl hc Cv h⟩
    | _=>exact False.elim h
   | _=>exact False.elim h
  | str z =>
   cases b with
   | D e =>
    cases e with
    | str j =>
     cases RelA.str ra;cases RelA.str rb
     exact Mp aa s σ H _ _ v u Q I rx ry ⟨_,_,rfl,rfl,h.1,hq _ _ _ _ Kp.refl hc Gy h.2⟩
    | _=>exact False.elim h
   | _=>exact False.elim h
  | tuple ds =>
   cases b with
   | D e =>
    cases e with
    | tuple es=>exact Qga rfl I rx ry ra rb h.1 λz H' S c hd=>hq _ _ _ _ S (c _ hc) (P8 hd) h.2
    | _=>exact False.elim h
   | _=>exact False.elim h
  | _=>exact False.elim h
 | R i =>
  cases b with
  | R j =>
   obtain⟨m,ei,h⟩:=Aq h
   obtain⟨n,ej,h⟩:=Aq h
   cases m with
   | lst xs =>
    cases n with
    | lst ys =>
     cases (show x=.ref i from ra);cases (show y=.ref j from rb)
     obtain⟨o,ho,vs,rfl,rs⟩:=hc i _ ei
     obtain⟨o',ho',ws,rfl,jg⟩:=hc j _ ej
     exact Zg aa s σ H _ _ v u Q I rx ry ⟨i,j,vs,ws,rfl,rfl,ho,ho',by rw [<- rs.length,<- jg.length];exact h.1,λp hp=>hq _ _ _ _ (Kp.new hp _) (hc.new hp (Cp (rs.append jg))) C7 (h.2 p (hc.none hp))⟩
    | _=>exact False.elim h
   | _=>exact False.elim h
  | _=>exact False.elim h
 | _=>exact False.elim h
end
section
variable {X:Cx}{a b c:Expr}{ta tb tc:AE}{pos:Pos}
def aIx:A2:=λx y μ R=>match x,y with
 | .D (.str z),.D (.int i)=>z.length<=sizeLine/\opt (atI z.cps.toList i) λc=>R (.D (.str ⟨#[c]⟩)) μ
 | .D (.tuple ds),.D (.int i)=>opt (atI ds i) λd=>R (.D d) μ
 | .D (.list ds),.D (.int i)=>opt (atI ds i) λd=>R (.D d) μ
 | .R a,.D (.int i)=>opt (μ a) λm=>match m with
  | .lst xs=>opt (atI xs i) λw=>R w μ
  | _=>False
 | _,_=>False
theorem V0{x y:AV}{μ:M}{R:AV->M->Prop}(h:aIx x y μ R):∃i,y=.D (.int i):=by
 have no:(∀d,aIx (.D d) y μ R->False)->(∀a,aIx (.R a) y μ R->False)->False:=λh1 h2=>by
  cases x with
  | D d=>exact h1 d h
  | R a=>exact h2 a h
  | _=>exact h
 cases y with
 | D e =>
  cases e with
  | int i=>exact⟨i,rfl⟩
  | _=>exact(no (λd q=>by cases d <;> exact q) λa q=>q).elim
 | _=>exact(no (λd q=>by cases d <;> exact q) λa q=>q).elim
theorem Cg:VIx X aIx:=by
 intro value slice aa s σ H x y v u Q I rx ry zq hs
 refine Dv zq λa b μ R ra rb hc h hq=>?_
 obtain⟨i,rfl⟩:=V0 h
 cases RelA.int rb
 cases a with
 | D d =>
  cases d with
  | str z =>
   cases RelA.str ra
   obtain⟨h1,h⟩:=h
   obtain⟨c,e,h⟩:=Aq h
   exact Zd value slice aa s σ H _ _ v u Q I rx ry ⟨_,_,_,rfl,rfl,h1,e,hq _ _ _ _ Kp.refl hc Gy h⟩ hs
  | tuple ds =>
   obtain⟨d,ed,h⟩:=Aq h
   obtain⟨p,vs,rfl,hp,rs⟩:=RelA.tup ra
   obtain⟨z,ez,rz⟩:=rs.atI ed
   exact Zc value slice aa s σ H _ _ v u Q I rx ry ⟨_,_,_,_,rfl,rfl,hp.sq,ez,hq _ _ _ _ Kp.refl hc (P8 rz) h⟩ hs
  | list ds =>
   obtain⟨d,ed,h⟩:=Aq h
   obtain⟨p,vs,rfl,hp,rs⟩:=RelA.lst ra
   obtain⟨z,ez,rz⟩:=rs.atI ed
   exact N5 value slice aa s σ H _ _ v u Q I rx ry ⟨_,_,_,_,rfl,rfl,hp.sq,ez,hq _ _ _ _ Kp.refl hc (P8 rz) h⟩ hs
  | _=>exact False.elim h
 | R a =>
  obtain⟨m,em,h⟩:=Aq h
  cases m with
  | lst xs =>
   obtain⟨w,ew,h⟩:=Aq h
   obtain⟨o,ho,vs,rfl,rs⟩:=hc _ _ em
   cases (show x=.ref _ from ra)
   obtain⟨z,ez,rz⟩:=rs.atI ew
   exact N5 value slice aa s σ H _ _ v u Q I rx ry ⟨_,_,_,_,rfl,rfl,Dx.of ho,ez,hq _ _ _ _ Kp.refl hc rz h⟩ hs
  | _=>exact False.elim h
 | _=>exact False.elim h
theorem Bt{r:A2}(hr:VIx X r)(ha:VE X a ta)(hb:VE X b tb)(hs:N4 b:=by intro _ _;rfl):VE X (.Subscript a b pos) (Xn r ta tb):=(Qco hr ha hb hs).imp λ_ _ _ h=>Gd h
def V1:AO:=λ_ μ R=>R none μ
def Qc2(t:AE):AO:=fun τ μ R=>t τ μ λx μ1=>match x with
 | .D (.int i)=>R (some i) μ1
 | _=>False
theorem Ee:VO X none V1:=Vd.imp fun σ H Q zz24=>B4 zz24 fun τ μ R hs hc h hq=>hq _ _ _ Kp.refl hc h
theorem Dp(h:VE X a ta):VO X (some a) (Qc2 ta):=(Ve h).imp fun σ H Q zz25=>B4 zz25 fun τ μ R hs hc h hq=>⟨τ,μ,_,hs,hc,h,λx μ1 v H1 S1 c1 rx hx=>by
 split at hx
 ·cases RelA.int rx
  exact⟨_,rfl,hq _ _ _ S1 c1 hx⟩
 ·exact hx.elim⟩
def aSl(x:AV)(lo hi:Option Int):M->(AV->M->Prop)->Prop:=fun μ R=>match x with
 | .D (.str z)=>z.length<=sizeLine/\R (.D (.str (Txt.slice z lo hi))) μ
 | .D (.tuple ds)=>R (.D (.tuple (Hw ds lo hi))) μ
 | .C _=>False
 | x=>opt (items μ x) λxs=>∀p,μ p=none->R (.R p) (Ao μ p (.lst (Sg xs lo hi)))
def cSl(K:PySem.W.Frag):V->Option Int->Option Int->Hp->VK->Prop:=λx lo hi H Q=>∃a μ R,RelA K H a x/\Cn K μ H/\aSl a lo hi μ R/\LV K H R Q
theorem Qgc:SlR X (cSl X.K):=by
 intro aa s σ H x v vl vu lo hi sl Q I rx hs pl pu ⟨a,μ,R,ra,hc,h,hq⟩
 unfold aSl at h
 split at h
 ·cases RelA.str ra
  exact Zo aa s σ H _ v vl vu lo hi sl Q I rx hs pl pu ⟨_,rfl,h.1,hq _ _ _ _ Kp.refl hc Gy h.2⟩
 ·rename_i ds
  by_cases hw:HT.sIx ds.length 0 lo=0/\HT.sIx ds.length ds.length hi=ds.length
  ·obtain⟨a,xs,rfl,ha,hx⟩:=RelA.tup ra
   cases rx
   obtain⟨ah,r,ht,hz⟩:=I.tuple ha.sq
   have aj:ah.toArray.size=ds.length:=by rw [Yar,<- r.length,hx.length]
   refine⟨"tuple",_,Ybo.lookup,ht.typeIs,?_⟩
   refine HT.getItem_tuple_all ht hs pl pu (by rw [aj];exact hw) ⟨.ref a,H,I,rfl,hq _ _ _ _ Kp.refl hc ?_ h⟩
   rw [Se hw]
   exact ra
  ·obtain⟨a,xs,rfl,ha,hx⟩:=RelA.tup ra
   refine Zb aa s σ H (.ref a) v vl vu lo hi sl Q I rx hs pl pu ⟨a,xs,rfl,ha.sq,by rw [hx.length];exact hw,λp hp=>?_⟩
   exact hq _ _ _ _ (Kp.new hp _) (hc.over hp) (Sf Bh (Aj.kp (Kp.new hp _) _ _ (hx.cut lo hi))) h
 ·exact h.elim
 ·rename_i n1 n2 n3
  obtain⟨xs,ex,h⟩:=Aq h
  ·obtain⟨p,vs,rfl,hp,rs⟩:=Ca hc ra ex
   rcases hp with⟨_,hp⟩ | ⟨ht,hp⟩
   ·exact Vf aa s σ H _ v vl vu lo hi sl Q I rx hs pl pu ⟨_,_,rfl,hp,λp hp=>hq _ _ _ _ (Kp.new hp _) (hc.new hp (Cp (rs.cut lo hi))) C7 (h p (hc.none hp))⟩
   ·exfalso
    unfold Sk at ht
    split at ht
    ·exact n2 _ rfl
    ·exact n3 _ rfl
    ·cases ht
def vSl(te:AE)(tl th:AO):AE:=fun τ μ R=>te τ μ λx μ1=>tl τ μ1 λl μ2=>th τ μ2 λu μ3=>aSl x l u μ3 R
theorem Dc{lo hi:Option Expr}{tl th:AO}{p2:Pos}(he:VE X a ta)(hl:VO X lo tl)(hu:VO X hi th):VE X (.Subscript a (.Slice lo hi none p2) pos) (vSl ta tl th) :=
 (Rw Qgc he hl hu).imp fun σ H Q zz26=>B4 zz26 fun τ μ R hs hc h hq=>⟨τ,μ,_,hs,hc,h,λx μ1 v H1 S1 c1 rx hx=>⟨τ,μ1,_,hs.kp S1,c1,hx,λl μ2 H2 S2 c2 hl=>⟨τ,μ2,_,hs.kp (S1.trans S2),c2,hl,λu μ3 H3 S3 c3 hu =>
  ⟨x,μ3,R,rx.kp (S2.trans S3),c3,hu,hq.kp (S1.trans (S2.trans S3))⟩⟩⟩⟩
variable {x:Str}{p:Pos}{e:Expr}{es:List Expr}{t:AA}{i4 T:String}{r:AC}
def vCB(r:AC)(t:AA):AE:=fun τ μ R=>t τ μ λxs μ1=>r xs μ1 R
theorem Ob{K:PySem.W.Frag}{n:Nat}{r:AC}{t:AA}{σ:St}{H:Hp}{Q:VK}(h:cE K (vCB r t) σ H Q):tCB (cC K r) (cA K n t) σ H Q:=by
 obtain⟨τ,μ,R,hs,hc,h,hq⟩:=h
 exact⟨τ,μ,_,hs,hc,h,λxs μ1 vs H1 S1 c1 rs hl hx=>⟨xs,μ1,R,rs,c1,hx,hq.kp S1⟩⟩
theorem A8(hc:VCall X (.builtin i4) r)(hg:Gl X x)(hm:X.mg x=none)(hv:bootBuiltins x=some (.builtin i4))(ha:VA X (e :: es) t)(hn:x ≠ "__name__" := by decide) (hd:(x==("__debug__" : Str))=false:=by decide)
  (bv:starEach (e :: es) X.env=(false,eval e X.env) :: starEach es X.env:=by rfl) (hpl:(backTo pos (starEach es X.env)).any (·.1)=false:=by rfl):VE X (.Call (.Name x p) (e :: es) [] pos) (vCB r t) :=
 (Ru hc hg hm hv ha hn hd bv hpl).imp λ_ _ _ h=>Ob h
theorem Cb(hc:VCall X (.type T) r)(hg:Gl X x)(hm:X.mg x=none)(hv:bootBuiltins x=some (.type T))(ha:VA X (e :: es) t)(hn:x ≠ "__name__" := by decide) (hd:(x==("__debug__" : Str))=false:=by decide)
  (bv:starEach (e :: es) X.env=(false,eval e X.env) :: starEach es X.env:=by rfl) (hpl:(backTo pos (starEach es X.env)).any (·.1)=false:=by rfl):VE X (.Call (.Name x p) (e :: es) [] pos) (vCB r t) :=
 (Ij hc hg hm hv ha hn hd bv hpl).imp λ_ _ _ h=>Ob h
def V2:AC:=λxs μ R=>match xs with
 | [.D (.str z)]=>z.length<=sizeLine/\R (.D (.int z.length)) μ
 | [.D (.tuple ds)]=>R (.D (.int ds.length)) μ
 | [.D (.list ds)]=>R (.D (.int ds.length)) μ
 | [.R a]=>opt (μ a) λm=>match m with
  | .lst ys=>R (.D (.int ys.length)) μ
  | .dk ae=>R (.D (.int ae.length)) μ
  | _=>False
 | _=>False
theorem Dd:VCall X (.builtin "len") V2:=by
 intro aa s σ H xs us Q I r zz27
 refine B4 zz27 λas μ R ra hc h hq=>?_
 have no:∀{y:AV} {t:List AV} {x:AV},V2 (x :: y :: t) μ R->False:=λ{y t x} q=>by
  cases x with
  | D d=>cases d <;> exact q
  | _=>exact q
 cases ra with
 | nil=>exact False.elim h
 | @cons x v xs' vs' r1 r2 =>
  cases r2 with
  | cons _ _=>exact(no h).elim
  | nil =>
   cases x with
   | D d =>
    cases d with
    | str z =>
     cases RelA.str r1
     exact Jp aa s σ H _ us Q I r ⟨_,rfl,h.1,hq _ _ _ _ Kp.refl hc Cv h.2⟩
    | tuple ds =>
     obtain⟨p,vs,rfl,hp,rs⟩:=RelA.tup r1
     refine Dn aa s σ H _ us Q I r ⟨p,vs,rfl,.inr hp.sq,hq _ _ _ _ Kp.refl hc ?_ h⟩
     rw [rs.length];exact Cv
    | list ds =>
     obtain⟨p,vs,rfl,hp,rs⟩:=RelA.lst r1
     refine Dn aa s σ H _ us Q I r ⟨p,vs,rfl,.inl hp.sq,hq _ _ _ _ Kp.refl hc ?_ h⟩
     rw [rs.length];exact Cv
    | _=>exact False.elim h
   | R a =>
    obtain⟨m,em,h⟩:=Aq h
    cases (show _=V.ref _ from r1)
    obtain⟨o,ho,rm⟩:=hc _ _ em
    cases m with
    | lst ys =>
     obtain⟨vs,rfl,rs⟩:=rm
     refine Dn aa s σ H _ us Q I r ⟨_,vs,rfl,.inl (Dx.of ho),hq _ _ _ _ Kp.refl hc ?_ h⟩
     rw [rs.length];exact Cv
    | dk ae =>
     obtain⟨vs,rfl,rs⟩:=rm
     refine Pz aa s σ H _ us Q I r ⟨_,vs,rfl,ho,hq _ _ _ _ Kp.refl hc ?_ h⟩
     rw [Ycc rs];exact Cv
    | _=>exact False.elim h
   | _=>exact False.elim h
def Jz:AC:=λxs μ R=>match xs with
 | [.D (.tuple ds)]=>R (.D (.tuple ds)) μ
 | [.C _]=>False
 | [y]=>opt (items μ y) λys=>opt (dats ys) λds=>R (.D (.tuple ds)) μ
 | _=>False
theorem M5{x:AV}{t:List AV}{μ:M}{R:AV->M->Prop}(h:Jz (x :: t) μ R):t=[]:=by
 cases t with
 | nil=>rfl
 | cons y t =>
  refine False.elim ?_
  cases x with
  | D d=>cases d <;> exact h
  | _=>exact h
theorem Qa{x:AV}{μ:M}{R:AV->M->Prop}(ht:Sk x=false)(h:Jz [x] μ R):opt (items μ x) λys=>opt (dats ys) λds=>R (.D (.tuple ds)) μ:=by
 cases x with
 | D d=>cases d <;> first | exact h | cases ht
 | C ds=>cases ht
 | _=>exact h
theorem Sl{x:AV}{μ:M}{R:AV->M->Prop}(ht:Sk x=true)(h:Jz [x] μ R):∃ds,x=.D (.tuple ds)/\R (.D (.tuple ds)) μ:=by
 cases x with
 | D d =>
  cases d with
  | tuple ds=>exact⟨ds,rfl,h⟩
  | _=>cases ht
 | C ds=>exact False.elim h
 | _=>cases ht
theorem Dq:VCall X (.type "tuple") Jz:=by
 intro aa s σ H xs us Q I r zz28
 refine B4 zz28 λas μ R ra hc h hq=>?_
 cases ra with
 | nil=>exact False.elim h
 | @cons y v ys' vs' r1 r2 =>
  have hn:=M5 h
  subst hn
  cases r2
  cases ht:Sk y with
  | true =>
   obtain⟨ds,rfl,h⟩:=Sl ht h
   obtain⟨p,vs,rfl,hp,rs⟩:=RelA.tup r1
   exact El aa s σ H _ us Q I r ⟨p,vs,rfl,.inr ⟨hp.sq,hq _ _ _ _ Kp.refl hc r1 h⟩⟩
  | false =>
   obtain⟨ys,ey,h⟩:=Aq (Qa ht h)
   obtain⟨ds,ed,h⟩:=Aq h
   obtain⟨p,vs,rfl,hp,rs⟩:=Ca hc r1 ey
   rcases hp with⟨_,hp⟩ | ⟨ht2,_⟩
   ·exact El aa s σ H _ us Q I r ⟨p,vs,rfl,.inl ⟨hp,λl hl=>hq _ _ _ _ (Kp.new hl _) (hc.over hl) (Sf Bh (Aj.kp (Kp.new hl _) _ _ (rs.dats ed))) h⟩⟩
   ·rw [ht]at ht2;cases ht2
def bools:List AV->Option (List Bool)
 | []=>some []
 | .D (.bool b) :: r=>match bools r with
  | some bs=>some (b :: bs)
  | none=>none
 | _ :: _=>none
theorem Iu:∀(bs:List Bool),bools (bs.map λb=>.D (.bool b))=some bs
 | []=>rfl
 | b :: bs=>by simp only [List.map_cons,bools,Iu bs]
theorem An.bools{K:PySem.W.Frag}{H:Hp}{xs:List AV}{vs:List V}{bs:List Bool}(h:An K H xs vs)(e:L2.bools xs=some bs):vs=bs.map V.bl:=by
 induction h generalizing bs with
 | nil=>cases e;rfl
 | @cons x v xs vs r t ih =>
  cases x with
  | D d =>
   cases d with
   | bool b =>
    simp only [L2.bools]at e
    cases q:L2.bools xs with
    | none=>rw [q]at e;cases e
    | some cs=>rw [q]at e;cases e;cases RelA.bl r;rw [ih q];rfl
   | _=>simp [L2.bools]at e
  | _=>simp [L2.bools]at e
def Zw:AC:=λxs μ R=>match xs with
 | [.R a]=>opt (μ a) λm=>match m with
  | .lst ys=>opt (bools ys) λbs=>R (.D (.bool (bs.all id))) μ
  | _=>False
 | _=>False
theorem Sm(px:X.calm=true):VCall X (.builtin "all") Zw:=by
 intro aa s σ H xs us Q I r zz30
 refine B4 zz30 λas μ R ra hc h hq=>?_
 unfold Zw at h
 split at h
 ·cases ra with
  | cons r1 r2 =>
   cases r2
   obtain⟨m,em,h⟩:=Aq h
   split at h
   ·obtain⟨bs,eb,h⟩:=Aq h
    obtain⟨o,ho,vs,rfl,rs⟩:=hc _ _ em
    cases (show _=V.ref _ from r1)
    exact Sd px aa s σ H _ us Q I r ⟨_,bs,rfl,Dx.of (by rw [ho,rs.bools eb]),hq _ _ _ _ Kp.refl hc D4 h⟩
   ·exact h.elim
 ·exact h.elim
variable {o:Expr}{to:AE}{name:Str}{aw aq:Pos}{m:AV->AC}
def Oc(μ:M):AV->Prop
 | .R a=>opt (μ a) λm=>match m with
  | .lst _=>True
  | _=>False
 | .D (.list _)=>True
 | _=>False
def Xp:AV->Prop
 | .D (.str _)=>True
 | _=>False
theorem Oc.ty{H:Hp}{μ:M}{x:AV}{v:V}(hc:Cn X.K μ H)(rx:RelA X.K H x v)(h:Oc μ x):tyV X.K "list" v H:=by
 unfold Oc at h
 split at h
 ·obtain⟨m,e,h⟩:=Aq h
  split at h
  ·obtain⟨o,ho,vs,rfl,_⟩:=hc _ _ e
   cases (show v=.ref _ from rx)
   exact .inl ⟨rfl,vs,Dx.of ho⟩
  ·exact h.elim
 ·obtain⟨a,xs,rfl,q,_⟩:=RelA.lst rx
  exact .inl ⟨rfl,xs,q.sq⟩
 ·exact h.elim
def vBL(m:AV->AC)(to:AE)(t:AA):AE:=fun τ μ R=>to τ μ λx μ1=>Oc μ1 x/\t τ μ1 λxs μ2=>m x xs μ2 R
def vBS(m:AV->AC)(to:AE)(t:AA):AE:=fun τ μ R=>to τ μ λx μ1=>Xp x/\t τ μ1 λxs μ2=>m x xs μ2 R
theorem D5(slot:Slot "list" name i4) (j5:typeOf (.builtin i4)=pure (.type "method_descriptor")) (hm:VMt X i4 m) (ho:VE X o to) (ha:VA X (e :: es) t)
  (bu:attributeBase o name X.env (eval o X.env)=eval o X.env:=by rfl)
  (ig:((backTo aq (starEach (e :: es) X.env)).all (λx=>!x.1) && (backToKw aq (keywordEach [] X.env)).all (λx=>x.1.isSome)
   && decide ((e :: es).length+([]:List Keyword).length+(if([]:List Keyword).isEmpty then 0 else 1) < 30))=true:=by rfl)
  (bt:(aw.endLine==aq.line)=true:=by rfl) (hs:starEach (e :: es) X.env=(false,eval e X.env) :: starEach es X.env:=by rfl) (dc:(backTo aq (starEach es X.env)).any (·.1)=false:=by rfl) :
  VE X (.Call (.Attribute o name aw) (e :: es) [] aq) (vBL m to t) :=
 (Xk PySem.F.plainAttrs_list slot j5 hm ho ha bu ig bt hs dc).imp fun σ H Q zz34=>B4 zz34 fun τ μ R hs hc h hq=>⟨τ,μ,_,hs,hc,h,λx μ1 v H1 S1 c1 rx hx=>⟨hx.1.ty c1 rx,τ,μ1,_,hs.kp S1,c1,hx.2,λxs μ2 vs H2 S2 c2 rs hl hxs =>
  ⟨x,xs,μ2,R,rx.kp S2,rs,c2,hxs,hq.kp (S1.trans S2)⟩⟩⟩
theorem Qg4(slot:Slot "str" name i4) (j5:typeOf (.builtin i4)=pure (.type "method_descriptor")) (hm:VMt X i4 m) (ho:VE X o to) (ha:VA X (e :: es) t)
  (bu:attributeBase o name X.env (eval o X.env)=eval o X.env:=by rfl)
  (ig:((backTo aq (starEach (e :: es) X.env)).all (λx=>!x.1) && (backToKw aq (keywordEach [] X.env)).all (λx=>x.1.isSome)
   && decide ((e :: es).length+([]:List Keyword).length+(if([]:List Keyword).isEmpty then 0 else 1) < 30))=true:=by rfl)
  (bt:(aw.endLine==aq.line)=true:=by rfl) (hs:starEach (e :: es) X.env=(false,eval e X.env) :: starEach es X.env:=by rfl) (dc:(backTo aq (starEach es X.env)).any (·.1)=false:=by rfl) :
  VE X (.Call (.Attribute o name aw) (e :: es) [] aq) (vBS m to t) :=
 (Xk PySem.F.plainAttrs_str slot j5 hm ho ha bu ig bt hs dc).imp fun σ H Q zz35=>B4 zz35 fun τ μ R hs hc h hq=>⟨τ,μ,_,hs,hc,h,λx μ1 v H1 S1 c1 rx hx=>⟨by
   obtain⟨hx,_⟩:=hx
   unfold Xp at hx
   split at hx
   ·cases RelA.str rx;rfl
   ·exact hx.elim,τ,μ1,_,hs.kp S1,c1,hx.2,λxs μ2 vs H2 S2 c2 rs hl hxs =>
  ⟨x,xs,μ2,R,rx.kp S2,rs,c2,hxs,hq.kp (S1.trans S2)⟩⟩⟩
def J0:AV->AC:=λx xs μ R=>match x,xs with
 | .R a,[y]=>opt (μ a) λm=>match m with
  | .lst ys=>ys.length < sizeLine/\R (.D .none) (Ao μ a (.lst (ys++[y])))
  | _=>False
 | _,_=>False
theorem Cw:VMt X "list.append" J0:=by
 intro aa s σ H x xs v us Q I rx r zz36
 refine Dv zz36 λa as μ R ra rs hc h hq=>?_
 unfold J0 at h
 split at h
 ·rename_i a y
  obtain⟨m,ey,h⟩:=Aq h
  split at h
  ·cases rs with
   | cons r1 r2 =>
    cases r2
    obtain⟨o,ho,vs,rfl,rl⟩:=hc _ _ ey
    cases (show x=.ref a from ra)
    exact Il aa s σ H _ _ v us Q I rx r ⟨a,vs,_,rfl,rfl,ho,by rw [<- rl.length];exact h.1,hq _ _ _ _ (Kp.put ho trivial _) (hc.put ho trivial (Cp (rl.append (.cons r1 .nil)))) Mx h.2⟩
  ·exact h.elim
 ·exact h.elim
def Od:AV->AC:=λx xs μ R=>match x,xs with
 | .R a,[.R b]=>opt (μ a) λm=>opt (μ b) λn=>match m,n with
  | .lst ys,.lst zs=>ys.length+zs.length<=sizeLine/\R (.D .none) (Ao μ a (.lst (ys++zs)))
  | _,_=>False
 | _,_=>False
theorem K9:VMt X "list.extend" Od:=by
 intro aa s σ H x xs v us Q I rx r zz37
 refine Dv zz37 λa as μ R ra rs hc h hq=>?_
 unfold Od at h
 split at h
 ·rename_i a b
  obtain⟨m,ey,h⟩:=Aq h
  obtain⟨n,ez,h⟩:=Aq h
  split at h
  ·cases rs with
   | cons r1 r2 =>
    cases r2
    obtain⟨o,ho,vs,rfl,rl⟩:=hc _ _ ey
    obtain⟨o',ho',ws,rfl,rl'⟩:=hc _ _ ez
    cases (show x=.ref a from ra)
    cases (show _=V.ref b from r1)
    exact Ps aa s σ H _ _ v us Q I rx r ⟨a,b,vs,ws,rfl,rfl,ho,ho',by rw [<- rl.length,<- rl'.length];exact h.1,hq _ _ _ _ (Kp.put ho trivial _) (hc.put ho trivial (Cp (rl.append rl'))) Mx h.2⟩
  ·exact h.elim
 ·exact h.elim
def Sn:AV->AC:=λx xs μ R=>match x,xs with
 | .R a,[.D (.int i)]=>opt (μ a) λm=>match m with
  | .lst ys=>(-(2 ^ 63)<=i/\i < 2 ^ 63)/\opt (seqIndex? i ys.length) λk=>opt ys[k]? λy=>R y (Ao μ a (.lst (ys.eraseIdx k)))
  | _=>False
 | _,_=>False
theorem Oe:VMt X "list.pop" Sn:=by
 intro aa s σ H x xs v us Q I rx r zz39
 refine Dv zz39 λa as μ R ra rs hc h hq=>?_
 unfold Sn at h
 split at h
 ·rename_i a i
  obtain⟨m,ey,h⟩:=Aq h
  split at h
  ·obtain⟨⟨h1,h2⟩,h⟩:=h
   obtain⟨k,ek,h⟩:=Aq h
   obtain⟨y,e1,h⟩:=Aq h
   cases rs with
   | cons r1 r2 =>
    cases r2
    cases RelA.int r1
    obtain⟨o,ho,vs,rfl,rl⟩:=hc _ _ ey
    cases (show x=.ref a from ra)
    obtain⟨z,ez,rz⟩:=rl.get e1
    exact R0 aa s σ H _ _ v us Q I rx r ⟨a,vs,i,k,z,rfl,rfl,ho,h1,h2,by rw [<- rl.length];exact ek,ez,hq _ _ _ _ (Kp.put ho trivial _) (hc.put ho trivial (Cp (rl.eraseIdx k))) (rz.kp (Kp.put ho trivial _)) h⟩
  ·exact h.elim
 ·exact h.elim
end
section
variable {X:Cx}{a b c:Expr}{ta tb tc:AE}{pos:Pos}
def kit(S T:String):Bool:=S==T || (S == "bool" && T == "int")
def tyA(μ:M):AV->Option String
 | .D .none=>some "NoneType"
 | .D (.bool _)=>some "bool"
 | .D (.int _)=>some "int"
 | .D (.str _)=>some "str"
 | .D (.list _)=>some "list"
 | .D (.tuple _)=>some "tuple"
 | .D (.dict _)=>none
 | .C _=>some "tuple"
 | .X _ _=>none
 | .R a=>match μ a with
  | some (.lst _)=>some "list"
  | some (.dk _)=>some "dict"
  | some (.dt _)=>some "dict"
  | some (.dd _)=>some "dict"
  | none=>none
def Qgd(T:String)(te:AE):AE:=fun τ μ R=>te τ μ λx μ1=>opt (tyA μ1 x) λS=>R (.D (.bool (kit S T))) μ1
def Kits(K:PySem.W.Frag)(T:String):Prop:=∀S∈["NoneType","bool","int","str","list","tuple","dict"],PySem.W.kitOne K (.type S) (.type T)=some (kit S T)
theorem Zx{aa:List (Addr×Obj)}{σ:St}{H:Hp}{s:Shared}{E:Value->Shared->Prop}{Q:Value->Shared->Prop}{μ:M}{x:AV}{v:V}{u:Value}{S T:String}(I:Inv X aa σ H s)(hc:Cn X.K μ H)(rx:RelA X.K H x v)(r:A0 v u)(e:tyA μ x=some S)(hk:Kits X.K T)
  (h:∀tk,Q (.bool (kit S T)) { s with toks:=tk }):wpAny (model X.prog X.w) X.A (call (.builtin "isinstance") [u,.type T]) Q E s:=by
 unfold tyA at e
 split at e
 ·cases e;cases RelA.non rx;cases r;exact Yb6 PySem.W.kitx_none I.kIn True.intro (hk _ (by decide)) (λz=>nomatch z) h
 ·cases e;cases RelA.bl rx;cases r;exact Yb6 PySem.W.kitx_bool I.kIn True.intro (hk _ (by decide)) (λz=>nomatch z) h
 ·cases e;cases RelA.int rx;obtain⟨t,rfl⟩:=r;exact Yb6 PySem.W.kitx_int I.kIn True.intro (hk _ (by decide)) (λz=>nomatch z) h
 ·cases e;cases RelA.str rx;obtain⟨t,rfl⟩:=r;exact Yb6 PySem.W.kitx_str I.kIn True.intro (hk _ (by decide)) (λz=>nomatch z) h
 ·cases e
  obtain⟨a,vs,rfl,q,_⟩:=RelA.lst rx
  cases r
  obtain⟨_,_,⟨o,n,e1,e2,_⟩,_⟩:=I.list q.sq
  exact Yb6 PySem.W.kitx_list I.kIn ⟨o,e1,e2⟩ (hk _ (by decide)) (λz=>nomatch z) h
 ·cases e
  obtain⟨a,vs,rfl,q,_⟩:=RelA.tup rx
  cases r
  obtain⟨_,_,⟨o,e1,e2,_⟩,_⟩:=I.tuple q.sq
  exact Yb6 PySem.W.kitx_tuple I.kIn ⟨o,e1,e2⟩ (hk _ (by decide)) (λz=>nomatch z) h
 ·cases e
 ·cases e
  obtain⟨a,vs,rfl,q,_⟩:=rx
  cases r
  obtain⟨_,_,⟨o,e1,e2,_⟩,_⟩:=I.tuple (q H)
  exact Yb6 PySem.W.kitx_tuple I.kIn ⟨o,e1,e2⟩ (hk _ (by decide)) (λz=>nomatch z) h
 ·cases e
 ·rename_i a
  cases (show v=.ref a from rx)
  cases r
  split at e
  ·rename_i xs ex
   cases e
   obtain⟨o,ho,vs,rfl,_⟩:=hc _ _ ex
   obtain⟨_,_,⟨o,n,e1,e2,_⟩,_⟩:=I.list (Dx.of ho)
   exact Yb6 PySem.W.kitx_list I.kIn ⟨o,e1,e2⟩ (hk _ (by decide)) (λz=>nomatch z) h
  ·rename_i xs ex
   cases e
   obtain⟨o,ho,vs,rfl,_⟩:=hc _ _ ex
   obtain⟨_,_,ws,_,p⟩:=(show Bm X.prog X.w H s.heap a (.dK vs) from I.hok a _ ho)
   obtain⟨o,es,ep,h1,h2,_⟩:=p
   exact Yb6 PySem.W.kitx_dict I.kIn ⟨o,h1,h2.1⟩ (hk _ (by decide)) (λz=>nomatch z) h
  ·rename_i xs ex
   cases e
   obtain⟨o,ho,vs,rfl,_⟩:=hc _ _ ex
   obtain⟨_,_,xs,_,o,es,ep,h1,h2,_⟩:=(show Bm X.prog X.w H s.heap a (.dT vs) from I.hok a _ ho)
   exact Yb6 PySem.W.kitx_dict I.kIn ⟨o,h1,h2.1⟩ (hk _ (by decide)) (λz=>nomatch z) h
  ·rename_i xs ex
   cases e
   obtain⟨o,ho,vs,rfl,_⟩:=hc _ _ ex
   obtain⟨o,es,ep,h1,h2,_⟩:=(show Bm X.prog X.w H s.heap a (.dd vs) from I.hok a _ ho)
   exact Yb6 PySem.W.kitx_dict I.kIn ⟨o,h1,h2.1⟩ (hk _ (by decide)) (λz=>nomatch z) h
  ·cases e
theorem G5{T:String}{x:Str}{p p2:Pos}(hg:Gl X "isinstance") (hm:X.mg "isinstance" = none) (jz:Gl X x) (ie:X.mg x=none) (hv2:bootBuiltins x=some (.type T)) (hk:Kits X.K T) (he:VE X a ta)
  (kf:x ≠ "__name__" := by decide) (kc:(x==("__debug__" : Str))=false:=by decide)
  (hs:starEach [a,.Name x p2] X.env=(false,eval a X.env) :: starEach [.Name x p2] X.env:=by rfl) (fc:starEach [.Name x p2] X.env=[(false,eval (.Name x p2) X.env)]:=by rfl) (hpl:(backTo pos (starEach [.Name x p2] X.env)).any (·.1)=false:=by rfl) :
  VE X (.Call (.Name "isinstance" p) [a,.Name x p2] [] pos) (Qgd T ta):=by
 intro aa s σ H Q I zz40
 refine B4 zz40 fun τ μ R bv hc h hq=>?_
 refine Ycf (Dl I hg hm boot_isinstance ?_)
 refine Yda ?_ hs hpl
 rw [hs]
 refine Ybv (thn (he aa s σ H (λv H1=>∃x μ1 S,Kp H H1/\Cn X.K μ1 H1/\RelA X.K H1 x v/\tyA μ1 x=some S/\R (.D (.bool (kit S T))) μ1) I ⟨τ,μ,_,bv,hc,h,λx μ1 v H1 S1 c1 rx hx=>?_⟩) λu s1 qf=>?_)
 ·obtain⟨S,e,hx⟩:=Aq hx
  exact⟨x,μ1,S,S1,c1,rx,e,hx⟩
 obtain⟨v,H1,I1,r1,x,μ1,S,S1,c1,rx,ty,q1⟩:=qf
 rw [fc]
 refine Ybv (Dl I1 jz ie hv2 (Yci ?_) kf kc)
 exact Zx I1 c1 rx r1 ty hk λtk=>⟨.bl _,H1,I1.tok _,rfl,hq _ _ _ _ S1 c1 D4 q1⟩
abbrev ASp:=List AV->M->(AV->M->Prop)->Prop
def G6(K:PySem.W.Frag)(n:Nat)(sp:ASp):Sp:=λvs H Q _=>∃xs μ R,xs.length=n/\An K H xs vs/\Cn K μ H/\sp xs μ R/\LV K H R Q
def VCal(P:Program)(w:World)(K:PySem.W.Frag)(mg:Str->Option Value)(base:Heap)(k:Nat)(x:Str)(ps:List Str)(sp:ASp):Prop:=Cal P w K mg base k x ps (G6 K ps.length sp)
def Qc5(n:Nat)(sp:ASp)(t:AA):AE:=fun τ μ R=>t τ μ λxs μ1=>sp xs μ1 R
variable {x:Str}{p:Pos}{e:Expr}{es:List Expr}{t:AA}{k:Nat}{ps:List Str}{sp:ASp}
theorem Am(F:VCal X.prog X.w X.K X.mg X.base k x ps sp)(hr:Room k X.A)(hg:Gl X x)(ha:VA X (e :: es) t)(hl:(e :: es).length=ps.length:=by rfl)(hdb:(x==("__debug__" : Str))=false:=by decide)
  (bv:starEach (e :: es) X.env=(false,eval e X.env) :: starEach es X.env:=by rfl) (hpl:(backTo pos (starEach es X.env)).any (·.1)=false:=by rfl):VE X (.Call (.Name x p) (e :: es) [] pos) (Qc5 ps.length sp t):=by
 obtain⟨g,gd,G,gb,gk,gm⟩:=F
 refine PE.imp (Vb (E:=E0) G hr hg gm gk gb .nil Qct ha (hdb:=hdb) (he:=bv) (hpl:=hpl)) fun σ H Q zz41=>B4 zz41 fun τ μ R hs hc h hq=>?_
 exact⟨τ,μ,_,hs,hc,h,λxs μ1 vs H1 S1 c1 rs hn hx=>⟨xs,μ1,R,hn.trans hl,by rw [Yeu];exact rs,c1,hx,hq.kp S1⟩⟩
def Qc6:AS:=λk _ _ _ τ μ=>k τ μ
def So(t u:AS):AS:=λk r b c τ μ=>t (u k r b c) r b c τ μ
variable {st:Stmt}{rest:List Stmt}{s1 s2:AS}
theorem Bf:VSs X [] Qc6:=U0.imp λD σ H zz43=>Ht zz43 fun τ μ nk nr nb nc hs hc h hq=>hq.nx _ _ _ _ Kp.refl hs hc h
theorem Ae(h1:VS X st s1)(h2:VSs X rest s2):VSs X (st :: rest) (So s1 s2):=(Rm h1 h2).imp λD σ H zz44=>Ht zz44 fun τ μ nk nr nb nc hs hc h hq =>
 ⟨τ,μ,_,_,_,_,hs,hc,h,⟨fun τ' μ' σ' H' S' dw cx h'=>⟨τ',μ',nk,nr,nb,nc,dw,cx,h',hq.kp S'⟩,hq.rt,hq.bk,hq.ct⟩⟩
theorem Ak(h1:VS X st s1):VSs X [st] s1:=U3 h1
def Xq(te:AE):AS:=λk _ _ _ τ μ=>te τ μ λ_ μ1=>k τ μ1
theorem Cs(he:VE X a ta)(hs:swapsWith a none pos.line X.env=pure false:=by rfl):VS X (.Expr a pos) (Xq ta):=(U4 he hs).imp λD σ H zz48=>Ht zz48 fun τ μ nk nr nb nc hs hc h hq =>
 ⟨τ,μ,_,hs,hc,h,λx μ1 v H1 S1 c1 rx hx=>hq.nx _ _ _ _ S1 (hs.kp S1) c1 hx⟩
def Qge(te:AE):AS:=λ_ r _ _ τ μ=>te τ μ r
theorem Ba(he:VE X a ta):VS X (.Return (some a) pos) (Qge ta):=(Ys he).imp λD σ H zz49=>Ht zz49 fun τ μ nk nr nb nc hs hc h hq=>⟨τ,μ,_,hs,hc,h,hq.rt⟩
def Qgf(ct:AT)(t u:AS):AS:=λk r b c τ μ=>ct τ μ λx μ1=>brP x (t k r b c τ μ1) (u k r b c τ μ1)
theorem Cq{c:Expr}{a b:List Stmt}{tc:AT}(hc:VT X c tc)(ha:VSs X a s1)(hb:VSs X b s2):VS X (.If c a b pos) (Qgf tc s1 s2):=(Qb9 hc ha hb).imp λD σ H zz51=>Ht zz51 fun τ μ nk nr nb nc hs hc h hq =>
 ⟨τ,μ,_,hs,hc,h,λk μ1 H1 S1 c1 hk=>by
  rcases br_e hk with⟨rfl,hk'⟩ | ⟨rfl,hk'⟩
  ·exact⟨τ,μ1,nk,nr,nb,nc,hs.kp S1,c1,hk',hq.kp S1⟩
  ·exact⟨τ,μ1,nk,nr,nb,nc,hs.kp S1,c1,hk',hq.kp S1⟩⟩
def Fx(i:Nat):AG:=λv τ μ R=>R (τ.set i (some v)) μ
theorem Ar{i:Nat}{x:Str}(hN:X.N.Nodup)(hi:X.N[i]?=some x)(hx:Loc X.env.scope x)(hf:X.fn x=true\/X.env.scope.names.lookup x=some .local:=by first | exact .inl rfl | exact .inr rfl | assumption):VG X (.Name x pos) (Fx i) :=
 (U5 hN hi hx hf).imp λv σ H Q zz54=>Dv zz54 λx τ μ R rx hs hc h hq=>hq _ _ _ _ Kp.refl (hs.set rx i) hc h
def Qc7:AGs:=λvs τ μ R=>match vs with
 | []=>R τ μ
 | _ :: _=>False
def Sq(t:AG)(u:AGs):AGs:=λvs τ μ R=>match vs with
 | []=>False
 | v :: r=>t v τ μ fun τ' μ'=>u r τ' μ' R
theorem J1:VGs X [] Qc7:=U6.imp λvs σ H Q zz55=>Dv zz55 λxs τ μ R rx hs hc h hq=>by
 cases rx with
 | nil=>exact⟨rfl,hq _ _ _ _ Kp.refl hs hc h⟩
 | cons=>exact h.elim
theorem De{e:Expr}{es:List Expr}{t:AG}{u:AGs}(h1:VG X e t)(h2:VGs X es u)
  (hs:(assignEach (e :: es) X.env).map (·.2)=assign e X.env :: (assignEach es X.env).map (·.2):=by rfl):VGs X (e :: es) (Sq t u):=(Ro h1 h2 hs).imp λvs σ H Q zz56=>Dv zz56 λxs τ μ R rx hs hc h hq=>by
 cases rx with
 | nil=>exact h.elim
 | cons r1 r2=>exact⟨_,_,rfl,_,τ,μ,_,r1,hs,hc,h,fun τ' μ' σ' H' S' dw cx h'=>⟨_,τ',μ',R,An.kp S' r2,dw,cx,h',hq.kp S'⟩⟩
def Qc8(n:Nat)(t:AGs):AG:=λv τ μ R=>match v with
 | .D (.tuple ds)=>ds.length=n/\t (ds.map .D) τ μ R
 | _=>False
theorem M6{es:List Expr}{k:Nat}{t:AGs}{n:Nat}(px:X.calm=true)(h:VGs X es t)
  (hn:(assignEach es X.env).length=n:=by rfl) (bv:(assignEach es X.env).findIdx? (·.1)=none:=by rfl):VG X (.Tuple es k pos) (Qc8 n t):=(Yt px h hn bv).imp λv σ H Q zz57=>Dv zz57 λx τ μ R rx hs hc h hq=>by
 unfold Qc8 at h
 split at h
 ·obtain⟨a,vs,rfl,q,r⟩:=RelA.tup rx
  exact⟨a,vs,rfl,q.sq,by rw [r.length];exact h.1,_,τ,μ,R,r.rel,hs,hc,h.2,hq⟩
 ·exact h.elim
def Zy(o i v:AV)(μ:M)(R:M->Prop):Prop:=match o,i with
 | .R a,.D (.int k)=>opt (μ a) λm=>match m with
  | .lst xs=>opt (Uu xs.length k) λj=>R (Ao μ a (.lst (xs.set j v)))
  | _=>False
 | _,_=>False
def Qgg(K:PySem.W.Frag):TSet:=λo i v H Q=>∃a b c μ R,RelA K H a o/\RelA K H b i/\RelA K H c v/\Cn K μ H/\Zy a b c μ R/\∀ μ' H',Kp H H'->Cn K μ' H'->R μ'->Q H'
theorem Qc9:PSet X (Qgg X.K):=by
 intro aa s σ H o i v ov iv u Q I r1 r2 r3 ⟨a,b,c,μ,R,ra,rb,rc,hc,h,hq⟩
 unfold Zy at h
 split at h
 ·rename_i q k
  obtain⟨m,ex,h⟩:=Aq h
  split at h
  ·obtain⟨j,ej,h⟩:=Aq h
   ·obtain⟨o',ho,vs,rfl,rs⟩:=hc _ _ ex
    cases (show o=.ref q from ra)
    cases RelA.int rb
    exact Rx aa s σ H _ _ v ov iv u Q I r1 r2 r3 ⟨q,vs,k,j,rfl,rfl,ho,by rw [<- rs.length];exact ej,hq _ _ (Kp.put ho trivial _) (hc.put ho trivial (Cp (rs.set rc j))) h⟩
  ·exact h.elim
 ·exact h.elim
def Qgh(to ti:AE):AG:=λv τ μ R=>to τ μ λo μ1=>ti τ μ1 λi μ2=>Zy o i v μ2 fun μ3=>R τ μ3
theorem M7{o i:Expr}{to ti:AE}(ho:VE X o to)(hi:VE X i ti)
  (ha:∀v,assign (.Subscript o i pos) X.env v=(do
   let ov <- holding [v] (eval o X.env)
   let iv <- holding [v,ov] (eval i X.env)
   standAt pos
   holding [v,ov,iv] (setItem ov iv v)
   release [v,ov,iv] []):=by intro _;rfl):VG X (.Subscript o i pos) (Qgh to ti):=(Yu ho hi Qc9 ha).imp λv σ H Q zz58=>Dv zz58 λx τ μ R rx hs hc h hq =>
 ⟨τ,μ,_,hs,hc,h,λo μ1 ov H1 S1 c1 ro h1=>⟨τ,μ1,_,hs.kp S1,c1,h1,λi μ2 iv H2 S2 c2 ri h2=>⟨o,i,x,μ2,_,ro.kp S2,ri,rx.kp (S1.trans S2),c2,h2,fun μ3 H3 S3 c3 h3=>hq _ _ _ _ (S1.trans (S2.trans S3)) (hs.kp (S1.trans (S2.trans S3))) c3 h3⟩⟩⟩
def M8(te:AE)(g:AG):AS:=λk _ _ _ τ μ=>te τ μ λx μ1=>g x τ μ1 k
theorem Sr{K:PySem.W.Frag}{te:AE}{g:AG}{D:Ends}{σ:St}{H:Hp}(h:cS K (M8 te g) D σ H):U7 (cE K te) (cG K g) D σ H:=by
 obtain⟨τ,μ,nk,nr,nb,nc,hs,hc,h,hq⟩:=h
 exact⟨τ,μ,_,hs,hc,h,λx μ1 v H1 S1 c1 rx hx=>⟨x,τ,μ1,_,rx,hs.kp S1,c1,hx,hq.nx.kp S1⟩⟩
theorem M9{tg:Expr}{g:AG}(he:VE X a ta)(hg:VG X tg g)(hs:swapsWithSole [tg] a pos.line X.env=pure false:=by rfl)(hw:swappedStores [tg] a X.env=pure none:=by rfl)
  (h1:(assignEach [tg] X.env).map (·.2)=[assign tg X.env]:=by rfl):VS X (.Assign [tg] a pos) (M8 ta g):=(Yv he hg hs hw h1).imp λ_ _ _ h=>Sr h
theorem Al{i:Nat}{x:Str}{bj:Pos}(hN:X.N.Nodup)(hi:X.N[i]?=some x)(hx:Loc X.env.scope x)(he:VE X a ta)(hs:swapsWith a (some (.Name x bj)) pos.line X.env=pure false:=by rfl)(hf:X.fn x=true\/X.env.scope.names.lookup x=some .local:=by first | exact .inl rfl | exact .inr rfl | assumption) :
  VS X (.Assign [.Name x bj] a pos) (M8 ta (Fx i)):=(Yw hN hi hx he hs hf).imp λD σ H zz59=>Ht zz59 fun τ μ nk nr nb nc hs hc h hq =>
 ⟨τ,μ,_,hs,hc,h,λx μ1 v H1 S1 c1 rx hx=>hq.nx _ _ _ _ S1 ((hs.kp S1).set rx i) c1 hx⟩
def Qhz(i j:Nat)(t:AA):AS:=λk _ _ _ τ μ=>t τ μ λxs μ1=>match xs with
 | [v,w]=>k ((τ.set i (some v)).set j (some w)) μ1
 | _=>False
def wl(c:AT)(tb:AS)(k:ASt->M->Prop)(r:AV->M->Prop):Nat->ASt->M->Prop
 | 0=>λ_ _=>False
 | n+1=>fun τ μ=>c τ μ λx μ1=>brP x (tb (wl c tb k r n) r k (wl c tb k r n) τ μ1) (k τ μ1)
def Zz(c:AT)(tb:AS):AS:=λk r _ _ τ μ=>∃n,wl c tb k r n τ μ
theorem E9{c:Expr}{body:List Stmt}{tc:AT}{tb:AS}(hp:PassesOwn (model X.prog X.w) X.A X.env X.xe)(hc:VT X c tc)(hb:VSs X body tb):VS X (.While c body [] pos) (Zz tc tb):=(Rp hp hc hb).imp λD σ H zw=>Ht zw fun τ μ nk nr nb nc hs hc zh hq=>by
 obtain⟨n,h⟩:=zh
 refine⟨λm σ1 H1=>∃ τ1 μ1,Kp H H1/\C3 X.K H1 τ1 σ1/\Cn X.K μ1 H1/\wl tc tb nk nr m τ1 μ1,⟨n,τ,μ,Kp.refl,hs,hc,h⟩,?_⟩
 rintro m σ1 H1 ⟨τ1,μ1,S1,cq,hc1,h1⟩
 cases m with
 | zero=>exact h1.elim
 | succ m =>
  refine⟨τ1,μ1,_,cq,hc1,h1,λk μ2 H2 S2 c2 hk=>?_⟩
  rcases br_e hk with⟨rfl,hk'⟩ | ⟨rfl,hk'⟩
  ·rw [Yaj rfl]
   refine⟨fun σ' H'=>∃ τ' μ',Kp H H'/\C3 X.K H' τ' σ'/\Cn X.K μ' H'/\wl tc tb nk nr m τ' μ',fun σ' H' ⟨τ',μ',q⟩=>⟨m,Yde _,τ',μ',q⟩,τ1,μ2,_,_,_,_,cq.kp S2,c2,hk',?_⟩
   have S:=S1.trans S2
   exact⟨fun τ' μ' σ' H' S' dw cx h'=>⟨τ',μ',S.trans S',dw,cx,h'⟩,hq.rt.kp S,hq.nx.kp S,fun τ' μ' σ' H' S' dw cx h'=>⟨τ',μ',S.trans S',dw,cx,h'⟩⟩
  ·rw [Yah Yag]
   exact hq.nx _ _ _ _ (S1.trans S2) (cq.kp S2) c2 hk'
structure ItOk(K:PySem.W.Frag)(H0:Hp)(J:It)(xs:List AV)(kp:M->Prop):Prop where
 go:∀i H μ,Kp H0 H->Cn K μ H->kp μ->i < xs.length->J.go i H
 yld:∀i H μ v H' x,Kp H0 H->Cn K μ H->kp μ->xs[i]?=some x->J.yld i H v H'->Kp H H'/\Cn K μ H'/\RelA K H' x v
 stop:∀H μ,Kp H0 H->Cn K μ H->kp μ->J.stop xs.length H
abbrev AI:=ASt->M->(List AV->(M->Prop)->M->Prop)->Prop
def cI(K:PySem.W.Frag)(wi:AI):TI:=fun σ H R=>∃ τ μ R',C3 K H τ σ/\Cn K μ H/\wi τ μ R'/\∀xs kp μ' J H',Kp H H'->Cn K μ' H'->ItOk K H' J xs kp->R' xs kp μ'->R J H'
def VI(X:Cx)(tg av:Expr)(wi:AI):Prop:=PI X tg av (cI X.K wi)
theorem PI.imp{tg e:Expr}{t u:TI}(h:PI X tg e t)(i:∀ σ H Q,u σ H Q->t σ H Q):PI X tg e u:=λaa s σ H Q I q=>h aa s σ H Q I (i σ H Q q)
theorem Qb{K:PySem.W.Frag}{H0:Hp}{a:Addr}{xs:List AV}{kp:M->Prop}(h:∀H μ,Kp H0 H->Cn K μ H->kp μ->∃vs,Dx K H a vs/\An K H xs vs):ItOk K H0 (Itl K a) xs kp:=by
 refine⟨λi H μ S c k hi=>?_,λi H μ v H' x S c k e y=>?_,λH μ S c k=>?_⟩
 ·obtain⟨vs,q,r⟩:=h H μ S c k
  exact⟨vs,vs[i]'(by rw [<- r.length];exact hi),q,List.getElem?_eq_getElem _⟩
 ·obtain⟨vs,q,r⟩:=h H μ S c k
  obtain⟨rfl,y⟩:=y
  obtain⟨u,eu,ru⟩:=r.get e
  rw [y vs q]at eu
  cases eu
  exact⟨Kp.refl,c,ru⟩
 ·obtain⟨vs,q,r⟩:=h H μ S c k
  exact⟨vs,q,by rw [r.length];exact Yad _⟩
theorem Su{K:PySem.W.Frag}{H0:Hp}{a:Addr}{xs:List AV}{kp:M->Prop}(h:∀H μ,Kp H0 H->Cn K μ H->kp μ->∃vs,Hr K H a vs/\An K H xs vs):ItOk K H0 (Itt K a) xs kp:=by
 refine⟨λi H μ S c k hi=>?_,λi H μ v H' x S c k e y=>?_,λH μ S c k=>?_⟩
 ·obtain⟨vs,q,r⟩:=h H μ S c k
  exact⟨vs,vs[i]'(by rw [<- r.length];exact hi),q,List.getElem?_eq_getElem _⟩
 ·obtain⟨vs,q,r⟩:=h H μ S c k
  obtain⟨rfl,y⟩:=y
  obtain⟨u,eu,ru⟩:=r.get e
  rw [y vs q]at eu
  cases eu
  exact⟨Kp.refl,c,ru⟩
 ·obtain⟨vs,q,r⟩:=h H μ S c k
  exact⟨vs,q,by rw [r.length];exact Yad _⟩
variable {tg:Expr}
def Cy(lo:Int):Nat->List AV
 | 0=>[]
 | n+1=>.D (.int lo) :: Cy (lo+1) n
theorem A6:∀(n:Nat) (lo:Int),(Cy lo n).length=n
 | 0,_=>rfl
 | n+1,lo=>by rw [Cy,Ybk,A6 n]
theorem Df:∀(n:Nat) (lo:Int) (i:Nat) {x:AV},(Cy lo n)[i]?=some x->x=.D (.int (lo+i))
 | 0,_,_,_,h=>by simp [Cy]at h
 | n+1,lo,0,_,h=>by simp [Cy]at h;rw [<- h];simp
 | n+1,lo,i+1,_,h=>by
  rw [Cy,List.getElem?_cons_succ]at h
  rw [Df n (lo+1) i h]
  congr 2
  omega
theorem Sv{K:PySem.W.Frag}{H0:Hp}{lo:Int}{n:Nat}:ItOk K H0 (Itr lo n) (Cy lo n) (λ_=>True):=by
 refine⟨λi H μ S c k hi=>?_,λi H μ v H' x S c k e y=>?_,λH μ S c k=>?_⟩
 ·show i < n
  rw [A6]at hi;exact hi
 ·obtain⟨rfl,rfl⟩:=y
  rw [Df n lo i e]
  exact⟨Kp.refl,c,Cv⟩
 ·show n<=_
  rw [A6];exact Yad _
def Qda(t:AA):AI:=fun τ μ R=>t τ μ λxs μ1=>match xs with
 | [.D (.int j)]=>-(2 ^ 62)<=j/\j < 2 ^ 62/\R (Cy 0 j.toNat) (λ_=>True) μ1
 | _=>False
theorem Bc{t:AA}{p:Pos}(hg:Gl X "range") (hm:X.mg "range" = none) (ha:VA X [a] t) (hs:starEach [a] X.env=[(false,eval a X.env)]:=by rfl):VI X tg (.Call (.Name "range" p) [a] [] pos) (Qda t) :=
 (Po hg hm ha hs).imp fun σ H Q zz62=>B4 zz62 fun τ μ R hs hc h hq=>⟨τ,μ,_,hs,hc,h,λxs μ1 vs H1 S1 c1 rs hl hx=>by
  split at hx
  ·cases rs with
   | cons r1 r2 =>
    cases r2
    cases RelA.int r1
    exact⟨_,rfl,hx.1,hx.2.1,hq _ _ _ _ _ S1 c1 Sv hx.2.2⟩
  ·exact hx.elim⟩
def fl(g:AG)(tb:AS)(k:ASt->M->Prop)(r:AV->M->Prop)(kp:M->Prop):List AV->ASt->M->Prop
 | []=>fun τ μ=>kp μ/\k τ μ
 | x :: xs=>fun τ μ=>kp μ/\g x τ μ fun τ2 μ2=>tb (fl g tb k r kp xs) r k (fl g tb k r kp xs) τ2 μ2
def Qgi(wi:AI)(g:AG)(tb:AS):AS:=λk r _ _ τ μ=>wi τ μ λxs kp μ1=>fl g tb k r kp xs τ μ1
theorem Qdb{g:AG}{tb:AS}{k:ASt->M->Prop}{r:AV->M->Prop}{kp:M->Prop}{xs:List AV}{τ:ASt}{μ:M}(h:fl g tb k r kp xs τ μ):kp μ:=by
 cases xs with
 | nil=>exact h.1
 | cons x xs=>exact h.1
theorem Ci{av:Expr}{body:List Stmt}{wi:AI}{g:AG}{tb:AS}(hp:PassesOwn (model X.prog X.w) X.A X.env X.xe)(px:X.calm=true)(hi:VI X tg av wi)(hg:VG X tg g)(hb:VSs X body tb)(hfs:∀x,foldedSetIterable av X.env x=pure x:=by intro _;rfl) :
  VS X (.For tg av body [] pos) (Qgi wi g tb):=(Yy hp px hi hg hb hfs).imp λD σ H zz64=>Ht zz64 fun τ μ nk nr nb nc hs hc h hq=>by
 refine⟨τ,μ,_,hs,hc,h,λxs kp μ0 J H0 S0 c0 it h0=>?_⟩
 refine Zq xs.length (λi σ1 H1=>∃ τ1 μ1,Kp H0 H1/\C3 X.K H1 τ1 σ1/\Cn X.K μ1 H1/\fl g tb nk nr kp (xs.drop i) τ1 μ1) ⟨τ,μ0,Kp.refl,hs.kp S0,c0,h0⟩ ?_ ?_ ?_
 ·rintro i σ1 H1 hi ⟨τ1,μ1,S1,cq,hc1,h1⟩
  exact it.go i H1 μ1 S1 hc1 (Qdb h1) hi
 ·rintro σ1 H1 ⟨τ1,μ1,S1,cq,hc1,h1⟩
  rw [Yem]at h1
  exact⟨it.stop H1 μ1 S1 hc1 h1.1,hq.nx _ _ _ _ (S0.trans S1) cq hc1 h1.2⟩
 ·rintro i v σ1 H1 H2 hi ⟨τ1,μ1,S1,cq,hc1,h1⟩ y
  rw [Ybb hi]at h1
  obtain⟨hk,h1⟩:=h1
  obtain⟨S2,c2,rx⟩:=it.yld i H1 μ1 v H2 _ S1 hc1 hk (List.getElem?_eq_getElem hi) y
  refine⟨_,τ1,μ1,_,rx,cq.kp S2,c2,h1,fun τ3 μ3 σ3 H3 S3 fm hc3 h3=>⟨τ3,μ3,_,_,_,_,fm,hc3,h3,?_⟩⟩
  have S:Kp H0 H3:=S1.trans (S2.trans S3)
  exact⟨fun τ' μ' σ' H' S' dw cx h'=>⟨τ',μ',S.trans S',dw,cx,h'⟩,hq.rt.kp (S0.trans S),hq.nx.kp (S0.trans S),fun τ' μ' σ' H' S' dw cx h'=>⟨τ',μ',S.trans S',dw,cx,h'⟩⟩
def VIfs(X:Cx)(cv:List Expr)(t:AT):Prop:=PIfs X cv (cT X.K t)
def Z0:AT:=λ_ μ R=>R true μ
theorem Bz:VIfs X [] Z0:=λaa s σ H Q I zz65=>B4 zz65 fun τ μ R hs hc h hq=>R9 aa s σ H Q I (hq _ _ _ Kp.refl hc h)
theorem G7{t:AT}(h:VT X a t):VIfs X [a] t:=Sa h
def cl(p:Addr)(g:AG)(tst:AT)(te:AE)(kp:M->Prop)(R:M->Prop):List AV->List AV->ASt->M->Prop
 | []=>λ_ _ μ=>kp μ/\R μ
 | x :: xs=>λaf τ μ=>kp μ/\g x τ μ fun τ1 μ1=>tst τ1 μ1 λk μ2 =>
  brP k (te τ1 μ2 λv μ3=>μ3 p=some (.lst af)/\af.length < sizeLine/\cl p g tst te kp R xs (af++[v]) τ1 (Ao μ3 p (.lst (af++[v])))) (cl p g tst te kp R xs af τ1 μ2)
def Sw(mp:List (Option Nat))(wi:AI)(g:AG)(tst:AT)(te:AE):AE:=fun τ μ R=>wi τ μ λxs kp μ1=>∀p,μ1 p=none->cl p g tst te kp (fun μ2=>R (.R p) μ2) xs [] (Qcu mp τ) (Ao μ1 p (.lst []))
theorem Qdc{p:Addr}{g:AG}{tst:AT}{te:AE}{kp:M->Prop}{R:M->Prop}{xs af:List AV}{τ:ASt}{μ:M}(h:cl p g tst te kp R xs af τ μ):kp μ:=by
 cases xs with
 | nil=>exact h.1
 | cons x xs=>exact h.1
theorem Iv{K:PySem.W.Frag}{mp:List (Option Nat)}{wi:AI}{g:AG}{tst:AT}{te:AE}{σ:St}{H:Hp}{Q:VK}(h:cE K (Sw mp wi g tst te) σ H Q):Sc mp (cI K wi) (cG K g) (cT K tst) (cE K te) σ H Q:=by
 obtain⟨τ,μ,R,hs,hc,h,hq⟩:=h
 refine⟨τ,μ,_,hs,hc,h,λxs kp μ0 J H0 S0 c0 it h0=>?_⟩
 intro p hp
 have h0:=h0 p (c0.none hp)
 have c0':Cn K (Ao μ0 p (.lst [])) (upd H0 p (.lst [])):=c0.new hp (Cp (.nil))
 have S0':Kp H0 (upd H0 p (.lst [])):=Kp.new hp _
 refine Vp xs.length (λi af σ1 H1=>∃ τ1 μ1 as,Kp H0 H1/\C3 K H1 τ1 σ1/\Cn K μ1 H1/\An K H1 as af/\cl p g tst te kp (fun μ2=>R (.R p) μ2) (xs.drop i) as τ1 μ1) ⟨_,_,[],S0',((hs.kp S0).kp S0').sub mp,c0',.nil,h0⟩ ?_ ?_ ?_
 ·rintro i af σ1 H1 hi ⟨τ1,μ1,as,S1,cq,hc1,ra,h1⟩
  exact it.go i H1 μ1 S1 hc1 (Qdc h1) hi
 ·rintro af σ1 H1 ⟨τ1,μ1,as,S1,cq,hc1,ra,h1⟩
  rw [Yem]at h1
  exact⟨it.stop H1 μ1 S1 hc1 h1.1,hq _ _ _ _ (S0.trans S1) hc1 C7 h1.2⟩
 ·rintro i v af σ1 H1 H2 hi ⟨τ1,μ1,as,S1,cq,hc1,ra,h1⟩ y
  rw [Ybb hi]at h1
  obtain⟨hk,h1⟩:=h1
  obtain⟨S2,c2,rx⟩:=it.yld i H1 μ1 v H2 _ S1 hc1 hk (List.getElem?_eq_getElem hi) y
  refine⟨_,τ1,μ1,_,rx,cq.kp S2,c2,h1,fun τ3 μ3 σ3 H3 S3 fm hc3 h3=>⟨τ3,μ3,_,fm,hc3,h3,λk μ4 H4 S4 c4 h4=>?_⟩⟩
  rcases br_e h4 with⟨rfl,t7⟩ | ⟨rfl,t7⟩
  ·rw [Yaj rfl]
   refine⟨τ3,μ4,_,fm.kp S4,c4,t7,λw μ5 u H5 S5 c5 rw h5=>?_⟩
   obtain⟨e5,hl,h5⟩:=h5
   obtain⟨o,ho,vs,rfl,rs⟩:=c5 _ _ e5
   have S:Kp H1 H5:=S2.trans (S3.trans (S4.trans S5))
   exact⟨vs,ho,by rw [<- rs.length];exact hl,τ3,_,_,(S1.trans S).trans (Kp.put ho trivial _),(fm.kp (S4.trans S5)).kp (Kp.put ho trivial _),c5.put ho trivial (Cp (rs.append (.cons rw .nil))),(rs.append (.cons rw .nil)).kp (Kp.put ho trivial _),h5⟩
  ·rw [Yah Yag]
   have S:Kp H1 H4:=S2.trans (S3.trans S4)
   exact⟨τ3,μ4,as,S1.trans S,fm.kp S4,c4,ra.kp S,t7⟩
variable {N':List Str}{mp:List (Option Nat)}{du av:Expr}{cv:List Expr}{scope:Scope}{wi:AI}{g:AG}{tst:AT}{te:AE}
theorem Cd(hc:X.calm=true)(hi:VI X tg av wi)(hg:∀C s H fp,VG (Bd X N' scope C s H fp) tg g)(ht:∀C s H fp,VIfs (Bd X N' scope C s H fp) cv tst)(he:∀C s H fp,VE (Bd X N' scope C s H fp) du te)
  (ok:CompOk X.N X.env.scope.names scope.names N' mp) (hk:scope.kind=.function:=by rfl) (hs:∀x,foldedSetIterable av X.env x=pure x:=by intro _;rfl) :
  VE X (.ListComp du [⟨tg,av,cv,0⟩] scope pos) (Sw mp wi g tst te):=(Vn (g:=cG X.K g) (tst:=cT X.K tst) (te:=cE X.K te) hc hi (λC s H fp=>hg C s H fp) (λC s H fp=>ht C s H fp) (λC s H fp=>he C s H fp) ok hk hs).imp λ_ _ _ h=>Iv h
theorem J2{i:Nat}{y:Str}{py ic:Pos}(hc:X.calm=true)(hN:X.N.Nodup)(dz:X.N[i]?=some y)(hy:X.env.scope.names.lookup y=some .local)
  (hi:VI X tg av wi) (hg:∀C s H fp,VG (Bd X N' scope C s H fp) tg g) (ht:∀C s H fp,VIfs (Bd X N' scope C s H fp) cv tst) (he:∀C s H fp,VE (Bd X N' scope C s H fp) du te)
  (ok:CompOk X.N X.env.scope.names scope.names N' mp) (vi:swapsWith (.ListComp du [⟨tg,av,cv,0⟩] scope pos) (some (.Name y py)) ic.line X.env=pure true:=by rfl)
  (hk:scope.kind=.function:=by rfl) (hs:∀x,foldedSetIterable av X.env x=pure x:=by intro _;rfl) :
  VS X (.Assign [.Name y py] (.ListComp du [⟨tg,av,cv,0⟩] scope pos) ic) (M8 (Sw mp wi g tst te) (Fx i)):=(Vo (g:=cG X.K g) (tst:=cT X.K tst) (te:=cE X.K te) hc hN dz hy hi (λC s H fp=>hg C s H fp) (λC s H fp=>ht C s H fp) (λC s H fp=>he C s H fp) ok vi hk hs).imp λD σ H zz66=>Ht zz66 fun τ μ nk nr nb nc hs hc h hq =>
 Iv (K:=X.K) ⟨τ,μ,_,hs,hc,h,λx μ1 v H1 S1 c1 rx hx=>hq.nx _ _ _ _ S1 ((hs.kp S1).set rx i) c1 hx⟩
end
section
variable {P:Program}{w:World}{K:PySem.W.Frag}{mg:Str->Option Value}{base:Heap}
def aNx(R:AV->M->Prop):ASt->M->Prop:=λ_ μ'=>∃ ν,Sub ν μ'/\R (.D .none) ν
def aRt(R:AV->M->Prop):AV->M->Prop:=λv μ'=>∃ ν,Sub ν μ'/\R v ν
def aNo:ASt->M->Prop:=λ_ _=>False
theorem Fun.vok{x qual:Str}{st:Stmt}{f:Addr}{fd:FuncData}{N ps:List Str}{k:Nat}{sp:ASp}(F:Fun K x qual st f fd)(S:FnScope N ps (Ah st))
  (d4:∀(az:Value) (A:Around) (outer:List Env) (s:Shared) (H:Hp) (E:XK),Room k (A.deeper (envOfC qual (Ah st) s.heap.objs.size f az)) ->
   ∃t,VSs (Mq Ep P w K mg base N qual (Ah st) f az A outer s H E).nox (Av st) t/\∀xs μ R,xs.length=ps.length->sp xs μ R->t (aNx R) (aRt R) aNo aNo (Jw N xs) μ):FnOk P w K mg base Ep (k+1) f fd ps (G6 K ps.length sp):=by
 refine F.ok S (λvs H Q E h=>?_) (λaz A outer s H vs Q E hr h=>?_)
 ·obtain⟨xs,μ,R,hl,rs,_⟩:=h
  rw [<- rs.length];exact hl
 ·obtain⟨xs,μ,R,hl,rs,hc,fw,hq⟩:=h
  obtain⟨t,ht,h⟩:=d4 az A outer s H E hr
  refine⟨_,ht,Jw N xs,μ,_,_,_,_,C3.begin rs,hc,h xs μ R hl fw,⟨fun τ μ' σ H' S' _ c zz67=>Qb1 zz67 fun ν hν r=>?_,λv μ' u H' S' c rv zz68=>Qb1 zz68 fun ν hν r=>?_,λ_ _ _ _ _ _ _ h=>h.elim,λ_ _ _ _ _ _ _ h=>h.elim⟩⟩
  ·exact hq _ _ _ _ S' (c.sub hν) Mx r
  ·exact hq _ _ _ _ S' (c.sub hν) rv r
end
section
variable {X:Cx}{a b c:Expr}{ta tb tc:AE}{pos:Pos}{tg:Expr}
def Qgj(t:AE):AI:=fun τ μ R=>t τ μ λx μ1=>opt (items μ1 x) λxs=>R xs (fun μ=>items μ x=some xs) μ1
theorem Ce(hl:VE X a ta):VI X tg a (Qgj ta):=by
 intro aa s σ H R I zz69
 refine B4 zz69 fun τ μ R' hs hc h hq=>?_
 refine thn (hl aa s σ H (λv H1=>∃x μ1 xs,Kp H H1/\Cn X.K μ1 H1/\RelA X.K H1 x v/\items μ1 x=some xs/\R' xs (fun μ=>items μ x=some xs) μ1) I ⟨τ,μ,_,hs,hc,h,λx μ1 v H1 S1 c1 rx hx=>?_⟩) λv s1 rg=>?_
 ·obtain⟨xs,e,hx⟩:=Aq hx
  exact⟨x,μ1,xs,S1,c1,rx,e,hx⟩
 obtain⟨xv,H1,I1,r1,x,μ1,xs,S1,c1,rx,e,hx⟩:=rg
 obtain⟨p,vs,rfl,hp,rs⟩:=Ca c1 rx e
 cases r1
 rcases hp with⟨k,hp⟩ | ⟨k,hp⟩
 ·obtain⟨ah,rv,pl,hz⟩:=I1.list hp
  refine wpAny_pyIter_list pl.isList ?_
  refine⟨s1.heap.objs.size,[s1.heap.objs.size],_,_,H1,rfl,I1.kept (t':=s1.toks) λb o e=>Heap.get?_push_of_some _ e,Pn p _,⟨_,Heap.get?_push_size _ rfl,rfl,rfl⟩,λb hb=>?_,hq _ _ _ _ _ S1 c1 (Qb λH μ S c k2=>?_) hx⟩
  ·have e:b=s1.heap.objs.size:=by simpa using hb
   subst e
   exact I1.fpOk (Yad _) (I1.hok.fresh (Yad _))
  ·obtain⟨q,ws,e,hw,rw⟩:=Ca c (rx.kp S) k2
   cases e
   rcases hw with⟨_,hw⟩ | ⟨k3,_⟩
   ·exact⟨ws,hw,rw⟩
   ·rw [k]at k3;cases k3
 ·obtain⟨ah,rv,pl,hz⟩:=I1.tuple hp
  refine wpAny_pyIter_tuple (show s1.heap.IsTuple p ah.toArray from pl) ?_
  refine⟨s1.heap.objs.size,[s1.heap.objs.size],_,_,H1,rfl,I1.kept (t':=s1.toks) λb o e=>Heap.get?_push_of_some _ e,Mn p _,⟨_,Heap.get?_push_size _ rfl,rfl,rfl⟩,λb hb=>?_,hq _ _ _ _ _ S1 c1 (Su λH μ S c k2=>?_) hx⟩
  ·have e:b=s1.heap.objs.size:=by simpa using hb
   subst e
   exact I1.fpOk (Yad _) (I1.hok.fresh (Yad _))
  ·obtain⟨q,ws,e,hw,rw⟩:=Ca c (rx.kp S) k2
   cases e
   rcases hw with⟨k3,_⟩ | ⟨_,hw⟩
   ·rw [k]at k3;cases k3
   ·exact⟨ws,hw,rw⟩
end
section
variable {c:AT}{g:AG}{tb:AS}{k:ASt->M->Prop}{r:AV->M->Prop}{bb cc:ASt->M->Prop}{tst:AT}{te:AE}
theorem Gg{τ:ASt}{μ:M}(I:Nat->ASt->M->Prop)(m:Nat)(h0:I m τ μ)
  (step:∀m τ μ (W:ASt->M->Prop),I m τ μ->(∀m' τ' μ',m' < m->I m' τ' μ'->W τ' μ')->c τ μ λx μ1=>brP x (tb W r k W τ μ1) (k τ μ1)):∃n,wl c tb k r n τ μ:=by
 have key:∀n m τ μ,m < n->I m τ μ->wl c tb k r n τ μ:=by
  intro n
  induction n with
  | zero=>intro m τ μ h _;omega
  | succ n ih=>intro m τ μ h hI;exact step m τ μ (wl c tb k r n) hI λm' τ' μ' hm v6=>ih m' τ' μ' (by omega) v6
 exact⟨m+1,key (m+1) m τ μ (Yde _) h0⟩
theorem Ay{t u:AS}{τ:ASt}{μ:M}(J:ASt->M->Prop)(h1:∀W:ASt->M->Prop,(∀ τ' μ',J τ' μ'->W τ' μ')->t W r bb cc τ μ)(h2:∀ τ' μ',J τ' μ'->u k r bb cc τ' μ'):So t u k r bb cc τ μ:=h1 (u k r bb cc) h2
theorem Co{t u:AS}{τ:ASt}{μ:M}(h:t (u k r bb cc) r bb cc τ μ):So t u k r bb cc τ μ:=h
theorem Qdd{x:AV}{i:Nat}{τ:ASt}{μ:M}(h:k (τ.set i (some x)) μ):M8 (vC x) (Fx i) k r bb cc τ μ:=h
theorem Dg{kp:M->Prop}{xs:List AV}{τ:ASt}{μ:M}(I:Nat->ASt->M->Prop)(h0:I 0 τ μ)(hk:∀i τ μ,I i τ μ->kp μ)
  (step:∀i x τ μ (W:ASt->M->Prop),xs[i]?=some x->I i τ μ->(∀ τ' μ',I (i+1) τ' μ'->W τ' μ')->g x τ μ fun τ2 μ2=>tb W r k W τ2 μ2)
  (done:∀ τ μ,I xs.length τ μ->k τ μ):fl g tb k r kp xs τ μ:=by
 have key:∀n i τ μ,n+i=xs.length->I i τ μ->fl g tb k r kp (xs.drop i) τ μ:=by
  intro n
  induction n with
  | zero =>
   intro i τ μ h hI
   have e:i=xs.length:=by omega
   subst e
   rw [Yem]
   exact⟨hk _ _ _ hI,done τ μ hI⟩
  | succ n ih =>
   intro i τ μ h hI
   have hi:i < xs.length:=by omega
   rw [Ybb hi]
   exact⟨hk _ _ _ hI,step i _ τ μ _ (List.getElem?_eq_getElem hi) hI fun τ' μ' q=>ih (i+1) τ' μ' (by omega) q⟩
 exact key xs.length 0 τ μ rfl h0
theorem Eu{p:Addr}{kp:M->Prop}{R:M->Prop}{xs:List AV}{τ:ASt}{μ:M}(I:Nat->List AV->ASt->M->Prop)(h0:I 0 [] τ μ)(hk:∀i af τ μ,I i af τ μ->kp μ)
  (step:∀i x af τ μ (W:List AV->ASt->M->Prop),xs[i]?=some x->I i af τ μ->(∀ci τ' μ',I (i+1) ci τ' μ'->W ci τ' μ')->g x τ μ fun τ1 μ1=>tst τ1 μ1 λk μ2 =>
   brP k (te τ1 μ2 λv μ3=>μ3 p=some (.lst af)/\af.length < sizeLine/\W (af++[v]) τ1 (Ao μ3 p (.lst (af++[v])))) (W af τ1 μ2))
  (done:∀af τ μ,I xs.length af τ μ->R μ):cl p g tst te kp R xs [] τ μ:=by
 have key:∀n i af τ μ,n+i=xs.length->I i af τ μ->cl p g tst te kp R (xs.drop i) af τ μ:=by
  intro n
  induction n with
  | zero =>
   intro i af τ μ h hI
   have e:i=xs.length:=by omega
   subst e
   rw [Yem]
   exact⟨hk _ _ _ _ hI,done af τ μ hI⟩
  | succ n ih =>
   intro i af τ μ h hI
   have hi:i < xs.length:=by omega
   rw [Ybb hi]
   exact⟨hk _ _ _ _ hI,step i _ af τ μ (λci τ' μ'=>cl p g tst te kp R (xs.drop (i+1)) ci τ' μ') (List.getElem?_eq_getElem hi) hI λci τ' μ' q=>ih (i+1) ci τ' μ' (by omega) q⟩
 exact key xs.length 0 [] τ μ rfl h0
end
theorem Sx{z:Str}(h:PyData.canLay0 (.str z)=true):Bq (.str z):=⟨h,by simp [PyData.depth]⟩
theorem Dh(i:Int):Bq (.int i):=⟨rfl,by simp [PyData.depth]⟩
theorem Iw(i:Bool):Bq (.bool i):=⟨rfl,by simp [PyData.depth]⟩
theorem Of(i j:Int):PyData.eqv (.int i) (.int j)=decide (i=j):=by
 rw [PyData.eqv];exact Yey.mpr (by simp)
theorem J3(i j:Str):PyData.eqv (.str i) (.str j)=decide (i=j):=by
 rw [PyData.eqv];exact Yey.mpr (by simp)
theorem ieq{i j:Int}{T F:Prop}(h1:i=j->T)(h2:i≠j->F):Bq (.int i)/\Bq (.int j)/\brP (PyData.eqv (.int i) (.int j)) T F:=by
 refine⟨Dh _,Dh _,?_⟩
 rw [Of]
 exact dif h1 h2
theorem Au{μ:M}{p:Addr}{xs:List AV}(h:μ p=some (.lst xs)):items μ (.R p)=some xs:=by
 show(match μ p with | some (.lst xs)=>some xs | _=>none)=_
 rw [h]
theorem Qgk{d:PyData}{ds:List PyData}:Hw (d :: ds) (some 1) none=ds:=by
 unfold Hw
 have e1:HT.sIx (d :: ds).length 0 (some 1)=1:=by
  show min (1:Int).toNat (d :: ds).length=1
  simp
 rw [e1,HT.sIx_none,List.drop_succ_cons,List.drop_zero,Yb5 (by simp)]
def B2{κ:Type} [DecidableEq κ](ae:List (κ×AV))(k:κ):Option AV:=(ae.find? λkv=>decide (kv.1=k)).map (·.2)
def Dw{κ:Type} [DecidableEq κ](ae:List (κ×AV))(k:κ)(v:AV):List (κ×AV) :=
 if(ae.any λkv=>decide (kv.1=k))=true then ae.map λkv=>if kv.1=k then(kv.1,v) else kv else ae++[(k,v)]
def Ev:List PyData->Option (List Key)
 | []=>some []
 | d :: ds=>match Ir d,Ev ds with
  | some k,some ks=>some (k :: ks)
  | _,_=>none
def Fa(ds:List PyData):Option (List Key):=match Lit ds with
 | true=>none
 | false=>Ev ds
theorem Og{ds:List PyData}{ks:List Key}(h:Fa ds=some ks):Lit ds=false/\Ev ds=some ks:=by
 unfold Fa at h
 cases c:Lit ds with
 | true=>rw [c]at h;cases h
 | false=>rw [c]at h;exact⟨rfl,h⟩
theorem Uv.heap{K:PySem.W.Frag}{H:Hp}{a:Addr}{ds:List PyData}{xs:List V}(h:Uv K H a ds xs)(hl:Lit ds=false):H a=some (.tup xs):=by
 rcases h with h | h
 ·exact h
 ·rw [hl]at h;cases h.1
def dget(m:MO)(d:PyData):Option (Option AV):=match m with
 | .dk ae=>(Ir d).map (B2 ae)
 | .dt ae=>match d with
  | .tuple ds=>(Fa ds).map (B2 ae)
  | _=>none
 | .lst _=>none
 | .dd _=>none
def dput(m:MO)(d:PyData)(v:AV):Option MO:=match m with
 | .dk ae=>(Ir d).map λk=>.dk (Dw ae k v)
 | .dt ae=>match d with
  | .tuple ds=>(Fa ds).map λk=>.dt (Dw ae k v)
  | _=>none
 | .lst _=>none
 | .dd _=>none
def dsize:MO->Nat
 | .dk ae=>ae.length
 | .dt ae=>ae.length
 | .lst xs=>xs.length
 | .dd ae=>ae.length
section
variable {X:Cx}{K:PySem.W.Frag}{H:Hp}
def Oh(K:PySem.W.Frag)(H:Hp):Option AV->Option V->Prop
 | some x,some v=>RelA K H x v
 | none,none=>True
 | _,_=>False
theorem Db.val{κ:Type} [DecidableEq κ]{ae:List (κ×AV)}{vs:List (κ×V)}(h:Db K H ae vs)(k:κ):Oh K H (B2 ae k) (E6 vs k):=by
 unfold Db at h
 induction h with
 | nil=>exact trivial
 | @cons p q l₁ l₂ r t ih =>
  obtain⟨p1,p2⟩:=p
  obtain⟨q1,q2⟩:=q
  obtain⟨e,r⟩:=r
  dsimp only at e
  subst e
  unfold B2 E6 at ih ⊢
  by_cases hk:p1=k
  ·simp only [List.find?_cons,decide_eq_true hk];exact r
  ·simp only [List.find?_cons,decide_eq_false hk];exact ih
theorem Db.put{κ:Type} [DecidableEq κ]{ae:List (κ×AV)}{vs:List (κ×V)}(h:Db K H ae vs)(k:κ){x:AV}{v:V}(r:RelA K H x v):Db K H (Dw ae k x) (E7 vs k v):=by
 have hn:(ae.any λkv=>decide (kv.1=k))=(vs.any λkv=>decide (kv.1=k)):=by
  unfold Db at h
  induction h with
  | nil=>rfl
  | @cons p q l₁ l₂ rr t ih=>rw [Ycv,Ycv,ih,rr.1]
 have hm:Db K H (ae.map λkv=>if kv.1=k then(kv.1,x) else kv) (vs.map λkv=>if kv.1=k then(kv.1,v) else kv):=by
  clear hn
  unfold Db at h ⊢
  induction h with
  | nil=>exact .nil
  | @cons p q l₁ l₂ rr t ih =>
   refine .cons ?_ ih
   obtain⟨e,rr⟩:=rr
   dsimp only
   by_cases hk:p.1=k
   ·rw [Yaj hk,Yaj (e ▸ hk)];exact⟨e,r⟩
   ·rw [Yah hk,Yah (e ▸ hk)];exact⟨e,rr⟩
 have ha:Db K H (ae++[(k,x)]) (vs++[(k,v)]):=by
  clear hn hm
  unfold Db at h ⊢
  exact Paired.snoc h ⟨rfl,r⟩
 unfold Dw E7
 rw [hn]
 split
 ·exact hm
 ·exact ha
theorem J4{d:PyData}{k:Key}{v:V}(h:Dk K H d v)(e:Ir d=some k):v=kV k:=by
 unfold Ir at e
 split at e
 ·cases e;exact h.int
 ·cases e;exact h.str
 ·cases e
theorem G8:∀{ds:List PyData} {ks:List Key} {vs:List V},Aj K H ds vs->Ev ds=some ks->vs=ks.map kV
 | [],ks,vs,h,e=>by cases e;exact h.nil
 | d :: ds,ks,vs,h,e=>by
  obtain⟨x,r,rfl,h1,h2⟩:=h.cons
  simp only [Ev]at e
  split at e
  ·rename_i k ks' e1 e2
   cases e
   rw [J4 h1 e1,G8 h2 e2];rfl
  ·cases e
theorem J5{μ:M}{a:Addr}{m:MO}{d:PyData}{v:V}{o:Option AV}(hc:Cn K μ H)(hm:μ a=some m)(hd:Dk K H d v)(e:dget m d=some o):∃r,DGet H a v r/\Oh K H o r:=by
 obtain⟨ob,ho,rm⟩:=hc a m hm
 unfold dget at e
 split at e
 ·obtain⟨k,ek,rfl⟩:=Yap.mp e
  obtain⟨vs,rfl,rs⟩:=rm
  rw [J4 hd ek]
  exact⟨_,DGet.k ho,rs.val k⟩
 ·split at e
  ·obtain⟨ks,ek,rfl⟩:=Yap.mp e
   obtain⟨vs,rfl,rs⟩:=rm
   obtain⟨b,xs,rfl,hb,hx⟩:=hd.tup
   obtain⟨e0,ek⟩:=Og ek
   have hb:=hb.heap e0
   rw [G8 hx ek]at hb
   exact⟨_,DGet.t ho hb,rs.val ks⟩
  ·cases e
 ·cases e
 ·cases e
theorem Oi{μ:M}{a:Addr}{m m':MO}{d:PyData}{v w:V}{x:AV}(hc:Cn K μ H)(hm:μ a=some m)(hd:Dk K H d v)(hx:RelA K H x w)(e:dput m d x=some m')(hs:dsize m < sizeLine):∃H',DPut H a v w H'/\Kp H H'/\Cn K (Ao μ a m') H':=by
 obtain⟨ob,ho,rm⟩:=hc a m hm
 unfold dput at e
 split at e
 ·obtain⟨k,ek,rfl⟩:=Yap.mp e
  obtain⟨vs,rfl,rs⟩:=rm
  rw [J4 hd ek]
  exact⟨_,DPut.k ho (by rw [<- Ycc rs];exact hs),Kp.put ho trivial _,hc.put ho trivial ⟨_,rfl,rs.put k hx⟩⟩
 ·split at e
  ·obtain⟨ks,ek,rfl⟩:=Yap.mp e
   obtain⟨vs,rfl,rs⟩:=rm
   obtain⟨b,xs,rfl,hb,hxs⟩:=hd.tup
   obtain⟨e0,ek⟩:=Og ek
   have hb:=hb.heap e0
   rw [G8 hxs ek]at hb
   exact⟨_,DPut.t ho hb (by rw [<- Ycc rs];exact hs),Kp.put ho trivial _,hc.put ho trivial ⟨_,rfl,rs.put ks hx⟩⟩
  ·cases e
 ·cases e
 ·cases e
variable {o i e value:Expr}{pos bj:Pos}{td ty tv tx:AE}
def Qde(td ty:AE):AE:=fun τ μ R=>td τ μ λx μ1=>ty τ μ1 λy μ2=>match x,y with
 | .R a,.D d=>opt (μ2 a) λm=>opt (dget m d) λr=>opt r λv=>R v μ2
 | _,_=>False
theorem Oj(hu:X.A.units+1 < cLine)(ho:VE X o td)(hi:VE X i ty)(hs:Zi i:=by intro _ _;rfl):VE X (.Subscript o i pos) (Qde td ty):=(Vk hu ho hi hs).imp fun σ H Q zz71=>B4 zz71 fun τ μ R hs hc h hq =>
 ⟨τ,μ,_,hs,hc,h,λx μ1 v H1 S1 c1 rx hx=>⟨τ,μ1,_,hs.kp S1,c1,hx,λy μ2 u H2 S2 c2 ry hy=>by
  split at hy
  ·obtain⟨m,em,hy⟩:=Aq hy
   obtain⟨r,er,hy⟩:=Aq hy
   obtain⟨w,rfl,hy2⟩:=Aq hy
   obtain⟨r',g,ro⟩:=J5 c2 em ry er
   cases r' with
   | none=>exact ro.elim
   | some z=>exact⟨_,z,(rx.kp S2).ref,g,hq _ _ _ _ (S1.trans S2) c2 ro hy2⟩
  ·exact hy.elim⟩⟩
def Qdf(nb:Bool->Bool)(ty td:AE):AE:=fun τ μ R=>ty τ μ λy μ1=>td τ μ1 λx μ2=>match x,y with
 | .R a,.D d=>opt (μ2 a) λm=>opt (dget m d) λr=>R (.D (.bool (nb r.isSome))) μ2
 | _,_=>False
theorem Oh.some{o:Option AV}{r:Option V}(h:Oh K H o r):o.isSome=r.isSome:=by
 cases o <;> cases r <;> first | rfl | exact h.elim
theorem La{K:PySem.W.Frag}{σ:St}{H:Hp}{Q:VK}(h:cE K (Qdf (λb=>!b) ty td) σ H Q):N7 (cE K ty) (cE K td) σ H Q:=by
 obtain⟨τ,μ,R,hs,hc,h,hq⟩:=h
 refine⟨τ,μ,_,hs,hc,h,λy μ1 v H1 S1 c1 ry hx=>⟨τ,μ1,_,hs.kp S1,c1,hx,λx μ2 u H2 S2 c2 rx hy=>?_⟩⟩
 split at hy
 ·obtain⟨m,em,hy⟩:=Aq hy
  obtain⟨r,er,hy⟩:=Aq hy
  obtain⟨r',g,ro⟩:=J5 c2 em (ry.kp S2) er
  refine⟨_,r',rx.ref,g,hq _ _ _ _ (S1.trans S2) c2 ?_ hy⟩
  rw [ro.some];exact D4
 ·exact hy.elim
theorem Ix(hu:X.A.units+1 < cLine)(hi:VE X i ty)(ho:VE X o td)(h1:behindInMarks .NotIn o=false:=by rfl):VT X (.Compare i [.NotIn] [o] pos) (N8 (Qdf (λb=>!b) ty td)):=(Yk (Pw hu hi ho) h1).imp λ_ _ _ h=>Fl (λ_ _ _ q=>La q) h
def Qdg(td ty tv:AE):AS:=λk _ _ _ τ μ=>tv τ μ λv μ1=>td τ μ1 λx μ2=>ty τ μ2 λy μ3=>match x,y with
 | .R a,.D d=>opt (μ3 a) λm=>opt (dput m d v) λm'=>dsize m < sizeLine/\k τ (Ao μ3 a m')
 | _,_=>False
theorem Gh(hu:X.A.units+1 < cLine)(ho:VE X o td)(hi:VE X i ty)(hv:VE X value tv)(hs:swapsWith value (some (.Subscript o i bj)) pos.line X.env=pure false:=by rfl):VS X (.Assign [.Subscript o i bj] value pos) (Qdg td ty tv):=(Vl hu ho hi hv hs).imp λD σ H zz72=>Ht zz72 fun τ μ nk nr nb nc hs hc h hq =>
 ⟨τ,μ,_,hs,hc,h,λv μ1 vv H1 S1 c1 rv h1=>⟨τ,μ1,_,hs.kp S1,c1,h1,λx μ2 xv H2 S2 c2 rx h2=>⟨τ,μ2,_,hs.kp (S1.trans S2),c2,h2,λy μ3 yv H3 S3 c3 ry h3=>by
  split at h3
  ·obtain⟨m,em,h3⟩:=Aq h3
   obtain⟨m',em',h3⟩:=Aq h3
   obtain⟨H4,g,S4,c4⟩:=Oi c3 em ry (rv.kp (S2.trans S3)) em' h3.1
   have S:=S1.trans (S2.trans (S3.trans S4))
   exact⟨_,H4,(rx.kp S3).ref,g,hq.nx _ _ _ _ S (hs.kp S) c4 h3.2⟩
  ·exact h3.elim⟩⟩⟩
def Z1:AE:=λ_ μ R=>∀p,μ p=none->R (.R p) (Ao μ p (.dk []))
def Z5:AE:=λ_ μ R=>∀p,μ p=none->R (.R p) (Ao μ p (.dt []))
theorem Qdh{ae:List (Key×AV)}{vs:List (Key×V)}(h:Db K H ae vs):Jv K H (.dk ae) (.dK vs):=⟨vs,rfl,h⟩
theorem Xr{ae:List (List Key×AV)}{vs:List (List Key×V)}(h:Db K H ae vs):Jv K H (.dt ae) (.dT vs):=⟨vs,rfl,h⟩
theorem Sy:VE X (.Dict [] [] pos) Z1:=R4.imp fun σ H Q zz73=>B4 zz73 fun τ μ R hs hc h hq=>λp hp=>hq _ _ _ _ (Kp.new hp _) (hc.new hp (Qdh .nil)) C7 (h p (hc.none hp))
theorem Lb:VE X (.Dict [] [] pos) Z5:=R5.imp fun σ H Q zz74=>B4 zz74 fun τ μ R hs hc h hq=>λp hp=>hq _ _ _ _ (Kp.new hp _) (hc.new hp (Xr .nil)) C7 (h p (hc.none hp))
end
end L2
namespace L2
theorem Cz{α:Type}{us:List α}{n:Nat}(h:us.length=n+1):∃a t,us=a :: t/\t.length=n:=match us,h with | a :: t,h=>⟨a,t,rfl,Nat.succ.inj h⟩
theorem V3{α:Type}{us:List α}(h:us.length=1):∃a,us=[a]:=by
 obtain⟨a,t,rfl,h2⟩:=Cz h
 rw [Yca h2];exact⟨a,rfl⟩
theorem Qe0{α:Type}{us:List α}(h:us.length=2):∃a b,us=[a,b]:=by
 obtain⟨a,t,rfl,h2⟩:=Cz h
 obtain⟨b,rfl⟩:=V3 h2
 exact⟨a,b,rfl⟩
open PySem PySem.Spec PySem.Calls PyProof.Rows
abbrev AX:=Addr->List (Str×PyData)->M->Prop
section
variable {K:PySem.W.Frag}{H H':Hp}
theorem Kp.same(k:∀b o,H b=some o->H' b=some o):Kp H H':=⟨λb _ e=>k b _ e,λb _ _ e=>k b _ e⟩
theorem Cn.same{μ:M}(c:Cn K μ H)(k:∀b o,H b=some o->H' b=some o):Cn K μ H':=λb m e=>by
 obtain⟨o',q,r⟩:=c b m e
 exact⟨o',k b o' q,r.kp (Kp.same k)⟩
end
section
variable {X:Cx}{aa:List (Addr×Obj)}{σ:St}{H:Hp}{s:Shared}
end
section
variable {X:Cx}{x:Str}{p pos bj:Pos}{e:Expr}{es:List Expr}{t:AA}{k:Nat}{C:Addr}{fns:List Str}{EX:AX}
end
abbrev Qgl:=List AV->M->(AV->M->Prop)->AX->Prop
section
variable {X:Cx}{x:Str}{p pos:Pos}{e:Expr}{es:List Expr}{t:AA}{k:Nat}{ps:List Str}{sp:Qgl}{EX:AX}
end
section
variable {P:Program}{w:World}{K:PySem.W.Frag}{mg:Str->Option Value}{base:Heap}
end
section
variable {X:Cx}{aa:List (Addr×Obj)}{σ:St}{H:Hp}{s:Shared}{st:Stmt}{rest:List Stmt}{t s1 s2:AS}
end
section
variable {X:Cx}{a:Expr}{ta:AE}{pos p p2:Pos}{x:Str}
end
end L2
namespace L2
open PySem PySem.Spec PyProof.Rows
section
variable {X:Cx}{a:Expr}{ta:AE}{pos p:Pos}
end
section
variable {X:Cx}{pos:Pos}{zae:List (Option Expr)}{yx:List Expr}{ks:List Key}{ts:List AE}
end
theorem Dr{κ:Type} [DecidableEq κ]{k:κ}{v:AV}{r:List (κ×AV)}:B2 ((k,v) :: r) k=some v:=by
 unfold B2
 simp only [List.find?_cons,decide_eq_true (rfl:k=k)];rfl
theorem Ct{κ:Type} [DecidableEq κ]{k k':κ}{v:AV}{r:List (κ×AV)}(h:k'≠k):B2 ((k',v) :: r) k=B2 r k:=by
 unfold B2
 simp only [List.find?_cons,decide_eq_false h]
theorem Sz{α:Type}(g:α->Bool)(xs:List α):bools (xs.map λx=>.D (.bool (g x)))=some (xs.map g):=by
 rw [show(xs.map λx=>AV.D (.bool (g x)))=(xs.map g).map λb=>.D (.bool b) by rw [Ya5];rfl]
 exact Iu _
theorem Qc{μ:M}{p:Addr}{m:MO}(h:μ p=some m):Ao μ p m=μ:=by
 funext b
 unfold Ao
 split
 ·rename_i e;rw [e,h]
 ·rfl
theorem cmapf{α:Type}{p:Addr}{g:AG}{tst:AT}{te:AE}{kp:M->Prop}{R:M->Prop}{τ:ASt}{μ:M}(as:List α)(g0:α->AV)(b:α->Bool)(f:α->AV)(Sh:ASt->Prop)(h0:Sh τ)(hp:μ p=some (.lst []))(hn:as.length<=sizeLine)(hk:∀af,kp (Ao μ p (.lst af)))
  (step:∀(i:Nat) (x:α) (τ':ASt) (af:List AV) (W:ASt->AV->M->Prop) (W2:ASt->M->Prop),as[i]?=some x->Sh τ'->(b x=true->∀ τ1,Sh τ1->W τ1 (f x) (Ao μ p (.lst af)))->(b x=false->∀ τ1,Sh τ1->W2 τ1 (Ao μ p (.lst af))) ->
   g (g0 x) τ' (Ao μ p (.lst af)) fun τ1 μ1=>tst τ1 μ1 λk μ2=>brP k (te τ1 μ2 (W τ1)) (W2 τ1 μ2))
  (done:R (Ao μ p (.lst ((as.filter b).map f)))):cl p g tst te kp R (as.map g0) [] τ μ:=by
 refine Eu (λi af τ' μ'=>Sh τ'/\af=((as.take i).filter b).map f/\μ'=Ao μ p (.lst af)) ⟨h0,by simp,(Qc hp).symm⟩ (λi af τ μ' ⟨_,_,e⟩=>by rw [e];exact hk _) ?_ ?_
 ·rintro i y af τ' μ' W hy ⟨sh,rfl,rfl⟩ hW
  rw [List.getElem?_map]at hy
  obtain⟨x,hx,rfl⟩:=Yap.mp hy
  have hi:i < as.length:=(List.getElem?_eq_some_iff.mp hx).1
  have ht:as.take (i+1)=as.take i++[x]:=by rw [Ycw,hx];rfl
  refine step i x τ' _ (fun τ1 v μ3=>μ3 p=some (.lst (((as.take i).filter b).map f))/\(((as.take i).filter b).map f).length < sizeLine/\W ((((as.take i).filter b).map f)++[v]) τ1 (Ao μ3 p (.lst ((((as.take i).filter b).map f)++[v])))) (fun τ1 μ2=>W (((as.take i).filter b).map f) τ1 μ2) hx sh (λhb τ1 s1=>⟨Ab,?_,hW _ _ _ ⟨s1,?_,Bu⟩⟩) (λhb τ1 s1=>hW _ _ _ ⟨s1,?_,rfl⟩)
  ·rw [Yac]
   have h1:=Yej b (as.take i)
   rw [Yb1]at h1
   omega
  ·rw [ht,Yd1,Yav,Ydr,Yaj hb];rfl
  ·rw [ht,Yd1,Yav,Ydr,Yah (by rw [hb];exact Yag)];simp
 ·rintro af τ' μ' ⟨_,rfl,rfl⟩
  rw [Yac,Yds]
  exact done
theorem cmap{α:Type}{p:Addr}{g:AG}{te:AE}{kp:M->Prop}{R:M->Prop}{τ:ASt}{μ:M}(as:List α)(g0 f:α->AV)(Sh:ASt->Prop)(h0:Sh τ)(hp:μ p=some (.lst []))(hn:as.length<=sizeLine)(hk:∀af,kp (Ao μ p (.lst af)))
  (step:∀(i:Nat) (x:α) (τ':ASt) (af:List AV) (W:ASt->AV->M->Prop),as[i]?=some x->Sh τ'->(∀ τ1,Sh τ1->W τ1 (f x) (Ao μ p (.lst af)))->g (g0 x) τ' (Ao μ p (.lst af)) fun τ1 μ1=>te τ1 μ1 (W τ1))
  (done:R (Ao μ p (.lst (as.map f)))):cl p g Z0 te kp R (as.map g0) [] τ μ:=by
 refine cmapf as g0 (λ_=>true) f Sh h0 hp hn hk (λi x τ' af W W2 hx sh h1 _=>?_) (by rw [List.filter_eq_self.mpr (λ_ _=>rfl)];exact done)
 have:=step i x τ' af W hx sh (h1 rfl)
 simp only [Z0,Si]
 exact this
theorem Ta{α:Type}{g:α->Bool}{as:List α}{μ:M}{p:Addr}{R:AV->M->Prop}(h:μ p=some (.lst (as.map λx=>.D (.bool (g x)))))(q:R (.D (.bool (as.all g))) μ):Zw [.R p] μ R:=by
 refine Ac h (Ac (Sz g as) ?_)
 rw [List.all_map]
 exact q
theorem G9{K:PySem.W.Frag}:Kits K "tuple" := by
 intro S hS
 simp only [List.mem_cons,List.not_mem_nil,or_false]at hS
 rcases hS with rfl | rfl | rfl | rfl | rfl | rfl | rfl <;> rfl
theorem Qe{K:PySem.W.Frag}:Kits K "list" := by
 intro S hS
 simp only [List.mem_cons,List.not_mem_nil,or_false]at hS
 rcases hS with rfl | rfl | rfl | rfl | rfl | rfl | rfl <;> rfl
theorem Tb{K:PySem.W.Frag}:Kits K "int" := by
 intro S hS
 simp only [List.mem_cons,List.not_mem_nil,or_false]at hS
 rcases hS with rfl | rfl | rfl | rfl | rfl | rfl | rfl <;> rfl
theorem Qf{K:PySem.W.Frag}:Kits K "bool" := by
 intro S hS
 simp only [List.mem_cons,List.not_mem_nil,or_false]at hS
 rcases hS with rfl | rfl | rfl | rfl | rfl | rfl | rfl <;> rfl
section
variable {X:Cx}{K:PySem.W.Frag}{a:Expr}{ta:AE}{pos p p2:Pos}{x:Str}
end
def rk:PyData->Nat
 | .none=>0 | .bool _=>1 | .int _=>2 | .str _=>3 | .list _=>4 | .tuple _=>5 | .dict _=>6
def Fb(a b:Str):Bool:=decide (a.cps.toList < b.cps.toList)
mutual
def Fy:PyData->PyData->Bool
 | .int a,.int b=>decide (a < b)
 | .str a,.str b=>Fb a b
 | .tuple xs,.tuple ys=>Cj xs ys
 | x,y=>decide (rk x < rk y)
def Cj:List PyData->List PyData->Bool
 | [],[]=>false
 | [],_ :: _=>true
 | _ :: _,[]=>false
 | x :: xs,y :: ys=>if PyData.eqv x y then Cj xs ys else Fy x y
end
mutual
theorem Ew:∀(x y:PyData),Cano x=true->Cano y=true->PyData.eqv x y=true->x=y
 | .int a,.int b,_,_,h=>by simp [PyData.eqv]at h;rw [h]
 | .str a,.str b,_,_,h=>by simp [PyData.eqv]at h;rw [h]
 | .tuple xs,.tuple ys,h1,h2,h=>by
  simp only [Cano]at h1 h2
  rw [PyData.eqv]at h
  rw [Ol xs ys h1 h2 h]
 | .int _,.str _,_,_,h=>by simp [PyData.eqv]at h
 | .int _,.tuple _,_,_,h=>by simp [PyData.eqv]at h
 | .str _,.int _,_,_,h=>by simp [PyData.eqv]at h
 | .str _,.tuple _,_,_,h=>by simp [PyData.eqv]at h
 | .tuple _,.int _,_,_,h=>by simp [PyData.eqv]at h
 | .tuple _,.str _,_,_,h=>by simp [PyData.eqv]at h
 | .none,_,h,_,_=>by simp [Cano]at h
 | .bool _,_,h,_,_=>by simp [Cano]at h
 | .list _,_,h,_,_=>by simp [Cano]at h
 | .dict _,_,h,_,_=>by simp [Cano]at h
 | .int _,.none,_,h,_=>by simp [Cano]at h
 | .int _,.bool _,_,h,_=>by simp [Cano]at h
 | .int _,.list _,_,h,_=>by simp [Cano]at h
 | .int _,.dict _,_,h,_=>by simp [Cano]at h
 | .str _,.none,_,h,_=>by simp [Cano]at h
 | .str _,.bool _,_,h,_=>by simp [Cano]at h
 | .str _,.list _,_,h,_=>by simp [Cano]at h
 | .str _,.dict _,_,h,_=>by simp [Cano]at h
 | .tuple _,.none,_,h,_=>by simp [Cano]at h
 | .tuple _,.bool _,_,h,_=>by simp [Cano]at h
 | .tuple _,.list _,_,h,_=>by simp [Cano]at h
 | .tuple _,.dict _,_,h,_=>by simp [Cano]at h
theorem Ol:∀(xs ys:List PyData),Ax xs=true->Ax ys=true->PyData.eqvAll xs ys=true->xs=ys
 | [],[],_,_,_=>rfl
 | [],_ :: _,_,_,h=>by simp [PyData.eqvAll]at h
 | _ :: _,[],_,_,h=>by simp [PyData.eqvAll]at h
 | x :: xs,y :: ys,h1,h2,h=>by
  simp only [Ax,Bool.and_eq_true]at h1 h2
  rw [PyData.eqvAll,Yb2]at h
  rw [Ew x y h1.1 h2.1 h.1,Ol xs ys h1.2 h2.2 h.2]
end
mutual
theorem D6:∀(x:PyData),Cano x=true->PyData.eqv x x=true
 | .int a,_=>by simp [PyData.eqv]
 | .str a,_=>by simp [PyData.eqv]
 | .tuple xs,h=>by rw [PyData.eqv];exact Iy xs (by simpa only [Cano] using h)
 | .none,h=>by simp [Cano]at h
 | .bool _,h=>by simp [Cano]at h
 | .list _,h=>by simp [Cano]at h
 | .dict _,h=>by simp [Cano]at h
theorem Iy:∀(xs:List PyData),Ax xs=true->PyData.eqvAll xs xs=true
 | [],_=>rfl
 | x :: xs,h=>by
  simp only [Ax,Bool.and_eq_true]at h
  rw [PyData.eqvAll,D6 x h.1,Iy xs h.2];rfl
end
theorem Tc{x y:PyData}(hx:Cano x=true)(hy:Cano y=true):PyData.eqv x y=false↔x≠y:=by
 constructor
 ·rintro h rfl
  rw [D6 x hx]at h;cases h
 ·intro h
  cases e:PyData.eqv x y with
  | false=>rfl
  | true=>exact absurd (Ew x y hx hy e) h
theorem cano_cases{x:PyData}(h:Cano x=true):(∃i,x=.int i)\/(∃z,x=.str z)\/∃xs,x=.tuple xs/\Ax xs=true:=by
 cases x with
 | int i=>exact .inl ⟨i,rfl⟩
 | str z=>exact .inr (.inl ⟨z,rfl⟩)
 | tuple xs=>exact .inr (.inr ⟨xs,rfl,by simpa only [Cano] using h⟩)
 | none=>simp [Cano]at h
 | bool _=>simp [Cano]at h
 | list _=>simp [Cano]at h
 | dict _=>simp [Cano]at h
theorem Td{a b c:Str}(h1:Fb a b=true)(h2:Fb b c=true):Fb a c=true:=by
 unfold Fb at *
 exact Ybi (List.lt_trans (Yaw h1) (Yaw h2))
theorem V4{a b:Str}(h:a.cps.toList=b.cps.toList):a=b:=by
 cases a;cases b
 simp only [Array.toList_inj]at h
 rw [h]
theorem Qg{a b:Str}(h:a≠b)(h1:Fb a b=false):Fb b a=true:=by
 unfold Fb at *
 have h1:=of_decide_eq_false h1
 refine Ybi ?_
 rcases Decidable.em (b.cps.toList < a.cps.toList) with z | z
 ·exact z
 ·exact absurd (V4 (List.le_antisymm (List.not_lt.mp z) (List.not_lt.mp h1))) h
mutual
theorem Te:∀(x y z:PyData),Cano x=true->Cano y=true->Cano z=true->Fy x y=true->Fy y z=true->Fy x z=true
 | .int a,y,z,_,hy,hz,h1,h2=>by
  rcases cano_cases hy with⟨b,rfl⟩ | ⟨b,rfl⟩ | ⟨ys,rfl,_⟩ <;> rcases cano_cases hz with⟨c,rfl⟩ | ⟨c,rfl⟩ | ⟨zs,rfl,_⟩ <;> simp [Fy,rk]at h1 h2 ⊢
  omega
 | .str a,y,z,_,hy,hz,h1,h2=>by
  rcases cano_cases hy with⟨b,rfl⟩ | ⟨b,rfl⟩ | ⟨ys,rfl,_⟩ <;> rcases cano_cases hz with⟨c,rfl⟩ | ⟨c,rfl⟩ | ⟨zs,rfl,_⟩ <;> simp [Fy,rk]at h1 h2 ⊢
  exact Td h1 h2
 | .tuple xs,y,z,hx,hy,hz,h1,h2=>by
  rcases cano_cases hy with⟨b,rfl⟩ | ⟨b,rfl⟩ | ⟨ys,rfl,ky⟩ <;> rcases cano_cases hz with⟨c,rfl⟩ | ⟨c,rfl⟩ | ⟨zs,rfl,kz⟩ <;> simp [Fy,rk]at h1 h2 ⊢
  exact Om xs ys zs (by simpa only [Cano] using hx) ky kz h1 h2
 | .none,_,_,h,_,_,_,_=>by simp [Cano]at h
 | .bool _,_,_,h,_,_,_,_=>by simp [Cano]at h
 | .list _,_,_,h,_,_,_,_=>by simp [Cano]at h
 | .dict _,_,_,h,_,_,_,_=>by simp [Cano]at h
theorem Om:∀(xs ys zs:List PyData),Ax xs=true->Ax ys=true->Ax zs=true->Cj xs ys=true->Cj ys zs=true->Cj xs zs=true
 | [],[],_,_,_,_,h1,_=>by simp [Cj]at h1
 | [],_ :: _,[],_,_,_,_,h2=>by simp [Cj]at h2
 | [],_ :: _,_ :: _,_,_,_,_,_=>by simp [Cj]
 | _ :: _,[],_,_,_,_,h1,_=>by simp [Cj]at h1
 | _ :: _,_ :: _,[],_,_,_,_,h2=>by simp [Cj]at h2
 | x :: xs,y :: ys,z :: zs,hx,hy,hz,h1,h2=>by
  simp only [Ax,Bool.and_eq_true]at hx hy hz
  simp only [Cj]at h1 h2 ⊢
  cases e1:PyData.eqv x y with
  | true =>
   have e:=Ew x y hx.1 hy.1 e1
   subst e
   rw [e1]at h1
   cases e2:PyData.eqv x z with
   | true =>
    rw [e2]at h2
    exact Om xs ys zs hx.2 hy.2 hz.2 h1 h2
   | false=>rw [e2]at h2;exact h2
  | false =>
   rw [e1]at h1
   cases e2:PyData.eqv y z with
   | true =>
    have e:=Ew y z hy.1 hz.1 e2
    subst e
    rw [e1];exact h1
   | false =>
    rw [e2]at h2
    have h3:=Te x y z hx.1 hy.1 hz.1 h1 h2
    cases e3:PyData.eqv x z with
    | false=>exact h3
    | true =>
     have e:=Ew x z hx.1 hz.1 e3
     subst e
     exact absurd h3 (by rw [On x hx.1];exact Yag)
theorem On:∀(x:PyData),Cano x=true->Fy x x=false
 | .int a,_=>by simp [Fy]
 | .str a,_=>by simp [Fy,Fb,List.lt_irrefl]
 | .tuple xs,h=>by simp only [Fy];exact Lc xs (by simpa only [Cano] using h)
 | .none,h=>by simp [Cano]at h
 | .bool _,h=>by simp [Cano]at h
 | .list _,h=>by simp [Cano]at h
 | .dict _,h=>by simp [Cano]at h
theorem Lc:∀(xs:List PyData),Ax xs=true->Cj xs xs=false
 | [],_=>by simp [Cj]
 | x :: xs,h=>by
  simp only [Ax,Bool.and_eq_true]at h
  simp only [Cj,D6 x h.1,if_true]
  exact Lc xs h.2
end
mutual
theorem Oo:∀(x y:PyData),Cano x=true->Cano y=true->x≠y->Fy x y=false->Fy y x=true
 | .int a,y,_,hy,hn,h=>by
  rcases cano_cases hy with⟨b,rfl⟩ | ⟨b,rfl⟩ | ⟨ys,rfl,_⟩ <;> simp [Fy,rk]at h ⊢
  have:a≠b:=λz=>hn (by rw [z])
  omega
 | .str a,y,_,hy,hn,h=>by
  rcases cano_cases hy with⟨b,rfl⟩ | ⟨b,rfl⟩ | ⟨ys,rfl,_⟩ <;> simp [Fy,rk]at h ⊢
  exact Qg (λz=>hn (by rw [z])) h
 | .tuple xs,y,hx,hy,hn,h=>by
  rcases cano_cases hy with⟨b,rfl⟩ | ⟨b,rfl⟩ | ⟨ys,rfl,ky⟩ <;> simp [Fy,rk]at h ⊢
  exact Ld xs ys (by simpa only [Cano] using hx) ky (λz=>hn (by rw [z])) h
 | .none,_,h,_,_,_=>by simp [Cano]at h
 | .bool _,_,h,_,_,_=>by simp [Cano]at h
 | .list _,_,h,_,_,_=>by simp [Cano]at h
 | .dict _,_,h,_,_,_=>by simp [Cano]at h
theorem Ld:∀(xs ys:List PyData),Ax xs=true->Ax ys=true->xs≠ys->Cj xs ys=false->Cj ys xs=true
 | [],[],_,_,hn,_=>absurd rfl hn
 | [],_ :: _,_,_,_,h=>by simp [Cj]at h
 | _ :: _,[],_,_,_,_=>by simp [Cj]
 | x :: xs,y :: ys,hx,hy,hn,h=>by
  simp only [Ax,Bool.and_eq_true]at hx hy
  simp only [Cj]at h ⊢
  cases e:PyData.eqv x y with
  | true =>
   have e':=Ew x y hx.1 hy.1 e
   subst e'
   rw [e]at h ⊢
   exact Ld xs ys hx.2 hy.2 (λz=>hn (by rw [z])) h
  | false =>
   rw [e]at h
   have ay:=(Tc hx.1 hy.1).mp e
   rw [(Tc hy.1 hx.1).mpr (Ybe ay)]
   exact Oo x y hx.1 hy.1 ay h
end
end L2
namespace L2
open PySem PySem.W PyProof.Rows
section
variable {n:Nat}{lt:Nat->Nat->Bool}
structure StrictOrd(n:Nat)(lt:Nat->Nat->Bool):Prop where
 tr:∀a b c,a < n->b < n->c < n->lt a b=true->lt b c=true->lt a c=true
 tot:∀a b,a < n->b < n->a≠b->lt a b=false->lt b a=true
 irr:∀a,a < n->lt a a=false
structure Pm(n:Nat)(p:Array Nat):Prop where
 size:p.size=n
 lt:∀i,i < n->p.getD i 0 < n
 inj:∀i j,i < n->j < n->i≠j->p.getD i 0≠p.getD j 0
 perm:p.toList.Perm (List.range n)
theorem Xs{p:Array Nat}(h:p.toList.Perm (List.range n)):Pm n p:=by
 have hs:p.size=n:=by
  have:=h.length_eq
  simpa using this
 have hg:∀i,(hi:i < n)->p.getD i 0=p[i]'(by omega):=λi hi=>by simp [Array.getD,show i < p.size by omega]
 refine⟨hs,λi hi=>?_,λi j hi hj de e=>?_,h⟩
 ·rw [hg i hi]
  have:p[i]'(by omega)∈p.toList:=by simp
  exact Ybh.mp (h.mem_iff.mp this)
 ·rw [hg i hi,hg j hj]at e
  have nd:p.toList.Nodup:=h.nodup_iff.mpr List.nodup_range
  have e1:p.toList[i]?=p.toList[j]?:=by
   rw [Array.getElem?_toList,Array.getElem?_toList,Array.getElem?_eq_getElem (by omega),Array.getElem?_eq_getElem (by omega),e]
  exact de ((List.getElem?_inj (by simpa using (by omega:i < p.size)) nd).mp e1)
def Up(lt:Nat->Nat->Bool)(p:Array Nat)(k:Nat):Prop:=∀i j,i < j->j < k->lt (p.getD i 0) (p.getD j 0)=true
variable {p:Array Nat}{s:Shared}
end
section
variable {n:Nat}{lt:Nat->Nat->Bool}
structure WeakOrd(n:Nat)(lt:Nat->Nat->Bool):Prop where
 tr:∀a b c,a < n->b < n->c < n->lt b a=false->lt c b=false->lt c a=false
 asy:∀a b,a < n->b < n->lt a b=true->lt b a=false
theorem WeakOrd.irr{a:Nat}(O:WeakOrd n lt)(ha:a < n):lt a a=false:=by
 cases c:lt a a with
 | false=>rfl
 | true=>have:=O.asy a a ha ha c;rw [c]at this;cases this
theorem WeakOrd.low{a b c:Nat}(O:WeakOrd n lt)(ha:a < n)(hb:b < n)(hc:c < n)(h1:lt a b=true)(h2:lt c b=false):lt a c=true:=by
 cases e:lt a c with
 | true=>rfl
 | false=>rw [O.tr b c a hb hc ha h2 e]at h1;cases h1
theorem WeakOrd.high{a b c:Nat}(O:WeakOrd n lt)(ha:a < n)(hb:b < n)(hc:c < n)(h1:lt b a=false)(h2:lt b c=true):lt a c=true:=by
 cases e:lt a c with
 | true=>rfl
 | false=>rw [O.tr c a b hc ha hb e h1]at h2;cases h2
def UpW(lt:Nat->Nat->Bool)(p:Array Nat)(k:Nat):Prop:=∀i j,i < j->j < k->lt (p.getD j 0) (p.getD i 0)=false
variable {p:Array Nat}{s:Shared}
end
def gallop':Bool->Keyed->Array Keyed->Nat->Nat->Nat->StateT SortSt Sem (Option Nat):=sortPriv% PySem.Builtin.gallop
def setMinGallop':Nat->StateT SortSt Sem Unit:=sortPriv% PySem.Builtin.setMinGallop
theorem Na(left:Bool)(key:Keyed)(j0:Array Keyed)(base n ap:Nat):gallop' left key j0 base n ap=(do
 let d0 (i:Nat):StateT SortSt Sem (Option Bool):=do
  let x <- elem' j0 (base+i)
  if left then lt' x key else return (<- lt' key x).map (!·)
 let mut lastofs:=0
 let mut ofs:=1
 let mut lo:=0
 let mut hi:=0
 let some right <- d0 ap | return none
 if right then
  let df:=n - ap
  for _ in [0:n] do
   if ofs>=df then break
   let some more <- d0 (ap+ofs) | return none
   if !more then break
   lastofs:=ofs
   ofs:=2 * ofs+1
  lo:=ap+lastofs+1
  hi:=ap+min ofs df
 else
  let df:=ap+1
  for _ in [0:n] do
   if ofs>=df then break
   let some found <- d0 (ap - ofs) | return none
   if found then break
   lastofs:=ofs
   ofs:=2 * ofs+1
  lo:=ap+1 - min ofs df
  hi:=ap - lastofs
 for _ in [0:n] do
  if lo>=hi then break
  let m:=lo+(hi - lo) / 2
  let some more <- d0 m | return none
  if more then lo:=m+1 else hi:=m
 return some hi):=rfl
section
variable {prog:Program}{w:World}{A:Around}{E:Value->Shared->Prop}{s:Shared}{κ:SortKind}{it:Array Keyed}{n:Nat}{lt:Nat->Nat->Bool}
def Cmp(prog:Program)(w:World)(A:Around)(κ:SortKind)(it:Array Keyed)(n:Nat)(lt:Nat->Nat->Bool)(s:Shared):Prop :=
 ∀(i j:Nat) (C:Bool->Shared->Prop),i < n->j < n->C (lt i j) s->kas_cmp prog w A κ it i j C s
theorem Tf(hc:Cmp prog w A κ it n lt s){st:SortSt}(hk:kindOf st=κ){i j:Nat}(hi:i < n)(hj:j < n){Q:Option Bool->SortSt->Prop}(h:Q (some (lt i j)) st):wpS (model prog w) A E s (lt' (kas_item it i) (kas_item it j)) Q st:=by
 rw [lt'_eq]
 refine Yaf (Yez ?_)
 rw [hk]
 refine Yaf (wpS_lift (Yc3 (Ybw (hc i j (λc s'=>s'=s/\c=lt i j) hi hj ⟨rfl,rfl⟩) (λc s' cx=>?_) λ_ _ hF=>hF.elim)))
 obtain⟨rfl,rfl⟩:=cx
 exact⟨rfl,Yak h⟩
theorem Bb{st:SortSt}{p:Array Nat}{i:Nat}(hi:i < p.size){Q:Keyed->SortSt->Prop}(h:Q (kas_item it (p.getD i 0)) st):wpS (model prog w) A E s (elem' (p.map (kas_item it)) i) Q st:=by
 rw [elem'_eq]
 have e:(p.map (kas_item it))[i]?=some (kas_item it (p.getD i 0)):=by
  rw [Array.getElem?_map,Array.getElem?_eq_getElem hi]
  simp [Array.getD,hi]
 rw [e]
 exact Yak h
structure Step(f:Nat->Bool)(n k:Nat):Prop where
 le:k<=n
 yes:∀i,i < k->f i=true
 no:∀i,k<=i->i < n->f i=false
def byd(left:Bool)(key:Keyed)(j0:Array Keyed)(base i:Nat):StateT SortSt Sem (Option Bool):=do
 let x <- elem' j0 (base+i)
 if left then lt' x key else return (<- lt' key x).map (!·)
theorem Le{left:Bool}{key:Keyed}{j0:Array Keyed}{base m ap:Nat}{f:Nat->Bool}{st:SortSt}(hm:ap < m)
  (hf:∀i Q,i < m->Q (some (f i)) st->wpS (model prog w) A E s (byd left key j0 base i) Q st)
  (mono:∀i j,i<=j->j < m->f j=true->f i=true) {Q:Option Nat->SortSt->Prop} (h:∀k,Step f m k->Q (some k) st):wpS (model prog w) A E s (gallop' left key j0 base m ap) Q st:=by
 rw [Na]
 dsimp only
 have fh:∀i j,i<=j->j < m->f i=false->f j=false:=λi j de hj e=>by
  cases c:f j with
  | false=>rfl
  | true=>rw [mono i j de hj c]at e;cases e
 refine Yaf (hf ap _ hm ?_)
 dsimp only
 cases e0:f ap with
 | true =>
  rw [Yaj rfl]
  refine Yaf (Ych (Ybq (I:=λx c ai=>ai=st/\∃la ofs,c=(none,la,ofs)/\la < ofs/\la < m - ap/\x+1<=ofs/\f (ap+la)=true) (Q:=λc ai=>ai=st/\∃la ofs,c=(none,la,ofs)/\la < ofs/\la < m - ap/\f (ap+la)=true/\(ofs < m - ap->f (ap+ofs)=false)) ?_ ?_ ⟨rfl,0,1,rfl,by omega,by omega,by omega,e0⟩) ?_)
  ·rintro x c ai _ hx ⟨rfl,la,ofs,rfl,h1,h2,h3,h4⟩
   dsimp only
   by_cases c:ofs>=m - ap
   ·rw [Yaj c]
    exact Yak ⟨rfl,la,ofs,rfl,h1,h2,h4,λz=>by omega⟩
   ·rw [Yah c]
    refine Yaf (hf _ _ (by omega) ?_)
    dsimp only
    cases e:f (ap+ofs) with
    | false =>
     rw [Yaj (show(!false)=true from rfl)]
     exact Yak ⟨rfl,la,ofs,rfl,h1,h2,h4,λ_=>e⟩
    | true =>
     rw [Yah (show ¬(!true)=true by decide)]
     exact Yak ⟨rfl,ofs,_,rfl,by omega,by omega,by omega,e⟩
  ·rintro c ai ⟨rfl,la,ofs,rfl,h1,h2,h3,h4⟩
   exact⟨rfl,la,ofs,rfl,h1,h2,h4,λz=>by omega⟩
  ·rintro c ai ⟨rfl,la,ofs,rfl,h1,h2,h4,h5⟩
   have no:∀i,ap+min ofs (m - ap)<=i->i < m->f i=false:=λi hi jl=>by
    rcases Yco ofs (m - ap) with c | c
    ·exact fh _ i (by omega) jl (h5 c)
    ·omega
   dsimp only
   refine Yaf (Ych (Ybq (I:=λx c cf=>cf=ai/\∃lo hi,c=(none,lo,hi)/\lo<=hi/\hi<=m/\hi - lo<=m - x/\(∀i,i < lo->f i=true)/\(∀i,hi<=i->i < m->f i=false)) (Q:=λc cf=>cf=ai/\∃k,c=(none,k,k)/\Step f m k) ?_ ?_ ⟨rfl,_,_,rfl,by omega,by omega,by omega,λi hi=>mono i _ (by omega) (by omega) h4,no⟩) ?_)
   ·rintro x c cf _ hx ⟨rfl,lo,hi,rfl,h1,h2,h3,yes,no⟩
    dsimp only
    by_cases c:lo>=hi
    ·rw [Yaj c]
     have:lo=hi:=by omega
     subst this
     exact Yak ⟨rfl,lo,rfl,h2,yes,no⟩
    ·rw [Yah c]
     refine Yaf (hf _ _ (by omega) ?_)
     dsimp only
     cases e:f (lo+(hi - lo) / 2) with
     | true =>
      rw [Yaj rfl]
      refine Yak ⟨rfl,_,_,rfl,by omega,h2,by omega,λi dz=>mono i _ (by omega) (by omega) e,no⟩
     | false =>
      rw [Yah Yag]
      exact Yak ⟨rfl,_,_,rfl,by omega,by omega,by omega,yes,λi dz jl=>fh _ i dz jl e⟩
   ·rintro c cf ⟨rfl,lo,hi,rfl,h1,h2,h3,yes,no⟩
    have:lo=hi:=by omega
    subst this
    exact⟨rfl,lo,rfl,h2,yes,no⟩
   ·rintro c cf ⟨rfl,k,rfl,hk⟩
    exact Yak (h k hk)
 | false =>
  rw [Yah Yag]
  refine Yaf (Ych (Ybq (I:=λx c ai=>ai=st/\∃la ofs,c=(none,la,ofs)/\la < ofs/\la<=ap/\x+1<=ofs/\f (ap - la)=false) (Q:=λc ai=>ai=st/\∃la ofs,c=(none,la,ofs)/\la < ofs/\la<=ap/\f (ap - la)=false/\(ofs < ap+1->f (ap - ofs)=true)) ?_ ?_ ⟨rfl,0,1,rfl,by omega,by omega,by omega,e0⟩) ?_)
  ·rintro x c ai _ hx ⟨rfl,la,ofs,rfl,h1,h2,h3,h4⟩
   dsimp only
   by_cases c:ofs>=ap+1
   ·rw [Yaj c]
    exact Yak ⟨rfl,la,ofs,rfl,h1,h2,h4,λz=>by omega⟩
   ·rw [Yah c]
    refine Yaf (hf _ _ (by omega) ?_)
    dsimp only
    cases e:f (ap - ofs) with
    | true =>
     rw [Yaj rfl]
     exact Yak ⟨rfl,la,ofs,rfl,h1,h2,h4,λ_=>e⟩
    | false =>
     rw [Yah Yag]
     exact Yak ⟨rfl,ofs,_,rfl,by omega,by omega,by omega,e⟩
  ·rintro c ai ⟨rfl,la,ofs,rfl,h1,h2,h3,h4⟩
   exact⟨rfl,la,ofs,rfl,h1,h2,h4,λz=>by omega⟩
  ·rintro c ai ⟨rfl,la,ofs,rfl,h1,h2,h4,h5⟩
   have yes:∀i,i < ap+1 - min ofs (ap+1)->f i=true:=λi hi=>by
    rcases Yco ofs (ap+1) with c | c
    ·exact mono i (ap - ofs) (by omega) (by omega) (h5 c)
    ·omega
   dsimp only
   refine Yaf (Ych (Ybq (I:=λx c cf=>cf=ai/\∃lo hi,c=(none,lo,hi)/\lo<=hi/\hi<=m/\hi - lo<=m - x/\(∀i,i < lo->f i=true)/\(∀i,hi<=i->i < m->f i=false)) (Q:=λc cf=>cf=ai/\∃k,c=(none,k,k)/\Step f m k) ?_ ?_ ⟨rfl,_,_,rfl,by omega,by omega,by omega,yes,λi hi jl=>fh _ i hi jl h4⟩) ?_)
   ·rintro x c cf _ hx ⟨rfl,lo,hi,rfl,h1,h2,h3,yes,no⟩
    dsimp only
    by_cases c:lo>=hi
    ·rw [Yaj c]
     have:lo=hi:=by omega
     subst this
     exact Yak ⟨rfl,lo,rfl,h2,yes,no⟩
    ·rw [Yah c]
     refine Yaf (hf _ _ (by omega) ?_)
     dsimp only
     cases e:f (lo+(hi - lo) / 2) with
     | true =>
      rw [Yaj rfl]
      refine Yak ⟨rfl,_,_,rfl,by omega,h2,by omega,λi dz=>mono i _ (by omega) (by omega) e,no⟩
     | false =>
      rw [Yah Yag]
      exact Yak ⟨rfl,_,_,rfl,by omega,by omega,by omega,yes,λi dz jl=>fh _ i dz jl e⟩
   ·rintro c cf ⟨rfl,lo,hi,rfl,h1,h2,h3,yes,no⟩
    have:lo=hi:=by omega
    subst this
    exact⟨rfl,lo,rfl,h2,yes,no⟩
   ·rintro c cf ⟨rfl,k,rfl,hk⟩
    exact Yak (h k hk)
end
def mergeLo':Array Keyed->Array Keyed->StateT SortSt Sem (Array Keyed):=sortPriv% PySem.Builtin.mergeLo
def mergeHi':Array Keyed->Array Keyed->StateT SortSt Sem (Array Keyed):=sortPriv% PySem.Builtin.mergeHi
theorem B3(g:Nat):setMinGallop' g=modify λst=>SortSt.mk' (kindOf st) (arrOf st) (pendingOf st) g (failedOf st):=rfl
theorem Lf(a b:Array Keyed):mergeLo' a b=(do
 rule "list.sort.merge-lo"
 let c9:=a.size+b.size
 let done (out:Array Keyed) (ia ib:Nat):=out++a.extract ia a.size++b.extract ib b.size
 let cu (out:Array Keyed) (ia ib:Nat):=out++b.extract ib b.size++a.extract ia a.size
 let mut out:Array Keyed:=#[<- elem' b 0]
 let mut ia:=0
 let mut ib:=1
 if ib==b.size then return done out ia ib
 if ia+1==a.size then return cu out ia ib
 let mut minGallop:=gallopOf (<- get)
 for _ in [0:c9] do
  let mut acount:=0
  let mut bcount:=0
  for _ in [0:c9] do
   let some bWins <- lt' (<- elem' b ib) (<- elem' a ia) | return done out ia ib
   if bWins then
    out:=out.push (<- elem' b ib);ib:=ib+1;bcount:=bcount+1;acount:=0
    if ib==b.size then return done out ia ib
    if bcount>=minGallop then break
   else
    out:=out.push (<- elem' a ia);ia:=ia+1;acount:=acount+1;bcount:=0
    if ia+1==a.size then return cu out ia ib
    if acount>=minGallop then break
  rule "list.sort.gallop"
  minGallop:=minGallop+1
  for _ in [0:c9] do
   if minGallop > 1 then minGallop:=minGallop - 1
   setMinGallop' minGallop
   let some k <- gallop' false (<- elem' b ib) a ia (a.size - ia) 0 | return done out ia ib
   acount:=k
   if k > 0 then
    out:=out++a.extract ia (ia+k);ia:=ia+k
    if ia+1==a.size then return cu out ia ib
    if ia==a.size then return done out ia ib
   out:=out.push (<- elem' b ib);ib:=ib+1
   if ib==b.size then return done out ia ib
   let some k <- gallop' true (<- elem' a ia) b ib (b.size - ib) 0 | return done out ia ib
   bcount:=k
   if k > 0 then
    out:=out++b.extract ib (ib+k);ib:=ib+k
    if ib==b.size then return done out ia ib
   out:=out.push (<- elem' a ia);ia:=ia+1
   if ia+1==a.size then return cu out ia ib
   if acount < 7 && bcount < 7 then break
  minGallop:=minGallop+1
  setMinGallop' minGallop
 unsupported "internal:list.sort.merge-bound"):=rfl
section
variable {prog:Program}{w:World}{A:Around}{E:Value->Shared->Prop}{s:Shared}{κ:SortKind}{it:Array Keyed}{n:Nat}{lt:Nat->Nat->Bool}
abbrev at0(p:Array Nat)(i:Nat):Nat:=p.getD i 0
theorem Z6(O:WeakOrd n lt)(hc:Cmp prog w A κ it n lt s){st:SortSt}(hk:kindOf st=κ){p:Array Nat}{key base m ap:Nat}(hm:ap < m)(hb:base+m<=p.size)(hp:∀i,i < p.size->at0 p i < n)(ii:key < n)
  (srt:∀i j,base<=i->i < j->j < base+m->lt (at0 p j) (at0 p i)=false) {Q:Option Nat->SortSt->Prop}
  (h:∀k,k<=m->(∀i,i < k->lt key (at0 p (base+i))=false)->(∀i,k<=i->i < m->lt key (at0 p (base+i))=true)->Q (some k) st):wpS (model prog w) A E s (gallop' false (kas_item it key) (p.map (kas_item it)) base m ap) Q st:=by
 refine Le (f:=λi=>!lt key (at0 p (base+i))) hm (λi Q' hi q=>?_) (λi j de hj e=>?_) λk hk'=>h k hk'.le (λi hi=>by simpa using hk'.yes i hi) (λi h1 h2=>by simpa using hk'.no i h1 h2)
 ·unfold byd
  refine Yaf (Bb (by omega) ?_)
  rw [Yah Yag]
  exact Yaf (Tf hc hk ii (hp _ (by omega)) (Yak q))
 ·rcases Ya6 de with rfl | hlt
  ·exact e
  ·have e':lt key (at0 p (base+j))=false:=by simpa using e
   have:=O.tr _ _ _ (hp (base+i) (by omega)) (hp (base+j) (by omega)) ii (srt (base+i) (base+j) (by omega) (by omega) (by omega)) e'
   simpa using this
theorem Z7(O:WeakOrd n lt)(hc:Cmp prog w A κ it n lt s){st:SortSt}(hk:kindOf st=κ){p:Array Nat}{key base m ap:Nat}(hm:ap < m)(hb:base+m<=p.size)(hp:∀i,i < p.size->at0 p i < n)(ii:key < n)
  (srt:∀i j,base<=i->i < j->j < base+m->lt (at0 p j) (at0 p i)=false) {Q:Option Nat->SortSt->Prop}
  (h:∀k,k<=m->(∀i,i < k->lt (at0 p (base+i)) key=true)->(∀i,k<=i->i < m->lt (at0 p (base+i)) key=false)->Q (some k) st):wpS (model prog w) A E s (gallop' true (kas_item it key) (p.map (kas_item it)) base m ap) Q st:=by
 refine Le (f:=λi=>lt (at0 p (base+i)) key) hm (λi Q' hi q=>?_) (λi j de hj e=>?_) λk hk'=>h k hk'.le hk'.yes hk'.no
 ·unfold byd
  refine Yaf (Bb (by omega) ?_)
  rw [Yaj rfl]
  exact Tf hc hk (hp _ (by omega)) ii q
 ·rcases Ya6 de with rfl | hlt
  ·exact e
  ·exact O.high (hp (base+i) (by omega)) (hp (base+j) (by omega)) ii (srt (base+i) (base+j) (by omega) (by omega) (by omega)) e
def Iz(lt:Nat->Nat->Bool)(p:Array Nat):Prop:=∀i j,i < j->j < p.size->lt (at0 p j) (at0 p i)=false
def In(n:Nat)(p:Array Nat):Prop:=∀i,i < p.size->at0 p i < n
structure MI(lt:Nat->Nat->Bool)(a b out:Array Nat)(ia ib:Nat):Prop where
 ha:ia<=a.size
 hb:ib<=b.size
 sz:out.size=ia+ib
 perm:out.toList.Perm (a.toList.take ia++b.toList.take ib)
 srt:out.toList.Pairwise λx y=>lt y x=false
 lea:∀x∈out.toList,∀j,ia<=j->j < a.size->lt (at0 a j) x=false
 leb:∀x∈out.toList,∀j,ib<=j->j < b.size->lt (at0 b j) x=false
theorem Bj(a:Array Nat)(i k:Nat):(a.extract i (i+k)).toList=(a.toList.drop i).take k:=by
 rw [Array.toList_extract,List.extract_eq_take_drop,Nat.add_sub_cancel_left]
theorem Ja(l:List Nat)(i k:Nat):l.take (i+k)=l.take i++(l.drop i).take k:=List.take_add ..
theorem Ds{a:Array Nat}{i k x:Nat}(h:x∈(a.toList.drop i).take k):∃j,i<=j/\j < i+k/\j < a.size/\x=at0 a j:=by
 obtain⟨m,hm,e⟩:=Ydu h
 rw [Yb1,Yb8,Yax]at hm
 rw [List.getElem_take,List.getElem_drop]at e
 refine⟨i+m,by omega,by omega,by omega,?_⟩
 rw [<- e]
 simp [at0,Array.getD,show i+m < a.size by omega]
theorem Op{a:Array Nat}(h:Iz lt a)(i k:Nat):((a.toList.drop i).take k).Pairwise λx y=>lt y x=false:=by
 have:a.toList.Pairwise λx y=>lt y x=false:=by
  rw [Yb7]
  intro x y hx hy hxy
  have:=h x y hxy (by simpa using hy)
  simp only [Array.length_toList]at hx hy
  simpa [at0,Array.getD,hx,hy] using this
 exact(this.sublist (List.drop_sublist ..)).sublist (List.take_sublist ..)
theorem MI.chunkA{a b out:Array Nat}{ia ib k:Nat}(h:MI lt a b out ia ib)(ua:Iz lt a)(hk:ia+k<=a.size)(bm:∀i,i < k->∀j,ib<=j->j < b.size->lt (at0 b j) (at0 a (ia+i))=false):MI lt a b (out++a.extract ia (ia+k)) (ia+k) ib:=by
 refine⟨hk,h.hb,?_,?_,?_,?_,?_⟩
 ·rw [Array.size_append,h.sz,Yd2];omega
 ·rw [Ybz,Bj,Ja]
  refine(Yd9 _ h.perm).trans ?_
  rw [Ycx,Ycx]
  exact List.Perm.append_left _ List.perm_append_comm
 ·rw [Ybz,Bj,Yct]
  refine⟨h.srt,Op ua _ _,λx hx y hy=>?_⟩
  obtain⟨j,j1,j2,j3,rfl⟩:=Ds hy
  exact h.lea x hx j j1 j3
 ·intro x hx j j1 j2
  rw [Ybz,Bj]at hx
  rcases Yat.mp hx with hx | hx
  ·exact h.lea x hx j (by omega) j2
  ·obtain⟨m,m1,m2,m3,rfl⟩:=Ds hx
   exact ua m j (by omega) j2
 ·intro x hx j j1 j2
  rw [Ybz,Bj]at hx
  rcases Yat.mp hx with hx | hx
  ·exact h.leb x hx j j1 j2
  ·obtain⟨m,m1,m2,m3,rfl⟩:=Ds hx
   have:=bm (m - ia) (by omega) j j1 j2
   rwa [show ia+(m - ia)=m by omega]at this
theorem MI.chunkB{a b out:Array Nat}{ia ib k:Nat}(h:MI lt a b out ia ib)(ub:Iz lt b)(hk:ib+k<=b.size)(bm:∀i,i < k->∀j,ia<=j->j < a.size->lt (at0 a j) (at0 b (ib+i))=false):MI lt a b (out++b.extract ib (ib+k)) ia (ib+k):=by
 refine⟨h.ha,hk,?_,?_,?_,?_,?_⟩
 ·rw [Array.size_append,h.sz,Yd2];omega
 ·rw [Ybz,Bj,Ja,<- Ycx]
  exact Yd9 _ h.perm
 ·rw [Ybz,Bj,Yct]
  refine⟨h.srt,Op ub _ _,λx hx y hy=>?_⟩
  obtain⟨j,j1,j2,j3,rfl⟩:=Ds hy
  exact h.leb x hx j j1 j3
 ·intro x hx j j1 j2
  rw [Ybz,Bj]at hx
  rcases Yat.mp hx with hx | hx
  ·exact h.lea x hx j j1 j2
  ·obtain⟨m,m1,m2,m3,rfl⟩:=Ds hx
   have:=bm (m - ib) (by omega) j j1 j2
   rwa [show ib+(m - ib)=m by omega]at this
 ·intro x hx j j1 j2
  rw [Ybz,Bj]at hx
  rcases Yat.mp hx with hx | hx
  ·exact h.leb x hx j (by omega) j2
  ·obtain⟨m,m1,m2,m3,rfl⟩:=Ds hx
   exact ub m j (by omega) j2
theorem J6{a:Array Nat}{i:Nat}(h:i < a.size)(out:Array Nat):out.push (at0 a i)=out++a.extract i (i+1):=by
 apply Yen.mp
 rw [Yc7,Ybz,Bj,Ybb (by simpa using h)]
 simp [at0,Array.getD,h]
theorem MI.pushA{a b out:Array Nat}{ia ib:Nat}(h:MI lt a b out ia ib)(ua:Iz lt a)(hk:ia < a.size)(bm:∀j,ib<=j->j < b.size->lt (at0 b j) (at0 a ia)=false):MI lt a b (out.push (at0 a ia)) (ia+1) ib:=by
 rw [J6 hk]
 exact h.chunkA ua hk λi hi j j1 j2=>by rw [show ia+i=ia by omega];exact bm j j1 j2
theorem MI.pushB{a b out:Array Nat}{ia ib:Nat}(h:MI lt a b out ia ib)(ub:Iz lt b)(hk:ib < b.size)(bm:∀j,ia<=j->j < a.size->lt (at0 a j) (at0 b ib)=false):MI lt a b (out.push (at0 b ib)) ia (ib+1):=by
 rw [J6 hk]
 exact h.chunkB ub hk λi hi j j1 j2=>by rw [show ib+i=ib by omega];exact bm j j1 j2
structure Mgd(lt:Nat->Nat->Bool)(a b R:Array Nat):Prop where
 perm:R.toList.Perm (a.toList++b.toList)
 srt:R.toList.Pairwise λx y=>lt y x=false
theorem MI.end_{a b out:Array Nat}(h:MI lt a b out a.size b.size):Mgd lt a b out:=by
 refine⟨?_,h.srt⟩
 have:=h.perm
 rwa [Yb5 (by simp),Yb5 (by simp)]at this
theorem MI.doneB{a b out:Array Nat}{ia:Nat}(h:MI lt a b out ia b.size)(ua:Iz lt a):Mgd lt a b (out++a.extract ia a.size++b.extract b.size b.size):=by
 have h1:=h.chunkA (k:=a.size - ia) ua (by have:=h.ha;omega) λi _ j j1 j2=>by omega
 rw [show ia+(a.size - ia)=a.size by have:=h.ha;omega]at h1
 have:=h1.end_
 rwa [show b.extract b.size b.size=#[] by simp,Array.append_empty]
theorem MI.doneA{a b out:Array Nat}{ib:Nat}(h:MI lt a b out a.size ib)(ub:Iz lt b):Mgd lt a b (out++a.extract a.size a.size++b.extract ib b.size):=by
 have h1:=h.chunkB (k:=b.size - ib) ub (by have:=h.hb;omega) λi _ j j1 j2=>by omega
 rw [show ib+(b.size - ib)=b.size by have:=h.hb;omega]at h1
 have:=h1.end_
 rwa [show a.extract a.size a.size=#[] by simp,Array.append_empty]
theorem MI.lastA{a b out:Array Nat}{ia ib:Nat}(h:MI lt a b out ia ib)(ua:Iz lt a)(ub:Iz lt b)(hl:ia+1=a.size)(bm:∀j,j < b.size->lt (at0 a (a.size - 1)) (at0 b j)=false):Mgd lt a b (out++b.extract ib b.size++a.extract ia a.size):=by
 have h1:=h.chunkB (k:=b.size - ib) ub (by have:=h.hb;omega) λi _ j j1 j2=>by
  rw [show j=a.size - 1 by omega];exact bm _ (by omega)
 rw [show ib+(b.size - ib)=b.size by have:=h.hb;omega]at h1
 have h2:=h1.chunkA (k:=1) ua (by omega) λi _ j j1 j2=>by omega
 rw [hl]at h2
 exact h2.end_
theorem Xt(out a:Array Nat)(i k:Nat):out.map (kas_item it)++(a.map (kas_item it)).extract i k=(out++a.extract i k).map (kas_item it):=by
 rw [Yeo,Yc8]
theorem Xu(out:Array Nat)(x:Nat):(out.map (kas_item it)).push (kas_item it x)=(out.push x).map (kas_item it):=Array.map_push.symm
abbrev LoS:=Option (Array Keyed)×Array Keyed×Nat×Nat×Nat×Nat×Nat
abbrev Bs(st:SortSt)(g:Nat):SortSt:=SortSt.mk' (kindOf st) (arrOf st) (pendingOf st) g (failedOf st)
def V5(a b out:Array Keyed)(ia ib mg ac bc:Nat):StateT SortSt Sem (ForInStep LoS) :=
 elem' a ia >>= λy =>
  if(ia+1+1==a.size)=true then pure (ForInStep.done (some (out.push y++b.extract ib b.size++a.extract (ia+1) a.size),out.push y,ia+1,ib,mg,ac,bc))
  else if(decide (ac < 7) && decide (bc < 7))=true then pure (ForInStep.done (none,out.push y,ia+1,ib,mg,ac,bc))
  else pure (ForInStep.yield (none,out.push y,ia+1,ib,mg,ac,bc))
def V6(a b out:Array Keyed)(ia ib mg ac bc:Nat):StateT SortSt Sem (ForInStep LoS) :=
 elem' b ib >>= λy =>
  if(ib+1==b.size)=true then pure (ForInStep.done (some (out.push y++a.extract ia a.size++b.extract (ib+1) b.size),out.push y,ia,ib+1,mg,ac,bc))
  else elem' a ia >>= λz=>gallop' true z b (ib+1) (b.size - (ib+1)) 0 >>= λx =>
   match x with
   | some k=>if k > 0 then
     (if(ib+1+k==b.size)=true then pure (ForInStep.done (some (out.push y++b.extract (ib+1) (ib+1+k)++a.extract ia a.size++b.extract (ib+1+k) b.size),out.push y++b.extract (ib+1) (ib+1+k),ia,ib+1+k,mg,ac,k))
     else V5 a b (out.push y++b.extract (ib+1) (ib+1+k)) ia (ib+1+k) mg ac k)
    else V5 a b (out.push y) ia (ib+1) mg ac k
   | _=>pure (ForInStep.done (some (out.push y++a.extract ia a.size++b.extract (ib+1) b.size),out.push y,ia,ib+1,mg,ac,bc))
def Z8(a b out:Array Keyed)(ia ib mg ac bc:Nat):StateT SortSt Sem (ForInStep LoS) :=
 setMinGallop' mg >>= λ_=>elem' b ib >>= λy=>gallop' false y a ia (a.size - ia) 0 >>= λx =>
  match x with
  | some k=>if k > 0 then
    (if(ia+k+1==a.size)=true then pure (ForInStep.done (some (out++a.extract ia (ia+k)++b.extract ib b.size++a.extract (ia+k) a.size),out++a.extract ia (ia+k),ia+k,ib,mg,k,bc))
    else if(ia+k==a.size)=true then pure (ForInStep.done (some (out++a.extract ia (ia+k)++a.extract (ia+k) a.size++b.extract ib b.size),out++a.extract ia (ia+k),ia+k,ib,mg,k,bc))
    else V6 a b (out++a.extract ia (ia+k)) (ia+k) ib mg k bc)
   else V6 a b out ia ib mg k bc
  | _=>pure (ForInStep.done (some (out++a.extract ia a.size++b.extract ib b.size),out,ia,ib,mg,ac,bc))
structure Mid(lt:Nat->Nat->Bool)(it:Array Keyed)(a b:Array Nat)(q:Nat)(o:Array Keyed)(ia ib:Nat):Prop where
 m:∃out:Array Nat,o=out.map (kas_item it)/\MI lt a b out ia ib
 ha:ia+1 < a.size
 hb:ib < b.size
 q:q<=ia+ib
structure MPre(n:Nat)(lt:Nat->Nat->Bool)(a b:Array Nat):Prop where
 na:0 < a.size
 nb:0 < b.size
 ia:In n a
 ib:In n b
 ua:Iz lt a
 ub:Iz lt b
 h0:lt (at0 b 0) (at0 a 0)=true
 hl:∀j,j < b.size->lt (at0 b j) (at0 a (a.size - 1))=true
theorem MPre.le{a b:Array Nat}(O:WeakOrd n lt)(p:MPre n lt a b):∀j,j < b.size->lt (at0 a (a.size - 1)) (at0 b j)=false:=λj hj=>O.asy _ _ (p.ib j hj) (p.ia _ (by have:=p.na;omega)) (p.hl j hj)
section
variable {a b:Array Nat}{st:SortSt}{Qd Qy:LoS->SortSt->Prop}{out:Array Nat}{ia ib mg ac bc:Nat}
theorem Xv(O:WeakOrd n lt)(p:MPre n lt a b)(M:MI lt a b out ia ib)(ha:ia+1 < a.size)(hb:ib < b.size)(bm:∀j,ib<=j->j < b.size->lt (at0 b j) (at0 a ia)=false)
  (ar:∀R c,Mgd lt a b R->c.1=some (R.map (kas_item it))->Qd c st) (go:∀o i j m x y,Mid lt it a b (ia+ib+1) o i j->Qd (none,o,i,j,m,x,y) st/\Qy (none,o,i,j,m,x,y) st) :
  wpS (model prog w) A E s (V5 (a.map (kas_item it)) (b.map (kas_item it)) (out.map (kas_item it)) ia ib mg ac bc) (λr ai=>match r with | .done c'=>Qd c' ai | .yield c'=>Qy c' ai) st:=by
 unfold V5
 refine Yaf (Bb (by omega) ?_)
 have M1:=M.pushA p.ua (by omega) bm
 simp only [Array.size_map,Xu,Xt]
 by_cases e:ia+1+1=a.size
 ·rw [Yaj (by simpa using e)]
  exact Yak (ar _ _ (M1.lastA p.ua p.ub e (p.le O)) rfl)
 ·rw [Yah (by simpa using e)]
  have g:=go _ _ _ mg ac bc (⟨⟨_,rfl,M1⟩,by omega,hb,by omega⟩:Mid lt it a b (ia+ib+1) _ (ia+1) ib)
  split
  ·exact Yak g.1
  ·exact Yak g.2
theorem Xw(O:WeakOrd n lt)(hc:Cmp prog w A κ it n lt s)(hk:kindOf st=κ)(p:MPre n lt a b)(M:MI lt a b out ia ib)(ha:ia+1 < a.size)(hb:ib < b.size)(bm:∀j,ia<=j->j < a.size->lt (at0 a j) (at0 b ib)=false)
  (ar:∀R c,Mgd lt a b R->c.1=some (R.map (kas_item it))->Qd c st) (go:∀o i j m x y,Mid lt it a b (ia+ib+1) o i j->Qd (none,o,i,j,m,x,y) st/\Qy (none,o,i,j,m,x,y) st) :
  wpS (model prog w) A E s (V6 (a.map (kas_item it)) (b.map (kas_item it)) (out.map (kas_item it)) ia ib mg ac bc) (λr ai=>match r with | .done c'=>Qd c' ai | .yield c'=>Qy c' ai) st:=by
 unfold V6
 refine Yaf (Bb hb ?_)
 have M1:=M.pushB p.ub hb bm
 have qv:∀k,∀o i j m x y,Mid lt it a b (ia+(ib+1+k)+1) o i j->Qd (none,o,i,j,m,x,y) st/\Qy (none,o,i,j,m,x,y) st:=λk o i j m x y h=>go o i j m x y ⟨h.m,h.ha,h.hb,by have:=h.q;omega⟩
 simp only [Array.size_map,Xu]
 by_cases e:ib+1=b.size
 ·rw [Yaj (by simpa using e)]
  refine Yak (ar _ _ (show Mgd lt a b (out.push (at0 b ib)++a.extract ia a.size++b.extract (ib+1) b.size) from ?_) (by simp only [Xt]))
  have:=(show MI lt a b (out.push (at0 b ib)) ia b.size by rw [<- e];exact M1).doneB p.ua
  rw [e];exact this
 ·rw [Yah (by simpa using e)]
  refine Yaf (Bb (by omega) ?_)
  refine Yaf (Z7 O hc hk (by omega) (by omega) p.ib (p.ia ia (by omega)) (λi j h1 h2 h3=>p.ub i j h2 (by omega)) λk k1 k2 k3=>?_)
  dsimp only
  have M2:=M1.chunkB (k:=k) p.ub (by omega) λi hi j j1 j2=>by
   have h1:=k2 i hi
   rcases Ya6 j1 with rfl | j1
   ·exact O.asy _ _ (p.ib _ (by omega)) (p.ia _ j2) h1
   ·exact O.tr _ _ _ (p.ib _ (by omega)) (p.ia ia (by omega)) (p.ia _ j2) (O.asy _ _ (p.ib _ (by omega)) (p.ia _ (by omega)) h1) (p.ua ia j j1 j2)
  by_cases kp:k > 0
  ·rw [Yaj kp]
   simp only [Xt]
   by_cases e2:ib+1+k=b.size
   ·rw [Yaj (by simpa using e2)]
    refine Yak (ar _ _ (show Mgd lt a b (out.push (at0 b ib)++b.extract (ib+1) (ib+1+k)++a.extract ia a.size++b.extract (ib+1+k) b.size) from ?_) rfl)
    rw [e2]at M2 ⊢
    exact M2.doneB p.ua
   ·rw [Yah (by simpa using e2)]
    refine Xv O p M2 ha (by omega) (λj j1 j2=>?_) ar (qv k)
    have:=k3 (j - (ib+1)) (by omega) (by omega)
    rwa [show ib+1+(j - (ib+1))=j by omega]at this
  ·rw [Yah kp]
   refine Xv O p M1 ha (by omega) (λj j1 j2=>?_) ar (qv 0)
   have:=k3 (j - (ib+1)) (by omega) (by omega)
   rwa [show ib+1+(j - (ib+1))=j by omega]at this
theorem Qdi(O:WeakOrd n lt)(hc:Cmp prog w A κ it n lt s)(hk:kindOf st=κ)(p:MPre n lt a b)(M:MI lt a b out ia ib)(ha:ia+1 < a.size)(hb:ib < b.size)
  (ar:∀R c,Mgd lt a b R->c.1=some (R.map (kas_item it))->Qd c (Bs st mg)) (go:∀o i j m x y,Mid lt it a b (ia+ib+1) o i j->Qd (none,o,i,j,m,x,y) (Bs st mg)/\Qy (none,o,i,j,m,x,y) (Bs st mg)) :
  wpS (model prog w) A E s (Z8 (a.map (kas_item it)) (b.map (kas_item it)) (out.map (kas_item it)) ia ib mg ac bc) (λr ai=>match r with | .done c'=>Qd c' ai | .yield c'=>Qy c' ai) st:=by
 unfold Z8
 rw [B3]
 refine Yaf (Yc1 (Yaf (Bb hb ?_)))
 simp only [Array.size_map]
 refine Yaf (Z6 O hc (st:=Bs st mg) hk (by omega) (by omega) p.ia (p.ib ib hb) (λi j h1 h2 h3=>p.ua i j h2 (by omega)) λk k1 k2 k3=>?_)
 dsimp only
 have M1:=M.chunkA (k:=k) p.ua (by omega) λi hi j j1 j2=>by
  have h1:=k2 i hi
  rcases Ya6 j1 with rfl | j1
  ·exact h1
  ·exact O.tr _ _ _ (p.ia _ (by omega)) (p.ib ib hb) (p.ib _ j2) h1 (p.ub ib j j1 j2)
 have low:∀j,ia+k<=j->j < a.size->lt (at0 a j) (at0 b ib)=false:=λj j1 j2=>by
  have:=k3 (j - ia) (by omega) (by omega)
  rw [show ia+(j - ia)=j by omega]at this
  exact O.asy _ _ (p.ib ib hb) (p.ia j j2) this
 have qv:∀o i j m x y,Mid lt it a b (ia+k+ib+1) o i j->Qd (none,o,i,j,m,x,y) (Bs st mg)/\Qy (none,o,i,j,m,x,y) (Bs st mg):=λo i j m x y h=>go o i j m x y ⟨h.m,h.ha,h.hb,by have:=h.q;omega⟩
 by_cases kp:k > 0
 ·rw [Yaj kp]
  simp only [Xt]
  by_cases e1:ia+k+1=a.size
  ·rw [Yaj (by simpa using e1)]
   exact Yak (ar _ _ (M1.lastA p.ua p.ub e1 (p.le O)) rfl)
  ·rw [Yah (by simpa using e1)]
   by_cases e2:ia+k=a.size
   ·rw [Yaj (by simpa using e2)]
    refine Yak (ar _ _ (show Mgd lt a b (out++a.extract ia (ia+k)++a.extract (ia+k) a.size++b.extract ib b.size) from ?_) rfl)
    rw [e2]at M1 ⊢
    exact M1.doneA p.ub
   ·rw [Yah (by simpa using e2)]
    exact Xw O hc (st:=Bs st mg) hk p M1 (by omega) hb low ar qv
 ·rw [Yah kp]
  have k0:k=0:=by omega
  subst k0
  exact Xw O hc (st:=Bs st mg) hk p M ha hb low ar qv
end
theorem MI.zero(a b:Array Nat):MI lt a b #[] 0 0:=⟨Ya4 _,Ya4 _,rfl,by simp,.nil,λ_ h=>by simp at h,λ_ h=>by simp at h⟩
theorem MPre.first{a b:Array Nat}(O:WeakOrd n lt)(p:MPre n lt a b):MI lt a b #[at0 b 0] 0 1:=by
 refine(MI.zero a b).pushB p.ub p.nb λj _ j2=>?_
 rcases Nat.eq_zero_or_pos j with rfl | j1
 ·exact O.asy _ _ (p.ib 0 p.nb) (p.ia 0 j2) p.h0
 ·exact O.tr _ _ _ (p.ib 0 p.nb) (p.ia 0 p.na) (p.ia j j2) (O.asy _ _ (p.ib 0 p.nb) (p.ia 0 p.na) p.h0) (p.ua 0 j j1 j2)
theorem Qh(O:WeakOrd n lt)(hc:Cmp prog w A κ it n lt s){a b:Array Nat}{st:SortSt}(hk:kindOf st=κ)(p:MPre n lt a b){Q:Array Keyed->SortSt->Prop}(h:∀R g,Mgd lt a b R->Q (R.map (kas_item it)) (Bs st g)) :
  wpS (model prog w) A E s (mergeLo' (a.map (kas_item it)) (b.map (kas_item it))) Q st:=by
 rw [Lf]
 dsimp only
 have M0:=p.first O
 have na:=p.na
 have nb:=p.nb
 have e0:#[kas_item it (b.getD 0 0)]=(#[at0 b 0]:Array Nat).map (kas_item it):=by simp
 refine Yaf (wpS_lift (Ycb ⟨rfl,?_⟩))
 refine Yaf (Bb nb ?_)
 rw [e0]
 by_cases e1:1=b.size
 ·rw [Yaj (by simpa using e1)]
  simp only [Array.size_map,Xt]
  refine Yak (h _ (gallopOf st) ?_)
  have:=(show MI lt a b #[at0 b 0] 0 b.size by rw [<- e1];exact M0).doneB p.ua
  rw [<- e1]at this ⊢
  exact this
 rw [Yah (by simpa using e1)]
 by_cases e2:0+1=a.size
 ·rw [Yaj (by simpa using e2)]
  simp only [Array.size_map,Xt]
  exact Yak (h _ (gallopOf st) (M0.lastA p.ua p.ub e2 (p.le O)))
 rw [Yah (by simpa using e2)]
 refine Yaf (Yez ?_)
 have sa:(a.map (kas_item it)).size=a.size:=Yef ..
 have sb:(b.map (kas_item it)).size=b.size:=Yef ..
 refine Yaf (Ych (Ybq (I:=λx c ai=>(∃g,ai=Bs st g)/\c.1=none/\Mid lt it a b (1+x) c.2.1 c.2.2.1 c.2.2.2.1) (Q:=λc ai=>(∃g,ai=Bs st g)/\∃R,c.1=some (R.map (kas_item it))/\Mgd lt a b R) ?_ ?_ ⟨⟨gallopOf st,rfl⟩,rfl,⟨_,rfl,M0⟩,by show 0+1 < _;omega,by show 1 < _;omega,by show 1+0<=0+1;omega⟩) ?_)
 ·rintro x ⟨c1,o,ia,ib,mg⟩ ai _ hx ⟨⟨g,rfl⟩,rfl,⟨out,eo,M⟩,ha,hb,hq⟩
  dsimp only at eo M ha hb hq ⊢
  subst eo
  refine Yaf (Ych (Ybq (I:=λx c ai=>ai=Bs st g/\c.1=none/\Mid lt it a b (ia+ib+x) c.2.1 c.2.2.1 c.2.2.2.1) (Q:=λc ai=>ai=Bs st g/\((∃R,c.1=some (R.map (kas_item it))/\Mgd lt a b R)\/(c.1=none/\Mid lt it a b (ia+ib+1) c.2.1 c.2.2.1 c.2.2.2.1))) ?_ ?_ ⟨rfl,rfl,⟨out,rfl,M⟩,ha,hb,Yad _⟩) ?_)
  ·clear M ha hb
   rintro y ⟨c1,o,ja,jb,ac,bc⟩ ai _ hy ⟨rfl,rfl,⟨out,eo,M⟩,ha,hb,hq'⟩
   dsimp only at eo M ha hb hq' ⊢
   subst eo
   refine Yaf (Bb hb (Yaf (Bb (by omega) (Yaf (Tf hc (st:=Bs st g) hk (p.ib _ hb) (p.ia _ (by omega)) ?_)))))
   dsimp only
   cases e:lt (b.getD jb 0) (a.getD ja 0) with
   | true =>
    rw [Yaj rfl]
    refine Yaf (Bb hb ?_)
    have M1:=M.pushB p.ub hb λj j1 j2=>by
     have e':=O.asy _ _ (p.ib _ hb) (p.ia ja (by omega)) e
     rcases Ya6 j1 with rfl | j1
     ·exact e'
     ·exact O.tr _ _ _ (p.ib _ hb) (p.ia ja (by omega)) (p.ia _ j2) e' (p.ua ja j j1 j2)
    simp only [Xu]
    by_cases e3:jb+1=b.size
    ·rw [Yaj (by simpa using e3)]
     simp only [Xt,Array.size_map]
     refine Yak ⟨rfl,.inl ⟨_,rfl,?_⟩⟩
     rw [e3]at M1 ⊢
     exact M1.doneB p.ua
    ·rw [Yah (by simpa using e3)]
     by_cases e4:bc+1>=mg <;> simp only [e4,if_true,if_false]
     ·exact Yak ⟨rfl,.inr ⟨rfl,⟨_,rfl,M1⟩,ha,by show jb+1 < _;omega,by show _<=ja+(jb+1);omega⟩⟩
     ·exact Yak ⟨rfl,rfl,⟨_,rfl,M1⟩,ha,by show jb+1 < _;omega,by show _<=ja+(jb+1);omega⟩
   | false =>
    rw [Yah Yag]
    refine Yaf (Bb (by omega) ?_)
    have M1:=M.pushA p.ua (by omega) λj j1 j2=>by
     rcases Ya6 j1 with rfl | j1
     ·exact e
     ·exact O.tr _ _ _ (p.ia ja (by omega)) (p.ib _ hb) (p.ib _ j2) e (p.ub jb j j1 j2)
    simp only [Xu]
    by_cases e3:ja+1+1=a.size
    ·rw [Yaj (by simpa using e3)]
     simp only [Xt,Array.size_map]
     exact Yak ⟨rfl,.inl ⟨_,rfl,M1.lastA p.ua p.ub e3 (p.le O)⟩⟩
    ·rw [Yah (by simpa using e3)]
     by_cases e4:ac+1>=mg <;> simp only [e4,if_true,if_false]
     ·exact Yak ⟨rfl,.inr ⟨rfl,⟨_,rfl,M1⟩,by show ja+1+1 < _;omega,hb,by show _<=ja+1+jb;omega⟩⟩
     ·exact Yak ⟨rfl,rfl,⟨_,rfl,M1⟩,by show ja+1+1 < _;omega,hb,by show _<=ja+1+jb;omega⟩
  ·rintro c ai ⟨_,_,⟨out,_,M⟩,ha',iy,hq'⟩
   omega
  ·rintro⟨c1,o,ja,jb,ac,bc⟩ ai ⟨rfl,⟨R,rfl,hR⟩ | ⟨rfl,hM⟩⟩
   ·exact Yak ⟨⟨g,rfl⟩,R,rfl,hR⟩
   ·dsimp only at hM ⊢
    refine Yaf (wpS_lift (Ycb ⟨rfl,?_⟩))
    refine Yaf (Ych (Ybq (I:=λx c ai=>(∃g,ai=Bs st g)/\c.1=none/\Mid lt it a b (ia+ib+1+x) c.2.1 c.2.2.1 c.2.2.2.1) (Q:=λc ai=>(∃g,ai=Bs st g)/\((∃R,c.1=some (R.map (kas_item it))/\Mgd lt a b R)\/(c.1=none/\Mid lt it a b (ia+ib+1) c.2.1 c.2.2.1 c.2.2.2.1))) ?_ ?_ ⟨⟨g,rfl⟩,rfl,hM⟩) ?_)
    ·clear hM
     rintro y ⟨c1,o,ja,jb,mg,ac,bc⟩ ai _ hy ⟨⟨g,rfl⟩,rfl,⟨out,eo,M⟩,ha,hb,hq'⟩
     dsimp only at eo M ha hb hq' ⊢
     subst eo
     have key:∀mg,wpS (model prog w) A E s (Z8 (a.map (kas_item it)) (b.map (kas_item it)) (out.map (kas_item it)) ja jb mg ac bc) (λr ai=>match r with
       | .done c=>(∃g,ai=Bs st g)/\((∃R,c.1=some (R.map (kas_item it))/\Mgd lt a b R)\/(c.1=none/\Mid lt it a b (ia+ib+1) c.2.1 c.2.2.1 c.2.2.2.1))
       | .yield c=>(∃g,ai=Bs st g)/\c.1=none/\Mid lt it a b (ia+ib+1+(y+1)) c.2.1 c.2.2.1 c.2.2.2.1) (Bs st g):=λmg =>
      Qdi (Qd:=λc ai=>(∃g,ai=Bs st g)/\((∃R,c.1=some (R.map (kas_item it))/\Mgd lt a b R)\/(c.1=none/\Mid lt it a b (ia+ib+1) c.2.1 c.2.2.1 c.2.2.2.1)))
       (Qy:=λc ai=>(∃g,ai=Bs st g)/\c.1=none/\Mid lt it a b (ia+ib+1+(y+1)) c.2.1 c.2.2.1 c.2.2.2.1) O hc (st:=Bs st g) hk p M ha hb (λR c hR e=>⟨⟨mg,rfl⟩,.inl ⟨R,e,hR⟩⟩)
       λo i j m x y hm=>⟨⟨⟨mg,rfl⟩,.inr ⟨rfl,hm.m,hm.ha,hm.hb,by have:=hm.q;show _<=i+j;omega⟩⟩,⟨mg,rfl⟩,rfl,hm.m,hm.ha,hm.hb,by have:=hm.q;show _<=i+j;omega⟩
     by_cases e4:mg > 1
     ·rw [Yaj e4]
      refine Ych (key (mg - 1)) ?_
      rintro(c | c) ai hh <;> exact hh
     ·rw [Yah e4]
      refine Ych (key mg) ?_
      rintro(c | c) ai hh <;> exact hh
    ·rintro c ai ⟨⟨g,rfl⟩,h1,h2⟩
     exact⟨⟨g,rfl⟩,.inr ⟨h1,h2.m,h2.ha,h2.hb,by have:=h2.q;omega⟩⟩
    ·rintro⟨c1,o,ja,jb,mg,ac,bc⟩ ai ⟨⟨g,rfl⟩,⟨R,rfl,hR⟩ | ⟨rfl,hM⟩⟩
     ·exact Yak ⟨⟨g,rfl⟩,R,rfl,hR⟩
     ·dsimp only at hM ⊢
      rw [B3]
      refine Yaf (Yc1 (Yak ⟨⟨_,rfl⟩,rfl,hM.m,hM.ha,hM.hb,?_⟩))
      have:=hM.q
      show _<=ja+jb
      omega
 ·rintro c ai ⟨_,_,⟨out,_,M⟩,ha',iy,hq'⟩
  omega
 ·rintro⟨c1,o⟩ ai ⟨⟨g,rfl⟩,R,rfl,hR⟩
  exact Yak (h R g hR)
end
theorem Lg(a b:Array Keyed):mergeHi' a b=(do
 rule "list.sort.merge-hi"
 let c9:=a.size+b.size
 let done (out:Array Keyed) (na nb:Nat):=a.extract 0 na++b.extract 0 nb++out.reverse
 let bq (out:Array Keyed) (na nb:Nat):=b.extract 0 nb++a.extract 0 na++out.reverse
 let mut na:=a.size - 1
 let mut nb:=b.size
 let mut out:Array Keyed:=#[<- elem' a na]
 if na==0 then return done out na nb
 if nb==1 then return bq out na nb
 let mut minGallop:=gallopOf (<- get)
 for _ in [0:c9] do
  let mut acount:=0
  let mut bcount:=0
  for _ in [0:c9] do
   let some aWins <- lt' (<- elem' b (nb - 1)) (<- elem' a (na - 1)) | return done out na nb
   if aWins then
    na:=na - 1;out:=out.push (<- elem' a na);acount:=acount+1;bcount:=0
    if na==0 then return done out na nb
    if acount>=minGallop then break
   else
    nb:=nb - 1;out:=out.push (<- elem' b nb);bcount:=bcount+1;acount:=0
    if nb==1 then return bq out na nb
    if bcount>=minGallop then break
  rule "list.sort.gallop"
  minGallop:=minGallop+1
  for _ in [0:c9] do
   if minGallop > 1 then minGallop:=minGallop - 1
   setMinGallop' minGallop
   let some at_ <- gallop' false (<- elem' b (nb - 1)) a 0 na (na - 1) | return done out na nb
   let k:=na - at_
   acount:=k
   if k > 0 then
    out:=out++(a.extract at_ na).reverse;na:=at_
    if na==0 then return done out na nb
   nb:=nb - 1;out:=out.push (<- elem' b nb)
   if nb==1 then return bq out na nb
   let some at_ <- gallop' true (<- elem' a (na - 1)) b 0 nb (nb - 1) | return done out na nb
   let k:=nb - at_
   bcount:=k
   if k > 0 then
    out:=out++(b.extract at_ nb).reverse;nb:=at_
    if nb==1 then return bq out na nb
    if nb==0 then return done out na nb
   na:=na - 1;out:=out.push (<- elem' a na)
   if na==0 then return done out na nb
   if acount < 7 && bcount < 7 then break
  minGallop:=minGallop+1
  setMinGallop' minGallop
 unsupported "internal:list.sort.merge-bound"):=rfl
section
variable {prog:Program}{w:World}{A:Around}{E:Value->Shared->Prop}{s:Shared}{κ:SortKind}{it:Array Keyed}{n:Nat}{lt:Nat->Nat->Bool}
abbrev flp(lt:Nat->Nat->Bool):Nat->Nat->Bool:=λx y=>lt y x
theorem WeakOrd.fl(O:WeakOrd n lt):WeakOrd n (flp lt):=⟨λa b c ha hb hc h1 h2=>O.tr c b a hc hb ha h2 h1,λa b ha hb h=>O.asy b a hb ha h⟩
theorem B5{p:Array Nat}{i:Nat}(h:i < p.size):at0 p.reverse i=at0 p (p.size - 1 - i):=by
 simp [at0,Array.getD,h,show p.size - 1 - i < p.size by omega]
theorem J7(p:Array Nat){i j:Nat}(h:i<=j)(hj:j<=p.size):p.reverse.extract (p.size - j) (p.size - j+(j - i))=(p.extract i j).reverse:=by
 apply Yen.mp
 rw [Bj,Ycg,Ycg,show j=i+(j - i) by omega,Bj,show i+(j - i)=j by omega]
 apply Yea
 intro k
 by_cases hk:k < j - i
 ·rw [List.getElem?_take_of_lt hk,List.getElem?_drop,List.getElem?_reverse (by simp;omega),List.getElem?_reverse (by simp;omega),List.getElem?_take_of_lt (by simp;omega),List.getElem?_drop]
  congr 1
  simp;omega
 ·rw [List.getElem?_eq_none (by simp;omega),List.getElem?_eq_none (by simp;omega)]
theorem Gi(p:Array Nat){j:Nat}(hj:j<=p.size):p.reverse.extract (p.size - j) p.reverse.size=(p.extract 0 j).reverse:=by
 rw [<- J7 p (Ya4 j) hj,Ya7]
 congr 1;omega
theorem MPre.fl{a b:Array Nat}(O:WeakOrd n lt)(p:MPre n lt a b):MPre n (flp lt) b.reverse a.reverse:=by
 have na:=p.na
 have nb:=p.nb
 refine⟨by simpa using nb,by simpa using na,λi hi=>?_,λi hi=>?_,λi j de hj=>?_,λi j de hj=>?_,?_,λj hj=>?_⟩
 ·rw [Ya7]at hi;rw [B5 hi];exact p.ib _ (by omega)
 ·rw [Ya7]at hi;rw [B5 hi];exact p.ia _ (by omega)
 ·rw [Ya7]at hj
  show lt (at0 b.reverse i) (at0 b.reverse j)=false
  rw [B5 hj,B5 (by omega)]
  exact p.ub _ _ (by omega) (by omega)
 ·rw [Ya7]at hj
  show lt (at0 a.reverse i) (at0 a.reverse j)=false
  rw [B5 hj,B5 (by omega)]
  exact p.ua _ _ (by omega) (by omega)
 ·show lt (at0 b.reverse 0) (at0 a.reverse 0)=true
  rw [B5 na,B5 nb]
  exact p.hl _ (by omega)
 ·rw [Ya7]at hj
  show lt (at0 b.reverse (b.reverse.size - 1)) (at0 a.reverse j)=true
  rw [Ya7,B5 hj,B5 (by omega),show b.size - 1 - (b.size - 1)=0 by omega]
  rcases Nat.eq_zero_or_pos (a.size - 1 - j) with e | e
  ·rw [e];exact p.h0
  ·exact O.low (p.ib 0 nb) (p.ia 0 na) (p.ia _ (by omega)) p.h0 (p.ua 0 _ e (by omega))
theorem Mgd.fl{a b R:Array Nat}(h:Mgd (flp lt) b.reverse a.reverse R):Mgd lt a b R.reverse:=by
 refine⟨?_,?_⟩
 ·rw [Ycg]
  refine(List.reverse_perm _).trans (h.perm.trans ?_)
  rw [Ycg,Ycg]
  exact((List.reverse_perm _).append (List.reverse_perm _)).trans List.perm_append_comm
 ·rw [Ycg,List.pairwise_reverse]
  exact h.srt
structure HM(lt:Nat->Nat->Bool)(a b out:Array Nat)(na nb:Nat):Prop where
 ha:na<=a.size
 hb:nb<=b.size
 m:MI (flp lt) b.reverse a.reverse out (b.size - nb) (a.size - na)
section
variable {a b out:Array Nat}{na nb:Nat}
theorem Iz.fl(h:Iz lt a):Iz (flp lt) a.reverse:=λi j de hj=>by
 rw [Ya7]at hj
 show lt (at0 a.reverse i) (at0 a.reverse j)=false
 rw [B5 hj,B5 (by omega)]
 exact h _ _ (by omega) (by omega)
theorem HM.chunkA(h:HM lt a b out na nb)(ua:Iz lt a){k:Nat}(hk:k<=na)(bm:∀i,k<=i->i < na->∀j,j < nb->lt (at0 a i) (at0 b j)=false):HM lt a b (out++(a.extract k na).reverse) k nb:=by
 have h1:=h.ha
 have h2:=h.hb
 refine⟨by omega,h2,?_⟩
 have:=h.m.chunkB (k:=na - k) ua.fl (by rw [Ya7];omega) λi hi j j1 j2=>by
  rw [Ya7]at j2
  show lt (at0 a.reverse _) (at0 b.reverse j)=false
  rw [B5 j2,B5 (by omega)]
  exact bm _ (by omega) (by omega) _ (by omega)
 rw [J7 a hk h1,show a.size - na+(na - k)=a.size - k by omega]at this
 exact this
theorem HM.chunkB(h:HM lt a b out na nb)(ub:Iz lt b){k:Nat}(hk:k<=nb)(bm:∀i,k<=i->i < nb->∀j,j < na->lt (at0 b i) (at0 a j)=false):HM lt a b (out++(b.extract k nb).reverse) na k:=by
 have h1:=h.ha
 have h2:=h.hb
 refine⟨h1,by omega,?_⟩
 have:=h.m.chunkA (k:=nb - k) ub.fl (by rw [Ya7];omega) λi hi j j1 j2=>by
  rw [Ya7]at j2
  show lt (at0 b.reverse _) (at0 a.reverse j)=false
  rw [B5 j2,B5 (by omega)]
  exact bm _ (by omega) (by omega) _ (by omega)
 rw [J7 b hk h2,show b.size - nb+(nb - k)=b.size - k by omega]at this
 exact this
theorem Oq{p:Array Nat}{i:Nat}(h:i < p.size)(out:Array Nat):out.push (at0 p i)=out++(p.extract i (i+1)).reverse:=by
 rw [J6 h]
 congr 1
 apply Yen.mp
 rw [Ycg,Bj,Ybb (by simpa using h)]
 simp
theorem HM.pushA(h:HM lt a b out na nb)(ua:Iz lt a)(h0:0 < na)(bm:∀j,j < nb->lt (at0 a (na - 1)) (at0 b j)=false):HM lt a b (out.push (at0 a (na - 1))) (na - 1) nb:=by
 have h1:=h.ha
 rw [Oq (show na - 1 < a.size by omega),show na - 1+1=na by omega]
 exact h.chunkA ua (by omega) λi i1 i2 j hj=>by rw [show i=na - 1 by omega];exact bm j hj
theorem HM.pushB(h:HM lt a b out na nb)(ub:Iz lt b)(h0:0 < nb)(bm:∀j,j < na->lt (at0 b (nb - 1)) (at0 a j)=false):HM lt a b (out.push (at0 b (nb - 1))) na (nb - 1):=by
 have h1:=h.hb
 rw [Oq (show nb - 1 < b.size by omega),show nb - 1+1=nb by omega]
 exact h.chunkB ub (by omega) λi i1 i2 j hj=>by rw [show i=nb - 1 by omega];exact bm j hj
theorem HM.doneA(h:HM lt a b out 0 nb)(ub:Iz lt b):Mgd lt a b (a.extract 0 0++b.extract 0 nb++out.reverse):=by
 have h2:=h.hb
 have:=(MI.doneB (a:=b.reverse) (b:=a.reverse) (by rw [Ya7];exact h.m) ub.fl).fl
 rw [Gi b h2,Ycu,Ycu,Ydk]at this
 rw [show(a.reverse.extract a.reverse.size a.reverse.size).reverse=a.extract 0 0 by simp,<- Ydx]at this
 exact this
theorem HM.doneB(h:HM lt a b out na 0)(ua:Iz lt a):Mgd lt a b (a.extract 0 na++b.extract 0 0++out.reverse):=by
 have h1:=h.ha
 have:=(MI.doneA (a:=b.reverse) (b:=a.reverse) (by rw [Ya7];exact h.m) ua.fl).fl
 rw [Gi a h1,Ycu,Ycu,Ydk]at this
 rw [show(b.reverse.extract b.reverse.size b.reverse.size).reverse=b.extract 0 0 by simp,<- Ydx]at this
 exact this
theorem HM.firstB(O:WeakOrd n lt)(p:MPre n lt a b)(h:HM lt a b out na 1):Mgd lt a b (b.extract 0 1++a.extract 0 na++out.reverse):=by
 have h1:=h.ha
 have h2:=h.hb
 have:=(h.m.lastA p.ub.fl p.ua.fl (by rw [Ya7];omega) ((p.fl O).le O.fl)).fl
 rw [Gi a h1,Gi b h2,Ycu,Ycu,Ydk,Ydk,<- Ydx]at this
 exact this
end
theorem mpR(out a:Array Nat)(i k:Nat):out.map (kas_item it)++((a.map (kas_item it)).extract i k).reverse=(out++(a.extract i k).reverse).map (kas_item it):=by
 rw [Yeo,Array.map_reverse,Yc8]
theorem Xx(x y z:Array Nat)(i j k l:Nat):(x.map (kas_item it)).extract i j++(y.map (kas_item it)).extract k l++(z.map (kas_item it)).reverse=(x.extract i j++y.extract k l++z.reverse).map (kas_item it):=by
 rw [Yeo,Yeo,Array.map_reverse,Yc8,Yc8]
abbrev HiS:=Option (Array Keyed)×Nat×Nat×Array Keyed×Nat×Nat×Nat
def V7(a b out:Array Keyed)(na nb mg ac bc:Nat):StateT SortSt Sem (ForInStep HiS) :=
 elem' a (na - 1) >>= λy =>
  if(na - 1==0)=true then pure (ForInStep.done (some (a.extract 0 (na - 1)++b.extract 0 nb++(out.push y).reverse),na - 1,nb,out.push y,mg,ac,bc))
  else if(decide (ac < 7) && decide (bc < 7))=true then pure (ForInStep.done (none,na - 1,nb,out.push y,mg,ac,bc))
  else pure (ForInStep.yield (none,na - 1,nb,out.push y,mg,ac,bc))
def V8(a b out:Array Keyed)(na nb mg ac bc:Nat):StateT SortSt Sem (ForInStep HiS) :=
 elem' b (nb - 1) >>= λy =>
  if(nb - 1==1)=true then pure (ForInStep.done (some (b.extract 0 (nb - 1)++a.extract 0 na++(out.push y).reverse),na,nb - 1,out.push y,mg,ac,bc))
  else elem' a (na - 1) >>= λz=>gallop' true z b 0 (nb - 1) (nb - 1 - 1) >>= λx =>
   match x with
   | some k=>if nb - 1 - k > 0 then
     (if(k==1)=true then pure (ForInStep.done (some (b.extract 0 k++a.extract 0 na++(out.push y++(b.extract k (nb - 1)).reverse).reverse),na,k,out.push y++(b.extract k (nb - 1)).reverse,mg,ac,nb - 1 - k))
     else if(k==0)=true then pure (ForInStep.done (some (a.extract 0 na++b.extract 0 k++(out.push y++(b.extract k (nb - 1)).reverse).reverse),na,k,out.push y++(b.extract k (nb - 1)).reverse,mg,ac,nb - 1 - k))
     else V7 a b (out.push y++(b.extract k (nb - 1)).reverse) na k mg ac (nb - 1 - k))
    else V7 a b (out.push y) na (nb - 1) mg ac (nb - 1 - k)
   | _=>pure (ForInStep.done (some (a.extract 0 na++b.extract 0 (nb - 1)++(out.push y).reverse),na,nb - 1,out.push y,mg,ac,bc))
def Z9(a b out:Array Keyed)(na nb mg ac bc:Nat):StateT SortSt Sem (ForInStep HiS) :=
 setMinGallop' mg >>= λ_=>elem' b (nb - 1) >>= λy=>gallop' false y a 0 na (na - 1) >>= λx =>
  match x with
  | some k=>if na - k > 0 then
    (if(k==0)=true then pure (ForInStep.done (some (a.extract 0 k++b.extract 0 nb++(out++(a.extract k na).reverse).reverse),k,nb,out++(a.extract k na).reverse,mg,na - k,bc))
    else V8 a b (out++(a.extract k na).reverse) k nb mg (na - k) bc)
   else V8 a b out na nb mg (na - k) bc
  | _=>pure (ForInStep.done (some (a.extract 0 na++b.extract 0 nb++out.reverse),na,nb,out,mg,ac,bc))
structure HMid(lt:Nat->Nat->Bool)(it:Array Keyed)(a b:Array Nat)(q:Nat)(o:Array Keyed)(na nb:Nat):Prop where
 m:∃out:Array Nat,o=out.map (kas_item it)/\HM lt a b out na nb
 ha:0 < na
 hb:1 < nb
 q:na+nb+q<=a.size+b.size
section
variable {a b:Array Nat}{st:SortSt}{Qd Qy:HiS->SortSt->Prop}{out:Array Nat}{na nb mg ac bc:Nat}
theorem Xy(O:WeakOrd n lt)(p:MPre n lt a b)(M:HM lt a b out na nb)(ha:0 < na)(hb:1 < nb)(bm:∀j,j < nb->lt (at0 a (na - 1)) (at0 b j)=false){q:Nat}(hq:na+nb+q<=a.size+b.size)
  (ar:∀R c,Mgd lt a b R->c.1=some (R.map (kas_item it))->Qd c st) (go:∀o i j m x y,HMid lt it a b (q+1) o i j->Qd (none,i,j,o,m,x,y) st/\Qy (none,i,j,o,m,x,y) st) :
  wpS (model prog w) A E s (V7 (a.map (kas_item it)) (b.map (kas_item it)) (out.map (kas_item it)) na nb mg ac bc) (λr ai=>match r with | .done c'=>Qd c' ai | .yield c'=>Qy c' ai) st:=by
 have h1:=M.ha
 unfold V7
 refine Yaf (Bb (by omega) ?_)
 have M1:=M.pushA p.ua ha bm
 simp only [Xu,Xx]
 by_cases e:na - 1=0
 ·rw [Yaj (by simpa using e)]
  refine Yak (ar _ _ (show Mgd lt a b (a.extract 0 (na - 1)++b.extract 0 nb++(out.push (at0 a (na - 1))).reverse) from ?_) rfl)
  have:=(show HM lt a b (out.push (at0 a (na - 1))) 0 nb by rw [<- e];rw [e]at M1 ⊢;exact M1).doneA p.ub
  rw [e]at this ⊢
  exact this
 ·rw [Yah (by simpa using e)]
  have g:=go _ _ _ mg ac bc (⟨⟨_,rfl,M1⟩,by omega,hb,by omega⟩:HMid lt it a b (q+1) _ (na - 1) nb)
  by_cases e4:(decide (ac < 7) && decide (bc < 7))=true
  ·rw [Yaj e4];exact Yak g.1
  ·rw [Yah e4];exact Yak g.2
theorem Xz(O:WeakOrd n lt)(hc:Cmp prog w A κ it n lt s)(hk:kindOf st=κ)(p:MPre n lt a b)(M:HM lt a b out na nb)(ha:0 < na)(hb:1 < nb)(bm:∀j,j < na->lt (at0 b (nb - 1)) (at0 a j)=false){q:Nat}(hq:na+nb+q<=a.size+b.size)
  (ar:∀R c,Mgd lt a b R->c.1=some (R.map (kas_item it))->Qd c st) (go:∀o i j m x y,HMid lt it a b (q+1) o i j->Qd (none,i,j,o,m,x,y) st/\Qy (none,i,j,o,m,x,y) st) :
  wpS (model prog w) A E s (V8 (a.map (kas_item it)) (b.map (kas_item it)) (out.map (kas_item it)) na nb mg ac bc) (λr ai=>match r with | .done c'=>Qd c' ai | .yield c'=>Qy c' ai) st:=by
 have h1:=M.ha
 have h2:=M.hb
 unfold V8
 refine Yaf (Bb (by omega) ?_)
 have M1:=M.pushB p.ub (by omega) bm
 simp only [Xu]
 by_cases e:nb - 1=1
 ·rw [Yaj (by simpa using e)]
  simp only [Xx]
  refine Yak (ar _ _ (show Mgd lt a b (b.extract 0 (nb - 1)++a.extract 0 na++(out.push (at0 b (nb - 1))).reverse) from ?_) rfl)
  rw [e]at M1 ⊢
  exact M1.firstB O p
 ·rw [Yah (by simpa using e)]
  refine Yaf (Bb (by omega) ?_)
  refine Yaf (Z7 O hc hk (by omega) (by omega) p.ib (p.ia (na - 1) (by omega)) (λi j _ h2 h3=>p.ub i j h2 (by omega)) λk k1 k2 k3=>?_)
  dsimp only
  simp only [Nat.zero_add]at k2 k3
  have kx:∀i,k<=i->i < nb - 1->∀j,j < na->lt (at0 b i) (at0 a j)=false:=λi i1 i2 j hj=>by
   have e1:=k3 i i1 i2
   rcases Ya6 (show j<=na - 1 by omega) with rfl | hj'
   ·exact e1
   ·exact O.tr _ _ _ (p.ia j (by omega)) (p.ia (na - 1) (by omega)) (p.ib i (by omega)) (p.ua j (na - 1) hj' (by omega)) e1
  have M2:=M1.chunkB p.ub (k:=k) k1 kx
  by_cases kp:nb - 1 - k > 0
  ·rw [Yaj kp]
   simp only [mpR,Xx]
   by_cases e1:k=1
   ·rw [Yaj (by simpa using e1)]
    refine Yak (ar _ _ (show Mgd lt a b (b.extract 0 k++a.extract 0 na++(out.push (at0 b (nb - 1))++(b.extract k (nb - 1)).reverse).reverse) from ?_) rfl)
    subst e1
    exact M2.firstB O p
   ·rw [Yah (by simpa using e1)]
    by_cases e2:k=0
    ·rw [Yaj (by simpa using e2)]
     refine Yak (ar _ _ (show Mgd lt a b (a.extract 0 na++b.extract 0 k++(out.push (at0 b (nb - 1))++(b.extract k (nb - 1)).reverse).reverse) from ?_) rfl)
     subst e2
     exact M2.doneB p.ua
    ·rw [Yah (by simpa using e2)]
     exact Xy O p M2 ha (by omega) (λj hj=>O.asy _ _ (p.ib j (by omega)) (p.ia _ (by omega)) (k2 j hj)) (q:=q) (by omega) ar go
  ·rw [Yah kp]
   exact Xy O p M1 ha (by omega) (λj hj=>O.asy _ _ (p.ib j (by omega)) (p.ia _ (by omega)) (k2 j (by omega))) (q:=q) (by omega) ar go
theorem Qdj(O:WeakOrd n lt)(hc:Cmp prog w A κ it n lt s)(hk:kindOf st=κ)(p:MPre n lt a b)(M:HM lt a b out na nb)(ha:0 < na)(hb:1 < nb){q:Nat}(hq:na+nb+q<=a.size+b.size)
  (ar:∀R c,Mgd lt a b R->c.1=some (R.map (kas_item it))->Qd c (Bs st mg)) (go:∀o i j m x y,HMid lt it a b (q+1) o i j->Qd (none,i,j,o,m,x,y) (Bs st mg)/\Qy (none,i,j,o,m,x,y) (Bs st mg)) :
  wpS (model prog w) A E s (Z9 (a.map (kas_item it)) (b.map (kas_item it)) (out.map (kas_item it)) na nb mg ac bc) (λr ai=>match r with | .done c'=>Qd c' ai | .yield c'=>Qy c' ai) st:=by
 have h1:=M.ha
 have h2:=M.hb
 unfold Z9
 rw [B3]
 refine Yaf (Yc1 (Yaf (Bb (by omega) ?_)))
 refine Yaf (Z6 O hc (st:=Bs st mg) hk (by omega) (by omega) p.ia (p.ib (nb - 1) (by omega)) (λi j _ h2 h3=>p.ua i j h2 (by omega)) λk k1 k2 k3=>?_)
 dsimp only
 simp only [Nat.zero_add]at k2 k3
 have kx:∀i,k<=i->i < na->∀j,j < nb->lt (at0 a i) (at0 b j)=false:=λi i1 i2 j hj=>by
  have e1:=O.asy _ _ (p.ib (nb - 1) (by omega)) (p.ia i (by omega)) (k3 i i1 i2)
  rcases Ya6 (show j<=nb - 1 by omega) with rfl | hj'
  ·exact e1
  ·exact O.tr _ _ _ (p.ib j (by omega)) (p.ib (nb - 1) (by omega)) (p.ia i (by omega)) (p.ub j (nb - 1) hj' (by omega)) e1
 have M1:=M.chunkA p.ua (k:=k) k1 kx
 by_cases kp:na - k > 0
 ·rw [Yaj kp]
  simp only [mpR,Xx]
  by_cases e1:k=0
  ·rw [Yaj (by simpa using e1)]
   refine Yak (ar _ _ (show Mgd lt a b (a.extract 0 k++b.extract 0 nb++(out++(a.extract k na).reverse).reverse) from ?_) rfl)
   subst e1
   exact M1.doneA p.ub
  ·rw [Yah (by simpa using e1)]
   exact Xz O hc (st:=Bs st mg) hk p M1 (by omega) hb k2 (q:=q) (by omega) ar go
 ·rw [Yah kp]
  exact Xz O hc (st:=Bs st mg) hk p M ha hb (λj hj=>k2 j (by omega)) (q:=q) hq ar go
end
theorem MPre.last{a b:Array Nat}(O:WeakOrd n lt)(p:MPre n lt a b):HM lt a b #[at0 a (a.size - 1)] (a.size - 1) b.size:=by
 have na:=p.na
 have nb:=p.nb
 have h0:HM lt a b #[] a.size b.size:=⟨Yad _,Yad _,by rw [Nat.sub_self,Nat.sub_self];exact MI.zero _ _⟩
 exact h0.pushA p.ua na λj hj=>p.le O j hj
theorem Qi(O:WeakOrd n lt)(hc:Cmp prog w A κ it n lt s){a b:Array Nat}{st:SortSt}(hk:kindOf st=κ)(p:MPre n lt a b){Q:Array Keyed->SortSt->Prop}(h:∀R g,Mgd lt a b R->Q (R.map (kas_item it)) (Bs st g)) :
  wpS (model prog w) A E s (mergeHi' (a.map (kas_item it)) (b.map (kas_item it))) Q st:=by
 rw [Lg]
 dsimp only
 have M0:=p.last O
 have na:=p.na
 have nb:=p.nb
 have sa:(a.map (kas_item it)).size=a.size:=Yef ..
 have sb:(b.map (kas_item it)).size=b.size:=Yef ..
 have e0:#[kas_item it (a.getD (a.size - 1) 0)]=(#[at0 a (a.size - 1)]:Array Nat).map (kas_item it):=by simp
 refine Yaf (wpS_lift (Ycb ⟨rfl,?_⟩))
 refine Yaf (Bb (by omega) ?_)
 rw [sa,e0]
 by_cases e1:a.size - 1=0
 ·rw [Yaj (by simpa using e1)]
  simp only [sb,Xx]
  refine Yak (h _ (gallopOf st) ?_)
  have:=(show HM lt a b #[at0 a (a.size - 1)] 0 b.size by rw [e1]at M0 ⊢;exact M0).doneA p.ub
  rw [e1]at this ⊢
  exact this
 rw [Yah (by simpa using e1)]
 by_cases e2:b.size=1
 ·rw [Yaj (by simpa using e2)]
  simp only [sb,Xx]
  refine Yak (h _ (gallopOf st) ?_)
  rw [e2]at M0 ⊢
  exact M0.firstB O p
 rw [Yah (by simpa using e2)]
 refine Yaf (Yez ?_)
 refine Yaf (Ych (Ybq (I:=λx c ai=>(∃g,ai=Bs st g)/\c.1=none/\HMid lt it a b (1+x) c.2.2.2.1 c.2.1 c.2.2.1) (Q:=λc ai=>(∃g,ai=Bs st g)/\∃R,c.1=some (R.map (kas_item it))/\Mgd lt a b R) ?_ ?_ ⟨⟨gallopOf st,rfl⟩,rfl,⟨_,rfl,by rw [sb];exact M0⟩,by show 0 < a.size - 1;omega,by show 1 < (b.map (kas_item it)).size;omega,by show a.size - 1+(b.map (kas_item it)).size+(1+0)<=_;omega⟩) ?_)
 ·rintro x ⟨c1,ia,ib,o,mg⟩ ai _ hx ⟨⟨g,rfl⟩,rfl,⟨out,eo,M⟩,ha,hb,hq⟩
  dsimp only at eo M ha hb hq ⊢
  subst eo
  refine Yaf (Ych (Ybq (I:=λy c ai=>ai=Bs st g/\c.1=none/\HMid lt it a b (1+x+y) c.2.2.2.1 c.2.1 c.2.2.1) (Q:=λc ai=>ai=Bs st g/\((∃R,c.1=some (R.map (kas_item it))/\Mgd lt a b R)\/(c.1=none/\HMid lt it a b (1+x+1) c.2.2.2.1 c.2.1 c.2.2.1))) ?_ ?_ ⟨rfl,rfl,⟨out,rfl,M⟩,ha,hb,hq⟩) ?_)
  ·clear M ha hb hq
   rintro y ⟨c1,ja,jb,o,ac,bc⟩ ai _ hy ⟨rfl,rfl,⟨out,eo,M⟩,ha,hb,hq'⟩
   dsimp only at eo M ha hb hq' ⊢
   subst eo
   have h1:=M.ha
   have h2:=M.hb
   refine Yaf (Bb (by omega) (Yaf (Bb (by omega) (Yaf (Tf hc (st:=Bs st g) hk (p.ib _ (by omega)) (p.ia _ (by omega)) ?_)))))
   dsimp only
   cases e:lt (b.getD (jb - 1) 0) (a.getD (ja - 1) 0) with
   | true =>
    rw [Yaj rfl]
    refine Yaf (Bb (by omega) ?_)
    have M1:=M.pushA p.ua ha λj hj=>by
     have e':=O.asy _ _ (p.ib _ (by omega)) (p.ia (ja - 1) (by omega)) e
     rcases Ya6 (show j<=jb - 1 by omega) with rfl | hj'
     ·exact e'
     ·exact O.tr _ _ _ (p.ib j (by omega)) (p.ib (jb - 1) (by omega)) (p.ia (ja - 1) (by omega)) (p.ub j (jb - 1) hj' (by omega)) e'
    simp only [Xu]
    by_cases e3:ja - 1=0
    ·rw [Yaj (by simpa using e3)]
     simp only [Xx]
     refine Yak ⟨rfl,.inl ⟨_,rfl,?_⟩⟩
     have:=(show HM lt a b (out.push (at0 a (ja - 1))) 0 jb by rw [e3]at M1 ⊢;exact M1).doneA p.ub
     rw [e3]at this ⊢
     exact this
    ·rw [Yah (by simpa using e3)]
     by_cases e4:ac+1>=mg <;> simp only [e4,if_true,if_false]
     ·exact Yak ⟨rfl,.inr ⟨rfl,⟨_,rfl,M1⟩,by show 0 < ja - 1;omega,hb,by show ja - 1+jb+_<=_;omega⟩⟩
     ·exact Yak ⟨rfl,rfl,⟨_,rfl,M1⟩,by show 0 < ja - 1;omega,hb,by show ja - 1+jb+_<=_;omega⟩
   | false =>
    rw [Yah Yag]
    refine Yaf (Bb (by omega) ?_)
    have M1:=M.pushB p.ub (by omega) λj hj=>by
     rcases Ya6 (show j<=ja - 1 by omega) with rfl | hj'
     ·exact e
     ·exact O.tr _ _ _ (p.ia j (by omega)) (p.ia (ja - 1) (by omega)) (p.ib (jb - 1) (by omega)) (p.ua j (ja - 1) hj' (by omega)) e
    simp only [Xu]
    by_cases e3:jb - 1=1
    ·rw [Yaj (by simpa using e3)]
     simp only [Xx]
     refine Yak ⟨rfl,.inl ⟨_,rfl,?_⟩⟩
     rw [e3]at M1 ⊢
     exact M1.firstB O p
    ·rw [Yah (by simpa using e3)]
     by_cases e4:bc+1>=mg <;> simp only [e4,if_true,if_false]
     ·exact Yak ⟨rfl,.inr ⟨rfl,⟨_,rfl,M1⟩,ha,by show 1 < jb - 1;omega,by show ja+(jb - 1)+_<=_;omega⟩⟩
     ·exact Yak ⟨rfl,rfl,⟨_,rfl,M1⟩,ha,by show 1 < jb - 1;omega,by show ja+(jb - 1)+_<=_;omega⟩
  ·rintro c ai ⟨_,_,⟨out,_,M⟩,ha',iy,hq'⟩
   omega
  ·rintro⟨c1,ja,jb,o,ac,bc⟩ ai ⟨rfl,⟨R,rfl,hR⟩ | ⟨rfl,hM⟩⟩
   ·exact Yak ⟨⟨g,rfl⟩,R,rfl,hR⟩
   ·dsimp only at hM ⊢
    refine Yaf (wpS_lift (Ycb ⟨rfl,?_⟩))
    refine Yaf (Ych (Ybq (I:=λy c ai=>(∃g,ai=Bs st g)/\c.1=none/\HMid lt it a b (1+x+1+y) c.2.2.2.1 c.2.1 c.2.2.1) (Q:=λc ai=>(∃g,ai=Bs st g)/\((∃R,c.1=some (R.map (kas_item it))/\Mgd lt a b R)\/(c.1=none/\HMid lt it a b (1+x+1) c.2.2.2.1 c.2.1 c.2.2.1))) ?_ ?_ ⟨⟨g,rfl⟩,rfl,hM⟩) ?_)
    ·clear hM
     rintro y ⟨c1,ja,jb,o,mg,ac,bc⟩ ai _ hy ⟨⟨g,rfl⟩,rfl,⟨out,eo,M⟩,ha,hb,hq'⟩
     dsimp only at eo M ha hb hq' ⊢
     subst eo
     have key:∀mg,wpS (model prog w) A E s (Z9 (a.map (kas_item it)) (b.map (kas_item it)) (out.map (kas_item it)) ja jb mg ac bc) _ (Bs st g):=λmg =>
      Qdj (Qd:=λc ai=>(∃g,ai=Bs st g)/\((∃R,c.1=some (R.map (kas_item it))/\Mgd lt a b R)\/(c.1=none/\HMid lt it a b (1+x+1) c.2.2.2.1 c.2.1 c.2.2.1)))
       (Qy:=λc ai=>(∃g,ai=Bs st g)/\c.1=none/\HMid lt it a b (1+x+1+(y+1)) c.2.2.2.1 c.2.1 c.2.2.1) O hc (st:=Bs st g) hk p M ha hb (q:=1+x+1+y) hq' (λR c hR e=>⟨⟨mg,rfl⟩,.inl ⟨R,e,hR⟩⟩)
       λo i j m x y hm=>⟨⟨⟨mg,rfl⟩,.inr ⟨rfl,hm.m,hm.ha,hm.hb,by have:=hm.q;show i+j+_<=_;omega⟩⟩,⟨mg,rfl⟩,rfl,hm.m,hm.ha,hm.hb,by have:=hm.q;show i+j+_<=_;omega⟩
     by_cases e4:mg > 1
     ·rw [Yaj e4]
      refine Ych (key (mg - 1)) ?_
      rintro(c | c) ai hh <;> exact hh
     ·rw [Yah e4]
      refine Ych (key mg) ?_
      rintro(c | c) ai hh <;> exact hh
    ·rintro c ai ⟨⟨g,rfl⟩,h1,h2⟩
     exact⟨⟨g,rfl⟩,.inr ⟨h1,h2.m,h2.ha,h2.hb,by have:=h2.q;omega⟩⟩
    ·rintro⟨c1,ja,jb,o,mg,ac,bc⟩ ai ⟨⟨g,rfl⟩,⟨R,rfl,hR⟩ | ⟨rfl,hM⟩⟩
     ·exact Yak ⟨⟨g,rfl⟩,R,rfl,hR⟩
     ·dsimp only at hM ⊢
      rw [B3]
      refine Yaf (Yc1 (Yak ⟨⟨_,rfl⟩,rfl,hM.m,hM.ha,hM.hb,?_⟩))
      have:=hM.q
      show ja+jb+_<=_
      omega
 ·rintro c ai ⟨_,_,⟨out,_,M⟩,ha',iy,hq'⟩
  omega
 ·rintro⟨c1,o⟩ ai ⟨⟨g,rfl⟩,R,rfl,hR⟩
  exact Yak (h R g hR)
end
theorem Lh(i:Nat):mergeAt' i=(do
 let s <- get
 let(some (sa,na,power),some (sb,nb,_)):=((pendingOf s)[i]?,(pendingOf s)[i+1]?) | unsupported "internal:list.sort.pending"
 set (setPending s (((pendingOf s).setIfInBounds i (sa,na+nb,power)).eraseIdxIfInBounds (i+1)))
 let some k <- gallop' false (<- elem' (arrOf s) sb) (arrOf s) sa na 0 | return false
 let(sa,na):=(sa+k,na - k)
 if na==0 then return true
 let some nb <- gallop' true (<- elem' (arrOf s) (sa+na - 1)) (arrOf s) sb nb (nb - 1) | return false
 if nb==0 then return true
 let x:=(arrOf s).extract sa sb
 let y:=(arrOf s).extract sb (sb+nb)
 let merged <- if na<=nb then mergeLo' x y else mergeHi' x y
 modify λs=>setArr s (merged.toList.zipIdx.foldl (λa (p,j)=>a.setIfInBounds (sa+j) p) (arrOf s))
 return (failedOf (<- get)).isNone):=rfl
section
variable {prog:Program}{w:World}{A:Around}{E:Value->Shared->Prop}{s:Shared}{κ:SortKind}{it:Array Keyed}{n:Nat}{lt:Nat->Nat->Bool}
def SS(κ:SortKind)(it:Array Keyed)(p:Array Nat)(pd:Array (Nat×Nat×Nat))(g:Nat):SortSt:=SortSt.mk' κ (p.map (kas_item it)) pd g none
def Seg(lt:Nat->Nat->Bool)(p:Array Nat)(lo len:Nat):Prop:=∀i j,lo<=i->i < j->j < lo+len->lt (at0 p j) (at0 p i)=false
theorem V9{σ:Type}{M:Model}{x:σ}{Q:PUnit->σ->Prop}{st:σ}(h:Q ⟨⟩ x):wpS M A E s (set x:StateT σ Sem PUnit) Q st:=by
 unfold wpS;rw [StateT.run_set];exact Yab ⟨rfl,h⟩
def wr{α:Type}(bg:Nat):List α->Nat->Array α->Array α
 | [],_,p=>p
 | x :: xs,k,p=>wr bg xs (k+1) (p.setIfInBounds (bg+k) x)
theorem Os{α:Type}(bg:Nat):∀(xs:List α) (k:Nat) (p:Array α),(xs.zipIdx k).foldl (λa (z:α×Nat)=>a.setIfInBounds (bg+z.2) z.1) p=wr bg xs k p
 | [],_,_=>rfl
 | x :: xs,k,p=>by
  rw [List.zipIdx_cons,List.foldl_cons,wr]
  exact Os bg xs (k+1) _
theorem Tg{α β:Type}(f:α->β)(bg:Nat):∀(xs:List α) (k:Nat) (p:Array α),wr bg (xs.map f) k (p.map f)=(wr bg xs k p).map f
 | [],_,_=>rfl
 | x :: xs,k,p=>by
  rw [Ybm,wr,wr,<- Tg f bg xs (k+1)]
  congr 1
  rw [Array.map_setIfInBounds]
theorem Ot{α:Type}(bg:Nat):∀(xs:List α) (k:Nat) (p:Array α),(wr bg xs k p).size=p.size
 | [],_,_=>rfl
 | x :: xs,k,p=>by rw [wr,Ot bg xs,Array.size_setIfInBounds]
theorem Nb{α:Type}(bg:Nat):∀(xs:List α) (k:Nat) (p:Array α),bg+k+xs.length<=p.size->∀i:Nat,(wr bg xs k p)[i]?=if bg+k<=i/\i < bg+k+xs.length then xs[i - (bg+k)]? else p[i]?
 | [],k,p,_,i=>by rw [wr,Yah (by simp only [List.length_nil];omega)]
 | x :: xs,k,p,h,i=>by
  rw [Ybk]at h
  rw [wr,Nb bg xs (k+1) _ (by rw [Array.size_setIfInBounds];omega),Array.getElem?_setIfInBounds,Ybk]
  by_cases h1:bg+k=i
  ·subst h1
   rw [Yah (by omega),Yaj rfl,Yaj (by omega),Yaj (by omega),Nat.sub_self];rfl
  ·by_cases h2:bg+(k+1)<=i/\i < bg+(k+1)+xs.length
   ·rw [Yaj h2,Yaj (by omega)]
    rw [show i - (bg+k)=i - (bg+(k+1))+1 by omega,List.getElem?_cons_succ]
   ·rw [Yah h2,Yah h1,Yah (by omega)]
theorem Ex{p q:Array Nat}{i j:Nat}(h:p[i]?=q[j]?):at0 p i=at0 q j:=by
 unfold at0
 rw [Ycz,Ycz,h]
theorem Th{p:Array Nat}{xs:List Nat}{i j:Nat}{d:Nat}(h:p[i]?=xs[j]?)(hj:j < xs.length):at0 p i=xs[j]:=by
 unfold at0
 rw [Ycz,h,List.getElem?_eq_getElem hj];rfl
theorem Wa(bg:Nat)(R:List Nat)(p:Array Nat)(h:bg+R.length<=p.size):(wr bg R 0 p).toList=p.toList.take bg++R++p.toList.drop (bg+R.length):=by
 apply Yea
 intro i
 rw [Array.getElem?_toList,Nb bg R 0 p h]
 simp only [Nat.add_zero]
 have hl:(p.toList.take bg).length=bg:=by rw [Yb1,Yax];omega
 by_cases h1:i < bg
 ·rw [Yah (by omega),Ycx,List.getElem?_append_left (by omega),List.getElem?_take_of_lt h1,Array.getElem?_toList]
 ·by_cases h2:i < bg+R.length
  ·rw [Yaj (by omega),List.getElem?_append_left (by rw [Yao];omega),List.getElem?_append_right (by omega),hl]
  ·rw [Yah (by omega),List.getElem?_append_right (by rw [Yao];omega),Yao,hl,List.getElem?_drop,Array.getElem?_toList]
   congr 1;omega
theorem C8{p:Array Nat}{i j k:Nat}(h:i+k < j)(hj:j<=p.size):at0 (p.extract i j) k=at0 p (i+k):=Ex (by
 rw [Array.getElem?_extract]
 rw [Yaj (by omega)])
theorem Wb{p:Array Nat}{i j k:Nat}(h1:i<=j)(h2:j<=k):(p.extract i j).toList++(p.extract j k).toList=(p.toList.drop i).take (k - i):=by
 rw [show j=i+(j - i) by omega,Bj,show i+(j - i)=j by omega,show k=j+(k - j) by omega,Bj,show j+(k - j) - i=(j - i)+(k - j) by omega,List.take_add,List.drop_drop,show i+(j - i)=j by omega]
structure Kept(p p':Array Nat)(lo hi:Nat):Prop where
 size:p'.size=p.size
 perm:p'.toList.Perm p.toList
 same:∀i,i < lo\/hi<=i->at0 p' i=at0 p i
theorem Kept.refl{p:Array Nat}{lo hi:Nat}:Kept p p lo hi:=⟨rfl,.refl _,λ_ _=>rfl⟩
theorem Kept.trans{p q r:Array Nat}{lo hi:Nat}(h:Kept p q lo hi)(k:Kept q r lo hi):Kept p r lo hi:=⟨k.size.trans h.size,k.perm.trans h.perm,λi hi=>(k.same i hi).trans (h.same i hi)⟩
theorem Kept.mono{p q:Array Nat}{lo hi jq dz:Nat}(h:Kept p q lo hi)(h1:jq<=lo)(h2:hi<=dz):Kept p q jq dz:=⟨h.size,h.perm,λi hi=>h.same i (by omega)⟩
theorem Wc{p:Array Nat}{x:Nat}(h:x∈p.toList):∃i,i < p.size/\x=at0 p i:=by
 obtain⟨i,hi,e⟩:=Ydu h
 rw [Yax]at hi
 refine⟨i,hi,?_⟩
 rw [<- e];simp [at0,Array.getD,hi]
theorem Wd{p:Array Nat}{i:Nat}(h:i < p.size):at0 p i∈p.toList:=by
 simp [at0,Array.getD,h]
theorem Kept.in{p p':Array Nat}{lo hi:Nat}(h:Kept p p' lo hi)(hp:In n p):In n p':=λi hi=>by
 obtain⟨j,hj,e⟩:=Wc (h.perm.mem_iff.mp (Wd hi))
 rw [e];exact hp j hj
theorem Seg.kept{p p':Array Nat}{lo hi a len:Nat}(h:Seg lt p a len)(k:Kept p p' lo hi)(ho:a+len<=lo\/hi<=a):Seg lt p' a len:=λi j h1 h2 h3=>by
 rw [k.same i (by omega),k.same j (by omega)]
 exact h i j h1 h2 h3
theorem Qj(O:WeakOrd n lt)(hc:Cmp prog w A κ it n lt s){p:Array Nat}{pd:Array (Nat×Nat×Nat)}{g i sa na pw nb sw:Nat}(hp:In n p)(h1:pd[i]?=some (sa,na,pw))(h2:pd[i+1]?=some (sa+na,nb,sw))(ha:0 < na)(hb:0 < nb)(hs:sa+na+nb<=p.size)
  (sA:Seg lt p sa na) (sB:Seg lt p (sa+na) nb) {Q:Bool->SortSt->Prop}
  (h:∀p' g',Kept p p' sa (sa+na+nb)->Seg lt p' sa (na+nb)->Q true (SS κ it p' ((pd.setIfInBounds i (sa,na+nb,pw)).eraseIdxIfInBounds (i+1)) g')):wpS (model prog w) A E s (mergeAt' i) Q (SS κ it p pd g):=by
 rw [Lh]
 refine Yaf (Yez ?_)
 have e1:(pendingOf (SS κ it p pd g))[i]?=some (sa,na,pw):=h1
 have e2:(pendingOf (SS κ it p pd g))[i+1]?=some (sa+na,nb,sw):=h2
 rw [e1,e2]
 dsimp only
 have vz:arrOf (SS κ it p pd g)=p.map (kas_item it):=rfl
 rw [vz]
 refine Yaf (V9 (Yaf (Bb (by omega) ?_)))
 have hl:=λi (hi:i < p.size)=>hp i hi
 refine Yaf (Z6 O hc (st:=SS κ it p ((pd.setIfInBounds i (sa,na+nb,pw)).eraseIdxIfInBounds (i+1)) g) rfl ha (by omega) hp (hl _ (by omega)) (λx y a1 a2 a3=>sA x y a1 a2 a3) λk k1 k2 k3=>?_)
 dsimp only
 have low:∀x,sa<=x->x < sa+k->lt (at0 p (sa+na)) (at0 p x)=false:=λx a1 a2=>by
  have:=k2 (x - sa) (by omega)
  rwa [show sa+(x - sa)=x by omega]at this
 have on:∀y,sa+na<=y->y < sa+na+nb->lt (at0 p y) (at0 p (sa+na))=false:=λy a1 a2=>by
  rcases Ya6 a1 with rfl | a1
  ·exact O.irr (hl _ (by omega))
  ·exact sB _ y (Yad _) a1 (by omega)
 have jh:∀x y,sa<=x->x < sa+k->sa+na<=y->y < sa+na+nb->lt (at0 p y) (at0 p x)=false:=λx y a1 a2 a3 a4 =>
  O.tr _ _ _ (hl x (by omega)) (hl (sa+na) (by omega)) (hl y (by omega)) (low x a1 a2) (on y a3 a4)
 by_cases c1:na - k=0
 ·rw [Yaj (by simpa using c1)]
  refine Yak (h p g .refl λx y a1 a2 a3=>?_)
  by_cases c2:y < sa+na
  ·exact sA x y a1 a2 c2
  ·by_cases c3:x < sa+na
   ·exact jh x y a1 (by omega) (by omega) (by omega)
   ·exact sB x y (by omega) a2 (by omega)
 rw [Yah (by simpa using c1)]
 refine Yaf (Bb (by omega) ?_)
 refine Yaf (Z7 O hc (st:=SS κ it p ((pd.setIfInBounds i (sa,na+nb,pw)).eraseIdxIfInBounds (i+1)) g) rfl (by omega) (by omega) hp (hl _ (by omega)) (λx y a1 a2 a3=>sB x y a1 a2 a3) λm m1 m2 m3=>?_)
 dsimp only
 have el:sa+k+(na - k) - 1=sa+na - 1:=by omega
 rw [el]at m2 m3
 have ato:∀x,sa<=x->x < sa+na->lt (at0 p (sa+na - 1)) (at0 p x)=false:=λx a1 a2=>by
  rcases Ya6 (show x<=sa+na - 1 by omega) with rfl | a2'
  ·exact O.irr (hl _ (by omega))
  ·exact sA x _ a1 a2' (by omega)
 have high:∀x y,sa<=x->x < sa+na->sa+na+m<=y->y < sa+na+nb->lt (at0 p y) (at0 p x)=false:=λx y a1 a2 a3 a4=>by
  have:=m3 (y - (sa+na)) (by omega) (by omega)
  rw [show sa+na+(y - (sa+na))=y by omega]at this
  exact O.tr _ _ _ (hl x (by omega)) (hl (sa+na - 1) (by omega)) (hl y (by omega)) (ato x a1 a2) this
 by_cases c2:m=0
 ·rw [Yaj (by simpa using c2)]
  refine Yak (h p g .refl λx y a1 a2 a3=>?_)
  by_cases c3:y < sa+na
  ·exact sA x y a1 a2 c3
  ·by_cases c4:x < sa+na
   ·exact high x y a1 c4 (by omega) (by omega)
   ·exact sB x y (by omega) a2 (by omega)
 rw [Yah (by simpa using c2)]
 have x1:(p.map (kas_item it)).extract (sa+k) (sa+na)=(p.extract (sa+k) (sa+na)).map (kas_item it):=Yc8.symm
 have x2:(p.map (kas_item it)).extract (sa+na) (sa+na+m)=(p.extract (sa+na) (sa+na+m)).map (kas_item it):=Yc8.symm
 rw [x1,x2]
 have z1:(p.extract (sa+k) (sa+na)).size=na - k:=by rw [Yd2];omega
 have z2:(p.extract (sa+na) (sa+na+m)).size=m:=by rw [Yd2];omega
 have pre:MPre n lt (p.extract (sa+k) (sa+na)) (p.extract (sa+na) (sa+na+m)):=by
  refine⟨by omega,by omega,λx hx=>?_,λx hx=>?_,λx y a1 a2=>?_,λx y a1 a2=>?_,?_,λy hy=>?_⟩
  ·rw [z1]at hx;rw [C8 (by omega) (by omega)];exact hl _ (by omega)
  ·rw [z2]at hx;rw [C8 (by omega) (by omega)];exact hl _ (by omega)
  ·rw [z1]at a2;rw [C8 (by omega) (by omega),C8 (by omega) (by omega)];exact sA _ _ (by omega) (by omega) (by omega)
  ·rw [z2]at a2;rw [C8 (by omega) (by omega),C8 (by omega) (by omega)];exact sB _ _ (by omega) (by omega) (by omega)
  ·rw [C8 (by omega) (by omega),C8 (by omega) (by omega)]
   have:=k3 k (Yad _) (by omega)
   exact this
  ·rw [z2]at hy
   rw [z1,C8 (by omega) (by omega),C8 (by omega) (by omega),show sa+k+(na - k - 1)=sa+na - 1 by omega]
   exact m2 y hy
 have ar:∀(R:Array Nat) (g':Nat),Mgd lt (p.extract (sa+k) (sa+na)) (p.extract (sa+na) (sa+na+m)) R ->
   Q true (SS κ it (wr (sa+k) R.toList 0 p) ((pd.setIfInBounds i (sa,na+nb,pw)).eraseIdxIfInBounds (i+1)) g'):=λR g' hR=>by
  have hRl:R.toList.length=na - k+m:=by
   have:=hR.perm.length_eq
   rw [Yao,Yax,Yax,Yax,z1,z2]at this
   rw [Yax];exact this
  have iw:sa+k+R.toList.length<=p.size:=by omega
  have el:(p.extract (sa+k) (sa+na)).toList++(p.extract (sa+na) (sa+na+m)).toList=(p.toList.drop (sa+k)).take R.toList.length:=by
   rw [Wb (by omega) (by omega),hRl]
   congr 1;omega
  have jr:=Nb (sa+k) R.toList 0 p iw
  simp only [Nat.add_zero]at jr
  have out:∀x,x < sa+k\/sa+na+m<=x->at0 (wr (sa+k) R.toList 0 p) x=at0 p x:=λx hx=>Ex (by rw [jr,Yah (by omega)])
  have xu:∀x,sa+k<=x->x < sa+na+m->∃hx,at0 (wr (sa+k) R.toList 0 p) x=R.toList[x - (sa+k)]'hx:=λx a1 a2=>⟨by omega,Th (d:=0) (by rw [jr,Yaj (by omega)]) (by omega)⟩
  have mem:∀x,sa+k<=x->x < sa+na+m->∃y,sa+k<=y/\y < sa+na+m/\at0 (wr (sa+k) R.toList 0 p) x=at0 p y:=λx a1 a2=>by
   obtain⟨hx,e⟩:=xu x a1 a2
   have hm:R.toList[x - (sa+k)]∈(p.toList.drop (sa+k)).take R.toList.length:=by rw [<- el];exact hR.perm.mem_iff.mp (Yc0 _)
   obtain⟨j,j1,j2,j3,j4⟩:=Ds hm
   exact⟨j,j1,by omega,e.trans j4⟩
  refine h _ g' ⟨Ot _ _ _ _,?_,λx hx=>out x (by omega)⟩ λx y a1 a2 a3=>?_
  ·rw [Wa _ _ _ iw]
   have e3:p.toList=p.toList.take (sa+k)++(p.toList.drop (sa+k)).take R.toList.length++p.toList.drop (sa+k+R.toList.length):=by
    have a:=(Yek (sa+k) p.toList).symm
    have b:=(Yek R.toList.length (p.toList.drop (sa+k))).symm
    rw [List.drop_drop]at b
    refine a.trans ?_
    rw [Ycx]
    exact Ydn _ b
   refine List.Perm.trans ?_ (List.Perm.of_eq e3.symm)
   refine Yd9 _ (List.Perm.append_left _ ?_)
   rw [<- el];exact hR.perm
  ·by_cases c3:y < sa+k
   ·rw [out x (by omega),out y (by omega)];exact sA x y a1 a2 (by omega)
   ·by_cases c4:sa+na+m<=y
    ·rw [out y (by omega)]
     by_cases c5:x < sa+k
     ·rw [out x (by omega)];exact jh x y a1 c5 (by omega) (by omega)
     ·by_cases c6:sa+na+m<=x
      ·rw [out x (by omega)];exact sB x y (by omega) a2 (by omega)
      ·obtain⟨z,b1,b2,e⟩:=mem x (by omega) (by omega)
       rw [e]
       by_cases c7:z < sa+na
       ·exact high z y (by omega) c7 c4 (by omega)
       ·exact sB z y (by omega) (by omega) (by omega)
    ·by_cases c5:x < sa+k
     ·obtain⟨z,b1,b2,e⟩:=mem y (by omega) (by omega)
      rw [e,out x (by omega)]
      by_cases c7:z < sa+na
      ·exact sA x z a1 (by omega) c7
      ·exact jh x z a1 c5 (by omega) (by omega)
     ·obtain⟨hx,ex⟩:=xu x (by omega) (by omega)
      obtain⟨hy,ey⟩:=xu y (by omega) (by omega)
      rw [ex,ey]
      exact Yb7.mp hR.srt _ _ hx hy (by omega)
 have last:∀(R:Array Nat) (g':Nat),Mgd lt (p.extract (sa+k) (sa+na)) (p.extract (sa+na) (sa+na+m)) R->∀ai,ai=SS κ it p ((pd.setIfInBounds i (sa,na+nb,pw)).eraseIdxIfInBounds (i+1)) g' ->
   wpS (model prog w) A E s (do
    modify λs=>setArr s ((R.map (kas_item it)).toList.zipIdx.foldl (λa (p,j)=>a.setIfInBounds (sa+k+j) p) (arrOf s))
    return (failedOf (<- get)).isNone) Q ai:=λR g' hR ai e=>by
  subst e
  refine Yaf (Yc1 (Yaf (Yez (Yak ?_))))
  have:=ar R g' hR
  have e2:(R.map (kas_item it)).toList.zipIdx.foldl (λa (z:Keyed×Nat)=>a.setIfInBounds (sa+k+z.2) z.1) (p.map (kas_item it))=(wr (sa+k) R.toList 0 p).map (kas_item it):=by
   rw [Os,Array.toList_map,Tg]
  show Q true (SortSt.mk' κ ((R.map (kas_item it)).toList.zipIdx.foldl (λa (z:Keyed×Nat)=>a.setIfInBounds (sa+k+z.2) z.1) (p.map (kas_item it))) _ g' none)
  rw [e2]
  exact this
 by_cases c3:na - k<=m
 ·rw [Yaj c3]
  refine Yaf (Qh O hc rfl pre λR g' hR=>?_)
  exact last R g' hR _ rfl
 ·rw [Yah c3]
  refine Yaf (Qi O hc rfl pre λR g' hR=>?_)
  exact last R g' hR _ rfl
end
def Ti(lo am n:Nat):StateT SortSt Sem (Option Nat):=do
 reverseSlice' lo (lo+n)
 let mut n:=n
 for _ in [n:am] do
  let some smaller <- ltAt' (lo+n) (lo+n - 1) | return none
  if smaller then break
  n:=n+1
 return some n
def Tj(lo am n:Nat):StateT SortSt Sem (Option Nat):=do
 rule "list.sort.descending-run"
 let mut n:=n+1
 let mut neq:=0
 for _ in [n:am] do
  let some smaller <- ltAt' (lo+n) (lo+n - 1) | return none
  if smaller then
   if neq > 0 then reverseSlice' (lo+n - (neq+1)) (lo+n)
   neq:=0
  else
   let some larger <- ltAt' (lo+n - 1) (lo+n) | return none
   if larger then break
   neq:=neq+1
  n:=n+1
 if neq > 0 then reverseSlice' (lo+n - (neq+1)) (lo+n)
 Ti lo am n
theorem J8(lo am:Nat):countRun' lo am=(do
 let mut n:=1
 for _ in [1:am] do
  let some smaller <- ltAt' (lo+n) (lo+n - 1) | return none
  if smaller then break
  n:=n+1
 if n==am then return some n
 if n > 1 then
  let some rose <- ltAt' lo (lo+n - 1) | return none
  if rose then return some n
  reverseSlice' lo (lo+n)
 Tj lo am n):=rfl
section
variable {prog:Program}{w:World}{A:Around}{E:Value->Shared->Prop}{s:Shared}{κ:SortKind}{it:Array Keyed}{n:Nat}{lt:Nat->Nat->Bool}{p:Array Nat}{pd:Array (Nat×Nat×Nat)}{g:Nat}
theorem Fm(hc:Cmp prog w A κ it n lt s)(hp:In n p){i j:Nat}(hi:i < p.size)(hj:j < p.size){Q:Option Bool->SortSt->Prop}(h:Q (some (lt (at0 p i) (at0 p j))) (SS κ it p pd g)):wpS (model prog w) A E s (ltAt' i j) Q (SS κ it p pd g):=by
 rw [ltAt'_eq]
 refine Yaf (Yez ?_)
 show wpS _ _ _ _ (do let x <- elem' (p.map (kas_item it)) i;let y <- elem' (p.map (kas_item it)) j;lt' x y) Q _
 exact Yaf (Bb hi (Yaf (Bb hj (Tf hc rfl (hp i hi) (hp j hj) h))))
abbrev rvs(p:Array Nat)(i j:Nat):Array Nat:=mirror p i j ((j - i) / 2)
theorem C0{i j:Nat}(hj:j<=p.size)(k:Nat):at0 (rvs p i j) k=if i<=k/\k < j then at0 p (i+j - 1 - k) else at0 p k:=by
 have e:=getElem?_mirror_all (xs:=p) (i:=i) hj k
 by_cases h:i<=k/\k < j
 ·rw [Yaj h]at e ⊢;exact Ex e
 ·rw [Yah h]at e ⊢;exact Ex e
theorem Fc{i j:Nat}(hj:j<=p.size):Kept p (rvs p i j) i j:=⟨mirror_size _ _ _ _,(mirror_perm p i j _).toList,λk hk=>by rw [C0 hj,Yah (by omega)]⟩
theorem Ou{i j:Nat}{Q:Unit->SortSt->Prop}(h:Q () (SS κ it (rvs p i j) pd g)):wpS (model prog w) A E s (reverseSlice' i j) Q (SS κ it p pd g):=by
 rw [reverseSlice'_eq]
 refine Yc1 ?_
 have e:mirror (p.map (kas_item it)) i j ((j - i) / 2)=(rvs p i j).map (kas_item it):=kas_swaps_map _ _ _ _ _
 show Q () (SortSt.mk' κ (mirror (p.map (kas_item it)) i j ((j - i) / 2)) pd g none)
 rw [e];exact h
def Rj(lt:Nat->Nat->Bool)(p:Array Nat)(lo len:Nat):Prop:=∀i j,lo<=i->i < j->j < lo+len->lt (at0 p i) (at0 p j)=false
def EqS(lt:Nat->Nat->Bool)(p:Array Nat)(a b:Nat):Prop:=∀i j,a<=i->i < b->a<=j->j < b->lt (at0 p i) (at0 p j)=false
theorem Seg.next(O:WeakOrd n lt)(hp:In n p){lo m:Nat}(h:Seg lt p lo m)(h1:1<=m)(hm:lo+m < p.size)(e:lt (at0 p (lo+m)) (at0 p (lo+m - 1))=false):Seg lt p lo (m+1):=λi j a1 a2 a3=>by
 by_cases c:j < lo+m
 ·exact h i j a1 a2 c
 ·have:j=lo+m:=by omega
  subst this
  by_cases c2:i=lo+m - 1
  ·subst c2;exact e
  ·exact O.tr _ _ _ (hp i (by omega)) (hp (lo+m - 1) (by omega)) (hp (lo+m) hm) (h i (lo+m - 1) a1 (by omega) (by omega)) e
theorem Rj.next(O:WeakOrd n lt)(hp:In n p){lo m:Nat}(h:Rj lt p lo m)(h1:1<=m)(hm:lo+m < p.size)(e:lt (at0 p (lo+m - 1)) (at0 p (lo+m))=false):Rj lt p lo (m+1):=λi j a1 a2 a3=>by
 by_cases c:j < lo+m
 ·exact h i j a1 a2 c
 ·have:j=lo+m:=by omega
  subst this
  by_cases c2:i=lo+m - 1
  ·subst c2;exact e
  ·exact O.tr _ _ _ (hp (lo+m) hm) (hp (lo+m - 1) (by omega)) (hp i (by omega)) e (h i (lo+m - 1) a1 (by omega) (by omega))
theorem Rj.turn{lo k a:Nat}(hs:lo+k<=p.size)(ha:lo<=a)(h:Rj lt p lo k)(e:EqS lt p a (lo+k)):Rj lt (rvs p a (lo+k)) lo k:=λi j a1 a2 a3=>by
 rw [C0 hs,C0 hs]
 by_cases h1:a<=i
 ·rw [Yaj ⟨h1,by omega⟩,Yaj ⟨by omega,a3⟩]
  exact e _ _ (by omega) (by omega) (by omega) (by omega)
 ·rw [Yah (by omega)]
  by_cases h2:a<=j
  ·rw [Yaj ⟨h2,a3⟩]
   exact h _ _ (by omega) (by omega) (by omega)
  ·rw [Yah (by omega)]
   exact h _ _ a1 a2 a3
theorem X0(O:WeakOrd n lt)(hc:Cmp prog w A κ it n lt s)(hp:In n p){lo am m:Nat}(h1:1<=m)(hm:m<=am)(hs:lo+am<=p.size)(h:Seg lt p lo m){F:Nat->Option (Option Nat)×Nat->StateT SortSt Sem (ForInStep (Option (Option Nat)×Nat))}
  (hF:∀x k Q,1<=k->k < am->(∀b,b=lt (at0 p (lo+k)) (at0 p (lo+k - 1))->Q (if b=true then ForInStep.done (none,k) else ForInStep.yield (none,k+1)) (SS κ it p pd g))->wpS (model prog w) A E s (F x (none,k)) Q (SS κ it p pd g))
  {Q:Option (Option Nat)×Nat->SortSt->Prop} (hQ:∀k,m<=k->k<=am->Seg lt p lo k->(k < am->lt (at0 p (lo+k)) (at0 p (lo+k - 1))=true)->Q (none,k) (SS κ it p pd g)):wpS (model prog w) A E s (forIn [m:am] ((none,m):Option (Option Nat)×Nat) F) Q (SS κ it p pd g):=by
 refine Ych (Ybq (I:=λx c ai=>ai=SS κ it p pd g/\c=(none,x)/\m<=x/\x<=am/\Seg lt p lo x) (Q:=λc ai=>ai=SS κ it p pd g/\∃k,c=(none,k)/\m<=k/\k<=am/\Seg lt p lo k/\(k < am->lt (at0 p (lo+k)) (at0 p (lo+k - 1))=true)) ?_ ?_ ⟨rfl,rfl,Yad _,hm,h⟩) ?_
 ·rintro x c ai _ hx ⟨rfl,rfl,a1,a2,a3⟩
  refine hF x x _ (by omega) hx λb eb=>?_
  cases b with
  | true=>exact⟨rfl,x,rfl,a1,a2,a3,λ_=>eb.symm⟩
  | false=>exact⟨rfl,rfl,by omega,by omega,a3.next O hp (by omega) (by omega) eb.symm⟩
 ·rintro c ai ⟨rfl,rfl,a1,a2,a3⟩
  rw [Nat.max_eq_right hm]at a3 ⊢
  exact⟨rfl,am,rfl,hm,Yad _,a3,λz=>absurd z (Ycd _)⟩
 ·rintro c ai ⟨rfl,k,rfl,a1,a2,a3,a4⟩
  exact hQ k a1 a2 a3 a4
theorem Tk(O:WeakOrd n lt)(hc:Cmp prog w A κ it n lt s)(hp:In n p){lo am m:Nat}(h1:1<=m)(hm:m<=am)(hs:lo+am<=p.size)(h:Rj lt p lo m){Q:Option Nat->SortSt->Prop}
  (hQ:∀k p',1<=k->k<=am->Kept p p' lo (lo+am)->Seg lt p' lo k->Q (some k) (SS κ it p' pd g)):wpS (model prog w) A E s (Ti lo am m) Q (SS κ it p pd g):=by
 unfold Ti
 refine Yaf (Ou ?_)
 have hk:Kept p (rvs p lo (lo+m)) lo (lo+am):=(Fc (by omega)).mono (Yad _) (by omega)
 have hU:Seg lt (rvs p lo (lo+m)) lo m:=λi j a1 a2 a3=>by
  rw [C0 (by omega),C0 (by omega),Yaj ⟨by omega,a3⟩,Yaj ⟨a1,by omega⟩]
  exact h _ _ (by omega) (by omega) (by omega)
 have ba:=hk.in hp
 have dw:lo+am<=(rvs p lo (lo+m)).size:=by rw [hk.size];exact hs
 refine Yaf (X0 O hc ba h1 hm dw hU (λx k Q' k1 k2 q=>?_) λk k1 k2 k3 _=>Yak (hQ k _ (by omega) k2 hk k3))
 refine Yaf (Fm hc ba (by omega) (by omega) ?_)
 dsimp only
 have:=q _ rfl
 by_cases e:lt (at0 (rvs p lo (lo+m)) (lo+k)) (at0 (rvs p lo (lo+m)) (lo+k - 1))=true
 ·rw [Yaj e]at this ⊢;exact Yak this
 ·rw [Yah e]at this ⊢;exact Yak this
theorem Tl(O:WeakOrd n lt)(hc:Cmp prog w A κ it n lt s)(hp:In n p){lo am m:Nat}(h1:1<=m)(hm:m+1<=am)(hs:lo+am<=p.size)(h:Rj lt p lo (m+1)){Q:Option Nat->SortSt->Prop}
  (hQ:∀k p',1<=k->k<=am->Kept p p' lo (lo+am)->Seg lt p' lo k->Q (some k) (SS κ it p' pd g)):wpS (model prog w) A E s (Tj lo am m) Q (SS κ it p pd g):=by
 unfold Tj
 refine Yaf (wpS_lift (Ycb ⟨rfl,?_⟩))
 have one:∀p':Array Nat,In n p'->p'.size=p.size->∀k,k < am->EqS lt p' (lo+(k+1) - (0+1)) (lo+(k+1)):=λp' ba hz k hk i j a1 a2 a3 a4=>by
  have hi:i=lo+k:=by omega
  have hj:j=lo+k:=by omega
  rw [hi,hj]
  exact O.irr (ba _ (by omega))
 refine Yaf (Ych (Ybq (I:=λx c ai=>∃p' q,ai=SS κ it p' pd g/\c=(none,x,q)/\Kept p p' lo (lo+am)/\q+1<=x/\x<=am/\Rj lt p' lo x/\EqS lt p' (lo+x - (q+1)) (lo+x))
  (Q:=λc ai=>∃p' k q,ai=SS κ it p' pd g/\c=(none,k,q)/\Kept p p' lo (lo+am)/\q+1<=k/\k<=am/\Rj lt p' lo k/\EqS lt p' (lo+k - (q+1)) (lo+k)) ?_ ?_ ⟨p,0,rfl,rfl,.refl,by omega,hm,h,one p hp rfl m (by omega)⟩) ?_)
 ·rintro x c ai _ hx ⟨p',q,rfl,rfl,K,q1,q2,D,e⟩
  have ba:=K.in hp
  have hz:=K.size
  dsimp only
  refine Yaf (Fm hc ba (by omega) (by omega) ?_)
  dsimp only
  cases c1:lt (at0 p' (lo+x)) (at0 p' (lo+x - 1)) with
  | true =>
   rw [Yaj rfl]
   have c2:=O.asy _ _ (ba _ (by omega)) (ba _ (by omega)) c1
   by_cases hq:q > 0
   ·rw [Yaj hq]
    refine Yaf (Ou (Yak ?_))
    have K2:Kept p' (rvs p' (lo+x - (q+1)) (lo+x)) lo (lo+am):=(Fc (by omega)).mono (by omega) (by omega)
    have d7:=K2.in ba
    refine⟨_,0,rfl,rfl,K.trans K2,by omega,by omega,(D.turn (by omega) (by omega) e).next O d7 (by omega) (by rw [K2.size];omega) ?_,one _ d7 (K2.size.trans hz) x (by omega)⟩
    rw [C0 (by omega),Yaj ⟨by omega,by omega⟩,C0 (by omega),Yah (by omega),show lo+x - (q+1)+(lo+x) - 1 - (lo+x - 1)=lo+x - (q+1) by omega]
    exact O.tr _ _ _ (ba _ (by omega)) (ba (lo+x - 1) (by omega)) (ba _ (by omega)) c2 (e _ _ (by omega) (by omega) (by omega) (by omega))
   ·rw [Yah hq]
    exact Yak ⟨_,0,rfl,rfl,K,by omega,by omega,D.next O ba (by omega) (by omega) c2,one _ ba hz x (by omega)⟩
  | false =>
   rw [Yah Yag]
   refine Yaf (Fm hc ba (by omega) (by omega) ?_)
   dsimp only
   cases c2:lt (at0 p' (lo+x - 1)) (at0 p' (lo+x)) with
   | true =>
    rw [Yaj rfl]
    exact Yak ⟨_,x,q,rfl,rfl,K,q1,q2,D,e⟩
   | false =>
    rw [Yah Yag]
    refine Yak ⟨_,q+1,rfl,rfl,K,by omega,by omega,D.next O ba (by omega) (by omega) c2,λi j a1 a2 a3 a4=>?_⟩
    by_cases hi:i=lo+x
    ·subst hi
     by_cases hj:j=lo+x
     ·subst hj;exact O.irr (ba _ (by omega))
     ·exact O.tr _ _ _ (ba j (by omega)) (ba (lo+x - 1) (by omega)) (ba (lo+x) (by omega)) (e (lo+x - 1) j (by omega) (by omega) (by omega) (by omega)) c1
    ·by_cases hj:j=lo+x
     ·subst hj
      exact O.tr _ _ _ (ba (lo+x) (by omega)) (ba (lo+x - 1) (by omega)) (ba i (by omega)) c2 (e i (lo+x - 1) (by omega) (by omega) (by omega) (by omega))
     ·exact e i j (by omega) (by omega) (by omega) (by omega)
 ·rintro c ai ⟨p',q,rfl,rfl,K,q1,q2,D,e⟩
  exact⟨p',_,q,rfl,rfl,K,q1,q2,D,e⟩
 ·rintro c ai ⟨p',k,q,rfl,rfl,K,q1,q2,D,e⟩
  have ba:=K.in hp
  have hz:=K.size
  dsimp only
  by_cases hq:q > 0
  ·rw [Yaj hq]
   have K2:Kept p' (rvs p' (lo+k - (q+1)) (lo+k)) lo (lo+am):=(Fc (by omega)).mono (by omega) (by omega)
   refine Yaf (Ou (Tk O hc (K2.in ba) (by omega) q2 (by rw [K2.size];omega) (D.turn (by omega) (by omega) e) λk' qw a1 a2 a3 a4=>hQ k' qw a1 a2 ((K.trans K2).trans a3) a4))
  ·rw [Yah hq]
   exact Tk O hc ba (by omega) q2 (by omega) D λk' qw a1 a2 a3 a4=>hQ k' qw a1 a2 (K.trans a3) a4
theorem We(O:WeakOrd n lt)(hc:Cmp prog w A κ it n lt s)(hp:In n p){lo am:Nat}(h1:1<=am)(hs:lo+am<=p.size){Q:Option Nat->SortSt->Prop}
  (hQ:∀k p',1<=k->k<=am->Kept p p' lo (lo+am)->Seg lt p' lo k->Q (some k) (SS κ it p' pd g)):wpS (model prog w) A E s (countRun' lo am) Q (SS κ it p pd g):=by
 rw [J8]
 refine Yaf (X0 O hc hp (Yad 1) h1 hs (λi j a1 a2 a3=>by omega) (λx k Q' k1 k2 q=>?_) λk k1 k2 k3 k4=>?_)
 ·refine Yaf (Fm hc hp (by omega) (by omega) ?_)
  dsimp only
  have:=q _ rfl
  by_cases e:lt (at0 p (lo+k)) (at0 p (lo+k - 1))=true
  ·rw [Yaj e]at this ⊢;exact Yak this
  ·rw [Yah e]at this ⊢;exact Yak this
 dsimp only
 by_cases e:k=am
 ·rw [Yaj (by simpa using e)]
  exact Yak (hQ k p k1 k2 .refl k3)
 rw [Yah (by simpa using e)]
 have c1:=k4 (by omega)
 have c2:=O.asy _ _ (hp (lo+k) (by omega)) (hp (lo+k - 1) (by omega)) c1
 by_cases e1:k > 1
 ·rw [Yaj e1]
  refine Yaf (Fm hc hp (by omega) (by omega) ?_)
  dsimp only
  cases e2:lt (at0 p lo) (at0 p (lo+k - 1)) with
  | true =>
   rw [Yaj rfl]
   exact Yak (hQ k p k1 k2 .refl k3)
  | false =>
   rw [Yah Yag]
   have K:Kept p (rvs p lo (lo+k)) lo (lo+am):=(Fc (by omega)).mono (Yad _) (by omega)
   have up:∀i j,lo<=i->i<=j->j < lo+k->lt (at0 p j) (at0 p i)=false:=λi j a1 a2 a3=>by
    rcases Ya6 a2 with rfl | a2
    ·exact O.irr (hp _ (by omega))
    ·exact k3 i j a1 a2 a3
   have all:EqS lt p lo (lo+k):=λi j a1 a2 a3 a4 =>
    O.tr _ _ _ (hp j (by omega)) (hp lo (by omega)) (hp i (by omega)) (O.tr _ _ _ (hp j (by omega)) (hp (lo+k - 1) (by omega)) (hp lo (by omega)) (up j (lo+k - 1) a3 (by omega) (by omega)) e2) (up lo i (Yad _) a1 a2)
   have D:Rj lt (rvs p lo (lo+k)) lo k:=λi j a1 a2 a3=>by
    rw [C0 (by omega),C0 (by omega),Yaj ⟨a1,by omega⟩,Yaj ⟨by omega,a3⟩]
    exact all _ _ (by omega) (by omega) (by omega) (by omega)
   refine Yaf (Ou (Tl O hc (K.in hp) k1 (by omega) (by rw [K.size];omega) (D.next O (K.in hp) k1 (by rw [K.size];omega) ?_) λk' qw a1 a2 a3 a4=>hQ k' qw a1 a2 (K.trans a3) a4))
   rw [C0 (by omega),Yaj ⟨by omega,by omega⟩,C0 (by omega),Yah (by omega),show lo+(lo+k) - 1 - (lo+k - 1)=lo by omega]
   exact O.tr _ _ _ (hp _ (by omega)) (hp (lo+k - 1) (by omega)) (hp lo (by omega)) c2 (all lo (lo+k - 1) (Yad _) (by omega) (by omega) (by omega))
 ·rw [Yah e1]
  have k0:k=1:=by omega
  subst k0
  refine Tl O hc hp (Yad 1) (by omega) hs (Rj.next O hp (m:=1) (λi j a1 a2 a3=>by omega) (Yad 1) (by omega) c2) hQ
end
section
variable {prog:Program}{w:World}{A:Around}{E:Value->Shared->Prop}{s:Shared}{κ:SortKind}{it:Array Keyed}{n:Nat}{lt:Nat->Nat->Bool}{p:Array Nat}{pd:Array (Nat×Nat×Nat)}{g:Nat}
theorem Qaa{src d:Nat}(hs:src < p.size)(hd:d<=src)(k:Nat):at0 (bubble p src d) k=if k=src - d then at0 p src else if src - d < k/\k<=src then at0 p (k - 1) else at0 p k:=by
 have e:=getElem?_bubble hs d hd k
 by_cases h1:k=src - d
 ·rw [Yaj h1]at e ⊢;exact Ex e
 ·rw [Yah h1]at e ⊢
  by_cases h2:src - d < k/\k<=src
  ·rw [Yaj h2]at e ⊢;exact Ex e
  ·rw [Yah h2]at e ⊢;exact Ex e
theorem Qab{src og:Nat}{Q:Unit->SortSt->Prop}(h:Q () (SS κ it (bubble p src (src - og)) pd g)):wpS (model prog w) A E s (moveDown' src og) Q (SS κ it p pd g):=by
 rw [moveDown'_eq]
 refine Yc1 ?_
 have e:bubble (p.map (kas_item it)) src (src - og)=(bubble p src (src - og)).map (kas_item it):=kas_swaps_map _ _ _ _ _
 show Q () (SortSt.mk' κ (bubble (p.map (kas_item it)) src (src - og)) pd g none)
 rw [e];exact h
theorem Tm(O:WeakOrd n lt)(hc:Cmp prog w A κ it n lt s)(hp:In n p){lo m ok:Nat}(h1:1<=ok)(hm:ok<=m)(hs:lo+m<=p.size)(h:Seg lt p lo ok){Q:Bool->SortSt->Prop}
  (hQ:∀p',Kept p p' lo (lo+m)->Seg lt p' lo m->Q true (SS κ it p' pd g)):wpS (model prog w) A E s (binarySort' lo m ok) Q (SS κ it p pd g):=by
 rw [binarySort'_eq,Nat.max_eq_left h1]
 refine Yaf (Ych (Ybq (I:=λx c ai=>∃p',ai=SS κ it p' pd g/\c=(none,())/\Kept p p' lo (lo+m)/\Seg lt p' lo x/\x<=m) (Q:=λc ai=>∃p',ai=SS κ it p' pd g/\c=(none,())/\Kept p p' lo (lo+m)/\Seg lt p' lo m) ?_ ?_ ⟨p,rfl,rfl,.refl,h,hm⟩) ?_)
 ·rintro x c ai hx0 hx ⟨p',rfl,rfl,K,S,_⟩
  have ba:=K.in hp
  have hz:=K.size
  refine Yaf (Ych (Ybq (I:=λy c ai=>ai=SS κ it p' pd g/\∃l r,c=(none,l,r)/\l<=r/\r<=x/\r - l<=x - y/\(∀i,i < l->lt (at0 p' (lo+x)) (at0 p' (lo+i))=false)/\(∀i,r<=i->i < x->lt (at0 p' (lo+x)) (at0 p' (lo+i))=true))
   (Q:=λc ai=>ai=SS κ it p' pd g/\∃l,c=(none,l,l)/\l<=x/\(∀i,i < l->lt (at0 p' (lo+x)) (at0 p' (lo+i))=false)/\(∀i,l<=i->i < x->lt (at0 p' (lo+x)) (at0 p' (lo+i))=true)) ?_ ?_ ⟨rfl,0,x,rfl,by omega,Yad _,by omega,λi hi=>absurd hi (Yd3 _),λi a1 a2=>by omega⟩) ?_)
  ·rintro y c ai _ hy ⟨rfl,l,r,rfl,a1,a2,a3,a4,a5⟩
   dsimp only
   by_cases e:l>=r
   ·rw [Yaj e]
    have:l=r:=by omega
    subst this
    exact Yak ⟨rfl,l,rfl,a2,a4,a5⟩
   ·rw [Yah e]
    refine Yaf (Fm hc ba (by omega) (by omega) ?_)
    dsimp only
    cases c1:lt (at0 p' (lo+x)) (at0 p' (lo+(l+r) / 2)) with
    | true =>
     rw [Yaj rfl]
     refine Yak ⟨rfl,l,(l+r) / 2,rfl,by omega,by omega,by omega,a4,λi b1 b2=>?_⟩
     rcases Ya6 b1 with rfl | b1
     ·exact c1
     ·exact O.low (ba _ (by omega)) (ba _ (by omega)) (ba _ (by omega)) c1 (S _ _ (by omega) (by omega) (by omega))
    | false =>
     rw [Yah Yag]
     refine Yak ⟨rfl,(l+r) / 2+1,r,rfl,by omega,by omega,by omega,λi b1=>?_,a5⟩
     rcases Ya6 (show i<=(l+r) / 2 by omega) with rfl | b2
     ·exact c1
     ·exact O.tr _ _ _ (ba _ (by omega)) (ba _ (by omega)) (ba _ (by omega)) (S (lo+i) (lo+(l+r) / 2) (by omega) (by omega) (by omega)) c1
  ·rintro c ai ⟨rfl,l,r,rfl,a1,a2,a3,a4,a5⟩
   have:l=r:=by omega
   subst this
   exact⟨rfl,l,rfl,a2,a4,a5⟩
  ·rintro c ai ⟨rfl,l,rfl,a2,a4,a5⟩
   dsimp only
   refine Yaf (Qab (Yak ?_))
   have ed:lo+x - (lo+l)=x - l:=by omega
   rw [ed]
   have ul:=λk=>Qaa (p:=p') (src:=lo+x) (d:=x - l) (by omega) (by omega) k
   rw [show lo+x - (x - l)=lo+l by omega]at ul
   refine⟨_,rfl,rfl,K.trans ⟨bubble_size _ _ _,(bubble_perm p' _ _).toList,λi hi=>by rw [ul,Yah (by omega),Yah (by omega)]⟩,λi j b1 b2 b3=>?_,by omega⟩
   rw [ul i,ul j]
   by_cases i1:i=lo+l
   ·rw [Yaj i1,Yah (by omega),Yaj (by omega)]
    have:=a5 (j - 1 - lo) (by omega) (by omega)
    rw [show lo+(j - 1 - lo)=j - 1 by omega]at this
    exact O.asy _ _ (ba _ (by omega)) (ba _ (by omega)) this
   ·rw [Yah i1]
    by_cases j1:j=lo+l
    ·rw [Yaj j1,Yah (by omega)]
     have:=a4 (i - lo) (by omega)
     rwa [show lo+(i - lo)=i by omega]at this
    ·rw [Yah j1]
     by_cases i2:lo+l < i/\i<=lo+x
     ·rw [Yaj i2,Yaj (by omega)]
      exact S _ _ (by omega) (by omega) (by omega)
     ·rw [Yah i2]
      by_cases j2:lo+l < j/\j<=lo+x
      ·rw [Yaj j2];exact S _ _ b1 (by omega) (by omega)
      ·rw [Yah j2];exact S _ _ b1 b2 (by omega)
 ·rintro c ai ⟨p',rfl,rfl,K,S,a⟩
  rw [Nat.max_eq_right hm]at S
  exact⟨p',rfl,rfl,K,S⟩
 ·rintro c ai ⟨p',rfl,rfl,K,S⟩
  exact Yak (hQ p' K S)
def Chain:List (Nat×Nat×Nat)->Nat->Nat->Prop
 | [],lo,hi=>lo=hi
 | (a,l,_) :: r,lo,hi=>a=lo/\0 < l/\Chain r (lo+l) hi
theorem Chain.le:∀{l:List (Nat×Nat×Nat)} {lo hi:Nat},Chain l lo hi->lo+l.length<=hi
 | [],_,_,h=>by cases h;simp
 | (a,l,_) :: r,lo,hi,h=>by have:=h.2.2.le;have:=h.2.1;rw [Ybk];omega
theorem Chain.app:∀{l m:List (Nat×Nat×Nat)} {lo hi:Nat},Chain (l++m) lo hi↔∃k,Chain l lo k/\Chain m k hi
 | [],m,lo,hi=>⟨λh=>⟨lo,rfl,h⟩,λ⟨k,e,h⟩=>by cases e;exact h⟩
 | (a,l,q) :: r,m,lo,hi=>by
  constructor
  ·rintro⟨h1,h2,h3⟩
   obtain⟨k,k1,k2⟩:=Chain.app.mp h3
   exact⟨k,⟨h1,h2,k1⟩,k2⟩
  ·rintro⟨k,⟨h1,h2,h3⟩,h4⟩
   exact⟨h1,h2,Chain.app.mpr ⟨k,h3,h4⟩⟩
theorem Chain.low:∀{l:List (Nat×Nat×Nat)} {lo hi:Nat},Chain l lo hi->∀e∈l,lo<=e.1/\e.1+e.2.1<=hi
 | (a,l,q) :: r,lo,hi,h,e,he=>by
  have h3:=h.2.2.le
  rcases Ya1.mp he with rfl | he
  ·exact⟨by rw [h.1];exact Yad _,by show a+l<=hi;rw [h.1];omega⟩
  ·have:=h.2.2.low e he
   exact⟨by have:=h.2.1;omega,this.2⟩
structure Wait(lt:Nat->Nat->Bool)(p:Array Nat)(l:List (Nat×Nat×Nat))(hi:Nat):Prop where
 ch:Chain l 0 hi
 sg:∀e∈l,Seg lt p e.1 e.2.1
theorem Wait.keep{p':Array Nat}{l:List (Nat×Nat×Nat)}{hi top:Nat}(h:Wait lt p l hi)(k:Kept p p' hi top):Wait lt p' l hi:=⟨h.ch,λe he=>(h.sg e he).kept k (.inl (h.ch.low e he).2)⟩
theorem Li{l:List (Nat×Nat×Nat)}{i:Nat}{a b:Nat×Nat×Nat}(h1:l[i]?=some a)(h2:l[i+1]?=some b):l=l.take i++a :: b :: l.drop (i+2):=by
 obtain⟨k1,e1⟩:=List.getElem?_eq_some_iff.mp h1
 obtain⟨k2,e2⟩:=List.getElem?_eq_some_iff.mp h2
 have a1:=(Yek i l).symm
 rw [Ybb k1,Ybb k2,e1,e2]at a1
 exact a1
theorem Wf{pd:Array (Nat×Nat×Nat)}{i:Nat}{a b c:Nat×Nat×Nat}(h1:pd[i]?=some a)(h2:pd[i+1]?=some b):((pd.setIfInBounds i c).eraseIdxIfInBounds (i+1)).toList=pd.toList.take i++c :: pd.toList.drop (i+2):=by
 have zb:pd.toList[i]?=some a:=by rw [Array.getElem?_toList];exact h1
 have y2:pd.toList[i+1]?=some b:=by rw [Array.getElem?_toList];exact h2
 have hi:=(List.getElem?_eq_some_iff.mp zb).1
 have hj:=(List.getElem?_eq_some_iff.mp y2).1
 rw [Array.toList_eraseIdxIfInBounds,Array.toList_setIfInBounds,List.eraseIdx_eq_take_drop_succ,List.take_set,List.drop_set_of_lt (by omega)]
 have e:=Li zb y2
 have hl:(pd.toList.take i).length=i:=by rw [Yb1];omega
 rw [show i+1+1=i+2 by omega]
 have:(pd.toList.take (i+1)).set i c=pd.toList.take i++[c]:=by
  rw [Ycw,zb,List.set_append_right _ _ (by omega),hl,Nat.sub_self];rfl
 rw [this,Ycx];rfl
theorem Ha(O:WeakOrd n lt)(hc:Cmp prog w A κ it n lt s)(hp:In n p){i hi:Nat}(hw:Wait lt p pd.toList hi)(hs:hi<=p.size)(jv:i+1 < pd.size){Q:Bool->SortSt->Prop}
  (h:∀p' ax g',Kept p p' 0 hi->Wait lt p' ax.toList hi->ax.size+1=pd.size->Q true (SS κ it p' ax g')):wpS (model prog w) A E s (mergeAt' i) Q (SS κ it p pd g):=by
 have e1:pd[i]?=some pd[i]:=Array.getElem?_eq_getElem (by omega)
 have e2:pd[i+1]?=some pd[i+1]:=Array.getElem?_eq_getElem jv
 generalize pd[i]'(by omega)=ea at e1
 generalize pd[i+1]=eb at e2
 obtain⟨sa,na,pw⟩:=ea
 obtain⟨sb,nb,sw⟩:=eb
 have l1:pd.toList[i]?=some (sa,na,pw):=by rw [Array.getElem?_toList];exact e1
 have l2:pd.toList[i+1]?=some (sb,nb,sw):=by rw [Array.getElem?_toList];exact e2
 have el:=Li l1 l2
 have di:=hw.ch
 rw [el]at di
 obtain⟨k,c1,c2,c3,c4,c5,c6⟩:=Chain.app.mp di
 subst c2
 subst c4
 have bm:=c6.le
 refine Qj O hc hp e1 e2 c3 c5 (by omega) (hw.sg _ (Yaz l1)) (hw.sg _ (Yaz l2)) λp' g' K S=>?_
 have eu:=Wf (c:=(sa,na+nb,pw)) e1 e2
 refine h p' _ g' (K.mono (Ya4 _) (by omega)) ⟨?_,λe he=>?_⟩ ?_
 ·rw [eu]
  exact Chain.app.mpr ⟨sa,c1,rfl,by omega,by rw [<- Nat.add_assoc];exact c6⟩
 ·rw [eu]at he
  rcases Yat.mp he with he | he
  ·refine(hw.sg e (List.mem_of_mem_take he)).kept K (.inl ?_)
   exact(c1.low e he).2
  ·rcases Ya1.mp he with rfl | he
   ·exact S
   ·refine(hw.sg e (List.mem_of_mem_drop he)).kept K (.inr ?_)
    exact(c6.low e he).1
 ·have:=Ydn List.length eu
  have hz:=Ydn List.length el
  simp only [List.length_append,List.length_cons,Array.length_toList]at this hz
  omega
end
section
variable {prog:Program}{w:World}{A:Around}{E:Value->Shared->Prop}{s:Shared}{κ:SortKind}{it:Array Keyed}{n:Nat}{lt:Nat->Nat->Bool}{p:Array Nat}{pd:Array (Nat×Nat×Nat)}{g:Nat}
theorem Chain.mod{f:Nat×Nat×Nat->Nat×Nat×Nat}(hf:∀e,(f e).1=e.1/\(f e).2.1=e.2.1):∀{l:List (Nat×Nat×Nat)} {i lo hi:Nat},Chain l lo hi->Chain (l.modify i f) lo hi
 | [],i,lo,hi,h=>by rw [List.modify_nil];exact h
 | (a,l,q) :: r,0,lo,hi,h=>by
  rw [List.modify_zero_cons]
  have:=hf (a,l,q)
  generalize f (a,l,q)=e at this
  obtain⟨a',l',q'⟩:=e
  obtain⟨h1,h2⟩:=this
  dsimp only at h1 h2
  subst h1
  subst h2
  exact h
 | (a,l,q) :: r,i+1,lo,hi,h=>by
  rw [List.modify_succ_cons]
  exact⟨h.1,h.2.1,h.2.2.mod hf⟩
theorem Ov{f:Nat×Nat×Nat->Nat×Nat×Nat}:∀{l:List (Nat×Nat×Nat)} {i:Nat} {e:Nat×Nat×Nat},e∈l.modify i f->∃e'∈l,e=e'\/e=f e'
 | [],i,e,h=>by rw [List.modify_nil]at h;cases h
 | a :: r,0,e,h=>by
  rw [List.modify_zero_cons]at h
  rcases Ya1.mp h with rfl | h
  ·exact⟨a,.head _,.inr rfl⟩
  ·exact⟨e,.tail _ h,.inl rfl⟩
 | a :: r,i+1,e,h=>by
  rw [List.modify_succ_cons]at h
  rcases Ya1.mp h with rfl | h
  ·exact⟨e,.head _,.inl rfl⟩
  ·obtain⟨e',h1,h2⟩:=Ov h
   exact⟨e',.tail _ h1,h2⟩
theorem Wait.modify{f:Nat×Nat×Nat->Nat×Nat×Nat}(hf:∀e,(f e).1=e.1/\(f e).2.1=e.2.1){i hi:Nat}(h:Wait lt p pd.toList hi):Wait lt p (pd.modify i f).toList hi:=by
 rw [Array.toList_modify]
 refine⟨h.ch.mod hf,λe he=>?_⟩
 obtain⟨e',h1,h2⟩:=Ov he
 have:=h.sg e' h1
 rcases h2 with rfl | rfl
 ·exact this
 ·rw [(hf e').1,(hf e').2];exact this
theorem Wait.push{lo m:Nat}(h:Wait lt p pd.toList lo)(hm:0 < m)(S:Seg lt p lo m):Wait lt p (pd.push (lo,m,0)).toList (lo+m):=by
 rw [Yc7]
 refine⟨Chain.app.mpr ⟨lo,h.ch,rfl,hm,rfl⟩,λe he=>?_⟩
 rcases Yat.mp he with he | he
 ·exact h.sg e he
 ·rw [Yal.mp he];exact S
theorem Nc(O:WeakOrd n lt)(hc:Cmp prog w A κ it n lt s)(hp:In n p){Q:Unit->SortSt->Prop}(hQ:∀p' ax g',Kept p p' 0 p.size->Seg lt p' 0 p.size->Q () (SS κ it p' ax g')):wpS (model prog w) A E s sortRuns' Q (SS κ it p #[] g):=by
 rw [sortRuns'_eq]
 refine Yaf (Yez ?_)
 have ez:(arrOf (SS κ it p #[] g)).size=p.size:=by show(p.map _).size=_;rw [Yef]
 rw [ez]
 generalize hN:p.size=N at hQ
 dsimp only
 generalize minRun' N N 0=mr
 refine Yaf (Ych (Ybq (I:=λx c ai=>∃p' ax g' lo,ai=SS κ it p' ax g'/\c=(none,lo)/\Kept p p' 0 N/\Wait lt p' ax.toList lo/\lo<=N/\x<=lo) (Q:=λc ai=>∃p' ax g',ai=SS κ it p' ax g'/\c=(none,N)/\Kept p p' 0 N/\Wait lt p' ax.toList N) ?_ ?_ ⟨p,#[],g,0,rfl,rfl,.refl,⟨rfl,λe he=>by simp at he⟩,Ya4 _,Yad _⟩) ?_)
 ·rintro x c ai _ hx ⟨p',ax,g',lo,rfl,rfl,K,W,hlo,hxl⟩
  have ba:=K.in hp
  have hz:=K.size
  dsimp only
  by_cases e:lo>=N
  ·rw [Yaj e]
   have:lo=N:=by omega
   subst this
   exact Yak ⟨p',ax,g',rfl,rfl,K,W⟩
  rw [Yah e]
  refine Yaf (We O hc ba (show 1<=N - lo by omega) (by omega) λk p1 k1 k2 K1 S1=>?_)
  rw [show lo+(N - lo)=N by omega]at K1
  dsimp only
  have yes:∀(p2:Array Nat) (fz:Array (Nat×Nat×Nat)) (g2 m:Nat),Kept p p2 0 N->Wait lt p2 fz.toList lo->Seg lt p2 lo m->1<=m->lo+m<=N ->
    ∃p' ax g' jq,SS κ it p2 (fz.push (lo,m,0)) g2=SS κ it p' ax g'/\((none:Option Unit),lo+m)=(none,jq)/\Kept p p' 0 N/\Wait lt p' ax.toList jq/\jq<=N/\x+1<=jq:=λp2 fz g2 m K2 W2 S2 m1 m2=>⟨p2,_,g2,lo+m,rfl,rfl,K2,W2.push m1 S2,m2,by omega⟩
  by_cases e1:k < mr
  ·rw [Yaj e1]
   refine Yaf (wpS_lift (Ycb ⟨rfl,?_⟩))
   refine Yaf (Tm O hc (K1.in ba) k1 (m:=min (N - lo) mr) (by omega) (by rw [K1.size];omega) S1 λp2 Kb S2=>?_)
   rw [Yah (show ¬(!true)=true by decide)]
   have K2:Kept p p2 0 N:=(K.trans (K1.mono (Ya4 _) (Yad _))).trans (Kb.mono (Ya4 _) (by omega))
   have W2:Wait lt p2 ax.toList lo:=(W.keep K1).keep Kb
   refine Yaf (Yez ?_)
   show wpS _ _ _ _ (match ax.back? with
    | some (s1,n1,_)=>_
    | _=>_) _ _
   cases eb:ax.back? with
   | none =>
    dsimp only
    exact Yaf (Yc1 (Yak (yes p2 ax g' _ K2 W2 S2 (by omega) (by omega))))
   | some e =>
    obtain⟨s1,n1,q1⟩:=e
    dsimp only
    refine Yaf (Ych (Ybq (I:=λ_ c ai=>∃p3 bi g3,ai=SS κ it p3 bi g3/\c=(none,())/\Kept p2 p3 0 lo/\Wait lt p3 bi.toList lo) (Q:=λc ai=>∃p3 bi g3,ai=SS κ it p3 bi g3/\c=(none,())/\Kept p2 p3 0 lo/\Wait lt p3 bi.toList lo) ?_ (λ_ _ z=>z) ⟨p2,ax,g',rfl,rfl,.refl,W2⟩) ?_)
    ·rintro y c ai _ _ ⟨p3,bi,g3,rfl,rfl,K3,W3⟩
     refine Yaf (Yez ?_)
     have fg:=K3.in (K2.in hp)
     have z3:p3.size=N:=by rw [K3.size,K2.size,hN]
     have m6:pendingOf (SS κ it p3 bi g3)=bi:=rfl
     rw [m6]
     by_cases c1:bi.size > 1
     ·rw [Yaj c1,Array.getElem?_eq_getElem (by omega)]
      generalize bi[bi.size - 2]'(by omega)=e3
      obtain⟨u1,u2,u3⟩:=e3
      dsimp only
      by_cases c2:u3<=power' N (2 * s1+n1) (2 * s1+n1+n1+min (N - lo) mr) N
      ·rw [Yaj c2]
       exact Yak ⟨p3,bi,g3,rfl,rfl,K3,W3⟩
      ·rw [Yah c2]
       refine Yaf (Ha O hc fg (i:=bi.size - 2) W3 (by omega) (by omega) λp4 xy g4 K4 W4 _=>?_)
       rw [Yah (show ¬(!true)=true by decide)]
       exact Yak ⟨p4,xy,g4,rfl,rfl,K3.trans K4,W4⟩
     ·rw [Yah c1]
      exact Yak ⟨p3,bi,g3,rfl,rfl,K3,W3⟩
    ·rintro c ai ⟨p3,bi,g3,rfl,rfl,K3,W3⟩
     dsimp only
     refine Yaf (Yc1 (Yaf (Yc1 (Yak ?_))))
     exact yes p3 _ g3 _ (K2.trans (K3.mono (Yad _) (by omega))) (Wait.modify (i:=bi.size - 1) (f:=λx=>(x.1,x.2.1,power' N (2 * s1+n1) (2 * s1+n1+n1+min (N - lo) mr) N)) (λe=>⟨rfl,rfl⟩) W3) (S2.kept K3 (.inr (Yad _))) (by omega) (by omega)
  ·rw [Yah e1]
   obtain⟨p2,e2⟩:∃p2,p2=p1:=⟨_,rfl⟩
   subst e2
   have S2:=S1
   have K2:Kept p p2 0 N:=K.trans (K1.mono (Ya4 _) (Yad _))
   have W2:Wait lt p2 ax.toList lo:=W.keep K1
   refine Yaf (Yez ?_)
   show wpS _ _ _ _ (match ax.back? with
    | some (s1,n1,_)=>_
    | _=>_) _ _
   cases eb:ax.back? with
   | none =>
    dsimp only
    exact Yaf (Yc1 (Yak (yes p2 ax g' _ K2 W2 S2 k1 (by omega))))
   | some e =>
    obtain⟨s1,n1,q1⟩:=e
    dsimp only
    refine Yaf (Ych (Ybq (I:=λ_ c ai=>∃p3 bi g3,ai=SS κ it p3 bi g3/\c=(none,())/\Kept p2 p3 0 lo/\Wait lt p3 bi.toList lo) (Q:=λc ai=>∃p3 bi g3,ai=SS κ it p3 bi g3/\c=(none,())/\Kept p2 p3 0 lo/\Wait lt p3 bi.toList lo) ?_ (λ_ _ z=>z) ⟨p2,ax,g',rfl,rfl,.refl,W2⟩) ?_)
    ·rintro y c ai _ _ ⟨p3,bi,g3,rfl,rfl,K3,W3⟩
     refine Yaf (Yez ?_)
     have fg:=K3.in (K2.in hp)
     have z3:p3.size=N:=by rw [K3.size,K2.size,hN]
     have m6:pendingOf (SS κ it p3 bi g3)=bi:=rfl
     rw [m6]
     by_cases c1:bi.size > 1
     ·rw [Yaj c1,Array.getElem?_eq_getElem (by omega)]
      generalize bi[bi.size - 2]'(by omega)=e3
      obtain⟨u1,u2,u3⟩:=e3
      dsimp only
      by_cases c2:u3<=power' N (2 * s1+n1) (2 * s1+n1+n1+k) N
      ·rw [Yaj c2]
       exact Yak ⟨p3,bi,g3,rfl,rfl,K3,W3⟩
      ·rw [Yah c2]
       refine Yaf (Ha O hc fg (i:=bi.size - 2) W3 (by omega) (by omega) λp4 xy g4 K4 W4 _=>?_)
       rw [Yah (show ¬(!true)=true by decide)]
       exact Yak ⟨p4,xy,g4,rfl,rfl,K3.trans K4,W4⟩
     ·rw [Yah c1]
      exact Yak ⟨p3,bi,g3,rfl,rfl,K3,W3⟩
    ·rintro c ai ⟨p3,bi,g3,rfl,rfl,K3,W3⟩
     dsimp only
     refine Yaf (Yc1 (Yaf (Yc1 (Yak ?_))))
     exact yes p3 _ g3 _ (K2.trans (K3.mono (Yad _) (by omega))) (Wait.modify (i:=bi.size - 1) (f:=λx=>(x.1,x.2.1,power' N (2 * s1+n1) (2 * s1+n1+n1+k) N)) (λe=>⟨rfl,rfl⟩) W3) (S2.kept K3 (.inr (Yad _))) k1 (by omega)
 ·rintro c ai ⟨p',ax,g',lo,rfl,rfl,K,W,hlo,hxl⟩
  have:lo=N:=by omega
  subst this
  exact⟨p',ax,g',rfl,rfl,K,W⟩
 ·rintro c ai ⟨p',ax,g',rfl,rfl,K,W⟩
  dsimp only
  have h0:ax.size<=N:=by have:=W.ch.le;rw [Yax]at this;omega
  refine Yaf (Ych (Ybq (I:=λx c ai=>∃p' ax g',ai=SS κ it p' ax g'/\c=(none,())/\Kept p p' 0 N/\Wait lt p' ax.toList N/\(ax.size<=1\/ax.size+x<=N)) (Q:=λc ai=>∃p' ax g',ai=SS κ it p' ax g'/\c=(none,())/\Kept p p' 0 N/\Wait lt p' ax.toList N/\ax.size<=1) ?_ ?_ ⟨p',ax,g',rfl,rfl,K,W,.inr (by omega)⟩) ?_)
  ·clear K W h0
   rintro x c ai _ hx ⟨p',ax,g',rfl,rfl,K,W,hsz⟩
   refine Yaf (Yez ?_)
   have m6:pendingOf (SS κ it p' ax g')=ax:=rfl
   rw [m6]
   by_cases e1:ax.size<=1
   ·rw [Yaj e1]
    exact Yak ⟨p',ax,g',rfl,rfl,K,W,e1⟩
   rw [Yah e1]
   have go:∀i,i+1 < ax.size->wpS (model prog w) A E s (mergeAt' i) (λb ai=>b=true/\∃p2 fz g2,ai=SS κ it p2 fz g2/\Kept p p2 0 N/\Wait lt p2 fz.toList N/\(fz.size<=1\/fz.size+(x+1)<=N)) (SS κ it p' ax g'):=λi hi =>
    Ha O hc (K.in hp) W (by rw [K.size];omega) hi λp2 fz g2 K2 W2 hz2=>⟨rfl,p2,fz,g2,rfl,K.trans K2,W2,by omega⟩
   refine Yaf (Ych (go _ ?_) ?_)
   ·have lem:∀(c:Prop) [Decidable c],(if c then ax.size - 2 - 1 else ax.size - 2)+1 < ax.size:=λc _=>by
     by_cases h:c
     ·rw [Yaj h];omega
     ·rw [Yah h];omega
    exact lem _
   ·rintro b ai ⟨rfl,p2,fz,g2,rfl,K2,W2,h2⟩
    rw [Yah (show ¬(!true)=true by decide)]
    exact Yak ⟨p2,fz,g2,rfl,rfl,K2,W2,h2⟩
  ·rintro c ai ⟨p',ax,g',rfl,rfl,K,W,hsz⟩
   exact⟨p',ax,g',rfl,rfl,K,W,by omega⟩
  ·clear K W h0
   rintro c ai ⟨p',ax,g',rfl,rfl,K,W,hsz⟩
   refine Yak (hQ p' ax g' K ?_)
   have di:=W.ch
   have hsg:=W.sg
   rw [<- Yax]at hsz
   generalize ax.toList=l at di hsg hsz
   match l,di,hsg,hsz with
   | [],h,_,_=>cases h;exact λi j _ _ h3=>by omega
   | [(a,m,q)],h,hs,_ =>
    obtain⟨h1,h2,h3⟩:=h
    have:=hs (a,m,q) (.head _)
    have h3:0+m=N:=h3
    rw [h1,show m=N by omega]at this
    exact this
   | _ :: _ :: _,_,_,h=>simp at h
theorem StrictOrd.weak(O:StrictOrd n lt):WeakOrd n lt:=by
 have asy:∀a b,a < n->b < n->lt a b=true->lt b a=false:=λa b ha hb h=>by
  cases c:lt b a with
  | false=>rfl
  | true =>
   have:=O.tr a b a ha hb ha h c
   rw [O.irr a ha]at this;cases this
 refine⟨λa b c ha hb hc h1 h2=>?_,asy⟩
 by_cases e1:b=a
 ·subst e1;exact h2
 by_cases e2:c=b
 ·subst e2;exact h1
 exact asy a c ha hc (O.tr a b c ha hb hc (O.tot b a hb ha e1 h1) (O.tot c b hc hb e2 h2))
theorem StrictOrd.up(O:StrictOrd n lt)(P:Pm n p)(h:UpW lt p n):Up lt p n:=λi j de hj=>O.tot _ _ (P.lt j hj) (P.lt i (by omega)) (P.inj j i hj (by omega) (by omega)) (h i j de hj)
theorem Wg{vs:List Value}{lt:Nat->Nat->Bool}(O:WeakOrd vs.length lt){κ:SortKind}(q2:∀i j C,i < vs.length->j < vs.length->C (lt i j) s->kas_ask prog w A κ vs i j C s){Q:SortSt->Shared->Prop}
  (hQ:∀(p:Array Nat) (st:SortSt),Pm vs.length p->UpW lt p vs.length->arrOf st=p.map (kas_item (vs.toArray.zip vs.toArray))->failedOf st=none->Q st s) :
  wpAny (model prog w) A ((sortRuns').run (SortSt.mk' κ (vs.toArray.zip vs.toArray) #[] 7 none)) (λr s'=>Q r.2 s') E s:=by
 have hsz:(vs.toArray.zip vs.toArray).size=vs.length:=by simp
 have est:SortSt.mk' κ (vs.toArray.zip vs.toArray) #[] 7 none=SS κ (vs.toArray.zip vs.toArray) (List.toArray (List.range vs.length)) #[] 7:=by
  have e:=kas_range (vs.toArray.zip vs.toArray)
  rw [hsz]at e
  show SortSt.mk' κ (vs.toArray.zip vs.toArray) #[] 7 none=SortSt.mk' κ ((List.toArray (List.range vs.length)).map (kas_item (vs.toArray.zip vs.toArray))) #[] 7 none
  rw [e]
 rw [est]
 have hc:Cmp prog w A κ (vs.toArray.zip vs.toArray) vs.length lt s:=λi j C hi hj h=>by
  have:=q2 i j C hi hj h
  rwa [kat_ask_eq rfl]at this
 have ck:In vs.length (List.toArray (List.range vs.length)):=λi hi=>by
  simp at hi
  simp [at0,Array.getD,hi]
 have vg:(List.toArray (List.range vs.length)).size=vs.length:=by simp
 have:=Nc (E:=E) (g:=7) O hc ck (Q:=λ_ st=>Q st s) λp' ax g' K S=>by
  have P:Pm vs.length p':=Xs (by have:=K.perm;simpa using this)
  refine hQ p' _ P (λi j de hj=>?_) rfl rfl
  exact S i j (Ya4 _) de (by rw [vg];omega)
 refine Ybw this (λr s' h=>?_) λ_ _ e=>e
 obtain⟨rfl,h⟩:=h
 exact h
end
end L2
namespace L2
open PySem
def Qac(A:Around)(s:Shared)(u v:Value)(b:Bool):Prop:=∀(prog:Program) (w:World) (E:Value->Shared->Prop) (Q:Value->Shared->Prop),Q (.bool b) s->wpAny (model prog w) A (richCompare .Lt u v) Q E s
inductive LexAt (A:Around) (s:Shared):List Value->List Value->Bool->Prop
 | nil {ys:List Value}:LexAt A s [] ys (decide (0 < ys.length))
 | stop {x:Value} {xs:List Value}:LexAt A s (x :: xs) [] false
 | eq {x y:Value} {xs ys:List Value} {r:Bool}:SeqAt.EqAt A s x y true->LexAt A s xs ys r->LexAt A s (x :: xs) (y :: ys) r
 | ne {x y:Value} {xs ys:List Value} {r:Bool}:SeqAt.EqAt A s x y false->Qac A s x y r->LexAt A s (x :: xs) (y :: ys) r
section
variable {prog:Program}{w:World}{A:Around}{E:Value->Shared->Prop}{s:Shared}
theorem LexAt.ends{xs ys:List Value}{r:Bool}(h:LexAt A s xs ys r)(e:xs.zip ys=[]):r=decide (xs.length < ys.length):=by
 cases h with
 | nil=>simp
 | stop=>simp
 | eq=>simp at e
 | ne=>simp at e
theorem Hy{a b:Addr}{oa ob:Obj}{xs ys:Array Value}{n k:Nat}{P:PySem.Fin->Shared->Prop}{r:Bool}(ha:s.heap.get? a=some oa)(hb:s.heap.get? b=some ob)(cb:ob.cls=.type "tuple") (da:oa.data=.seq xs n) (db:ob.data=.seq ys k)
  (h:LexAt A s xs.toList ys.toList r) (q:P (.done (.ret (.bool r))) s):wpAny (model prog w) A (Builtin.«tuple.__lt__» ⟨[.ref a,.ref b],[]⟩) P E s:=by
 have tb:s.TypeIs (.ref b) "tuple" := ⟨ob,hb,cb⟩
 refine(show wpAny _ _ (isInstance (.ref b) (.type "tuple") >>= _) _ _ s from Yaa (Yc2 tb isSubtype_tuple_tuple ?_))
 rw [show(!true)=false from rfl,Yah Yag]
 refine Yaa (wpAny_tupleItemsOf ha da (Yaa (wpAny_tupleItemsOf hb db (Yaa ?_))))
 refine wpAny_forIn_list _ (λleft af s1=>af.1=none/\s1=s/\∃us vs,left=List.zip us vs/\LexAt A s us vs r/\decide (us.length < vs.length)=decide (xs.size < ys.size)) _ ?_ ?_ _ _ ⟨rfl,rfl,xs.toList,ys.toList,rfl,h,by simp⟩
 ·rintro⟨u,v⟩ left af s1 ⟨ea,rfl,us,vs,ez,hl,hn⟩
  cases hl with
  | nil=>simp at ez
  | stop=>simp at ez
  | eq h1 h2 =>
   simp only [List.zip_cons_cons,List.cons.injEq,Prod.mk.injEq]at ez
   obtain⟨⟨rfl,rfl⟩,rfl⟩:=ez
   refine Yaa (h1 prog w _ _ ?_)
   dsimp only
   rw [show(!true)=false from rfl,Yah Yag]
   exact Yab ⟨rfl,rfl,_,_,rfl,h2,by simpa using hn⟩
  | ne h1 h2 =>
   simp only [List.zip_cons_cons,List.cons.injEq,Prod.mk.injEq]at ez
   obtain⟨⟨rfl,rfl⟩,rfl⟩:=ez
   refine Yaa (h1 prog w _ _ ?_)
   simp only [Bool.not_false,if_true]
   exact Yaa (Ycb (Yaa (h2 prog w _ _ (Yaa (Yab (Yab (Yab q)))))))
 ·rintro⟨a1,a2⟩ s1 ⟨ea,rfl,us,vs,ez,hl,hn⟩
  simp only at ea
  subst ea
  have e:=hl.ends ez.symm
  rw [e,hn]at q
  exact Yab q
theorem Nd{a b:Addr}{oa ob:Obj}{xs ys:Array Value}{n k:Nat}{r:Bool}(ha:s.heap.get? a=some oa)(hb:s.heap.get? b=some ob)(ca:oa.cls=.type "tuple") (cb:ob.cls=.type "tuple") (da:oa.data=.seq xs n) (db:ob.data=.seq ys k)
  (hu:A.units < cLine) (h:LexAt A.in1 s xs.toList ys.toList r):Qac A s (.ref a) (.ref b) r:=λprog w E Q q =>
 wpAny_richCompare_same_room (T := "tuple") ⟨oa,ha,ca⟩ ⟨ob,hb,cb⟩ F.slot_tuple_lt (Ya3 F.slot_tuple_lt ⟨oa,ha,ca⟩ F.entry_tuple_lt (Hy ha hb cb da db h ⟨_,rfl,(λz=>nomatch z),q⟩) (F.args_tuple_lt_2 _ _)) hu
end
mutual
def cmpb:PyData->PyData->Bool
 | .int _,.int _=>true
 | .tuple xs,.tuple ys=>cmpbs xs ys
 | _,_=>false
def cmpbs:List PyData->List PyData->Bool
 | [],_=>true
 | _ :: _,[]=>true
 | x :: xs,y :: ys=>if PyData.eqv x y then cmpbs xs ys else cmpb x y
end
theorem Tn{u a b c d:Nat}(h:u+min (max a b) (max c d) < cLine):u+min a c < cLine:=by omega
theorem Qad{u a b c d:Nat}(h:u+min (max a b) (max c d) < cLine):u+min b d < cLine:=by omega
mutual
theorem Nf:∀(x y:PyData) (A:Around) (s:Shared) (u v:Value) (as bs:List Addr),Reads s.heap u x as->Reads s.heap v y bs->x.canLay0=true->y.canLay0=true->cmpb x y=true->A.units+min x.depth y.depth < cLine->Qac A s u v (Fy x y)
 | .int a,.int b,A,s,u,v,as,bs,r1,r2,_,_,_,_=>by
  cases r1;cases r2
  intro prog w E Q q
  have e:Fy (.int a) (.int b)=decide (a < b):=by simp [Fy]
  rw [e]at q
  exact wpAny_lt_int q
 | .tuple xs,.tuple ys,A,s,u,v,as,bs,r1,r2,c1,c2,hc,hu=>by
  cases r1 with
  | tuple a1 a2 a3 a4 =>
   cases r2 with
   | tuple b1 b2 b3 b4 =>
    have e:Fy (.tuple xs) (.tuple ys)=Cj xs ys:=by simp [Fy]
    rw [e]
    simp only [PyData.canLay0]at c1 c2
    simp only [cmpb]at hc
    simp only [PyData.depth]at hu
    refine Nd a1 b1 a2 b2 a3 b3 (by omega) (D7 xs ys A.in1 s _ _ _ _ a4 b4 c1 c2 hc ?_)
    show A.units+1+_ < _
    omega
 | .int _,.none,_,_,_,_,_,_,_,_,_,_,h,_=>by simp [cmpb]at h
 | .int _,.bool _,_,_,_,_,_,_,_,_,_,_,h,_=>by simp [cmpb]at h
 | .int _,.str _,_,_,_,_,_,_,_,_,_,_,h,_=>by simp [cmpb]at h
 | .int _,.list _,_,_,_,_,_,_,_,_,_,_,h,_=>by simp [cmpb]at h
 | .int _,.tuple _,_,_,_,_,_,_,_,_,_,_,h,_=>by simp [cmpb]at h
 | .int _,.dict _,_,_,_,_,_,_,_,_,_,_,h,_=>by simp [cmpb]at h
 | .tuple _,.none,_,_,_,_,_,_,_,_,_,_,h,_=>by simp [cmpb]at h
 | .tuple _,.bool _,_,_,_,_,_,_,_,_,_,_,h,_=>by simp [cmpb]at h
 | .tuple _,.str _,_,_,_,_,_,_,_,_,_,_,h,_=>by simp [cmpb]at h
 | .tuple _,.list _,_,_,_,_,_,_,_,_,_,_,h,_=>by simp [cmpb]at h
 | .tuple _,.int _,_,_,_,_,_,_,_,_,_,_,h,_=>by simp [cmpb]at h
 | .tuple _,.dict _,_,_,_,_,_,_,_,_,_,_,h,_=>by simp [cmpb]at h
 | .none,_,_,_,_,_,_,_,_,_,_,_,h,_=>by simp [cmpb]at h
 | .bool _,_,_,_,_,_,_,_,_,_,_,_,h,_=>by simp [cmpb]at h
 | .str _,_,_,_,_,_,_,_,_,_,_,_,h,_=>by simp [cmpb]at h
 | .list _,_,_,_,_,_,_,_,_,_,_,_,h,_=>by simp [cmpb]at h
 | .dict _,_,_,_,_,_,_,_,_,_,_,_,h,_=>by simp [cmpb]at h
theorem D7:∀(xs ys:List PyData) (A:Around) (s:Shared) (us vs:List Value) (as bs:List Addr),ReadsAll s.heap us xs as->ReadsAll s.heap vs ys bs->PyData.canLayAll0 xs=true->PyData.canLayAll0 ys=true->cmpbs xs ys=true->A.units+min (PyData.depthAll xs) (PyData.depthAll ys) < cLine->LexAt A s us vs (Cj xs ys)
 | [],ys,A,s,us,vs,as,bs,r1,r2,_,_,_,_=>by
  cases r1
  have e:Cj [] ys=decide (0 < vs.length):=by
   cases r2 <;> simp [Cj]
  rw [e]
  exact .nil
 | x :: xs,[],A,s,us,vs,as,bs,r1,r2,_,_,_,_=>by
  cases r2
  cases r1 with
  | cons a1 a2 =>
   have e:Cj (x :: xs) []=false:=by simp [Cj]
   rw [e]
   exact .stop
 | x :: xs,y :: ys,A,s,us,vs,as,bs,r1,r2,c1,c2,hc,hu=>by
  simp only [PyData.canLayAll0,Bool.and_eq_true]at c1 c2
  simp only [PyData.depthAll]at hu
  cases r1 with
  | cons a1 a2 =>
   cases r2 with
   | cons b1 b2 =>
    have q:=SeqAt.eqAt_reads x y A s _ _ _ _ a1 b1 c1.1 c2.1 (Tn hu)
    simp only [cmpbs]at hc
    simp only [Cj]
    cases e:PyData.eqv x y with
    | true =>
     rw [e]at q hc
     exact .eq q (D7 xs ys A s _ _ _ _ a2 b2 c1.2 c2.2 hc (Qad hu))
    | false =>
     rw [e]at q hc
     exact .ne q (Nf x y A s _ _ _ _ a1 b1 c1.1 c2.1 hc (Tn hu))
end
end L2
namespace L2
open PySem PySem.W PyProof.Rows
section
variable {prog:Program}{w:World}{A:Around}{E:Value->Shared->Prop}{s:Shared}
theorem Wh{ar b:Bool}{Q:Bool->Shared->Prop}:∀{us vs:List Value} {r:Bool},LexAt A s us vs r->ar=decide (us.length < vs.length)->∀i,Q r s->KatLex prog w A b ar Q (us.zip vs) (i+1) s:=by
 intro us vs r h
 induction h with
 | nil =>
  intro e i q
  have e':ar=decide (0 < _):=e
  rw [<- e']at q
  exact kat_nil q
 | stop =>
  intro e i q
  have e':ar=false:=by rw [e];simp
  rw [<- e']at q
  exact kat_nil q
 | eq h1 h2 ih =>
  intro e i q
  exact kat_cons (h1 prog w _ _ (kat_yes (ih (by rw [e];simp) (i+1) q)))
 | ne h1 h2 =>
  intro e i q
  refine kat_cons (h1 prog w _ _ (kat_no ?_))
  have eb:(b && i+1==0)=false:=by simp
  rw [eb]
  exact kat_one _ _ (h2 prog w _ _ (show PySem.W.BoolBack Q (.bool _) s from q))
theorem Qae{x y:Addr}{a b:Int}{ra rb:List PyData}{as bs:List Addr}{Q:Bool->Shared->Prop}(r1:Reads s.heap (.ref x) (.tuple (.int a :: ra)) as)(r2:Reads s.heap (.ref y) (.tuple (.int b :: rb)) bs)(c1:(PyData.tuple (.int a :: ra)).canLay0=true)(c2:(PyData.tuple (.int b :: rb)).canLay0=true)
  (hc:cmpb (.tuple (.int a :: ra)) (.tuple (.int b :: rb))=true) (hu:A.units+64 < cLine) (hd:(PyData.tuple (.int a :: ra)).depth<=64) (q:Q (Fy (.tuple (.int a :: ra)) (.tuple (.int b :: rb))) s):wpAny (model prog w) A (keyLt' (tuples' true) (.ref x) (.ref y)) Q E s:=by
 cases r1 with
 | @tuple _ ox xs n _ _ a1 a2 a3 a4 =>
  cases r2 with
  | @tuple _ oy ys m _ _ b1 b2 b3 b4 =>
   refine kat_lt a1 a3 b1 b3 ?_
   simp only [PyData.canLay0,PyData.canLayAll0,Bool.and_eq_true]at c1 c2
   simp only [PyData.depth,PyData.depthAll]at hd
   simp only [cmpb,cmpbs]at hc
   simp only [Fy,Cj]at q
   have ex:xs.size=xs.toList.length:=by simp
   have ey:ys.size=ys.toList.length:=by simp
   rw [ex,ey]
   generalize xs.toList=us at a4 ⊢
   generalize ys.toList=vs at b4 ⊢
   cases a4 with
   | cons u1 u2 =>
    cases b4 with
    | cons v1 v2 =>
     cases u1 with
     | int _ t =>
      cases v1 with
      | int _ t' =>
       rw [List.zip_cons_cons]
       have e0:=SeqAt.eqAt_reads (.int a) (.int b) A s _ _ _ _ (.int a t) (.int b t') rfl rfl (by simp [PyData.depth];omega)
       cases e:PyData.eqv (.int a) (.int b) with
       | true =>
        rw [e]at e0 hc q
        refine kat_cons (e0 prog w _ _ (kat_yes ?_))
        refine Wh (D7 ra rb A s _ _ _ _ u2 v2 c1.2 c2.2 hc (by omega)) (by simp) 0 q
       | false =>
        rw [e]at e0 hc q
        refine kat_cons (e0 prog w _ _ (kat_no ?_))
        exact kat_lt_int q
theorem D8{a:Addr}{vs:List Value}{lt:Nat->Nat->Bool}{n:Nat}{P:PySem.Fin->Shared->Prop}(ho:s.heap.get? a=some (seqObj "list" vs.toArray n)) (ij:vs.length < 1000) (O:StrictOrd vs.length lt)
  (hk:2<=vs.length->∀h':Heap,(∀b o,b≠a->s.heap.get? b=some o->h'.get? b=some o)->∃ κ,(∀Q:SortKind->Shared->Prop,Q κ { s with heap:=h' }->wpAny (model prog w) A (keyKind' vs.toArray) Q E { s with heap:=h' }) /\
   ∀i j C,i < vs.length->j < vs.length->C (lt i j) { s with heap:=h' }->kas_ask prog w A κ vs i j C { s with heap:=h' })
  (h:∀(p:Array Nat) (h':Heap) (c:Nat),Pm vs.length p->Up lt p vs.length->(∀b o,b≠a->s.heap.get? b=some o->h'.get? b=some o)->h'.get? a=some (seqObj "list" (p.toList.map λi=>vs.getD i Value.none).toArray c)->P (.done (.ret .none)) { s with heap:=h' }) :
  wpAny (model prog w) A (Builtin.«list.sort» ⟨[.ref a],[]⟩) P E s:=by
 obtain⟨e1,sv⟩:∃e1,(s.heap.update a (Obj.mapSeq λ_=>(#[]:Array Value))).get? a=some (seqObj "list" #[] e1):=⟨_,get?_update_seq ho λ_=>#[]⟩
 have sz:vs.toArray.size<=sizeLine:=by rw [Yar];exact Yaq (Ybu ij) (by decide)
 have k2:∀b o,b≠a->s.heap.get? b=some o->(((s.heap.update a (Obj.mapSeq λ_=>(#[]:Array Value))).push (seqObj "tuple" vs.toArray 0)).push (seqObj "list" #[] 0)).get? b=some o:=λb o hb e =>
  Heap.get?_push_of_some _ (Heap.get?_push_of_some _ (((Ybs s.heap a _).2 b hb).trans e))
 have cj:(((s.heap.update a (Obj.mapSeq λ_=>(#[]:Array Value))).push (seqObj "tuple" vs.toArray 0)).push (seqObj "list" #[] 0)).get? a=some (seqObj "list" #[] e1):=Heap.get?_push_of_some _ (Heap.get?_push_of_some _ sv)
 rw [list_sort_plain]
 refine Yaa (listItems_at ho rfl (Yaa (listUpdate_at ho rfl (Yaa (seqEpoch_at sv rfl (Yaa (wpAny_newTuple (Yaa (wpAny_newList (Ybf ?_) (Ya4 _))) (by simpa using sz))))) sz (Ya4 _))))
 show wpAny (model prog w) A _ P E { s with heap:=(((s.heap.update a (Obj.mapSeq λ_=>(#[]:Array Value))).push (seqObj "tuple" vs.toArray 0)).push (seqObj "list" #[] 0)) }
 generalize ((s.heap.update a (Obj.mapSeq λ_=>(#[]:Array Value))).push (seqObj "tuple" vs.toArray 0)).push (seqObj "list" #[] 0)=h2 at k2 cj ⊢
 dsimp only
 have ar:∀(st:SortSt) (p:Array Nat),(arrOf st).map (·.2)=List.toArray (p.toList.map λi=>vs.getD i Value.none)->failedOf st=none->Pm vs.length p->Up lt p vs.length->∀Q:Heap->Prop,(∀(h':Heap) (c:Nat),(∀b o,b≠a->s.heap.get? b=some o->h'.get? b=some o)->h'.get? a=some (seqObj "list" (p.toList.map λi=>vs.getD i Value.none).toArray c)->Q h') ->
   Q (h2.update a (Obj.mapSeq λ_=>(arrOf st).map (·.2))):=λst p e _ _ _ Q q=>by
  rw [e]
  exact q _ _ (λb o hb eb=>((Ybs h2 a _).2 b hb).trans (k2 b o hb eb)) (get?_update_seq cj _)
 by_cases h1:vs.toArray.size < 2
 ·rw [Yaj h1,Yaj h1]
  refine Yaa (Yab ?_)
  rw [StateT.run_pure]
  have pm:Pm vs.length (List.range vs.length).toArray:=Xs (by simp)
  have up:Up lt (List.range vs.length).toArray vs.length:=λi j de hj=>by
   rw [Yar]at h1
   omega
  have ev:(arrOf (SortSt.mk' general' (vs.toArray.zip vs.toArray) #[] 7 none)).map (·.2)=List.toArray ((List.range vs.length).toArray.toList.map λi=>vs.getD i Value.none):=by
   have ek:=kat_snds (ks:=vs) (vs:=vs) (st:=SortSt.mk' general' (vs.toArray.zip vs.toArray) #[] 7 none) (p:=(List.range vs.length).toArray) rfl (by
    have e:=kas_range (vs.toArray.zip vs.toArray)
    rw [show(vs.toArray.zip vs.toArray).size=vs.length by simp]at e
    exact e.symm)
   exact ek
  have fn:=ar _ _ ev rfl pm up (λh'=>P (.done (.ret .none)) { s with heap:=h' }) (λh' c k e=>h _ h' c pm up k e)
  refine Yaa (Yab (Yaa (seqEpoch_at cj rfl (Yaa (listUpdate_at cj rfl ?_ (Ya4 _) ?_)))))
  ·rw [show failedOf (SortSt.mk' general' (vs.toArray.zip vs.toArray) #[] 7 none)=none from rfl,bne_self_eq_false,Yah Yag]
   exact Yab fn
  ·refine Yaq ?_ (Yeb sz)
   show(Array.map _ _).size<=_
   rw [ev];simp
 ·rw [Yah h1,Yah h1]
  have kf:2<=vs.length:=by rw [Yar]at h1;omega
  obtain⟨κ,q1,q2⟩:=hk kf h2 k2
  refine Yaa (q1 _ ?_)
  refine Yaa (Ybw (Wg O.weak q2 (Q:=λst s1=>s1={ s with heap:=h2 }/\∃p:Array Nat,(arrOf st).map (·.2)=List.toArray (p.toList.map λi=>vs.getD i Value.none)/\failedOf st=none/\Pm vs.length p/\Up lt p vs.length)
   λp st pm up ea ef=>⟨rfl,p,kat_snds rfl ea,ef,pm,O.up pm up⟩) ?_ λ_ _ e=>e)
  rintro⟨⟨⟩,st⟩ s1 ⟨rfl,p,ev,ef,pm,up⟩
  dsimp only
  have fn:=ar _ _ ev ef pm up (λh'=>P (.done (.ret .none)) { s with heap:=h' }) (λh' c k e=>h _ h' c pm up k e)
  refine Yaa (seqEpoch_at cj rfl (Yaa (listUpdate_at cj rfl ?_ (Ya4 _) ?_)))
  ·rw [ef,bne_self_eq_false,Yah Yag]
   exact Yab fn
  ·refine Yaq ?_ (Yeb sz)
   show(Array.map _ _).size<=_
   rw [ev]
   simp [pm.size]
theorem Qk{v:Value}{vs:List Value}{lt:Nat->Nat->Bool}{h1:Heap}{t1:Nat}{Q:Value->Shared->Prop}(jp:∀Q':List Value->Shared->Prop,Q' vs { s with heap:=h1,toks:=t1 }->wpAny (model prog w) A.in1 (collect v) Q' E s)(k1:∀b o,s.heap.get? b=some o->h1.get? b=some o)(z1:s.heap.objs.size<=h1.objs.size)(ij:vs.length < 1000)(O:StrictOrd vs.length lt)
  (hk:2<=vs.length->∀h':Heap,(∀b o,s.heap.get? b=some o->h'.get? b=some o)->∃ κ,(∀Q:SortKind->Shared->Prop,Q κ { s with heap:=h',toks:=t1 }->wpAny (model prog w) A.in1.in1 (keyKind' vs.toArray) Q E { s with heap:=h',toks:=t1 }) /\
   ∀i j C,i < vs.length->j < vs.length->C (lt i j) { s with heap:=h',toks:=t1 }->kas_ask prog w A.in1.in1 κ vs i j C { s with heap:=h',toks:=t1 })
  (h:∀(p:Array Nat) (h':Heap) (l c:Nat),Pm vs.length p->Up lt p vs.length->s.heap.objs.size<=l->(∀b o,s.heap.get? b=some o->h'.get? b=some o)->h'.get? l=some (seqObj "list" (p.toList.map λi=>vs.getD i Value.none).toArray c)->Q (.ref l) { s with heap:=h',toks:=t1 }) :
  wpAny (model prog w) A (call (.builtin "sorted") [v]) Q E s:=by
 have sz:vs.length<=sizeLine:=Yaq (Ybu ij) (by decide)
 have hL:(h1.push (seqObj "list" vs.toArray 0)).get? h1.objs.size=some (seqObj "list" vs.toArray 0):=Heap.get?_push_size _ rfl
 refine Calls.call_function_entry kind_sorted plain_sorted entry_sorted (args_sorted1 _) ?_
 unfold Builtin.«sorted»
 refine Yaa (m:=checkCount "sorted" 1 1 _) (Yab (Yaa (jp _ (Yaa (wpAny_newList ?_ sz)))))
 refine Yaa (Ybf (Ya3 slot_list_sort ⟨_,hL,rfl⟩ entry_list_sort ?_ (args_list_sort _)))
 refine D8 (s:={ s with heap:=h1.push (seqObj "list" vs.toArray 0),toks:=t1 }) hL ij O (λh2 h' k=>?_) λp h' c pm up k e=>⟨_,rfl,Yab ⟨_,rfl,?_⟩⟩
 ·exact hk h2 h' λb o q=>k b o (Yan (Yai (Yae q) z1)) (Heap.get?_push_of_some _ (k1 b o q))
 ·exact h p h' _ c pm up z1 (λb o q=>k b o (Yan (Yai (Yae q) z1)) (Heap.get?_push_of_some _ (k1 b o q))) e
end
end L2
namespace L2
open PySem PySem.Spec PyProof.Rows
structure SortOk(ds:List PyData):Prop where
 len:ds.length < 1000
 can:PyData.canLayAll0 ds=true
 dp:PyData.depthAll ds<=64
 cano:Ax ds=true
 nd:ds.Nodup
 fst:2<=ds.length->∀d∈ds,∃i r,d=.tuple (.int i :: r)
 cmp:∀d∈ds,∀e∈ds,cmpb d e=true
def ltI(ds:List PyData)(i j:Nat):Bool:=Fy (ds.getD i .none) (ds.getD j .none)
theorem B0:∀{ds:List PyData},Ax ds=true->∀d∈ds,Cano d=true
 | d :: ds,h,e,he=>by
  simp only [Ax,Bool.and_eq_true]at h
  rcases Ya1.mp he with rfl | he
  ·exact h.1
  ·exact B0 h.2 e he
theorem Ey:∀{ds:List PyData},PyData.canLayAll0 ds=true->∀d∈ds,d.canLay0=true
 | d :: ds,h,e,he=>by
  simp only [PyData.canLayAll0,Bool.and_eq_true]at h
  rcases Ya1.mp he with rfl | he
  ·exact h.1
  ·exact Ey h.2 e he
theorem Jb:∀{ds:List PyData},∀d∈ds,d.depth<=PyData.depthAll ds
 | d :: ds,e,he=>by
  simp only [PyData.depthAll]
  rcases Ya1.mp he with rfl | he
  ·omega
  ·have:=Jb (ds:=ds) e he
   omega
theorem B7{α:Type}{xs:List α}{i:Nat}{d:α}(h:i < xs.length):xs.getD i d∈xs:=by
 rw [List.getD_eq_getElem?_getD,List.getElem?_eq_getElem h];exact Yc0 h
theorem Ck{α:Type}{xs:List α}{i:Nat}{d:α}(h:i < xs.length):xs[i]?=some (xs.getD i d):=by
 rw [List.getD_eq_getElem?_getD,List.getElem?_eq_getElem h];rfl
theorem SortOk.ord{ds:List PyData}(h:SortOk ds):StrictOrd ds.length (ltI ds):=by
 refine⟨λa b c ha hb hc h1 h2=>?_,λa b ha hb d9 h1=>?_,λa ha=>On _ (B0 h.cano _ (B7 ha))⟩
 ·exact Te _ _ _ (B0 h.cano _ (B7 ha)) (B0 h.cano _ (B7 hb)) (B0 h.cano _ (B7 hc)) h1 h2
 ·refine Oo _ _ (B0 h.cano _ (B7 ha)) (B0 h.cano _ (B7 hb)) (λe=>d9 ?_) h1
  refine(List.getElem?_inj ha h.nd).mp ?_
  rw [Ck (d:=PyData.none) ha,Ck (d:=PyData.none) hb,e]
theorem Jc{h h':Heap}(hk:∀b o,h.get? b=some o->h'.get? b=some o):∀{us:List Value} {ds:List PyData} {as:List Addr},ReadsAll h us ds as->ReadsAll h' us ds as
 | _,_,_,.nil=>.nil
 | _,_,_,.cons r t=>.cons (PyProof.Rows.Reads.keeps hk r) (Jc hk t)
theorem Qaf{h:Heap}:∀{us:List Value} {ds:List PyData} {as:List Addr} {i:Nat},ReadsAll h us ds as->i < ds.length->∃bs,Reads h (us.getD i .none) (ds.getD i .none) bs
 | _,_,_,0,.cons r _,_=>⟨_,r⟩
 | _,_,_,i+1,.cons _ t,hi=>Qaf (i:=i) t (by simpa using hi)
theorem X1{h:Heap}:∀{us:List Value} {ds:List PyData} {as:List Addr},ReadsAll h us ds as->us.length=ds.length
 | _,_,_,.nil=>rfl
 | _,_,_,.cons _ t=>by simp [X1 t]
theorem Lj{h:Heap}:∀{us:List Value} {ds:List PyData} {as:List Addr},ReadsAll h us ds as->(∀d∈ds,∃i r,d=.tuple (.int i :: r))->∃fs:List Value,PySem.W.KatTups h us fs/\fs.length=us.length/\∀v∈fs,∃i t,v=.int i t
 | _,_,_,.nil,_=>⟨[],PySem.W.KatTups.nil,rfl,λ_ z=>nomatch z⟩
 | _,_,_,.cons r t,hd=>by
  obtain⟨fs,k,l,z⟩:=Lj t λd ya=>hd d (Yam _ ya)
  obtain⟨i,r',rfl⟩:=hd _ Yas
  cases r with
  | @tuple a o vs n xs as a1 a2 a3 a4 =>
   cases hv:vs.toList with
   | nil=>rw [hv]at a4;cases a4
   | cons v0 vr =>
    rw [hv]at a4
    cases a4 with
    | cons u1 u2 =>
     cases u1 with
     | int _ t0 =>
      refine⟨.int i t0 :: fs,PySem.W.KatTups.cons a1 a2 a3 ?_ k,by simp [l],λv hv'=>?_⟩
      ·rw [<- Array.getElem?_toList,hv];rfl
      ·rcases Ya1.mp hv' with rfl | hv'
       ·exact⟨_,_,rfl⟩
       ·exact z v hv'
def Ow:AC:=λxs μ R=>match xs with
 | [.R a]=>opt (μ a) λm=>match m with
  | .lst ys=>opt (dats ys) λds=>SortOk ds/\∀(es:List PyData) (p:Addr),es.Perm ds->es.Pairwise (λa b=>Fy a b=true)->μ p=none->R (.R p) (Ao μ p (.lst (es.map .D)))
  | _=>False
 | _=>False
theorem D9{α:Type}(xs:List α)(d:α):(List.range xs.length).map (λi=>xs.getD i d)=xs:=by
 apply Yea
 intro i
 rw [List.getElem?_map]
 by_cases h:i < xs.length
 ·rw [List.getElem?_range h,Ck (d:=d) h];rfl
 ·rw [List.getElem?_eq_none (by simpa using h),List.getElem?_eq_none (by simpa using h)];rfl
theorem Aj.pick{K:PySem.W.Frag}{H:Hp}{ds:List PyData}{vs:List V}(h:Aj K H ds vs):∀(p:List Nat),(∀i∈p,i < ds.length)->Aj K H (p.map λi=>ds.getD i .none) (p.map λi=>vs.getD i .non)
 | [],_=>Cc
 | i :: p,hp=>by
  obtain⟨x,ex,dx⟩:=h.get (Ck (d:=PyData.none) (hp i Yas))
  refine Bw ?_ (h.pick p λj hj=>hp j (Yam _ hj))
  have e:vs.getD i .non=x:=by rw [List.getD_eq_getElem?_getD,ex];rfl
  show Dk K H (ds.getD i .none) (vs.getD i .non)
  rw [e];exact dx
theorem Vals.pick{xs:List V}{us:List Value}(h:Vals xs us):∀(p:List Nat),(∀i∈p,i < xs.length)->Vals (p.map λi=>xs.getD i .non) (p.map λi=>us.getD i .none)
 | [],_=>.nil
 | i :: p,hp=>by
  obtain⟨u,eu,ru⟩:=h.get (Ck (d:=V.non) (hp i Yas))
  refine .cons ?_ (Vals.pick h p λj hj=>hp j (Yam _ hj))
  have e:us.getD i .none=u:=by rw [List.getD_eq_getElem?_getD,eu];rfl
  show A0 (xs.getD i .non) (us.getD i .none)
  rw [e];exact ru
section
variable {X:Cx}{k:Nat}
theorem To(hr:Room k X.A):VCall X (.builtin "sorted") Ow:=by
 intro aa s σ H xs us Q I r zz93
 refine B4 zz93 λas μ R ra hc h hq=>?_
 unfold Ow at h
 split at h
 ·rename_i a
  cases ra with
  | cons r1 r2 =>
  cases r2
  obtain⟨m,em,h⟩:=Aq h
  split at h
  ·rename_i ys
   obtain⟨ds,ed,ok,h⟩:=Aq h
   obtain⟨o,ho,ws,rfl,rs⟩:=hc _ _ em
   cases r1
   obtain⟨u,rfl,rx⟩:=Ek r
   cases rx
   obtain⟨ah,rv,pl,hz⟩:=I.list (Dx.of (K:=X.K) ho)
   have dk:=rs.dats ed
   obtain⟨bs,rd⟩:=Aj.reads I ds ws ah dk rv
   have l1:=X1 rd
   have l2:=dk.length
   have ij:ah.length < 1000:=by rw [l1];exact ok.len
   have sz:ah.length<=sizeLine:=Yaq (Ybu ij) (by decide)
   have keep:∀b o,s.heap.get? b=some o->((s.heap.push (seqObj "list" #[] 0)).update s.heap.objs.size (Obj.mapSeq (·++ah.toArray))).get? b=some o:=λb o q =>
    ((Ybs (s.heap.push (seqObj "list" #[] 0)) s.heap.objs.size _).2 b (Yan (Yae q))).trans (Heap.get?_push_of_some _ q)
   have hO:StrictOrd ah.length (ltI ds):=by rw [l1];exact ok.ord
   refine Qk (t1:=s.toks) (λQ' q=>collect_list pl.isList q sz) keep (by rw [Yep];exact Yaq (Yev _) (Nat.le_of_eq (Ycj _ _).symm)) ij hO (λh2 h' kp=>?_) λp h' l c pm up hl kp e=>?_
   ·have vh:ReadsAll h' ah ds bs:=Jc kp rd
    obtain⟨fs,kt,kl,kz⟩:=Lj vh (ok.fst (by omega))
    refine⟨tuples' true,λQ q=>?_,λi j C hi hj q=>?_⟩
    ·refine PySem.W.kat_kind (T:=.type "int") kt (by omega) (λv hv=>?_) rfl q
     obtain⟨i,t,rfl⟩:=kz v hv
     exact PySem.W.Looks.of_pure rfl
    ·rw [l1]at hi hj
     obtain⟨b1,q1⟩:=Qaf vh hi
     obtain⟨b2,q2⟩:=Qaf vh hj
     have m1:=B7 (d:=PyData.none) hi
     have m2:=B7 (d:=PyData.none) hj
     obtain⟨x1,r1,e1⟩:=ok.fst (by omega) _ m1
     obtain⟨x2,r2,e2⟩:=ok.fst (by omega) _ m2
     have c1:=Ey ok.can _ m1
     have c2:=Ey ok.can _ m2
     have d1:=Yaq (Jb _ m1) ok.dp
     have cm:=ok.cmp _ m1 _ m2
     have q':C (Fy (ds.getD i .none) (ds.getD j .none)) _:=q
     rw [e1]at q1 c1 d1 cm q'
     rw [e2]at q2 c2 cm q'
     have hu:=hr.un
     unfold PySem.W.kas_ask
     generalize ah.getD i Value.none=u1 at q1 ⊢
     generalize ah.getD j Value.none=u2 at q2 ⊢
     cases q1 with
     | tuple a1 a2 a3 a4 =>
      cases q2 with
      | tuple b1 b2 b3 b4 =>
       exact Qae (.tuple a1 a2 a3 a4) (.tuple b1 b2 b3 b4) c1 c2 cm (by show X.A.units+1+1+64 < _;omega) d1 q'
   ·have hp:∀i∈p.toList,i < ds.length:=λi hi=>by
     have:=pm.perm.mem_iff.mp hi
     rw [l1]at this
     exact Ybh.mp this
    have hv:=Vals.pick rv p.toList λi hi=>by rw [l2];exact hp i hi
    have hd:=dk.pick p.toList hp
    have aj:(p.toList.map λi=>ws.getD i .non).length<=sizeLine:=by
     rw [Yac,Yax,pm.size];exact sz
    refine⟨.ref l,_,I.laid (t':=s.toks) kp hl (show Bm X.prog X.w _ h' _ (.lst (p.toList.map λi=>ws.getD i .non)) from⟨aj,_,c,hv,e⟩),rfl,?_⟩
    have hn:=I.hok.fresh hl
    refine hq _ _ _ _ (Kp.new hn _) (hc.new hn (Cp ?_)) C7 (h (p.toList.map λi=>ds.getD i .none) l ?_ ?_ (hc.none hn))
    ·exact hd.rel
    ·have e1:p.toList.Perm (List.range ds.length):=by rw [<- l1];exact pm.perm
     have e2:=e1.map λi=>ds.getD i PyData.none
     rw [D9]at e2
     exact e2
    ·rw [Ycy]
     refine Yb7.mpr λi j hi hj de=>?_
     have hj':j < ah.length:=by rw [<- pm.size];simpa using hj
     have:=up i j de hj'
     have gi:p.getD i 0=p.toList[i]:=by simp [Array.getD,show i < p.size by simpa using hi]
     have gj:p.getD j 0=p.toList[j]:=by simp [Array.getD,show j < p.size by simpa using hj]
     rw [gi,gj]at this
     exact this
  ·exact h.elim
 ·exact h.elim
end
section
variable {prog:Program}{w:World}{A:Around}{E:Value->Shared->Prop}{s:Shared}
end
section
variable {X:Cx}{tg a:Expr}{ta:AE}{pos p:Pos}
end
def Qdl:MO->Prop
 | .dk _=>True
 | .dt _=>True
 | _=>False
section
variable {X:Cx}{o e f:Expr}{aw aq:Pos}{td ty tx:AE}
def Qag(td ty tx:AE):AE:=fun τ μ R=>td τ μ λx μ1=>match x with
 | .R a=>(∃m,μ1 a=some m/\Qdl m)/\ty τ μ1 λy μ2=>tx τ μ2 λz μ3=>match y with
  | .D d=>opt (μ3 a) λm=>opt (dget m d) λr=>R (r.getD z) μ3
  | _=>False
 | _=>False
theorem Qah{K:PySem.W.Frag}{μ:M}{H:Hp}{a:Addr}{m:MO}(hc:Cn K μ H)(e:μ a=some m)(h:Qdl m):IsD H a:=by
 obtain⟨ob,ho,rm⟩:=hc a m e
 cases m with
 | dk ae=>obtain⟨vs,rfl,_⟩:=rm;exact .inl ⟨vs,.inl ho⟩
 | dt ae=>obtain⟨vs,rfl,_⟩:=rm;exact .inr ⟨vs,.inl ho⟩
 | lst xs=>exact h.elim
 | dd ae=>exact h.elim
theorem Lk(hu:X.A.units+1 < cLine)(ho:VE X o td)(he:VE X e ty)(hf:VE X f tx)(m:M2 X o "get" aw e f aq:=by exact⟨rfl,rfl,rfl,rfl⟩):VE X (.Call (.Attribute o "get" aw) [e,f] [] aq) (Qag td ty tx):=(R6 hu ho he hf m).imp fun σ H Q zz94=>B4 zz94 fun τ μ R hs hc h hq =>
 ⟨τ,μ,_,hs,hc,h,λx μ1 v H1 S1 c1 rx hx=>by
  split at hx
  ·rename_i a
   obtain⟨⟨m0,em0,hd⟩,hx⟩:=hx
   cases rx
   refine⟨a,rfl,Qah c1 em0 hd,τ,μ1,_,hs.kp S1,c1,hx,λy μ2 u H2 S2 c2 ry hy=>⟨τ,μ2,_,(hs.kp S1).kp S2,c2,hy,λz μ3 zv H3 S3 c3 rz hz=>?_⟩⟩
   split at hz
   ·obtain⟨m,em,hz⟩:=Aq hz
    obtain⟨r,er,hz⟩:=Aq hz
    obtain⟨r',g,ro⟩:=J5 c3 em (Dk.kp S3 _ _ ry) er
    refine⟨r',g,hq _ _ _ _ ((S1.trans S2).trans S3) c3 ?_ hz⟩
    cases r with
    | none =>
     cases r' with
     | none=>exact rz
     | some _=>exact ro.elim
    | some _ =>
     cases r' with
     | none=>exact ro.elim
     | some _=>exact ro
   ·exact hz.elim
  ·exact hx.elim⟩
end
section
variable {X:Cx}{e:Expr}{te:AE}{p p2 pos cg:Pos}
end
end L2
namespace L2
open PySem
def C4(xs:Array Nat):Prop:=xs.toList.Pairwise (· < ·)
theorem C4.lt{xs:Array Nat}(h:C4 xs){i j:Nat}{d:Nat}(de:i < j)(hj:j < xs.size):xs.getD i d < xs.getD j d:=by
 have:=Yb7.mp h i j (by simp;omega) (by simpa using hj) de
 simp only [Array.getElem_toList]at this
 simp only [Array.getD,show i < xs.size by omega,hj,dif_pos]
 exact this
theorem Hb{xs:Array Nat}(h:C4 xs){j:Nat}:∀(f lo hi:Nat),hi - lo<=f->lo<=hi->hi<=xs.size->(∀i,i < lo->xs.getD i j < j)->(∀i,hi<=i->i < xs.size->j<=xs.getD i j) ->
  SetTable.below.go xs j f lo hi<=xs.size/\(∀i,i < SetTable.below.go xs j f lo hi->xs.getD i j < j)/\∀i,SetTable.below.go xs j f lo hi<=i->i < xs.size->j<=xs.getD i j
 | 0,lo,hi,h1,h2,h3,h4,h5=>by
  have e:lo=hi:=by omega
  subst e
  exact⟨h3,h4,h5⟩
 | f+1,lo,hi,h1,h2,h3,h4,h5=>by
  rw [SetTable.below.go]
  by_cases c:lo < hi
  ·rw [Yaj c]
   dsimp only
   by_cases c2:xs.getD ((lo+hi) / 2) j < j
   ·rw [Yaj c2]
    refine Hb h f _ _ (by omega) (by omega) h3 (λi dz=>?_) h5
    by_cases e:i=(lo+hi) / 2
    ·rw [e];exact c2
    ·have:=h.lt (d:=j) (show i < (lo+hi) / 2 by omega) (show(lo+hi) / 2 < xs.size by omega)
     omega
   ·rw [Yah c2]
    refine Hb h f _ _ (by omega) (by omega) (by omega) h4 (λi dz hs=>?_)
    by_cases e:i=(lo+hi) / 2
    ·rw [e];omega
    ·have:=h.lt (d:=j) (show(lo+hi) / 2 < i by omega) hs
     omega
  ·rw [Yah c]
   have e:lo=hi:=by omega
   subst e
   exact⟨h3,h4,h5⟩
theorem Hc{xs:Array Nat}(h:C4 xs)(j:Nat):SetTable.below xs j<=xs.size/\(∀i,i < SetTable.below xs j->xs.getD i j < j)/\∀i,SetTable.below xs j<=i->i < xs.size->j<=xs.getD i j :=
 Hb h xs.size 0 xs.size (by omega) (Ya4 _) (Yad _) (λi hi=>absurd hi (Yd3 _)) λi hi hs=>by omega
theorem Ng{xs:Array Nat}(h:C4 xs){k:Nat}(hk:k < xs.size):SetTable.below xs (xs[k]+1)=k+1:=by
 obtain⟨b1,b2,b3⟩:=Hc h (xs[k]+1)
 have g:∀i,(hi:i < xs.size)->xs.getD i (xs[k]+1)=xs[i]:=λi hi=>by simp [Array.getD,hi]
 rcases Nat.lt_trichotomy (SetTable.below xs (xs[k]+1)) (k+1) with c | c | c
 ·have:=b3 k (by omega) hk
  rw [g k hk]at this
  omega
 ·exact c
 ·have h1:k+1 < xs.size:=by omega
  have:=b2 (k+1) c
  rw [g _ h1]at this
  have h2:=h.lt (d:=0) (Yde k) h1
  simp only [Array.getD,hk,h1,dif_pos]at h2
  have h3:xs[k] < xs[k+1]:=h2
  omega
theorem Nh{xs:Array Nat}(h:C4 xs):SetTable.below xs 0=0:=by
 obtain⟨b1,b2,b3⟩:=Hc h 0
 rcases Nat.eq_zero_or_pos (SetTable.below xs 0) with e | e
 ·exact e
 ·have:=b2 0 e;omega
theorem Ll{α:Type}(xs:Array α)(p:Nat)(x:α)(hp:p<=xs.size):(SetTable.insertAt xs p x).toList=xs.toList.take p++x :: xs.toList.drop p:=by
 rw [SetTable.toList_insertAt]
theorem Lm{xs:Array Nat}(h:C4 xs){j:Nat}(hj:xs[SetTable.below xs j]?≠some j):C4 (SetTable.insertAt xs (SetTable.below xs j) j):=by
 obtain⟨b1,b2,b3⟩:=Hc h j
 unfold C4
 rw [Ll _ _ _ b1]
 have ht:∀a∈xs.toList.take (SetTable.below xs j),a < j:=λa ha=>by
  obtain⟨i,hi,e⟩:=Ydu ha
  have h1:i < SetTable.below xs j:=by
   rw [Yb1]at hi;omega
  have:=b2 i h1
  simp only [Array.getD,show i < xs.size by omega,dif_pos]at this
  rw [<- e]
  simpa using this
 have hd:∀a∈xs.toList.drop (SetTable.below xs j),j < a:=λa ha=>by
  obtain⟨i,hi,e⟩:=Ydu ha
  have h1:SetTable.below xs j+i < xs.size:=by
   rw [Yb8]at hi;simp at hi;omega
  have h2:=b3 _ (Yeq _ i) h1
  simp only [Array.getD,h1,dif_pos]at h2
  have e2:a=xs[SetTable.below xs j+i]:=by rw [<- e];simp
  have h3:a≠j:=by
   intro z
   by_cases c:i=0
   ·subst c
    apply hj
    rw [Array.getElem?_eq_getElem (by omega)]
    exact Ydn some (e2.symm.trans z)
   ·have h0:SetTable.below xs j < xs.size:=by omega
    have h4:=b3 _ (Yad _) h0
    simp only [Array.getD,h0,dif_pos]at h4
    have h5:=h.lt (d:=0) (show SetTable.below xs j < SetTable.below xs j+i by omega) h1
    simp only [Array.getD,h0,h1,dif_pos]at h5
    have h5':xs[SetTable.below xs j] < xs[SetTable.below xs j+i]:=h5
    have t7:j<=xs[SetTable.below xs j]:=h4
    omega
  have y2:j<=xs[SetTable.below xs j+i]:=h2
  omega
 refine Yct.mpr ⟨h.sublist (List.take_sublist _ _),Ycr.mpr ⟨hd,h.sublist (List.drop_sublist _ _)⟩,λa ha b hb=>?_⟩
 rcases Ya1.mp hb with rfl | hb
 ·exact ht a ha
 ·have:=ht a ha
  have:=hd b hb
  omega
structure TblOk(t:SetTable)(led:Bool):Prop where
 rise:C4 t.place
 dum:t.dummies=#[]
 led:t.led=led
theorem Ni(n:Nat):C4 (Array.range n):=by
 unfold C4
 rw [Array.toList_range]
 exact Ydg
theorem TblOk.standIn{t:SetTable}{led:Bool}(h:TblOk t led)(n:Nat):TblOk (t.standIn n) led:=⟨Ni n,rfl,h.led⟩
theorem TblOk.orStandIn{t:SetTable}{led:Bool}(h:TblOk t led)(n:Nat):TblOk (t.orStandIn n) led:=by
 unfold SetTable.orStandIn
 split
 ·exact h
 ·exact h.standIn n
theorem TblOk.plain{t:SetTable}{led:Bool}(h:TblOk t led)(b:Bool):TblOk { t with plain:=b } led:=⟨h.rise,h.dum,h.led⟩
theorem Ln(j:Nat):SetTable.has #[] j=false:=by
 unfold SetTable.has
 simp
theorem Nj{t:SetTable}{led:Bool}(h:TblOk t led){j:Nat}(e:t.slot j=.empty):t.place[SetTable.below t.place j]?≠some j:=by
 unfold SetTable.slot at e
 dsimp only at e
 split at e
 ·cases e
 ·rename_i c
  simpa using c
theorem Nk{t:SetTable}{led:Bool}(h:TblOk t led){j:Nat}:t.slot j≠.dummy:=by
 unfold SetTable.slot
 dsimp only
 rw [h.dum,Ln]
 split
 ·intro z;cases z
 ·intro z;cases z
theorem Hz(t:SetTable)(p:SetTable.Probe):(t.advance p).dummy=p.dummy:=by
 unfold SetTable.advance
 split <;> rfl
theorem Fz{t:SetTable}{led:Bool}(h:TblOk t led){hashAt:Nat->Int}{hh:Int}{j:Nat}{d:Option Nat}:∀(f:Nat) (p:SetTable.Probe),p.dummy=none->SetTable.probe.go t hashAt hh f p=some (.empty j d)->d=none/\t.slot j=.empty
 | 0,_,_,e=>by simp [SetTable.probe.go]at e
 | f+1,p,hp,e=>by
  rw [SetTable.probe.go]at e
  cases c:t.slot p.j with
  | empty =>
   rw [c]at e
   have e':=Ya0 e
   injection e' with e1 e2
   exact⟨e2.symm.trans hp,by rw [<- e1];exact c⟩
  | dummy=>exact absurd c (Nk h)
  | live i =>
   rw [c]at e
   dsimp only at e
   split at e
   ·cases e
   ·exact Fz h f _ ((Hz t p).trans hp) e
theorem Wi{t:SetTable}{led:Bool}(h:TblOk t led){hh:Int}{s:Nat}{b:Bool}(e:t.freeSlot hh=some (s,b)):t.place[SetTable.below t.place s]?≠some s:=by
 unfold SetTable.freeSlot SetTable.probe at e
 split at e
 ·rename_i j d c
  obtain⟨rfl,hs⟩:=Fz h _ _ rfl c
  have e':=Ya0 e
  have e1:j=s:=Ydn Prod.fst e'
  rw [<- e1]
  exact Nj h hs
 ·cases e
theorem TblOk.put{t:SetTable}{led:Bool}(h:TblOk t led){s:Nat}(hs:t.place[SetTable.below t.place s]?≠some s):TblOk (t.put s).1 led:=by
 refine⟨Lm h.rise hs,?_,h.led⟩
 show(if SetTable.has t.dummies s then _ else t.dummies)=#[]
 rw [h.dum,Ln];rfl
theorem TblOk.layNew{t:SetTable}{led:Bool}(h:TblOk t led)(es:Array (Int×Value))(hh:Int)(x:Value):TblOk (layNew t es hh x).2.1 led:=by
 unfold PySem.layNew
 split
 ·rename_i s b c
  exact(h.put (Wi h c)).orStandIn _
 ·exact h.standIn _
theorem TblOk.laid{mask finger moves:Nat}{led plain:Bool}{hs:Array Int}{t:SetTable}{i3:Array Nat}(e:SetTable.laid mask finger moves led plain hs=some (t,i3)):TblOk t led:=by
 unfold SetTable.laid at e
 cases c:SetTable.layClean mask hs with
 | none=>rw [c]at e;cases e
 | some owner =>
  rw [c]at e
  have e':=Ya0 e
  injection e' with e1 _
  subst e1
  refine⟨?_,rfl,rfl⟩
  unfold C4
  show(List.map _ _).Pairwise _
  rw [Ycy]
  refine List.Pairwise.filterMap _ (R:=(· < ·)) (λa a' haa b hb b' iy=>?_) Ydg
  obtain⟨z,_,rfl⟩:=Yap.mp hb
  obtain⟨z',_,rfl⟩:=Yap.mp iy
  exact haa
theorem TblOk.relayAll{t:SetTable}{led:Bool}(h:TblOk t led)(es:Array (Int×Value))(w:Nat):TblOk (relayAll t es w).2.1 led:=by
 unfold PySem.relayAll
 split
 ·rename_i t' i3 c
  dsimp only
  split
  ·have:=TblOk.laid c
   rw [h.led]at this
   exact this
  ·exact h.standIn _
 ·exact h.standIn _
theorem TblOk.fresh(led:Bool):TblOk (.fresh 0 0 led) led:=⟨List.Pairwise.nil,rfl,rfl⟩
section
variable {prog:Program}{w:World}{Kt:Type} [DecidableEq Kt]{knd:KeyKind prog w Kt}{A:Around}{E:Value->Shared->Prop}{s:Shared}{a:Addr}{led:Bool}
def Ch(knd:KeyKind prog w Kt)(h:Heap)(a:Addr)(l:List (Int×Value))(led:Bool):Prop :=
 ∃o es ep t,h.get? a=some o/\o.ExactSet/\o.data=.set es ep t/\es.toList=l/\ElemsOf knd l/\t.fits es.size=true/\TblOk t led
theorem Fn{h:Heap}{o:Obj}{es:Array (Int×Value)}{ep:Nat}{t:SetTable}(ho:h.get? a=some o)(ff:o.ExactSet)(hd:o.data=.set es ep t){fr:Array (Int×Value)}{t':SetTable}(cy:ElemsOf knd fr.toList)(hf:t'.fits fr.size=true)(hT:TblOk t' led) :
  (h.update a (Obj.putSet fr t')).get? a=some { o with data:=.set fr (ep+1) t' }/\Ch knd (h.update a (Obj.putSet fr t')) a fr.toList led:=by
 have e:=Heap.get?_update_self (Obj.putSet fr t') ho (by rw [putSet_of fr t' hd];rfl)
 rw [putSet_of fr t' hd]at e
 exact⟨e,_,fr,ep+1,t',e,ff,rfl,rfl,cy,hf,hT⟩
theorem Lo{g:Bool->Sem Unit}(hg:∀(b:Bool) (s1:Shared) (Q':Unit->Shared->Prop),Q' () s1->wpAny (model prog w) A (g b) Q' E s1){o:Obj}{es:Array (Int×Value)}{ep:Nat}{t:SetTable}(ho:s.heap.get? a=some o)(ff:o.ExactSet)(hd:o.data=.set es ep t)
  {cp:Array (Int×Value)} {t2:SetTable} (cy:ElemsOf knd cp.toList) (hb:cp.size < scanBound) (hf:t2.fits cp.size=true) (hT:TblOk t2 led) {gs:Bool} {R:Option Bool->Shared->Prop}
  (h:∀h' l',Heap.SameBut a s.heap h'->Ch knd h' a l' led->l'.Perm cp.toList->R (some true) { s with heap:=h' }) :
  wpAny (model prog w) A (do
   storeSet a cp t2
   if(!gs && t2.tooFull)=true then do
    g (relayAll t2 cp (SetTable.grown cp.size)).2.2
    storeSet a (relayAll t2 cp (SetTable.grown cp.size)).1 (relayAll t2 cp (SetTable.grown cp.size)).2.1
    pure (some true)
   else pure (some true)) R E s:=by
 obtain⟨g1,g2⟩:=Fn (knd:=knd) (led:=led) ho ff hd cy hf hT
 refine Yaa (wpAny_storeSet_of ho hd ?_ (fits_of_scanBound hb))
 have b1:=Ybs s.heap a (Obj.putSet cp t2)
 split
 ·have p1:=relayAll_perm t2 cp (SetTable.grown cp.size)
  have f1:=relayAll_fits t2 cp (SetTable.grown cp.size)
  have k1:=hT.relayAll cp (SetTable.grown cp.size)
  generalize relayAll t2 cp (SetTable.grown cp.size)=R1 at p1 f1 k1 ⊢
  obtain⟨es2,t3,gave⟩:=R1
  dsimp only at p1 f1 k1 ⊢
  have z:es2.size < scanBound:=by
   have e:es2.size=cp.size:=by rw [<- Yax,p1.length_eq,Yax]
   rw [e];exact hb
  obtain⟨_,g4⟩:=Fn (knd:=knd) (led:=led) g1 ff rfl (cy.perm p1) f1 k1
  exact Yaa (hg _ _ _ (Yaa (wpAny_storeSet_of g1 rfl (Yab (h _ _ (b1.trans (Ybs _ a _)) g4 p1)) (fits_of_scanBound z))))
 ·exact Yab (h _ _ b1 g2 (List.Perm.refl _))
theorem Ox{l:List (Int×Value)}{k:Kt}{x:Value}{Q:Bool->Shared->Prop}(hx:knd.is k x=true)(hs:x.scannable=true)(hS:Ch knd s.heap a l led)(hb:l.length+1 < scanBound)
  (h1:(∃e∈l,knd.is k e.2=true)->Q false s) (h2:(∀e∈l,knd.is k e.2=false)->∀h' l',Heap.SameBut a s.heap h'->Ch knd h' a l' led->l'.Perm (l++[(knd.hash k,x)])->Q true { s with heap:=h' }) :
  wpAny (model prog w) A (setAddHashed a x (knd.hash k)) Q E s:=by
 obtain⟨o,es,ep,t,ho,ff,hd,rfl,cy,hf,hT⟩:=hS
 rw [Yax]at hb
 have hb0:es.size < scanBound:=by omega
 unfold setAddHashed setAddHashedIn
 refine Ybf (Yaa (Ybc ho hd hf (show wpAny _ _ _ _ _ _ from ?_)))
 dsimp only
 rw [byScan_of hs hb0 cy,Yaj rfl]
 unfold setAddByScan
 refine Yaa (Yaa (Ycb (Yaa (wpAny_setScan_of hx ho hd hf cy ?_))))
 cases c:List.findIdx? (λe=>knd.is k e.2) es.toList with
 | some j =>
  obtain⟨hj,hp,_⟩:=List.findIdx?_eq_some_iff_getElem.mp c
  exact Yab (Yab (h1 ⟨_,Yc0 hj,hp⟩))
 | none =>
  have ik:=List.findIdx?_eq_none_iff.mp c
  have q1:=layNew_perm t es (knd.hash k) x
  have q2:=layNew_fits t es (knd.hash k) x
  have q3:=hT.layNew es (knd.hash k) x
  dsimp only
  generalize layNew t es (knd.hash k) x=L1 at q1 q2 q3 ⊢
  obtain⟨cp,t1,dm,gv⟩:=L1
  dsimp only at q1 q2 q3 ⊢
  rw [Yc7]at q1
  have e1:ElemsOf knd cp.toList:=(cy.push hx hs).perm q1
  have z1:cp.size < scanBound:=by
   rw [<- Yax,q1.length_eq,Yao,Yax];exact hb
  have gw:∀(b:Bool) (s1:Shared) (Q':Unit->Shared->Prop),Q' () s1->wpAny (model prog w) A (match b with | true=>rule "set.scan.the-table-gave-way" | false=>pure ()) Q' E s1:=λb s1 Q' q=>by
   cases b
   ·exact Yab q
   ·exact Ycb q
  have ar:∀h' l',Heap.SameBut a s.heap h'->Ch knd h' a l' led->l'.Perm cp.toList->Q true { s with heap:=h' }:=λh' l' b1 b2 b3=>h2 (λe he=>by simpa using ik e he) h' l' b1 b2 (b3.trans q1)
  refine Yaa (gw _ _ _ ?_)
  split
  ·refine Yaa (show wpAny _ _ (hashByValue 8 x) _ _ _ from ?_)
   rw [hashByValue_scannable 8 hs]
   refine Yab (Lo (led:=led) (λb s1 Q' q=>?_) ho ff hd e1 z1 ?_ ?_ λh' l' b1 b2 b3=>?_)
   ·cases b
    ·exact Yab q
    ·exact Ycb q
   ·split
    ·exact q2
    ·exact SetTable.fits_plain_off q2
   ·split
    ·exact q3
    ·exact q3.plain false
   ·dsimp only
    exact Yab (ar h' l' b1 b2 b3)
  ·refine Yaa (Yab (show wpAny _ _ _ _ _ _ from ?_))
   rw [Yaj rfl]
   refine Lo (λb s1 Q' q=>?_) ho ff hd e1 z1 q2 q3 λh' l' b1 b2 b3=>?_
   ·cases b
    ·exact Yab q
    ·exact Ycb q
   ·dsimp only
    exact Yab (ar h' l' b1 b2 b3)
end
theorem Fd:plainId "set.update.loop" = true:=by decide +kernel
theorem Lp:entryFor table "set.update.loop" = some Builtin.«set.update.loop»:=entryFor_of_tree (by kernel_rfl)
section
variable {prog:Program}{w:World}{Kt:Type} [DecidableEq Kt]{knd:KeyKind prog w Kt}{A:Around}{R:Result->Shared->Prop}{sa it t:Addr}{led:Bool}
def Unlike(knd:KeyKind prog w Kt)(l:List (Int×Value)):Prop:=l.Pairwise λe e'=>∀k,knd.is k e.2=true->knd.is k e'.2=false
def Keys(knd:KeyKind prog w Kt)(l:List (Int×Value))(ks:List Kt):Prop:=∀k,(∃e∈l,knd.is k e.2=true)↔k∈ks
theorem Unlike.add{l:List (Int×Value)}{x:Value}{k:Kt}{h:Int}(hl:Unlike knd l)(hx:knd.is k x=true)(hn:∀e∈l,knd.is k e.2=false):Unlike knd (l++[(h,x)]):=by
 refine Yct.mpr ⟨hl,Yd4 _ _,λe he e' qj k' hk'=>?_⟩
 have e1:e'=(h,x):=by simpa using qj
 subst e1
 cases c:knd.is k' x with
 | false=>rfl
 | true =>
  have:=knd.inj x k' k c hx
  subst this
  rw [hn e he]at hk';cases hk'
theorem Unlike.perm{l l':List (Int×Value)}(h:Unlike knd l)(p:l'.Perm l):Unlike knd l':=by
 refine(List.Perm.pairwise_iff (R:=λ(e e':Int×Value)=>∀k,knd.is k e.2=true->knd.is k e'.2=false) (λ{e e'} hh k hk=>?_) p.symm).mp h
 cases c:knd.is k e.2 with
 | false=>rfl
 | true=>rw [hh k c]at hk;cases hk
theorem Lq:∀{ks:List Kt} {vs:List Value} {i:Nat} {x:Value},ItemsAre knd ks vs->vs[i]?=some x->∃k,ks[i]?=some k/\knd.is k x=true
 | _,_,_,_,.nil,h=>by simp at h
 | _,_,0,_,.cons h1 _,h=>by simp at h;subst h;exact⟨_,rfl,h1⟩
 | _,_,i+1,_,.cons _ t,h=>by simpa using Lq (i:=i) t (by simpa using h)
theorem Tp(hh:A.handled=none)(ay:sa≠it)(bv:sa≠t)(cr:t≠it){items:Array Value}{ks:List Kt}(kj:ItemsAre knd ks items.toList)(r9:∀v∈items.toList,v.scannable=true)(hsz:items.size < 1000) :
  ∀(m i:Nat) (s:Shared) (l:List (Int×Value)) (dn:List Kt),m+i=items.size->s.heap.IsTupleIter it t i->s.heap.IsTuple t items->Ch knd s.heap sa l led->Unlike knd l->Keys knd l dn->l.length<=i->(∀k,k∈dn↔k∈ks.take i) ->
   (∀h' tk l',(∀b o,b≠sa->b≠it->s.heap.get? b=some o->h'.get? b=some o)->Ch knd h' sa l' led->Unlike knd l'->Keys knd l' ks->l'.length<=items.size->R (.ok (.ret .none)) { s with heap:=h',toks:=tk }) ->
   codeAny (model prog w) A (.builtin "set.update.loop" ⟨[.ref sa,.ref it],[]⟩) R s:=by
 intro m
 induction m with
 | zero =>
  intro i s l dn hm hI hT hS hU hK hl uj q
  refine Yb0 Lp ?_
  rw [Ybj Fd _]
  refine(show wpAny _ A.in1 (pyNext (.ref it) >>= _) _ _ s from Yaa (wpAny_pyNext_tuple_end (show A.in1.handled=none from hh) hI hT (by rw [Array.getElem?_eq_none (by omega)]) λh' hx=>?_))
  refine Yab (q h' s.toks l (λb o h1 h2 e=>hx b o h2 e) ?_ hU ?_ (by omega))
  ·obtain⟨o,es,ep,tt,e,r⟩:=hS
   exact⟨o,es,ep,tt,hx sa o ay e,r⟩
  ·intro k
   rw [hK k,uj k,Yb5]
   have:=kj.length
   simp at this;omega
 | succ m ih =>
  intro i s l dn hm hI hT hS hU hK hl uj q
  have hi:i < items.size:=by omega
  have hx:items[i]?=some items[i]:=Array.getElem?_eq_getElem hi
  obtain⟨k,ek,hk⟩:=Lq (i:=i) (x:=items[i]) kj (by rw [Array.getElem?_toList];exact hx)
  have hsx:=r9 items[i] (by simp)
  have fu:∀k',k'∈ks.take (i+1)↔k'∈ks.take i\/k'=k:=λk'=>by
   rw [Ycw,ek,Yat];simp
  refine Yb0 Lp ?_
  rw [Ybj Fd _]
  refine(show wpAny _ A.in1 (pyNext (.ref it) >>= _) _ _ s from Yaa (wpAny_pyNext_tuple_item hI hT hx λh1 st1 tw=>?_))
  have i8:Ch knd h1 sa l led:=by
   obtain⟨o,es,ep,tt,e,r⟩:=hS
   exact⟨o,es,ep,tt,(tw.2 sa ay).trans e,r⟩
  have hT1:h1.IsTuple t items:=hT.at λo e=>(tw.2 t cr).trans e
  refine(show wpAny _ A.in1 (holding [items[i]] (setAdd sa items[i]) >>= _) _ _ _ from Yaa (Ybf ?_))
  unfold setAdd
  refine Ybf (Yaa (knd.pyHash hk ?_))
  refine Ox hk hsx (s:={ s with heap:=h1,toks:=s.toks+1 }) i8 (by have:scanBound=4096:=rfl;omega) (λff=>?_) (λik h2 l' xm fo hp=>?_)
  ·refine Yab ⟨Yck Fd _,ih (i+1) _ l dn (by omega) st1 hT1 i8 hU hK (by omega) (λk'=>?_) λh' tk l' gx a1 a2 a3 a4=>?_⟩
   ·rw [fu k',<- uj k']
    refine⟨.inl,λh=>h.elim id λe=>?_⟩
    rw [e];exact(hK k).mp ff
   ·exact q h' tk l' (λb o b1 b2 e=>gx b o b1 b2 ((tw.2 b b2).trans e)) a1 a2 a3 a4
  ·have aj:l'.length=l.length+1:=by rw [hp.length_eq,Yao];rfl
   refine Yab ⟨Yck Fd _,ih (i+1) _ l' (dn++[k]) (by omega) (st1.at λo e=>(xm.2 it ay.symm).trans e) (hT1.at λo e=>(xm.2 t bv.symm).trans e) fo ((hU.add hk ik).perm hp) (λk'=>?_) (by omega) (λk'=>?_) λh' tk l'' gx a1 a2 a3 a4=>?_⟩
   ·rw [Yat,<- hK k']
    constructor
    ·rintro⟨e,he,hek⟩
     rcases Yat.mp (hp.mem_iff.mp he) with he | he
     ·exact .inl ⟨e,he,hek⟩
     ·have e1:e=(knd.hash k,items[i]):=by simpa using he
      subst e1
      exact .inr (Yal.mpr (knd.inj _ k' k hek hk))
    ·rintro(⟨e,he,hek⟩ | he)
     ·exact⟨e,hp.mem_iff.mpr (Ycs _ he),hek⟩
     ·have e1:k'=k:=by simpa using he
      subst e1
      exact⟨(knd.hash k',items[i]),hp.mem_iff.mpr (Ya2 _ (Yal.mpr rfl)),hk⟩
   ·rw [fu k',<- uj k',Yat,Yal]
   ·exact q h' tk l'' (λb o b1 b2 e=>gx b o b1 b2 ((xm.2 b b1).trans ((tw.2 b b2).trans e))) a1 a2 a3 a4
end
section
variable {prog:Program}{w:World}{A:Around}{E:Value->Shared->Prop}{s:Shared}
theorem Tq{M:Model}{self v:Value}{Q:Unit->Shared->Prop}(hT:s.TypeIs self "set") (q:Q () s):wpAny M A (checkBuiltinCall "set.__init__" ⟨[self,v],[]⟩) Q E s:=by
 simp only [checkBuiltinCall,kind_set_init,split_set_init,sig_set_init]
 refine Yaa (Yc2 hT sub_set_self (show wpAny _ _ _ _ _ _ from ?_))
 rw [show(!true)=false from rfl,Yah Yag]
 unfold Bind.checkArgs
 dsimp only
 refine Yaa (m:=Bind.printed "set" true _ _) (PyProof.Rows.printed_name (by decide) (Yaa (m:=Bind.printed "*" false _ _) (PyProof.Rows.printed_star (self:=self) rfl hT λml=>?_)))
 have e:(if(Manifest.Receiver.self==Manifest.Receiver.none)=true then [self,v].length else [self,v].length - 1)=1:=rfl
 rw [e]
 have hc:Bind.check ⟨.positional,"set","*",.self,[⟨"iterable",.posOnly,false⟩]⟩ "set" ml 1 []=pure ():=by simp +decide [Bind.check,Bind.checkCount,Bind.isPositional]
 simp only [List.map_nil]
 rw [hc];exact Yab q
theorem Wj(v:Value):checkTypeCall "set" ⟨[v],[]⟩=pure ():=by kernel_rfl
theorem Qai(v:Value):checkBuiltinCall "set.__new__" ⟨[.type "set",v],[]⟩=pure ():=by kernel_rfl
def En(w:World):Bool:=!(w.params.followText "set-order")
def Bv(w:World):Obj:={ cls:=.type "set",dict:=none,data:=.set #[] 0 (.fresh 0 0 (En w)) }
theorem Wk{v:Value}{Q1:Value->Shared->Prop}(h:Q1 (.ref s.heap.objs.size) { s with heap:=s.heap.push (Bv w) }) :
  codeAny (model prog w) A (.call (.builtin "set.__new__") ⟨[.type "set",v],[]⟩) (wants Q1 E) s:=by
 refine codeAny_of_tree (show wpAny _ A.in1 (do checkBuiltinCall "set.__new__" ⟨[.type "set",v],[]⟩;again (.builtin "set.__new__" ⟨[.type "set",v],[]⟩)) _ _ s from ?_)
 refine Yaa (wpAny_of_eq (Qai v) (Yab ⟨Yck F.plain_set_new _,Yb0 F.entry_set_new (show wpAny _ _ _ _ _ _ from ?_)⟩))
 rw [Ybj F.plain_set_new _]
 unfold Builtin.«set.__new__» Builtin.Frozenset.newClass
 have k1:=sub_set_self
 obtain⟨hp,g,d,tk,os⟩:=s
 dsimp only
 wp_walk
 refine wpAny_askSetting (Yab (show wpAny _ _ _ _ _ _ from ?_))
 dsimp only
 simp only [newObj]
 exact Yaa (wpAny_alloc (Yab (Yab h)))
theorem Nl{v:Value}{Q:Value->Shared->Prop}(h:wpAny (model prog w) A.in1.in1 (Builtin.Frozenset.updateFrom "set.__init__" s.heap.objs.size v) (λ_ s2=>Q (.ref s.heap.objs.size) s2) E { s with heap:=s.heap.push (Bv w) }) :
  wpAny (model prog w) A (call (.type "set") [v]) Q E s:=by
 obtain⟨c,tl,hmro⟩:=F.called_set.mro
 have k1:=F.called_set.made
 have k2:=F.called_set.sub
 refine wpAny_call (codeAny_of_tree (show wpAny _ _ (callAny (.type "set") _) _ _ _ from ?_))
 refine Yab ⟨Code.quiet_builtin _ (by decide +kernel),Yb0 F.entry_type_call ?_⟩
 rw [Around.under_plain (weight_type_call_type "set" [v] []) rfl]
 have k3:=F.called_set.notType
 have k4:=F.called_set.canCreate
 have k5:=Wj v
 repeat any_goals first | assumption | wp_step
 refine Ye3 (Wk (E:=E) (Q1:=λob s1=>ob=.ref s.heap.objs.size/\s1={ s with heap:=s.heap.push (Bv w) }) ⟨rfl,rfl⟩) λr s1 hr=>?_
 cases r with
 | error e=>exact hr
 | ok fl =>
  cases fl with
  | ret ob =>
   obtain⟨rfl,rfl⟩:=hr
   have g:(s.heap.push (Bv w)).get? s.heap.objs.size=some (Bv w):=Heap.get?_push_size _ rfl
   have T:Shared.TypeIs { s with heap:=s.heap.push (Bv w) } (.ref s.heap.objs.size) "set" := ⟨_,g,rfl⟩
   have k6:=F.called_set.init.lookup
   have k7:=F.called_set.init.bind (.ref s.heap.objs.size)
   repeat any_goals first | assumption | wp_step
   refine Ye3 (codeAny_call_builtin (R:=wants (λr s2=>r=.none/\Q (.ref s.heap.objs.size) s2) E) F.called_set.init.plain F.entry_set_init (Tq T ?_)) λr2 s2 jt=>?_
   ·unfold Builtin.«set.__init__» noKeywords
    generalize hU:Builtin.Frozenset.updateFrom=U at h ⊢
    unfold Bv at g
    wp_walk
    exact Ybw h (λ_ _ q=>Yab ⟨rfl,q⟩) λ_ _ e=>e
   ·cases r2 with
    | error e=>exact jt
    | ok fl2 =>
     cases fl2 with
     | ret z =>
      obtain⟨rfl,q⟩:=jt
      repeat any_goals first | assumption | wp_step
     | _=>exact jt.elim
  | _=>exact hr.elim
end
section
theorem Lr:isSubtype (.type "tuple") (.type "set")=pure false:=by rw [Ydp];kernel_rfl
theorem Ls:isSubtype (.type "tuple") (.type "frozenset")=pure false:=by rw [Ydp];kernel_rfl
theorem Lu:isSubtype (.type "dict") (.type "set")=pure false:=by rw [Ydp];kernel_rfl
theorem Lv:isSubtype (.type "dict") (.type "frozenset")=pure false:=by rw [Ydp];kernel_rfl
theorem Lw(n:Nat):∀f z,SetTable.sizeAbove.go n f z<=max z (2 * n)
 | 0,z=>by unfold SetTable.sizeAbove.go;omega
 | f+1,z=>by
  unfold SetTable.sizeAbove.go
  split
  ·have:=Lw n f (z * 2);omega
  ·omega
theorem Ql{m f v:Nat}{l p:Bool}:SetTable.laid m f v l p #[]=some ({ mask:=m,place:=#[],dummies:=#[],finger:=f,led:=l,moves:=v,plain:=p },#[]):=by
 have e:((List.range (m+1)).filterMap λj=>((Array.replicate (m+1) (none:Option Nat)).getD j none).map (j,·))=[]:=by
  rw [List.filterMap_eq_nil_iff]
  intro j _
  have:(Array.replicate (m+1) (none:Option Nat)).getD j none=none:=by
   rw [Ycz]
   by_cases h:j < m+1
   ·simp [h]
   ·simp [h]
  rw [this];rfl
 unfold SetTable.laid SetTable.layClean
 simp only [Array.foldl_empty,Option.map_some,Option.bind_eq_bind,Option.bind_some,Option.pure_def]
 rw [e];rfl
end
section
variable {prog:Program}{w:World}{Kt:Type} [DecidableEq Kt]{knd:KeyKind prog w Kt}{A:Around}{E:Value->Shared->Prop}{s:Shared}{sa t:Addr}{led:Bool}
theorem Hd:ElemsOf knd []:=λe he=>by cases he
theorem Jd:Keys knd [] []:=λk=>⟨λ⟨e,he,_⟩=>(by cases he),λh=>(by cases h)⟩
theorem He{h:Heap}:Ch knd (h.push (Bv w)) h.objs.size [] (En w) :=
 ⟨_,#[],0,_,Heap.get?_push_size _ rfl,⟨rfl,rfl,rfl⟩,rfl,rfl,Hd,rfl,TblOk.fresh _⟩
theorem Tr{id:String}{items:Array Value}{ks:List Kt}{Q:Unit->Shared->Prop}(hh:A.handled=none)(ht:s.heap.IsTuple t items)(kj:ItemsAre knd ks items.toList)(r9:∀v∈items.toList,v.scannable=true)(hsz:items.size < 1000)
  (hS:Ch knd s.heap sa [] led) (bv:sa≠t)
  (h:∀h' tk l',(∀b o,b≠sa->s.heap.get? b=some o->h'.get? b=some o)->Ch knd h' sa l' led->Unlike knd l'->Keys knd l' ks->l'.length<=items.size->Q () { s with heap:=h',toks:=tk }) :
  wpAny (model prog w) A (Builtin.Frozenset.updateFrom id sa (.ref t)) Q E s:=by
 have T:s.TypeIs (.ref t) "tuple" := ht.typeIs
 have k1:=Lr
 have k2:=Ls
 have k3:(Value.type "tuple" == Value.type "dict")=false:=by decide
 unfold Builtin.Frozenset.updateFrom
 generalize xi:pyIter=PI
 wp_walk
 subst xi
 refine wpAny_pyIter_tuple ht (show wpAny _ _ _ _ _ _ from Yaa (wpAny_runValue ?_))
 have lt1:t < s.heap.objs.size:=by obtain⟨o,e,_⟩:=ht;exact Yae e
 have lt2:sa < s.heap.objs.size:=by obtain⟨o,_,_,_,e,_⟩:=hS;exact Yae e
 refine Tp (led:=led) hh (Yan lt2) bv (Yan lt1) kj r9 hsz items.size 0 _ [] [] (by omega) ⟨_,Heap.get?_push_size _ rfl,rfl,rfl⟩ (ht.push _) ?_ List.Pairwise.nil Jd (Ya4 _) (λk=>by simp) λh' tk l' a1 a2 a3 a4 a5=>?_
 ·obtain⟨o,es,ep,tt,e,r⟩:=hS
  exact⟨o,es,ep,tt,Heap.get?_push_of_some _ e,r⟩
 ·exact Yab (h h' tk l' (λb o n e=>a1 b o n (Yan (Yae e)) (Heap.get?_push_of_some _ e)) a2 a3 a4 a5)
theorem Qm{n:Nat}{Q:Unit->Shared->Prop}(hn:n < 1000)(hS:Ch knd s.heap sa [] led)(h:∀h',Heap.SameBut sa s.heap h'->Ch knd h' sa [] led->Q () { s with heap:=h' }) :
  wpAny (model prog w) A (setRoomFor sa n) Q E s:=by
 obtain⟨o,es,ep,tt,e,ff,hd,hl,cy,hf,hT⟩:=hS
 have hz:es=#[]:=by
  rw [<- Yen];exact hl
 subst hz
 unfold setRoomFor
 refine Yaa (Ybc e hd hf (show wpAny _ _ _ _ _ _ from ?_))
 dsimp only
 have h0:tt.place.size=0:=by
  have:=hf
  simp [SetTable.fits]at this
  rw [this.1];rfl
 unfold SetTable.roomFor
 split
 ·rename_i wanted hw
  split at hw
  ·cases hw
   unfold setRelay
   refine Yaa (Ybc e hd hf (show wpAny _ _ _ _ _ _ from ?_))
   dsimp only
   have k1:¬SetTable.sizeAbove ((tt.place.size+n) * 2) > sizeLine:=by
    have:=Lw ((tt.place.size+n) * 2) 64 8
    have e3:sizeLine=16777216:=rfl
    unfold SetTable.sizeAbove
    omega
   rw [Yah k1]
   rw [Array.map_empty,show tt.relaid (#[]) ((tt.place.size+n) * 2)=_ from Ql]
   generalize hT2:({ mask:=_,place:=#[],dummies:=#[],finger:=_,led:=tt.led,moves:=_,plain:=tt.plain }:SetTable)=T2
   have o2:TblOk T2 led:=by subst hT2;exact⟨List.Pairwise.nil,rfl,hT.led⟩
   have f2:T2.fits 0=true:=by subst hT2;simp [SetTable.fits,SetTable.fill]
   refine Yaa (show wpAny _ _ (pure (#[],T2)) _ _ _ from Yab (show wpAny _ _ (storeSet sa #[] T2) _ _ _ from ?_))
   exact wpAny_storeSet_of e hd (h _ (Ybs _ _ _) (Fn e ff hd Hd f2 o2).2) (Ya4 _)
  ·cases hw
 ·exact Yab (h s.heap (Heap.SameBut.refl _ _) ⟨o,#[],ep,tt,e,ff,hd,rfl,cy,hf,hT⟩)
theorem Lx:∀{es:List DictEntry} {ae:List (Kt×Value)} {i:Nat} {e:DictEntry},Pairs knd es ae->es[i]?=some e->∃k,(ae.map (·.1))[i]?=some k/\knd.is k e.key=true
 | _,_,_,_,.nil,h=>by simp at h
 | _,_,0,_,.cons h1 _ _,h=>by simp at h;subst h;exact⟨_,rfl,h1⟩
 | _,_,i+1,_,.cons _ _ t,h=>by simpa using Lx (i:=i) t (by simpa using h)
theorem Wl{nm:String}{d:Addr}{ae:List (Kt×Value)}{ep:Nat}{Q:Unit->Shared->Prop}(hd:(d==sysModules)=false)(hm:s.heap.DictAt knd d ae ep)(r9:∀k v,knd.is k v=true->k∈ae.map (·.1)->v.scannable=true)(hsz:ae.length < 1000)
  (hS:Ch knd s.heap sa [] led) (bv:sa≠d)
  (h:∀h' l',Heap.SameBut sa s.heap h'->Ch knd h' sa l' led->Unlike knd l'->Keys knd l' (ae.map (·.1))->l'.length<=ae.length->Q () { s with heap:=h' }) :
  wpAny (model prog w) A (Builtin.Frozenset.updateFrom nm sa (.ref d)) Q E s:=by
 have T:s.TypeIs (.ref d) "dict" := hm.dictOf.typeIs
 have k1:=Lu
 have k2:=Lv
 have k3:(Value.type "dict" == Value.type "dict")=true:=by decide
 obtain⟨o,es,ho,ff,hdt,hky,hp,tm⟩:=hm
 have aj:es.size=ae.length:=by
  rw [<- hp.length,Yax]
 unfold Builtin.Frozenset.updateFrom
 generalize xi:setRoomFor=PI
 wp_walk
 subst xi
 rw [hdt]
 refine Yab (Yaa (Yc9 ho hdt (Yaa (Qm (by omega) hS λh1 b1 S1=>?_))))
 have sv:h1.get? d=some o:=(b1.2 d (Ybe bv)).trans ho
 refine Yaa (Yc9 sv hdt (Yaa (show wpAny _ _ (forIn [:es.size] PUnit.unit _) _ _ _ from ?_)))
 rw [Std.Legacy.Range.forIn_eq_forIn_range']
 refine wpAny_forIn_list _ (λrest _ s'=>∃i h' l',rest=List.range' i (es.size - i)/\i<=es.size/\s'={ s with heap:=h' }/\Heap.SameBut sa s.heap h'/\Ch knd h' sa l' led/\Unlike knd l'/\Keys knd l' ((ae.map (·.1)).take i)/\l'.length<=i) _ ?_ ?_ _ _ ?_
 ·rintro x rest _ _ ⟨i,h',l',hr,hi,rfl,b2,S2,U2,K2,L2⟩
  have hlt:i < es.size:=by
   rcases Yco i es.size with c | c
   ·exact c
   ·rw [Nat.sub_eq_zero_of_le c]at hr;cases hr
  have jt:es.size - i=(es.size - (i+1))+1:=by omega
  rw [jt,List.range'_succ]at hr
  cases hr
  have cj:h'.get? d=some o:=(b2.2 d (Ybe bv)).trans ho
  have ge:es[x]?=some es[x]:=Array.getElem?_eq_getElem hlt
  obtain⟨k,hk,hhash⟩:=hky es[x] (Array.getElem_mem hlt)
  obtain⟨kk,ek,hkk⟩:=Lx hp (show es.toList[x]?=some es[x] by rw [Array.getElem?_toList];exact ge)
  have:=knd.inj _ k kk hk hkk
  subst this
  have fu:∀k',k'∈(ae.map (·.1)).take (x+1)↔k'∈(ae.map (·.1)).take x\/k'=k:=λk'=>by
   rw [Ycw,ek,Yat];simp
  refine Yaa (Yc9 cj hdt (show wpAny _ _ _ _ _ _ from ?_))
  rw [ge]
  dsimp only
  refine Yaa (Ybf ?_)
  rw [hhash]
  have hx:=r9 k _ hk (Yaz ek)
  have ar:∀(Q2:ForInStep PUnit->Shared->Prop) (h3:Heap),Heap.SameBut sa s.heap h3->Q2 (ForInStep.yield PUnit.unit) { s with heap:=h3 } ->
    wpAny (model prog w) A (do
     let __do_lift <- dictEpoch d
     if(__do_lift != ep)=true then do
       unsupported (toString nm++toString ":changed-during-callback")
       pure (ForInStep.yield PUnit.unit)
      else pure (ForInStep.yield PUnit.unit)) Q2 E { s with heap:=h3 }:=λQ2 h3 b3 q=>by
   have ho3:h3.get? d=some o:=(b3.2 d (Ybe bv)).trans ho
   refine Yaa (Ye0 ho3 hdt (show wpAny _ _ _ _ _ _ from ?_))
   rw [Yah (by simp)]
   exact Yab q
  refine Ox hk hx (s:={ s with heap:=h' }) S2 (by have:scanBound=4096:=rfl;omega) (λv9=>?_) (λik h3 l3 b3 S3 fg=>?_)
  ·refine ar _ h' b2 ⟨x+1,h',l',rfl,hlt,rfl,b2,S2,U2,λk'=>?_,(by omega)⟩
   rw [fu k',K2 k']
   refine⟨.inl,λhc=>hc.elim _root_.id λe=>?_⟩
   rw [e];exact(K2 k).mp v9
  ·refine ar _ h3 (b2.trans b3) ⟨x+1,h3,l3,rfl,hlt,rfl,b2.trans b3,S3,(U2.add hk ik).perm fg,λk'=>?_,(by rw [fg.length_eq,Yao,Yeg];omega)⟩
   rw [fu k',<- K2 k']
   constructor
   ·rintro⟨e,he,hek⟩
    rcases Yat.mp (fg.mem_iff.mp he) with he | he
    ·exact .inl ⟨e,he,hek⟩
    ·have e1:e=(knd.hash k,es[x].key):=by simpa using he
     subst e1
     exact .inr (knd.inj _ k' k hek hk)
   ·rintro(⟨e,he,hek⟩ | rfl)
    ·exact⟨e,fg.mem_iff.mpr (Ycs _ he),hek⟩
    ·exact⟨(knd.hash k',es[x].key),fg.mem_iff.mpr (Ya2 _ (Yal.mpr rfl)),hk⟩
 ·rintro _ _ ⟨i,h',l',hr,hi,rfl,b2,S2,U2,K2,L2⟩
  have hlt:i=es.size:=by
   rcases Yco i es.size with c | c
   ·have jt:es.size - i=(es.size - (i+1))+1:=by omega
    rw [jt,List.range'_succ]at hr;cases hr
   ·omega
  subst hlt
  rw [Yb5 (by rw [Yac,aj];exact Yad _)]at K2
  exact Yab (h h' l' b2 S2 U2 K2 (by omega))
 ·exact⟨0,h1,[],by simp [Std.Legacy.Range.size],Ya4 _,rfl,b1,S1,List.Pairwise.nil,by rw [List.take_zero];exact Jd,Yad _⟩
end
theorem Ly:Manifest.owners.lookup (String.ofList ['r','o','t','a','r','e','t','i','_','t','e','s'].reverse)=some Manifest.sig_set_iterator:=by kernel_rfl
theorem C5:Slot "set_iterator" "__next__" "set_iterator.__next__" := .of (owner := "set_iterator") (n := "__next__") (by rw [Ye1,Ydl];kernel_rfl) (by decide +kernel) (by decide +kernel) (by decide +kernel) (.inl (by decide +kernel)) (by rw [Ydp];kernel_rfl)
theorem Lz:entryFor table "set_iterator.__next__" = some Builtin.«set_iterator.__next__»:=entryFor_of_tree (by kernel_rfl)
theorem Oy(a:Value):argsOk "set_iterator.__next__" ⟨[a],[]⟩:=by
 rw [argsOk,signature?_of (id := "set_iterator.__next__") (n:=['_','_','t','x','e','n','_','_']) (o:=['r','o','t','a','r','e','t','i','_','t','e','s']) (by kernel_rfl) Ly];kernel_rfl
theorem Oz:Slot "set_iterator" "__iter__" "set_iterator.__iter__" := .of (owner := "set_iterator") (n := "__iter__") (by rw [Ye1,Ydl];kernel_rfl) (by decide +kernel) (by decide +kernel) (by decide +kernel) (.inl (by decide +kernel)) (by rw [Ydp];kernel_rfl)
theorem Ts(a:Value):argsOk "set_iterator.__iter__" ⟨[a],[]⟩:=by
 rw [argsOk,signature?_of (id := "set_iterator.__iter__") (n:=['_','_','r','e','t','i','_','_']) (o:=['r','o','t','a','r','e','t','i','_','t','e','s']) (by kernel_rfl) Ly];kernel_rfl
theorem Qn:entryFor table "set_iterator.__iter__" = some Builtin.«dict_keyiterator.__iter__»:=entryFor_alias (id' := "dict_keyiterator.__iter__") (by kernel_rfl) (by first | rfl | decide +kernel) (by decide +kernel) (by kernel_rfl)
theorem Nm:entryFor table "set.__iter__" = some Builtin.«frozenset.__iter__»:=entryFor_alias (id' := "frozenset.__iter__") (by kernel_rfl) (by first | rfl | decide +kernel) (by decide +kernel) (by kernel_rfl)
section
variable {prog:Program}{w:World}{A:Around}{E:Value->Shared->Prop}{s:Shared}
theorem Nn{M:Model}{src:Source}{n:Nat}{Q:Nat->Shared->Prop}(hn:n≠0)(h:∀i d',i < n->Q i { s with drawn:=d' }):wpAny M A (choose src n) Q E s:=fun Γ p _=>by
 unfold choose
 rw [Sem.wp_choose]
 refine⟨hn,?_⟩
 rw [Sem.wp_pure]
 exact h _ _ (Nat.mod_lt _ (Nat.pos_of_ne_zero hn))
theorem Fo{α:Type}:∀{xs:List α} {i:Nat} {x:α},xs[i]?=some x->(x :: xs.eraseIdx i).Perm xs
 | _ :: _,0,_,h=>by simp at h;subst h;exact List.Perm.refl _
 | y :: ys,i+1,x,h=>by
  have:=Fo (xs:=ys) (i:=i) (x:=x) (by simpa using h)
  exact(List.Perm.swap y x _).trans (this.cons y)
theorem Hf{M:Model}{α:Type}:∀(n:Nat) (xs:List α) (s:Shared) (Q:List α->Shared->Prop),xs.length=n->(∀ys d',ys.Perm xs->Q ys { s with drawn:=d' })->wpAny M A (drawOrder n xs) Q E s
 | 0,xs,s,Q,hn,h=>by
  have:xs=[]:=Yca hn
  subst this
  exact Yab (h [] s.drawn (List.Perm.refl _))
 | n+1,[],s,Q,hn,h=>by cases hn
 | n+1,x :: xs,s,Q,hn,h=>by
  unfold drawOrder
  refine Yaa (Nn (by simp) λi d1 hi=>?_)
  have e:(x :: xs)[i]?=some (x :: xs)[i]:=List.getElem?_eq_getElem hi
  rw [e]
  refine Yaa (Hf n _ _ _ ?_ λys d2 hp=>Yab (h _ d2 ((hp.cons _).trans (Fo e))))
  rw [List.length_eraseIdx_of_lt hi];simp at hn ⊢;omega
theorem O0{α:Type}(next:Nat->Nat):∀(n k:Nat) (left:List α) (out:Array α),left.length=n->(pickOrder.go next n k left out).toList.Perm (out.toList++left)
 | 0,k,left,out,hn=>by
  have:left=[]:=Yca hn
  subst this
  unfold pickOrder.go
  simp
 | n+1,k,left,out,hn=>by
  unfold pickOrder.go
  have hl:next k % left.length < left.length:=Nat.mod_lt _ (by omega)
  have e:left[next k % left.length]?=some left[next k % left.length]:=List.getElem?_eq_getElem hl
  rw [e]
  dsimp only
  refine(O0 next n (k+1) _ _ (by rw [List.length_eraseIdx_of_lt hl];omega)).trans ?_
  rw [Yc7,Ycx]
  exact(Fo e).append_left _
theorem Qo{α:Type}(next:Nat->Nat)(xs:Array α):(pickOrder next xs).toList.Perm xs.toList:=by
 unfold pickOrder
 simpa using O0 next xs.size 0 xs.toList #[] (by simp)
def C1(h:Heap)(a:Addr)(es:Array (Int×Value))(ep:Nat)(t:SetTable):Prop:=∃o,h.get? a=some o/\o.cls=.type "set" /\ o.data=.set es ep t/\t.fits es.size=true
theorem C1.typeIs{a:Addr}{es:Array (Int×Value)}{ep:Nat}{t:SetTable}(x:C1 s.heap a es ep t):s.TypeIs (.ref a) "set" := let⟨o,ho,hc,_⟩:=x;⟨o,ho,hc⟩
theorem C1.at{h h':Heap}{a:Addr}{es:Array (Int×Value)}{ep:Nat}{t:SetTable}(x:C1 h a es ep t)(e:∀o,h.get? a=some o->h'.get? a=some o):C1 h' a es ep t:=let⟨o,ho,r⟩:=x;⟨o,e _ ho,r⟩
def Ea(h:Heap)(it a:Addr)(first:Value)(i n ep:Nat):Prop:=∃o,h.get? it=some o/\o.cls=.type "set_iterator" /\ o.data=.fields #[first,rawInt i,.ref a,rawInt n,rawInt ep]
theorem Ea.typeIs{it a:Addr}{first:Value}{i n ep:Nat}(x:Ea s.heap it a first i n ep):s.TypeIs (.ref it) "set_iterator" := let⟨o,ho,hc,_⟩:=x;⟨o,ho,hc⟩
theorem Ea.at{h h':Heap}{it a:Addr}{first:Value}{i n ep:Nat}(x:Ea h it a first i n ep)(e:∀o,h.get? it=some o->h'.get? it=some o):Ea h' it a first i n ep:=let⟨o,ho,r⟩:=x;⟨o,e _ ho,r⟩
def Hg(pl:Array Nat):Nat->Nat
 | 0=>0
 | i+1=>pl.getD i 0+1
inductive Mode (w:World) (a:Addr) (es:Array (Int×Value)) (ep:Nat) (t:SetTable) (h:Heap):Nat->Value->List Value->Prop
 | text {i:Nat} (hb:w.params.followText "set-order" = true):Mode w a es ep t h i (rawInt 0) ((pickOrder (w.params.setOrder a ep) es).toList.map (·.2))
 | table {i:Nat} (hb:w.params.followText "set-order" = false) (hd:(!t.plain && decide (es.size > 1))=false):Mode w a es ep t h i (rawInt (Hg t.place i)) (es.toList.map (·.2))
 | drawn {i:Nat} {pt:Addr} {ps:List Nat} (hb:w.params.followText "set-order" = false) (hp:ps.Perm (List.range es.size)) (ht:h.IsTuple pt (ps.map λ(j:Nat)=>rawInt j).toArray):Mode w a es ep t h i (.ref pt) (ps.map λj=>(es.getD j (0,.none)).2)
theorem Qp{α:Type}(xs:Array α)(d:α):(List.range xs.size).map (λj=>xs.getD j d)=xs.toList:=by
 refine List.ext_getElem (by simp) λi h1 h2=>?_
 simp at h1 h2 ⊢
 simp [h1]
theorem Mode.perm{a:Addr}{es:Array (Int×Value)}{ep:Nat}{t:SetTable}{h:Heap}{i:Nat}{first:Value}{ord:List Value}(m:Mode w a es ep t h i first ord):ord.Perm (es.toList.map (·.2)):=by
 cases m with
 | text hb=>exact(Qo _ _).map _
 | table hb hd=>exact List.Perm.refl _
 | @drawn pt ps hb hp ht =>
  have:=hp.map λj=>(es.getD j (0,Value.none)).2
  refine this.trans (List.Perm.of_eq ?_)
  rw [<- Qp es (0,Value.none),Ya5];rfl
theorem Ef{Q:Bool->Shared->Prop}(h:Q (w.params.followText "set-order") s):wpAny (model prog w) A setsByText Q E s:=by
 unfold setsByText
 exact Yaa (wpAny_askSetting (Yab h))
theorem No{a:Addr}{es:Array (Int×Value)}{ep:Nat}{t:SetTable}{Q:Value->Shared->Prop}(hA:C1 s.heap a es ep t)(hz:es.size<=1000)
  (h:∀it h' d' first ord,s.heap.objs.size<=it->(∀b o,s.heap.get? b=some o->h'.get? b=some o)->Ea h' it a first 0 es.size ep->Mode w a es ep t h' 0 first ord->(∀pt,first=.ref pt->s.heap.objs.size<=pt/\pt≠it)->Q (.ref it) { s with heap:=h',drawn:=d' }) :
  wpAny (model prog w) A (pyIter (.ref a)) Q E s:=by
 obtain⟨o,ho,hc,hd,hf⟩:=id hA
 refine Yec hA.typeIs F.slot_set_iter (Ya3 F.slot_set_iter hA.typeIs Nm ?_ (F.args_set_iter_1 _))
 unfold Builtin.«frozenset.__iter__» Builtin.Frozenset.sizeOf setEntries setDrawn setEpoch
 refine(show wpAny _ _ (_ >>= _) _ _ _ from Yaa (show wpAny _ _ (pure a) _ _ _ from Yab (Yaa (Yaa (Yaa (Ybc ho hd hf (Yab (Yab ?_))))))))
 refine Yaa (Yaa (Ybc ho hd hf (Yaa (Ef (Yab ?_)))))
 cases hb:w.params.followText "set-order" with
 | true =>
  refine(show wpAny _ _ (if(!true && _)=true then _ else _) _ _ _ from ?_)
  rw [Bool.not_true,Bool.false_and,Yah Yag]
  refine Yaa (Yab (Yaa (Yaa (Ybc ho hd hf (Yab (Yaa (Yay (Yab ⟨_,rfl,"set_iterator",_,⟨_,Heap.get?_push_size _ rfl,rfl⟩,C5.lookup,?_⟩))))))))
  exact h _ _ s.drawn _ _ (Yad _) (λb o e=>Heap.get?_push_of_some _ e) ⟨_,Heap.get?_push_size _ rfl,rfl,rfl⟩ (.text hb) λpt e=>by cases e
 | false =>
  cases gc:(!t.plain && decide (es.size > 1)) with
  | false =>
   refine(show wpAny _ _ (if(!false && (!t.plain && decide (es.size > 1)))=true then _ else _) _ _ _ from ?_)
   rw [gc,Bool.not_false,Bool.true_and,Yah Yag]
   refine Yaa (Yab (Yaa (Yaa (Ybc ho hd hf (Yab (Yaa (Yay (Yab ⟨_,rfl,"set_iterator",_,⟨_,Heap.get?_push_size _ rfl,rfl⟩,C5.lookup,?_⟩))))))))
   exact h _ _ s.drawn _ _ (Yad _) (λb o e=>Heap.get?_push_of_some _ e) ⟨_,Heap.get?_push_size _ rfl,rfl,rfl⟩ (.table hb gc) λpt e=>by cases e
  | true =>
   refine(show wpAny _ _ (if(!false && (!t.plain && decide (es.size > 1)))=true then _ else _) _ _ _ from ?_)
   rw [gc,Bool.not_false,Bool.true_and,Yaj rfl]
   refine Yaa (Hf _ _ _ _ (by simp) λps d1 hp=>?_)
   refine Yaa (m:=newTuple _) (show wpAny _ _ _ _ _ _ from ?_)
   simp only [newTuple]
   have vg:ps.length<=1000:=by rw [hp.length_eq];simpa using hz
   refine Yay ?_ (by size_fits)
   have cj:=Heap.get?_push_of_some { cls:=Value.type "tuple",data:=Data.seq (List.map (λ(i:Nat)=>rawInt ↑i) ps).toArray } ho
   refine Yaa (Yaa (Ybc cj hd hf (Yab (Yaa (Yay (Yab ⟨_,rfl,"set_iterator",_,⟨_,Heap.get?_push_size _ rfl,rfl⟩,C5.lookup,?_⟩))))))
   refine h _ _ d1 _ _ (by rw [Ycj];exact Yev _) (λb o e=>Heap.get?_push_of_some _ (Heap.get?_push_of_some _ e)) ⟨_,Heap.get?_push_size _ rfl,rfl,rfl⟩ (.drawn hb hp ⟨_,Heap.get?_push_of_some _ (Heap.get?_push_size _ rfl),rfl,0,rfl⟩) λpt e=>?_
   cases e
   exact⟨Yad _,Yan (by rw [Ycj];exact Yde _)⟩
theorem Np{t:SetTable}(hr:C4 t.place){i:Nat}(hi:i<=t.place.size):SetTable.below t.place (Hg t.place i)=i:=by
 cases i with
 | zero=>exact Nh hr
 | succ i =>
  have:=Ng hr (k:=i) (by omega)
  show SetTable.below t.place (t.place.getD i 0+1)=i+1
  rw [show t.place.getD i 0=t.place[i] by simp [show i < t.place.size by omega]]
  exact this
theorem Je{a:Addr}{es:Array (Int×Value)}{ep slot i:Nat}{t:SetTable}{Q:Option (Value×Nat)->Shared->Prop}(hA:C1 s.heap a es ep t)(hb:w.params.followText "set-order" = true) (h:Q (((pickOrder (w.params.setOrder a ep) es)[i]?).map λe=>(e.2,slot)) s) :
  wpAny (model prog w) A (setNext a slot i ep) Q E s:=by
 obtain⟨oa,hoa,_,hda,hf⟩:=hA
 unfold setNext
 refine Yaa (Ybc hoa hda hf (Yaa (Ef (show wpAny _ _ (if _=true then _ else _) _ _ _ from ?_))))
 rw [Yaj hb]
 refine(show wpAny _ _ (if(ep != ep)=true then _ else _) _ _ _ from ?_)
 rw [Yah (by simp)]
 unfold setWalk
 refine Yaa (Yaa (Ybc hoa hda hf (Yaa (Ef (show wpAny _ _ (if _=true then _ else _) _ _ _ from ?_)))))
 rw [Yaj hb]
 exact Yaa (wpAny_askSetting (Yab (Yab h)))
theorem Hh{a:Addr}{es:Array (Int×Value)}{ep i g:Nat}{t:SetTable}{Q:Option (Value×Nat)->Shared->Prop}(hA:C1 s.heap a es ep t)(hT:TblOk t (En w))(hb:w.params.followText "set-order" = false) (gc:(!t.plain && decide (es.size > 1))=false) (hi:i<=es.size)
  (h:Q (match es[i]?,t.place[i]? with | some (_,x),some j=>some (x,j+1) | _,_=>none) s):wpAny (model prog w) A (setNext a (Hg t.place i) g ep) Q E s:=by
 obtain⟨oa,hoa,_,hda,hf⟩:=hA
 have hpl:t.place.size=es.size:=by simp [SetTable.fits]at hf;exact hf.1
 unfold setNext
 refine Yaa (Ybc hoa hda hf (Yaa (Ef (show wpAny _ _ (if _=true then _ else _) _ _ _ from ?_))))
 rw [Yah (by rw [hb];exact Yag)]
 refine(show wpAny _ _ (if(!t.plain && decide (es.size > 1))=true then _ else _) _ _ _ from ?_)
 rw [gc,Yah Yag]
 refine Yaa (show wpAny _ _ (if(!t.led && !es.isEmpty)=true then _ else _) _ _ _ from ?_)
 rw [Yah (by rw [hT.led,En,hb];simp)]
 refine Yab (show wpAny _ _ (pure _) _ _ _ from Yab ?_)
 rw [Np hT.rise (by omega)]
 exact h
theorem Cl{a:Addr}{o:Obj}{vs:Array Value}{i:Nat}{x:Value}{Q:Unit->Shared->Prop}(ho:s.heap.get? a=some o)(hd:o.data=.fields vs)(hi:i < vs.size)
  (h:∀h' o',h'.get? a=some o'->o'.cls=o.cls->o'.data=.fields (vs.setIfInBounds i x)->Heap.SameBut a s.heap h'->Q () { s with heap:=h' }):wpAny (model prog w) A (setField (.ref a) i x) Q E s :=
 wpAny_setField ho hd hi (h _ _ (Heap.get?_update_self _ ho (Obj.isFreed_of_fields (Yd0 hd _))) (Obj.cls_mapFields ..) (Yd0 hd _) (Ybs ..))
theorem Tt{it a:Addr}{es:Array (Int×Value)}{ep:Nat}{t:SetTable}{first x:Value}{i:Nat}{ord:List Value}{Q:Option Value->Shared->Prop}(hA:C1 s.heap a es ep t)(hT:TblOk t (En w))(hI:Ea s.heap it a first i es.size ep)(hM:Mode w a es ep t s.heap i first ord)(ay:a≠it)(mq:∀pt,first=.ref pt->pt≠it)(hx:ord[i]?=some x)
  (hQ:∀h' cz,Ea h' it a cz (i+1) es.size ep->Mode w a es ep t h' (i+1) cz ord->(∀pt,cz=.ref pt->first=.ref pt)->Heap.SameBut it s.heap h'->Q (some x) { s with heap:=h' }) :
  wpAny (model prog w) A (pyNext (.ref it)) Q E s:=by
 obtain⟨o,ho,hc,hd⟩:=id hI
 obtain⟨oa,hoa,_,hda,hf⟩:=id hA
 have hpl:t.place.size=es.size:=by simp [SetTable.fits]at hf;exact hf.1
 unfold pyNext
 refine Yaa (Yc3 (wpAny_callSpecial?_slot (name:=Str.ofString "__next__") hI.typeIs C5 (Ya3 C5 hI.typeIs Lz ?_ (Oy _))))
 unfold Builtin.«set_iterator.__next__»
 refine(show wpAny _ _ (_ >>= _) _ _ _ from Yaa (show wpAny _ _ (pure (Value.ref it,[])) _ _ _ from Yab (show wpAny _ _ (fieldsOf (.ref it) >>= _) _ _ _ from Yaa (Ydq ho hd (show wpAny _ _ (setEntries a >>= _) _ _ _ from Yaa ?_)))))
 refine(show wpAny _ _ (setState a >>= _) _ _ _ from Yaa (Ybc hoa hda hf (Yab (show wpAny _ _ (if((es.size:Int) != (es.size:Int))=true then _ else _) _ _ _ from ?_))))
 rw [Yah (by simp)]
 have ar:∀(Q2:PySem.Fin->Shared->Prop) (E2:Value->Shared->Prop) (nx:Nat),(∀h',Ea h' it a (rawInt nx) (i+1) es.size ep->Heap.SameBut it s.heap h'->Q2 (.done (.ret x)) { s with heap:=h' }) ->
   wpAny (model prog w) A.in1 (setField (.ref it) 0 (rawInt (nx:Nat)) >>= λ_=>setField (.ref it) 1 (rawInt ((i:Int)+1)) >>= λ_=>ret x) Q2 E2 s:=λQ2 E2 nx q=>by
  refine Yaa (Cl ho hd (by simp) λh1 o1 e1 c1 d1 b1=>Yaa (Cl (s:={ s with heap:=h1 }) e1 d1 (by simp) λh2 o2 e2 c2 d2 b2=>Yab (q h2 ⟨o2,e2,c2.trans (c1.trans hc),?_⟩ (b1.trans b2))))
  rw [d2];simp [rawInt]
 cases hM with
 | text hb =>
  refine(show wpAny _ _ (setNext a 0 i ep >>= _) _ _ _ from Yaa (Je hA hb ?_))
  obtain⟨e,he,rfl⟩:∃e,(pickOrder (w.params.setOrder a ep) es)[i]?=some e/\e.2=x:=by
   rw [List.getElem?_map,Yap]at hx
   obtain⟨e,he,r⟩:=hx
   exact⟨e,by rw [<- Array.getElem?_toList];exact he,r⟩
  rw [he]
  exact ar _ _ 0 λh' I' b'=>⟨_,rfl,Yab (hQ h' _ I' (.text hb) (λ_ z=>z) b')⟩
 | table hb gc =>
  have hlt:i < es.size:=by
   rw [List.getElem?_map]at hx
   rcases Yco i es.size with c | c
   ·exact c
   ·simp [List.getElem?_eq_none,c]at hx
  refine(show wpAny _ _ (setNext a (Hg t.place i) i ep >>= _) _ _ _ from Yaa (Hh hA hT hb gc (Ybu hlt) ?_))
  have he:es[i]?=some es[i]:=Array.getElem?_eq_getElem hlt
  have hp:t.place[i]?=some (t.place.getD i 0):=by simp [hpl,hlt]
  have mj:es[i].2=x:=by
   rw [List.getElem?_map,Array.getElem?_toList,he]at hx
   exact Ya0 hx
  rw [he,hp]
  dsimp only
  rw [mj]
  exact ar _ _ (t.place.getD i 0+1) λh' I' b'=>⟨_,rfl,Yab (hQ h' _ I' (.table (i:=i+1) hb gc) (λ_ z=>by cases z) b')⟩
 | @drawn pt ps hb hp ht =>
  have hlt:i < ps.length:=by
   rcases Yco i ps.length with c | c
   ·exact c
   ·rw [List.getElem?_eq_none (by simpa using c)]at hx;cases hx
  have e1:ps[i]?=some ps[i]:=List.getElem?_eq_getElem hlt
  have ck:ps[i] < es.size:=by simpa using hp.mem_iff.mp (Yc0 hlt)
  obtain⟨y,hy,mj⟩:∃y,es[ps[i]]?=some y/\y.2=x:=by
   rw [List.getElem?_map,e1]at hx
   have:=Ya0 hx
   exact⟨es[ps[i]],Array.getElem?_eq_getElem ck,by simpa [ck] using this⟩
  obtain⟨ot,hot,_,nt,hdt⟩:=id ht
  refine(show wpAny _ _ (seqItems? (.ref pt) >>= _) _ _ _ from Yaa (Yb3 hot hdt (show wpAny _ _ _ _ _ _ from ?_)))
  dsimp only
  have e2:((ps.map λ(j:Nat)=>rawInt (j:Int)).toArray)[i]?=some (rawInt (ps[i]:Int)):=by
   simp [e1]
  rw [Ydo,e2]
  refine(show wpAny _ _ (setNextDrawn a ps[i] ep >>= _) _ _ _ from Yaa ?_)
  unfold setNextDrawn
  refine Yaa (Ybc hoa hda hf (show wpAny _ _ (if(ep != ep)=true then _ else _) _ _ _ from ?_))
  rw [Yah (by simp),hy]
  refine Yab ?_
  rw [mj]
  refine Yaa (Cl ho hd (by simp) λh1 o1 e1 c1 d1 b1=>Yab ⟨_,rfl,Yab (hQ h1 (.ref pt) ⟨o1,e1,c1.trans hc,?_⟩ (.drawn hb hp (ht.at λo e=>(b1.2 pt (mq pt rfl)).trans e)) (λ_ z=>z) b1)⟩)
  rw [d1];simp [rawInt]
theorem Wm{it a:Addr}{es:Array (Int×Value)}{ep:Nat}{t:SetTable}{first:Value}{ord:List Value}{Q:Option Value->Shared->Prop}(hh:A.handled=none)(hA:C1 s.heap a es ep t)(hT:TblOk t (En w))(hI:Ea s.heap it a first es.size es.size ep)(hM:Mode w a es ep t s.heap es.size first ord)
  (hQ:∀h',Heap.ExtBut it s.heap h'->Q none { s with heap:=h' }):wpAny (model prog w) A (pyNext (.ref it)) Q E s:=by
 obtain⟨o,ho,hc,hd⟩:=id hI
 obtain⟨oa,hoa,_,hda,hf⟩:=id hA
 have hpl:t.place.size=es.size:=by simp [SetTable.fits]at hf;exact hf.1
 have aj:ord.length=es.size:=by rw [hM.perm.length_eq];simp
 unfold pyNext
 refine Yaa (Yc3 (wpAny_callSpecial?_slot (name:=Str.ofString "__next__") hI.typeIs C5 (Ya3 C5 hI.typeIs Lz ?_ (Oy _))))
 unfold Builtin.«set_iterator.__next__»
 refine(show wpAny _ _ (_ >>= _) _ _ _ from Yaa (show wpAny _ _ (pure (Value.ref it,[])) _ _ _ from Yab (show wpAny _ _ (fieldsOf (.ref it) >>= _) _ _ _ from Yaa (Ydq ho hd (show wpAny _ _ (setEntries a >>= _) _ _ _ from Yaa ?_)))))
 refine(show wpAny _ _ (setState a >>= _) _ _ _ from Yaa (Ybc hoa hda hf (Yab (show wpAny _ _ (if((es.size:Int) != (es.size:Int))=true then _ else _) _ _ _ from ?_))))
 rw [Yah (by simp)]
 have ar:∀(h1:Heap) (Q2:PySem.Fin->Shared->Prop) (E2:Value->Shared->Prop) ,(∀e h',Heap.ExtBut it h1 h'->Shared.TypeIs { s with heap:=h' } e "StopIteration" -> E2 e { s with heap:=h' }) ->
   wpAny (model prog w) A.in1 (newExc (.type "StopIteration") [] >>= λe=>raiseNew e) Q2 E2 { s with heap:=h1 }:=λh1 Q2 E2 q=>by
  refine Yaa ?_
  simp only [newExc,newTuple]
  refine Yaa (Yay (Yaa (m:=firstArgMember _ _) (wpAny_of_eq (a:=Value.none) (by first | rfl | (simp only [firstArgMember];rfl)) (Yay ?_ (by size_fits)))) (by size_fits))
  simp only [raiseNew]
  refine Yaa (wpAny_handled ?_)
  rw [show A.in1.handled=none from hh]
  have x0:Heap.ExtBut it h1 h1:=λb o hb e=>e
  refine Yaa (Yab (wpAny_throw ?_))
  exact q _ _ ((x0.push _).push _) ⟨_,Heap.get?_push_size _ rfl,rfl⟩
 have jo:∀(h1:Heap) (e:Value) (h':Heap),Heap.ExtBut it s.heap h1->Heap.ExtBut it h1 h'->Shared.TypeIs { s with heap:=h' } e "StopIteration" -> wpAny (model prog w) A (isInstance e (.type "StopIteration") >>= λb=>if b=true then pure none else throw e) Q E { s with heap:=h' }:=λh1 e h' x1 x2 T=>by
  refine Yaa (Yc2 (b:=true) T isSubtype_stop ?_)
  exact Yab (hQ h' λb o hb e=>x2 b o hb (x1 b o hb e))
 cases hM with
 | text hb =>
  refine(show wpAny _ _ (setNext a 0 es.size ep >>= _) _ _ _ from Yaa (Je hA hb ?_))
  rw [Yac,Yax]at aj
  rw [Array.getElem?_eq_none (by omega)]
  exact Yaa (Cl ho hd (by simp) λh1 o1 e1 c1 d1 b1=>ar h1 _ _ λe h' x T=>jo h1 e h' b1.extBut x T)
 | table hb gc =>
  refine(show wpAny _ _ (setNext a (Hg t.place es.size) es.size ep >>= _) _ _ _ from Yaa (Hh hA hT hb gc (Yad _) ?_))
  rw [Array.getElem?_eq_none (Yad _)]
  exact Yaa (Cl ho hd (by simp) λh1 o1 e1 c1 d1 b1=>ar h1 _ _ λe h' x T=>jo h1 e h' b1.extBut x T)
 | @drawn pt ps hb hp ht =>
  obtain⟨ot,hot,_,nt,hdt⟩:=id ht
  refine(show wpAny _ _ (seqItems? (.ref pt) >>= _) _ _ _ from Yaa (Yb3 hot hdt (show wpAny _ _ _ _ _ _ from ?_)))
  dsimp only
  rw [Ydo,Array.getElem?_eq_none (by simpa using Nat.le_of_eq (by simpa using aj))]
  exact Yaa (Cl ho hd (by simp) λh1 o1 e1 c1 d1 b1=>Yaa (Cl (s:={ s with heap:=h1 }) e1 d1 (by simp) λh2 o2 e2 c2 d2 b2=>ar h2 _ _ λe h' x T=>jo h2 e h' (b1.trans b2).extBut x T))
end
end L2
namespace L2
open PySem PySem.Spec PyProof.Rows PySem.W
section
variable {prog:Program}{w:World}{A:Around}{E:Value->Shared->Prop}{s:Shared}
theorem Mode.at{a:Addr}{es:Array (Int×Value)}{ep:Nat}{t:SetTable}{h h':Heap}{i:Nat}{first:Value}{ord:List Value}(m:Mode w a es ep t h i first ord)(hk:∀pt,first=.ref pt->∀o,h.get? pt=some o->h'.get? pt=some o):Mode w a es ep t h' i first ord:=by
 cases m with
 | text hb=>exact .text hb
 | table hb hd=>exact .table hb hd
 | @drawn pt ps hb hp ht=>exact .drawn hb hp (ht.at λo e=>hk pt rfl o e)
theorem Qq(hh:A.handled=none){it a:Addr}{es:Array (Int×Value)}{ep:Nat}{t:SetTable}{ord:List Value}(iz:List Addr)(hT:TblOk t (En w))(ay:a≠it)(mq:it∉iz)(aj:ord.length=es.size) :
  Walks prog w A it (it :: a :: iz) [it] es.size (λi v=>ord[i]?=some v) (λi h=>C1 h a es ep t/\∃first,Ea h it a first i es.size ep/\Mode w a es ep t h i first ord/\∀pt,first=.ref pt->pt∈iz) where
 sub:=λb hb=>by simp at hb;simp [hb]
 frame:=λi h h' st hk=>by
  obtain⟨hA,first,hI,hM,hp⟩:=st
  exact⟨hA.at λo e=>hk a (by simp) o e,first,hI.at λo e=>hk it (by simp) o e,hM.at λpt z o e=>hk pt (by simp [hp pt z]) o e,hp⟩
 item:=λi s Q E hi st hQ=>by
  obtain⟨hA,first,hI,hM,hp⟩:=st
  refine Tt hA hT hI hM ay (λpt z q=>mq (q ▸ hp pt z)) (x:=ord[i]'(by omega)) (List.getElem?_eq_getElem _) λh' cz v6 hM' hr hb=>?_
  exact hQ _ h' s.toks (List.getElem?_eq_getElem _) ⟨hA.at λo e=>(hb.2 a ay).trans e,cz,v6,hM',λpt z=>hp pt (hr pt z)⟩ λb o iy e=>hb.extBut b o (λz=>iy (by simp [z])) e
 done:=λs Q E st hQ=>by
  obtain⟨hA,first,hI,hM,hp⟩:=st
  exact Wm hh hA hT hI hM λh' he=>hQ h' s.toks λb o hb e=>he b o (λz=>hb (by simp [z])) e
 self:=λi s Q E st hQ=>by
  obtain⟨hA,first,hI,hM,hp⟩:=st
  refine Yec hI.typeIs Oz (Ya3 Oz hI.typeIs Qn (show wpAny _ _ (ret (.ref it)) _ _ s from ?_) (Ts _))
  exact Yab ⟨_,rfl,"set_iterator",_,hI.typeIs,C5.lookup,hQ⟩
theorem Tu{a:Addr}{Q:Bool->Shared->Prop}(hT:s.TypeIs (.ref a) "set") (h:Q false s):wpAny (model prog w) A (Builtin.List.listLengthHint (.ref a)) Q E s:=by
 unfold Builtin.List.listLengthHint
 refine Yaa (Yew hT PySem.F.slot_set_len.lookup ?_)
 generalize hid:("set.__len__" : String)=id0
 wp_delta
 rw [show splitId id0=some ("set","__len__") from by subst hid;decide +kernel]
 subst hid
 refine Yaa (Yc2 (T := "set") (b:=true) hT sub_set_self (Ydm (λd9=>absurd d9 (by decide)) λ_=>Ydm (λ_=>?_) (λd9=>absurd (by decide +kernel) d9)))
 exact Yaa (Ydj hT (Yab h))
theorem Qr{ord:List Value}{af:Array Value}{n:Nat}(h:ItemsOf (λi v=>ord[i]?=some v) af n)(hl:ord.length=n):af.toList=ord:=by
 refine Yea λi=>?_
 rw [Array.getElem?_toList]
 rcases Yco i af.size with c | c
 ·have:=h.2 i af[i] (Array.getElem?_eq_getElem c)
  rw [this,Array.getElem?_eq_getElem c]
 ·rw [Array.getElem?_eq_none c,List.getElem?_eq_none (by rw [hl,<- h.1];exact c)]
theorem L0{a:Addr}{es:Array (Int×Value)}{ep:Nat}{t:SetTable}{Q:List Value->Shared->Prop}(hh:A.handled=none)(hA:C1 s.heap a es ep t)(hT:TblOk t (En w))(hz:es.size<=1000)
  (h:∀h' d' tk ord,(∀b o,s.heap.get? b=some o->h'.get? b=some o)->s.heap.objs.size<=h'.objs.size->ord.Perm (es.toList.map (·.2))->Q ord { s with heap:=h',drawn:=d',toks:=tk }) :
  wpAny (model prog w) A (collect (.ref a)) Q E s:=by
 have la:a < s.heap.objs.size:=by obtain⟨o,e,_⟩:=hA;exact Yae e
 unfold collect
 refine Yaa (wpAny_runValue (Yb0 F.entry_proto_collect ?_))
 rw [Ybj F.plain_proto_collect _]
 refine(show wpAny _ A.in1 (newList [] >>= λl=>again (.builtin "list.__iadd__" ⟨[l,.ref a],[]⟩)) _ _ s from Yaa (Yay (Yab ⟨Yck F.plain_list_iadd _,Yb0 F.entry_list_iadd ?_⟩)))
 rw [Ybj F.plain_list_iadd _]
 generalize hL:s.heap.objs.size=S
 generalize mz:s.heap.push { cls:=.type "list",data:=.seq ([]:List Value).toArray }=h1
 have k1:∀b o,s.heap.get? b=some o->h1.get? b=some o:=λb o e=>by subst mz;exact Heap.get?_push_of_some _ e
 have eS:h1.get? S=some { cls:=.type "list",data:=.seq ([]:List Value).toArray }:=by subst mz;subst hL;exact Heap.get?_push_size _ rfl
 have u0:S≠a:=Ybe (Yan (hL ▸ la))
 have gz:Builtin.List.listSameRef (.ref S) (.ref a)=false:=by simp [Builtin.List.listSameRef,u0]
 have t5:C1 h1 a es ep t:=hA.at λo e=>k1 a o e
 refine(show wpAny _ A.in1 (Builtin.List.listExtendWith (.ref S) (.ref a) (.ref S)) _ _ { s with heap:=h1 } from ?_)
 unfold Builtin.List.listExtendWith
 refine Yaa (Ydj (C1.typeIs (s:={ s with heap:=h1 }) t5) (Ydm (λd9=>absurd d9 (by rw [gz];decide)) λ_=>?_))
 refine Yaa (No (s:={ s with heap:=h1 }) t5 hz λit h2 d2 first ord cr k2 hI hM fb=>?_)
 refine Yaa (Ybf (Tu (s:={ s with heap:=h2,drawn:=d2 }) (C1.typeIs (s:={ s with heap:=h2,drawn:=d2 }) (t5.at λo e=>k2 a o e)) ?_))
 refine Ydm (λ_=>?_) λd9=>absurd (by decide) d9
 have e2:h2.get? S=some { cls:=.type "list",data:=.seq ([]:List Value).toArray }:=k2 S _ eS
 refine Yaa (Ycb (Yaa (show wpAny _ _ (updateSeq S (·.push .none) >>= λ_=>updateSeq S (·.pop)) _ _ _ from Yaa (Ycp e2 rfl (Ycp (Heap.get?_update_self (Obj.mapSeq (·.push Value.none)) e2 rfl) rfl ?_)))))
 have e4:=Heap.get?_update_self (Obj.mapSeq (·.pop)) (Heap.get?_update_self (Obj.mapSeq (·.push Value.none)) e2 rfl) rfl
 have k4:∀b o,b≠S->h2.get? b=some o->((h2.update S (Obj.mapSeq (·.push Value.none))).update S (Obj.mapSeq (·.pop))).get? b=some o:=λb o hb e=>(Heap.get?_update_other _ _ (Ybe hb)).trans ((Heap.get?_update_other _ _ (Ybe hb)).trans e)
 generalize ((h2.update S (Obj.mapSeq (·.push Value.none))).update S (Obj.mapSeq (·.pop)))=h4 at e4 k4 ⊢
 have lS:S < h1.objs.size:=Yae eS
 have ip:h1.objs.size<=it:=cr
 have nS:S≠it:=by intro z;subst z;omega
 have na:a≠it:=Yan (Yeh (hL ▸ la) (Yai lS ip))
 obtain⟨iz,gg,d7⟩:∃iz:List Addr,(∀pt,first=.ref pt->pt∈iz)/\∀pt∈iz,h1.objs.size<=pt/\pt≠it:=by
  by_cases hf:∃pt,first=.ref pt
  ·obtain⟨pt,hf⟩:=hf
   exact⟨[pt],λq hq=>by rw [hf]at hq;cases hq;simp,λq hq=>by rw [Yal]at hq;subst hq;exact fb q hf⟩
  ·exact⟨[],λq hq=>absurd ⟨q,hq⟩ hf,λ_ hq=>nomatch hq⟩
 have aj:ord.length=es.size:=by rw [hM.perm.length_eq];simp
 have W:=Qq (prog:=prog) (A:=A.in1) hh (es:=es) (ep:=ep) (ord:=ord) iz hT na (λz=>(d7 it z).2 rfl) aj
 have hSf:S∉it :: a :: iz:=by
  simp only [List.mem_cons,not_or]
  exact⟨nS,u0,λz=>by have:=(d7 S z).1;omega⟩
 refine Yab ⟨Yck F.plain_extend_loop _,codeAny_extend_loopS W.toS (Yaq hz (by decide)) S hSf (.ref S) es.size 0 { s with heap:=h4,drawn:=d2 } #[] _ rfl (Ya4 _) ?_ e4 (ItemsOf.nil _) λs' ci c' hm fe d5=>?_⟩
 ·refine⟨t5.at λo e=>k4 a o (Ybe u0) (k2 a o e),first,hI.at λo e=>k4 it o (Ybe nS) e,hM.at λpt z o e=>k4 pt o (λq=>?_) e,gg⟩
  have:=(d7 pt (gg pt z)).1
  subst q;omega
 ·rw [Moved.eq_with hm]
  refine Yaa (wpAny_load fe (Yab ?_))
  rw [Qr d5 aj]
  refine h s'.heap d2 s'.toks ord (λb o e=>hm.heap b o ?_ (k4 b o ?_ (k2 b o (k1 b o e)))) (Ybu ?_) hM.perm
  ·have lb:=Yae e
   simp only [List.mem_cons,List.not_mem_nil,or_false,not_or]
   rw [hL]at lb
   exact⟨Yan lb,Yan (Yeh lb (Yai lS ip))⟩
  ·have lb:=Yae e
   rw [hL]at lb
   exact Yan lb
  ·rw [hL];exact Yae fe
theorem L3{v:Value}{Q:Value->Shared->Prop}(jp:wpAny (model prog w) A.in1 (collect v) (λvs s1=>∃lt:Nat->Nat->Bool,vs.length < 1000/\StrictOrd vs.length lt /\
   (2<=vs.length->∀h':Heap,(∀b o,s1.heap.get? b=some o->h'.get? b=some o)->∃ κ,(∀Q:SortKind->Shared->Prop,Q κ { s1 with heap:=h' }->wpAny (model prog w) A.in1.in1 (keyKind' vs.toArray) Q E { s1 with heap:=h' }) /\
    ∀i j C,i < vs.length->j < vs.length->C (lt i j) { s1 with heap:=h' }->kas_ask prog w A.in1.in1 κ vs i j C { s1 with heap:=h' }) /\
   ∀(p:Array Nat) (h':Heap) (l c:Nat),Pm vs.length p->Up lt p vs.length->s1.heap.objs.size<=l->(∀b o,s1.heap.get? b=some o->h'.get? b=some o)->h'.get? l=some (seqObj "list" (p.toList.map λi=>vs.getD i Value.none).toArray c)->Q (.ref l) { s1 with heap:=h' }) E s) :
  wpAny (model prog w) A (call (.builtin "sorted") [v]) Q E s:=by
 refine Calls.call_function_entry kind_sorted plain_sorted entry_sorted (args_sorted1 _) ?_
 unfold Builtin.«sorted»
 refine Yaa (m:=checkCount "sorted" 1 1 _) (Yab (Yaa (Ybw jp (λvs s1 hx=>?_) λ_ _ e=>e)))
 obtain⟨lt,ij,O,hk,h⟩:=hx
 have sz:vs.length<=sizeLine:=Yaq (Ybu ij) (by decide)
 have hL:(s1.heap.push (seqObj "list" vs.toArray 0)).get? s1.heap.objs.size=some (seqObj "list" vs.toArray 0):=Heap.get?_push_size _ rfl
 refine Yaa (wpAny_newList (Yaa (Ybf (Ya3 slot_list_sort ⟨_,hL,rfl⟩ entry_list_sort ?_ (args_list_sort _)))) sz)
 have kk:∀(h':Heap),(∀b o,b≠s1.heap.objs.size->(s1.heap.push (seqObj "list" vs.toArray 0)).get? b=some o->h'.get? b=some o)->∀b o,s1.heap.get? b=some o->h'.get? b=some o:=λh' k b o q=>k b o (Yan (Yae q)) (Heap.get?_push_of_some _ q)
 exact D8 (s:={ s1 with heap:=s1.heap.push (seqObj "list" vs.toArray 0) }) hL ij O (λh2 h' k=>hk h2 h' (kk h' k)) λp h' c pm up k e=>⟨_,rfl,Yab ⟨_,rfl,h p h' _ c pm up (Yad _) (kk h' k) e⟩⟩
def Br:Value->Int
 | .int n _=>n
 | _=>0
def IsI(v:Value):Prop:=∃n t,v=.int n t
theorem L4:∀{vs:List Value},(∀v∈vs,IsI v)->IntsAre vs (vs.map Br)
 | [],_=>.nil
 | v :: vs,h=>by
  obtain⟨n,t,rfl⟩:=h _ Yas
  exact .cons n t (L4 λu hu=>h u (Yam _ hu))
theorem Wn{k:Key}{n:Int}{t:Tok}(h:(Aw prog w).is k (.int n t)=true):k=.inl n:=by
 rcases keyIs_shape (show E5 _ _=true from h) with⟨i,t',rfl,e⟩ | ⟨x,t',rfl,e⟩
 ·cases e;rfl
 ·cases e
theorem Eb{l:List (Int×Value)}{ns:List Int}(cy:ElemsOf (Aw prog w) l)(hK:Keys (Aw prog w) l (ns.map Sum.inl)){e:Int×Value}(he:e∈l):∃n t,e.2=.int n t/\n∈ns:=by
 obtain⟨⟨k,hk,_⟩,_⟩:=cy e he
 have:=(hK k).mp ⟨e,he,hk⟩
 obtain⟨n,hn,rfl⟩:=Yau.mp this
 rcases keyIs_shape (show E5 (Sum.inl n) e.2=true from hk) with⟨i,t,e1,e2⟩ | ⟨x,t,e1,e2⟩
 ·cases e1;exact⟨n,t,e2,hn⟩
 ·cases e1
theorem Nq{a:Addr}{l:List (Int×Value)}{ns:List Int}{Q:Value->Shared->Prop}(hh:A.handled=none)(hS:Ch (Aw prog w) s.heap a l (En w))(hU:Unlike (Aw prog w) l)(hK:Keys (Aw prog w) l (ns.map Sum.inl))(hl:l.length < 64)
  (h:∀(h':Heap) (d':Drawn) (tk p c:Nat) (vs:List Value),(∀b o,s.heap.get? b=some o->h'.get? b=some o)->s.heap.objs.size<=p->h'.get? p=some (seqObj "list" vs.toArray c)->(∀v∈vs,IsI v)->(vs.map Br).Pairwise (· < ·)->(∀n,n∈vs.map Br↔n∈ns)->vs.length < 64->Q (.ref p) { s with heap:=h',drawn:=d',toks:=tk }) :
  wpAny (model prog w) A (call (.builtin "sorted") [.ref a]) Q E s:=by
 obtain⟨o,es,ep,t,ho,ff,hd,rfl,cy,hf,hT⟩:=hS
 have hz:es.size < 64:=by simpa using hl
 refine L3 (L0 (show A.in1.handled=none from hh) ⟨o,ho,ff.1,hd,hf⟩ hT (by omega) λh1 d1 t1 ord k1 z1 hp=>?_)
 have hi:∀v∈ord,IsI v:=λv hv=>by
  obtain⟨e,he,rfl⟩:=Yau.mp (hp.mem_iff.mp hv)
  obtain⟨n,t,e1,_⟩:=Eb cy hK he
  exact⟨n,t,e1⟩
 have c8:∀n,n∈ord.map Br↔n∈ns:=λn=>by
  rw [Yau]
  constructor
  ·rintro⟨v,hv,rfl⟩
   obtain⟨e,he,rfl⟩:=Yau.mp (hp.mem_iff.mp hv)
   obtain⟨n,t,e1,e2⟩:=Eb cy hK he
   rw [e1];exact e2
  ·intro hn
   obtain⟨e,he,hk⟩:=(hK (.inl n)).mpr (Yau.mpr ⟨n,hn,rfl⟩)
   obtain⟨n',t,e1,_⟩:=Eb cy hK he
   rw [e1]at hk
   have:=Wn hk
   cases this
   exact⟨e.2,hp.mem_iff.mpr (Yau.mpr ⟨e,he,rfl⟩),by rw [e1];rfl⟩
 have tm:(ord.map Br).Nodup:=by
  have e1:(ord.map Br).Perm ((es.toList.map (·.2)).map Br):=hp.map _
  refine e1.nodup_iff.mpr ?_
  unfold List.Nodup
  rw [Ycy,Ycy]
  refine Ydw (λ{e e'} he qj hu q=>?_) hU
  obtain⟨n,t,e1,_⟩:=Eb cy hK he
  obtain⟨n',t',e2,_⟩:=Eb cy hK qj
  rw [e1,e2]at q
  have q':n=n':=q
  subst q'
  have:=hu (.inl n) (by rw [e1];exact C2 _ _ _ _)
  rw [e2,C2]at this
  cases this
 have aj:ord.length < 64:=by rw [hp.length_eq];simpa using hz
 refine⟨λi j=>decide ((ord.map Br).getD i 0 < (ord.map Br).getD j 0),by omega,⟨λi j k _ _ _ h1 h2=>?_,λi j dz hj' de h1=>?_,λi _=>Ybn (Int.lt_irrefl _)⟩,λh2 h' kp=>⟨oneType',λQ q=>?_,λi j C dz hj' q=>?_⟩,λp h' lb c pm up hlb kp e=>?_⟩
 ·simp only [decide_eq_true_eq]at h1 h2 ⊢;omega
 ·simp only [decide_eq_false_iff_not,decide_eq_true_eq]at h1 ⊢
  suffices ne:(ord.map Br).getD j 0≠(ord.map Br).getD i 0 by omega
  refine λq=>de ?_
  refine((List.getElem?_inj (by simpa using hj') tm).mp ?_).symm
  rw [Ck (d:=(0:Int)) (by simpa using hj'),Ck (d:=(0:Int)) (by simpa using dz),q]
 ·match ord,hi,h2 with
  | v1 :: v2 :: vs,hi,_ =>
   rw [keyKind_ints (L4 hi)]
   exact Yab q
 ·unfold kas_ask
  obtain⟨n1,t1,e1⟩:=hi _ (B7 (d:=Value.none) dz)
  obtain⟨n2,t2,e2⟩:=hi _ (B7 (d:=Value.none) hj')
  have g:∀i,i < ord.length->(ord.map Br).getD i 0=Br (ord.getD i .none):=λi hi=>by
   simp [List.getD_eq_getElem?_getD,hi]
  dsimp only at q
  rw [g i dz,g j hj',e1,e2]at q
  rw [e1,e2,keyLt'_oneType]
  exact oneLt_int q
 ·have gg:∀i∈p.toList,i < ord.length:=λi hi=>Ybh.mp (pm.perm.mem_iff.mp hi)
  have g:∀i,i < ord.length->(ord.map Br).getD i 0=Br (ord.getD i .none):=λi hi=>by
   simp [List.getD_eq_getElem?_getD,hi]
  have pv:(p.toList.map λi=>ord.getD i Value.none).Perm ord:=by
   have e2:=pm.perm.map λi=>ord.getD i Value.none
   rw [D9]at e2
   exact e2
  refine h h' d1 t1 lb c _ (λb o q=>kp b o (k1 b o q)) (Yaq z1 hlb) e (λv hv=>hi v (pv.mem_iff.mp hv)) ?_ (λn=>?_) (by rw [pv.length_eq];exact aj)
  ·rw [Ya5,Ycy]
   refine Yb7.mpr λi j jv lm de=>?_
   have hj':j < ord.length:=by rw [<- pm.size];simpa using lm
   have:=up i j de hj'
   have gi:p.getD i 0=p.toList[i]:=by simp [Array.getD,show i < p.size by simpa using jv]
   have gj:p.getD j 0=p.toList[j]:=by simp [Array.getD,show j < p.size by simpa using lm]
   rw [gi,gj]at this
   dsimp only at this
   rw [g _ (gg _ (Yc0 jv)),g _ (gg _ (Yc0 lm))]at this
   simpa using this
  ·rw [<- c8 n]
   exact(pv.map Br).mem_iff
end
end L2
namespace L2
open PySem PySem.Spec PyProof.Rows
section
variable {X:Cx}{aa:List (Addr×Obj)}{σ:St}{H:Hp}{s:Shared}
theorem Inv.drw(I:Inv X aa σ H s)(d:Drawn):Inv X aa σ H { s with drawn:=d }:=⟨I.ok,I.os,I.bare,I.base,I.loc,I.cell,I.free,I.freeC,I.pin,I.hok,I.len⟩
theorem Jf{P:Program}{w:World}:∀{ns:List Int} {us:List Value},Vals (ns.map V.int) us->ItemsAre (Aw P w) (ns.map Sum.inl) us/\∀v∈us,v.scannable=true
 | [],_,h=>by cases h;exact⟨.nil,λ_ h=>nomatch h⟩
 | n :: ns,_,h=>by
  cases h with
  | cons h1 h2 =>
   obtain⟨t,rfl⟩:=h1
   obtain⟨a,b⟩:=Jf (P:=P) (w:=w) h2
   refine⟨.cons (C2 _ _ _ _) a,λv hv=>?_⟩
   rcases Ya1.mp hv with rfl | hv
   ·rfl
   ·exact b v hv
theorem L5:∀{vs:List Value},(∀v∈vs,IsI v)->Vals ((vs.map Br).map V.int) vs
 | [],_=>.nil
 | v :: vs,h=>by
  obtain⟨n,t,rfl⟩:=h _ Yas
  exact .cons ⟨t,rfl⟩ (L5 λu hu=>h u (Yam _ hu))
theorem O1{κ:Type}:∀{ae:List (κ×V)} {vs:List (κ×Value)},KV ae vs->vs.map (·.1)=ae.map (·.1)
 | _,_,.nil=>rfl
 | _,_,.cons h t=>by simp [h.1,O1 t]
def Qaj(K:PySem.W.Frag)(H:Hp)(x:V)(ns:List Int):Prop:=(∃a,x=.ref a/\Hr K H a (ns.map V.int))\/∃a ae,x=.ref a/\H a=some (.dK ae)/\ae.map (·.1)=ns.map Sum.inl
def Qdm(K:PySem.W.Frag)(te:TE):TE:=fun σ H Q=>te σ H λx H1=>∃ns:List Int,ns.length < 60/\Qaj K H1 x ns/\∀(l:Addr) (ms:List Int),H1 l=none->ms.Pairwise (· < ·)->(∀n,n∈ms↔n∈ns)->Q (.ref l) (upd H1 l (.lst (ms.map V.int)))
theorem Wo{e:Expr}{te:TE}{p p2 pos cg:Pos}(hc:X.calm=true)(hg:Gl X "sorted") (hm:X.mg "sorted" = none) (jz:Gl X "set") (ie:X.mg "set" = none) (he:PE X e te)
  (hs:starEach [.Call (.Name "set" p2) [e] [] cg] X.env=[(false,eval (.Call (.Name "set" p2) [e] [] cg) X.env)]:=by rfl) (fc:starEach [e] X.env=[(false,eval e X.env)]:=by rfl) :
  PE X (.Call (.Name "sorted" p) [.Call (.Name "set" p2) [e] [] cg] [] pos) (Qdm X.K te):=by
 intro aa s σ H Q I h
 refine Ycf (Dl I hg hm boot_sorted (Yda ?_ hs rfl))
 rw [hs]
 refine Ybv (Ycf (Dl I jz ie boot_set (Yce ?_ fc rfl)))
 rw [fc]
 refine Ybv (thn (he aa s σ H _ I h) λu s1 ⟨v,H1,I1,r1,q1⟩=>Yci ?_)
 obtain⟨ns,hl,ck,q⟩:=q1
 have hd:X.A.handled=none:=I.ok.hd hc
 have ar:∀(h1:Heap) (tk:Nat) (l:List (Int×Value)),(∀b o,s1.heap.get? b=some o->h1.get? b=some o)->Ch (Aw X.prog X.w) h1 s1.heap.objs.size l (En X.w)->Unlike (Aw X.prog X.w) l->Keys (Aw X.prog X.w) l (ns.map Sum.inl)->l.length < 64 ->
   wpAny (model X.prog X.w) X.A (call (.builtin "sorted") [.ref s1.heap.objs.size]) (EP X aa σ Q) X.xe { s1 with heap:=h1,toks:=tk }:=λh1 tk l k1 S1 U1 K1 L1=>by
  refine Nq (s:={ s1 with heap:=h1,toks:=tk }) hd S1 U1 K1 L1 λh2 d2 t2 p c vs k2 hp e2 hi hr c8 aj=>?_
  have lS:s1.heap.objs.size < h1.objs.size:=by obtain⟨o,_,_,_,e,_⟩:=S1;exact Yae e
  have ba:s1.heap.objs.size<=p:=Yaq (Ybu lS) hp
  have hz:((vs.map Br).map V.int).length<=sizeLine:=by simp;exact Yaq (Ybu aj) (by decide)
  refine⟨.ref p,_,(Inv.drw I1 d2).laid (t':=t2) (λb o e=>k2 b o (k1 b o e)) ba (show Bm X.prog X.w _ h2 _ (.lst ((vs.map Br).map V.int)) from⟨hz,vs,c,L5 hi,e2⟩),rfl,?_⟩
  exact q p (vs.map Br) (I1.hok.fresh ba) hr c8
 refine Nl (s:=s1) ?_
 rcases ck with⟨a,rfl,hq⟩ | ⟨a,ae,rfl,hq,kj⟩
 ·cases r1
  obtain⟨ah,r',pl,hz⟩:=I1.tuple hq
  obtain⟨i1,i2⟩:=Jf (P:=X.prog) (w:=X.w) r'
  have aj:=r'.length
  have hsz:ah.toArray.size < 60:=by simp at aj ⊢;omega
  have la:a < s1.heap.objs.size:=by obtain⟨o,e,_⟩:=pl;exact Yae e
  refine Tr (s:={ s1 with heap:=s1.heap.push (Bv X.w) }) (show X.A.in1.in1.handled=none from hd) (Heap.IsTuple.push pl _) (by simpa using i1) (by simpa using i2) (by omega) He (Ybe (Yan la)) λh1 tk l k1 S1 U1 K1 L1=>Yci ?_
  exact ar h1 tk l (λb o e=>k1 b o (Yan (Yae e)) (Heap.get?_push_of_some _ e)) S1 U1 K1 (by omega)
 ·cases r1
  obtain⟨_,hsm,vs,rel,dd⟩:=Xm I1.hok hq
  obtain⟨ep,dt⟩:=dd.dictAt
  have bo:vs.map (·.1)=ns.map Sum.inl:=(O1 rel).trans kj
  have aj:vs.length=ns.length:=by have:=Ydn List.length bo;simpa using this
  refine Wl (s:={ s1 with heap:=s1.heap.push (Bv X.w) }) hsm (Heap.DictAt.push dt _) (λk v hk hm=>?_) (by omega) He (Ybe (Yan dt.lt_size)) λh1 l b1 S1 U1 K1 L1=>Yci ?_
  ·rw [bo]at hm
   obtain⟨n,_,rfl⟩:=Yau.mp hm
   rcases keyIs_shape (show E5 (Sum.inl n) v=true from hk) with⟨i,t,e1,e2⟩ | ⟨x,t,e1,e2⟩
   ·rw [e2];rfl
   ·cases e1
  ·rw [bo]at K1
   exact ar h1 s1.toks l (λb o e=>(b1.2 b (Yan (Yae e))).trans (Heap.get?_push_of_some _ e)) S1 U1 K1 (by omega)
def Qdn(μ:M)(x:AV)(ns:List Int):Prop:=x=.D (.tuple (ns.map PyData.int))\/∃a ae,x=.R a/\μ a=some (.dk ae)/\ae.map (·.1)=ns.map Sum.inl
def Qdo(te:AE):AE:=fun τ μ R=>te τ μ λx μ1=>∃ns:List Int,ns.length < 60/\Qdn μ1 x ns/\∀(l:Addr) (ms:List Int),μ1 l=none->ms.Pairwise (· < ·)->(∀n,n∈ms↔n∈ns)->R (.R l) (Ao μ1 l (.lst (ms.map λn=>.D (.int n))))
theorem dk_ints{K:PySem.W.Frag}{H:Hp}:∀{ns:List Int} {vs:List V},Aj K H (ns.map PyData.int) vs->vs=ns.map V.int
 | [],[],_=>rfl
 | [],_ :: _,h=>by simp [Aj]at h
 | _ :: _,[],h=>by simp [Aj]at h
 | n :: ns,v :: vs,h=>by
  obtain⟨x,r,e,h1,h2⟩:=Aj.cons (K:=K) (H:=H) h
  cases e
  rw [Dk.int h1,dk_ints h2];rfl
theorem L6{K:PySem.W.Frag}{H:Hp}{κ:Type}:∀{ae:List (κ×AV)} {vs:List (κ×V)},Db K H ae vs->vs.map (·.1)=ae.map (·.1)
 | _,_,.nil=>rfl
 | _,_,.cons h t=>by simp [h.1,L6 t]
theorem O2{K:PySem.W.Frag}{H:Hp}:∀(ns:List Int),An K H (ns.map λn=>AV.D (.int n)) (ns.map V.int)
 | []=>.nil
 | _ :: ns=>.cons Cv (O2 ns)
theorem Wp{e:Expr}{te:AE}{p p2 pos cg:Pos}(hc:X.calm=true)(hg:Gl X "sorted") (hm:X.mg "sorted" = none) (jz:Gl X "set") (ie:X.mg "set" = none) (he:VE X e te)
  (hs:starEach [.Call (.Name "set" p2) [e] [] cg] X.env=[(false,eval (.Call (.Name "set" p2) [e] [] cg) X.env)]:=by rfl) (fc:starEach [e] X.env=[(false,eval e X.env)]:=by rfl) :
  VE X (.Call (.Name "sorted" p) [.Call (.Name "set" p2) [e] [] cg] [] pos) (Qdo te):=(Wo hc hg hm jz ie he hs fc).imp fun σ H Q zz128=>B4 zz128 fun τ μ R hs hc h hq =>
 ⟨τ,μ,_,hs,hc,h,λx μ1 v H1 S1 c1 rx hx=>by
  obtain⟨ns,hl,ck,hx⟩:=hx
  refine⟨ns,hl,?_,λl ms hl hr c8=>hq _ _ _ _ (S1.trans (Kp.new hl _)) (c1.new hl (Cp (O2 ms))) C7 (hx l ms (c1.none hl) hr c8)⟩
  rcases ck with rfl | ⟨a,ae,rfl,hm,hk⟩
  ·obtain⟨a,xs,rfl,ha,hd⟩:=Dk.tup (K:=X.K) (H:=H1) rx
   rw [dk_ints hd]at ha
   exact .inl ⟨a,rfl,ha.sq⟩
  ·cases rx
   obtain⟨ob,ho,rm⟩:=c1 _ _ hm
   obtain⟨vs,rfl,rr⟩:=rm
   refine .inr ⟨a,vs,rfl,ho,?_⟩
   rw [<- hk]
   exact L6 rr⟩
end
noncomputable instance decPD:DecidableEq PyData:=λa b=>Classical.propDecidable (a=b)
section
variable {prog:Program}{w:World}
variable(prog w) in
end
section
variable {X:Cx}{aa:List (Addr×Obj)}{σ:St}{H:Hp}{s:Shared}{a:Addr}{e:Expr}{te:AE}{τ:ASt}{μ:M}
theorem VE.run{R1:AV->M->Prop}(he:VE X e te)(I:Inv X aa σ H s)(hs:C3 X.K H τ σ)(hc:Cn X.K μ H)(h:te τ μ R1) :
  wpAny (model X.prog X.w) X.A (eval e X.env) (λu s1=>∃x v μ1 H1,Inv X aa σ H1 s1/\A0 v u/\Kp H H1/\Cn X.K μ1 H1/\RelA X.K H1 x v/\R1 x μ1) X.xe s :=
 Ybw (he aa s σ H (λv H1=>∃x μ1,Kp H H1/\Cn X.K μ1 H1/\RelA X.K H1 x v/\R1 x μ1) I ⟨τ,μ,R1,hs,hc,h,λx μ1 v H1 S c r q=>⟨x,μ1,S,c,r,q⟩⟩)
  (λ_ _ z=>by obtain⟨v,H1,I1,rv,x,μ1,S,c,r,q⟩:=z;exact⟨x,v,μ1,H1,I1,rv,S,c,r,q⟩) λ_ _ e=>e
variable {o i value:Expr}{pos bj:Pos}{td ty tv:AE}
end
abbrev ZObj(h:Heap)(z TI TO:Addr)(f0:Value)(b1:Bool):Prop :=
 h.get? z=some { cls:=.type "zip",dict:=none,data:=.fields #[f0,.bool b1,.bool false,.ref TI,.ref TO],slots:=#[] }
section
variable {prog:Program}{w:World}{A:Around}{E:Value->Shared->Prop}{s:Shared}
theorem Qs{M:Model}{a:Addr}{Q:Option Obj->Shared->Prop}(h:Q (s.heap.get? a) s):wpAny M A (loadIfAlive a) Q E s:=λ_ _ _=>h
theorem Hi{z TI TO T:Addr}{b1:Bool}{Q:Bool->Shared->Prop}(hz:ZObj s.heap z TI TO (rawInt T) b1)(hT:∃o,s.heap.get? T=some o)(h:∀h',ZObj h' z TI TO (rawInt T) true->Heap.SameBut z s.heap h'->Q false { s with heap:=h' }) :
  wpAny (model prog w) A (Builtin.SmallTypes.ownedTupleIsFree (.ref z)) Q E s:=by
 obtain⟨oT,hoT⟩:=hT
 unfold Builtin.SmallTypes.ownedTupleIsFree
 refine Yaa (Ya8 hz rfl (x:=rawInt T) rfl (show wpAny _ _ (loadIfAlive ((T:Int).toNat) >>= _) _ _ _ from Yaa (Qs ?_)))
 rw [Ydo,hoT]
 refine(show wpAny _ _ (field (.ref z) 1 >>= _) _ _ _ from Yaa (Ya8 hz rfl (x:=.bool b1) rfl ?_))
 cases b1 with
 | true=>exact Yab (h s.heap hz (Heap.SameBut.refl _ _))
 | false=>exact Yaa (Ybd hz (by simp) λh1 kr cq=>Yab (h h1 kr cq))
theorem Qak:typeLookup (.type "zip") "__len__" = pure none:=by rw [Ye1,Ydl];kernel_rfl
theorem Wq:typeLookup (.type "zip") "__length_hint__" = pure none:=by rw [Ye1,Ydl];kernel_rfl
structure PairsAt(h:Heap)(no:List Addr)(base:Nat)(as:List Addr)(ps:List (Value×Value)):Prop where
 rise:as.Pairwise (· < ·)
 new:∀T∈as,base<=T/\T∉no
 at_:Paired (λT p=>IsPair h T p.1 p.2) as ps
theorem PairsAt.kp{h h':Heap}{no:List Addr}{base:Nat}{as:List Addr}{ps:List (Value×Value)}(x:PairsAt h no base as ps)(hk:∀b o,b∉no->h.get? b=some o->h'.get? b=some o):PairsAt h' no base as ps:=by
 obtain⟨a,b,c⟩:=x
 refine⟨a,b,?_⟩
 clear a
 induction c with
 | nil=>exact .nil
 | @cons T p l1 l2 r t ih=>exact .cons (hk T _ (b T Yas).2 r) (ih λU hU=>b U (Yam _ hU))
theorem Nr{α β:Type}{F:α->β->Prop}{xs:List α}{ys:List β}(h:Paired F xs ys):∀x∈xs,∃y,F x y:=by
 induction h with
 | nil=>exact λ_ h=>nomatch h
 | @cons a b l1 l2 r t ih =>
  intro x hx
  rcases Ya1.mp hx with rfl | hx
  ·exact⟨b,r⟩
  ·exact ih x hx
end
section
variable {X:Cx}{aa:List (Addr×Obj)}{σ:St}{s:Shared}
theorem Inv.trackP:∀{as:List Addr} {ps:List (V×V)} {us:List (Value×Value)} {H:Hp},Inv X aa σ H s->as.Pairwise (· < ·)->(∀a∈as,Eo X aa H a)->Paired (λT p=>IsPair s.heap T p.1 p.2) as us->Paired (λ(p:V×V) (u:Value×Value)=>A0 p.1 u.1/\A0 p.2 u.2) ps us ->
  ∃H',Inv X aa σ H' s/\(∀b o,H b=some o->H' b=some o)/\Paired (λa (p:V×V)=>H' a=some (.tup [p.1,p.2])) as ps/\∀b,b∉as->H' b=H b
 | [],_,_,H,I,_,_,h1,h2=>by cases h1;cases h2;exact⟨H,I,λ_ _ e=>e,.nil,λ_ _=>rfl⟩
 | a :: as,_,_,H,I,hp,hf,h1,h2=>by
  cases h1 with
  | @cons _ u _ us r1 t1 =>
  cases h2 with
  | @cons p _ ps _ r2 t2 =>
   have fa:=hf a Yas
   have I1:Inv X aa σ (upd H a (.tup [p.1,p.2])) s:=I.track fa ⟨by show 2<=sizeLine;decide,[u.1,u.2],.cons r2.1 (.cons r2.2 .nil),_,r1,rfl,_,rfl⟩
   have hlt:=(Ycr.mp hp).1
   obtain⟨H',I',k',q',o'⟩:=Inv.trackP I1 (Ycr.mp hp).2 (λb hb=>by
    obtain⟨f0,f1⟩:=hf b (Yam _ hb)
    exact⟨by rw [Ap (Ybg (hlt b hb))];exact f0,f1⟩) t1 t2
   have na:a∉as:=λh=>Ycd _ (hlt a h)
   refine⟨H',I',λb o e=>k' b o (by rw [Ap (Bk e fa.1)];exact e),.cons (by rw [o' a na];exact Bh) q',λb hb=>?_⟩
   rw [o' b (λh=>hb (Yam _ h)),Ap (λz=>hb (by simp [z]))]
theorem Kp.all{H H':Hp}(h:∀b o,H b=some o->H' b=some o):Kp H H':=⟨λb xs e=>h b _ e,λb o u e=>h b _ e⟩
theorem Cn.allK{K:PySem.W.Frag}{μ:M}{H H':Hp}(c:Cn K μ H)(h:∀b o,H b=some o->H' b=some o):Cn K μ H':=λa m e=>by
 obtain⟨o,ho,r⟩:=c a m e
 exact⟨o,h a o ho,r.kp (Kp.all h)⟩
def Qha(ta tb:AE):AE:=fun τ μ R=>ta τ μ λx μ1=>tb τ μ1 λy μ2=>match x,y with
 | .R a,.R b=>opt (μ2 a) λm=>opt (μ2 b) λn=>match m,n with
  | .lst us,.lst vs=>opt (dats us) λds=>opt (dats vs) λes=>(ds.length=es.length/\ds.length<=1000)/\R (.D (.tuple (List.zipWith (λd e=>PyData.tuple [d,e]) ds es))) μ2
  | _,_=>False
 | _,_=>False
theorem Qt{xs ys:List V}{us vs:List Value}(h:Vals xs us)(k:Vals ys vs):Paired (λ(p:V×V) (u:Value×Value)=>A0 p.1 u.1/\A0 p.2 u.2) (xs.zip ys) (us.zip vs):=by
 induction h generalizing ys vs with
 | nil=>simp;exact .nil
 | cons r1 t1 ih =>
  cases k with
  | nil=>simp;exact .nil
  | cons r2 t2=>exact .cons ⟨r1,r2⟩ (ih t2)
theorem L7{K:PySem.W.Frag}{H':Hp}:∀{as:List Addr} {xs ys:List V} {ds es:List PyData},Paired (λa (p:V×V)=>H' a=some (.tup [p.1,p.2])) as (xs.zip ys)->Aj K H' ds xs->Aj K H' es ys->Aj K H' (List.zipWith (λd e=>PyData.tuple [d,e]) ds es) (as.map V.ref)
 | as,xs,ys,[],es,h,h1,h2=>by
  have:=h1.nil
  subst this
  simp at h
  cases h
  exact Cc
 | as,xs,ys,d :: ds,[],h,h1,h2=>by
  have:=h2.nil
  subst this
  simp at h
  cases h
  exact Cc
 | as,xs,ys,d :: ds,e :: es,h,h1,h2=>by
  obtain⟨x,r,rfl,a1,a2⟩:=h1.cons
  obtain⟨y,q,rfl,b1,b2⟩:=h2.cons
  cases h with
  | cons r1 t1=>exact Bw (Es r1 (Bw a1 (Bw b1 Cc))) (L7 t1 a2 b2)
def Qdp:AC:=λxs μ R=>match xs with
 | [.D (.bool b)]=>R (.D (.int (if b then 1 else 0))) μ
 | [.D (.int i)]=>R (.D (.int i)) μ
 | _=>False
theorem Qdq:VCall X (.type "int") Qdp:=by
 intro aa s σ H xs us Q I r zz202
 refine B4 zz202 λas μ R ra hc h hq=>?_
 cases ra with
 | nil=>exact False.elim h
 | @cons x v xs' vs' r1 r2 =>
  cases r2 with
  | nil =>
   cases x with
   | D d =>
    cases d with
    | bool b =>
     cases RelA.bl r1
     exact Ic aa s σ H _ us Q I r (.inr ⟨_,rfl,hq _ _ _ _ Kp.refl hc Cv h⟩)
    | int i =>
     cases RelA.int r1
     exact Ic aa s σ H _ us Q I r (.inl ⟨_,rfl,hq _ _ _ _ Kp.refl hc Cv h⟩)
    | _=>exact False.elim h
   | _=>exact False.elim h
  | cons _ _ =>
   refine False.elim ?_
   cases x with
   | D d=>cases d <;> exact h
   | _=>exact h
def txts:List AV->Option (List Str)
 | []=>some []
 | .D (.str z) :: xs=>(txts xs).map (z :: ·)
 | _ :: _=>none
theorem L8{K:PySem.W.Frag}{H:Hp}:∀{xs:List AV} {vs:List V} {zs:List Str},An K H xs vs->txts xs=some zs->vs=zs.map V.str
 | [],_,zs,r,e=>by cases r;cases e;rfl
 | x :: xs,_,zs,r,e=>by
  cases r with
  | cons r1 r2 =>
   unfold txts at e
   split at e
   ·rename_i h;cases h
   ·rename_i z xs' h
    cases h
    obtain⟨ys,ey,rfl⟩:=Yap.mp e
    cases RelA.str r1
    rw [L8 r2 ey];rfl
   ·cases e
def X2:AV->AC:=λx xs μ R=>match x,xs with
 | .D (.str z),[.R p]=>opt (μ p) λm=>match m with
  | .lst ys=>opt (txts ys) λzs=>(zs.map (·.length)).sum+zs.length * z.length<=16777216/\R (.D (.str (Txt.join z zs))) μ
  | _=>False
 | _,_=>False
theorem Qal:VMt X "str.join" X2:=by
 intro aa s σ H x xs v us Q I rx r zz203
 refine Dv zz203 λa as μ R ra rs hc h hq=>?_
 unfold X2 at h
 split at h
 ·obtain⟨m,em,h⟩:=Aq h
  split at h
  ·obtain⟨zs,ez,h⟩:=Aq h
   obtain⟨o,ho,ws,rfl,rr⟩:=hc _ _ em
   cases RelA.str ra
   cases rs with
   | cons r1 r2 =>
    cases r2
    cases r1
    rw [L8 rr ez]at ho
    exact P7 aa s σ H _ _ v us Q I rx r ⟨_,_,zs,rfl,rfl,ho,h.1,hq _ _ _ _ Kp.refl hc Gy h.2⟩
  ·exact h.elim
 ·exact h.elim
end
section
variable {prog:Program}{w:World}{A:Around}{E:Value->Shared->Prop}{s:Shared}
end
section
variable {X:Cx}{e st:Expr}{te ts:AE}{p2 pos:Pos}
end
section
variable {X:Cx}{tg:Expr}
end
def lets(z:Str):Prop:=∀c∈z.cps.toList,97<=c/\c<=122
theorem O3(a b:Str):(a++b).cps.toList=a.cps.toList++b.cps.toList:=by
 show(a.cps++b.cps).toList=_
 simp
theorem J9(z:Str):z.length=z.cps.toList.length:=by simp [Str.length]
theorem Hj{a b:Str}(ha:lets a)(hb:lets b):lets (a++b):=λc hc=>by
 rw [O3]at hc
 rcases Yat.mp hc with h | h
 ·exact ha c h
 ·exact hb c h
theorem Qam:("" : Str).cps.toList=[]:=by decide +kernel
theorem Qu:∀{zs:List Str},(∀z∈zs,lets z)->lets (Txt.join "" zs):=λ{zs} h=>by
 show lets (PySem.Builtin.Str.glued "" zs)
 rw [StrLaws.glued_eq_join]
 induction zs with
 | nil=>exact λc hc=>by simp [Str.join,Str.empty]at hc
 | cons x zs ih =>
  cases zs with
  | nil=>exact h x Yas
  | cons y zs =>
   show lets (x ++ "" ++ Str.join "" (y :: zs))
   exact Hj (Hj (h x Yas) (λc hc=>by rw [Qam]at hc;simp at hc)) (ih λz hz=>h z (Yam _ hz))
section
variable {j6 lg:Str}{at' turn:Int}
theorem Qdr:("q" : Str).cps.toList=[113]:=by decide +kernel
end
end L2
namespace L2
open PySem PySem.SetTable
def Qgm(mask:Nat)(p:Probe):Probe :=
 if p.more > 0 then { p with j:=p.j+1,more:=p.more - 1 } else
 { p with j:=(leap mask p.i p.perturb).1,more:=runEnd mask (leap mask p.i p.perturb).1 - (leap mask p.i p.perturb).1,i:=(leap mask p.i p.perturb).1,perturb:=(leap mask p.i p.perturb).2 }
def Qgn(mask i perturb l:Nat):Probe:={ j:=i+l,more:=runEnd mask i - i - l,i:=i,perturb:=perturb,dummy:=none }
def pAt(mask:Nat)(h:Int):Nat->Probe
 | 0=>Qgn mask (bits h % (mask+1)) (bits h) 0
 | n+1=>Qgm mask (pAt mask h n)
def sq(mask:Nat)(h:Int)(n:Nat):Nat:=(pAt mask h n).j
def rn(mask:Nat)(h:Int):Nat->Nat×Nat
 | 0=>(bits h % (mask+1),bits h)
 | r+1=>leap mask (rn mask h r).1 (rn mask h r).2
def nr(mask:Nat)(h:Int):Nat->Nat
 | 0=>0
 | r+1=>nr mask h r+(runEnd mask (rn mask h r).1 - (rn mask h r).1)+1
end L2
namespace L2
open PySem
section
variable {prog:Program}{w:World}
variable {A:Around}{E:Value->Shared->Prop}{s:Shared}
end
end L2
namespace L2
open PySem PySem.Spec PyProof.Rows
section
variable {prog:Program}{w:World}{A:Around}{R:Result->Shared->Prop}{sa it t:Addr}{led:Bool}
end
section
variable {X:Cx}{aa:List (Addr×Obj)}{σ:St}{H:Hp}{s:Shared}{k:Nat}
end
section
variable {X:Cx}{tg:Expr}
end
section
variable {prog:Program}{w:World}{A:Around}{E:Value->Shared->Prop}
end
section
variable {X:Cx}{pos:Pos}
end
section
variable {prog:Program}{w:World}{Kt:Type} [DecidableEq Kt]{knd:KeyKind prog w Kt}{A:Around}{R:Result->Shared->Prop}{sa it t:Addr}{led:Bool}
variable {E:Value->Shared->Prop}{s:Shared}
end
section
variable {X:Cx}{aa:List (Addr×Obj)}{σ:St}{H:Hp}{s:Shared}{k:Nat}
end
section
variable {X:Cx}{k:Nat}
end
end L2
namespace L2
open PySem PySem.Spec PySem.Calls PyProof.Rows
section
variable {prog:Program}{w:World}{A:Around}{E:Value->Shared->Prop}{s:Shared}{K:PySem.W.Frag}{env:Env}
end
section
variable {M:Model}{A A1:Around}{E E1:Value->Shared->Prop}{s:Shared}{base:Heap}{env:Env}{outer:List Env}{L e:Addr}{cls:Value}{d:Option Addr}{vs:Array Value}
end
section
variable {X:Cx}{y:Str}{p pos bj:Pos}{C:Addr}{EX:AX}
end
section
variable {P:Program}{w:World}{K:PySem.W.Frag}{mg:Str->Option Value}{base:Heap}
end
section
variable {X:Cx}{k:Nat}
end
section
variable {X:Cx}{x:Str}{p pos:Pos}{e:Expr}{es:List Expr}{t:AA}{k:Nat}{ps:List Str}{sp:ASp}
end
section
variable {X:Cx}{k:Nat}
end
end L2
namespace L2
open PySem PySem.Spec PySem.Calls PyProof.Rows PySem.W
section
variable {prog:Program}{w:World}{A:Around}{E:Value->Shared->Prop}{s:Shared}
end
end L2
namespace L2
open PySem PySem.Spec PySem.Calls PyProof.Rows
section
variable {X:Cx}{k:Nat}
end
end L2
namespace L2
open PySem PySem.Spec PySem.Calls PyProof.Rows PySem.W
section
variable {prog:Program}{w:World}{A:Around}{E:Value->Shared->Prop}{s:Shared}{R:Result->Shared->Prop}
variable {I:Addr}{fp wr:List Addr}{G:Array GenState->Array GenState->Prop}{n:Nat}{P:Nat->Value->Prop}{St:Nat->Shared->Prop}
end
section
variable {X:Cx}
end
end L2
namespace L2
open PySem
section
variable {prog:Program}{w:World}{A:Around}{E:Value->Shared->Prop}{s:Shared}
end
end L2
namespace L2
open PySem PySem.Spec PySem.Calls PyProof.Rows
section
variable {X:Cx}{k:Nat}
end
section
variable {X:Cx}{k:Nat}
end
section
variable {X:Cx}{k:Nat}
end
def kyD:Key->PyData
 | .inl i=>.int i
 | .inr z=>.str z
theorem Qds{K:PySem.W.Frag}{H:Hp}(k:Key):Dk K H (kyD k) (kV k):=by
 cases k with
 | inl i=>exact D3
 | inr z=>exact Mw
theorem Qv{x:AV}{xs:List AV}{ds:List PyData}(h:dats (x :: xs)=some ds):∃d lh,x=.D d/\ds=d :: lh/\dats xs=some lh:=by
 have e:=Ju h
 cases ds with
 | nil=>cases e
 | cons d lh =>
  obtain⟨e1,e2⟩:=List.cons.inj e
  exact⟨d,lh,e1,rfl,by rw [e2];exact Bi lh⟩
section
variable {X:Cx}{k:Nat}
end
section
variable {X:Cx}
end
section
variable {X:Cx}{k:Nat}
def isInt:AV->Prop
 | .D (.int _)=>True
 | _=>False
end
section
variable {X:Cx}{k:Nat}
end
section
variable {s:Shared}{E:Value->Shared->Prop}{A:Around}{prog:Program}{w:World}{K:Type} [DecidableEq K]{knd:HeapKind prog w K}
end
section
variable {w:World}{prog:Program}{K:Type} [DecidableEq K](knd:HeapKind prog w K)(d a:Addr)
end
section
variable {X:Cx}{aa:List (Addr×Obj)}{σ:St}{H:Hp}{s:Shared}{A:Around}{E:Value->Shared->Prop}{a b:Addr}{r:Value}
end
section
variable {X:Cx}{o e f:Expr}{aw aq:Pos}
end
def Ez(h:Heap)(d:Addr)(es:Array DictEntry)(ep:Nat):Prop:=∃o,h.get? d=some o/\o.ExactDict/\o.data=.dict es ep
theorem Ez.ty{s:Shared}{d:Addr}{es:Array DictEntry}{ep:Nat}(x:Ez s.heap d es ep):s.TypeIs (.ref d) "dict" := let⟨o,h1,h2,_⟩:=x;⟨o,h1,h2.1⟩
theorem Ez.mv{h h':Heap}{d:Addr}{es:Array DictEntry}{ep:Nat}(x:Ez h d es ep)(k:∀o,h.get? d=some o->h'.get? d=some o):Ez h' d es ep:=let⟨o,h1,r⟩:=x;⟨o,k o h1,r⟩
theorem Ez.lt{h:Heap}{d:Addr}{es:Array DictEntry}{ep:Nat}(x:Ez h d es ep):d < h.objs.size:=let⟨_,h1,_⟩:=x;Yae h1
section
variable {prog:Program}{w:World}{A:Around}{E:Value->Shared->Prop}{s:Shared}{d it:Addr}{es:Array DictEntry}{ep i:Nat}
end
section
variable {X:Cx}{k:Nat}
theorem X3:∀(bs:List Addr),Vals (bs.map V.ref) (bs.map Value.ref)
 | []=>.nil
 | _ :: bs=>.cons rfl (X3 bs)
theorem Ka{α β γ:Type}{F:α->β->Prop}{G:α->γ->Prop}{f:β->γ}:∀{l:List α} {m:List β},Paired F l m->(∀x y,F x y->G x (f y))->Paired G l (m.map f)
 | _,_,.nil,_=>.nil
 | _,_,.cons r t,g=>.cons (g _ _ r) (Ka t g)
theorem Tv{K:PySem.W.Frag}{H:Hp}:∀(ks:List Key),Aj K H (ks.map kyD) (ks.map kV)
 | []=>Cc
 | k :: ks=>Bw (Qds k) (Tv ks)
end
end L2
namespace L2
open PySem PySem.Spec PyProof.Rows
section
variable {prog:Program}{w:World}{A:Around}{E:Value->Shared->Prop}{s:Shared}
end
section
variable {X:Cx}{k:Nat}
end
section
variable {prog:Program}{w:World}{A:Around}{R:Result->Shared->Prop}{sa it t:Addr}{led:Bool}
end
section
variable {X:Cx}{aa:List (Addr×Obj)}{σ:St}{H:Hp}{s:Shared}{k:Nat}
end
section
variable {X:Cx}{N':List Str}{mp:List (Option Nat)}{du tg av:Expr}{cv:List Expr}{scope:Scope}{pos:Pos}{wi:TI}{g:TG}{tst:TT}{te:TE}
end
section
variable {X:Cx}
end
end L2
namespace L2
open PySem PySem.Spec PySem.Calls PyProof.Rows
abbrev RIt(h:Heap)(it d:Addr)(i n ep:Nat)(z:Value)(f:Bool)(ok ov:Value):Prop :=
 h.get? it=some { cls:=.type "dict_itemiterator",dict:=none,data:=.fields #[z,.bool f,.ref d,.int i 0,.int n 0,.int ep 0,ok,ov],slots:=#[] }
section
variable {prog:Program}{w:World}{A:Around}{E:Value->Shared->Prop}{s:Shared}{d it v:Addr}{es:Array DictEntry}{ep i:Nat}{z ok ov:Value}{f:Bool}
theorem Qw(hd:(d==sysModules)=false):MeetsIn prog w (Builtin.«dict.items» ⟨[.ref d],[]⟩) (λ_ R s=>(∃es ep,Ez s.heap d es ep)/\R (.ok (.ret (.ref s.heap.objs.size))) { s with heap:=s.heap.push { cls:=.type "dict_items",data:=.fields #[.ref d] } }) :=
 .of_wp λA R s ⟨⟨_,_,hm⟩,h⟩=>by
  unfold Builtin.«dict.items» Builtin.Dict.noArgs
  refine Yaa (Yaa (wpAny_notOrdered_dict hm.ty (show wpAny _ _ (pure d) _ _ s from Yab ?_)))
  show wpAny _ _ (Builtin.Dict.showsAll d >>= _) _ _ s
  unfold Builtin.Dict.showsAll
  rw [hd,Yah Yag]
  exact Yaa (Yab (Yaa (Yay (Yab ⟨_,rfl,h⟩))))
theorem Qx{Q:Value->Shared->Prop}(hv:s.heap.IsItemsView v d)(hm:Ez s.heap d es ep)
  (q:Q (.ref s.heap.objs.size) { s with heap:=s.heap.push { cls:=.type "dict_itemiterator",data:=.fields #[.none,.bool false,.ref d,.int 0 0,.int es.size 0,.int ep 0,.none,.none] } }):wpAny (model prog w) A (pyIter (.ref v)) Q E s:=by
 obtain⟨o1,e1,_,e2⟩:=id hv
 obtain⟨o,h1,_,h3⟩:=id hm
 refine Yec hv.typeIs F.slot_dict_items_iter (Ya3 F.slot_dict_items_iter hv.typeIs F.entry_dict_items_iter ?_ (F.args_dict_items_iter_1 _))
 unfold Builtin.«dict_items.__iter__» Builtin.Dict_items.dictOf Builtin.Dict_items.newIterator
 refine Yaa (Yab (Yaa (Yaa (Ya8 e1 e2 (x:=.ref d) rfl (Yab (Yaa (Yaa (Yc9 h1 h3 (Yaa (Ye0 h1 h3 ?_))))))))))
 simp only [show Builtin.Dict_items.ownsTuple "dict_itemiterator" = true by decide,if_true]
 refine Yay (Yab ⟨_,rfl,"dict_itemiterator",_,⟨_,Heap.get?_push_size _ rfl,rfl⟩,F.slot_dict_itemiterator_next.lookup,?_⟩)
  (by simp only [sizeOk,Builtin.Dict_items.ownedTupleFields,List.size_toArray,List.length_append,List.length_cons,List.length_nil,sizeLine_eq];omega)
 simpa [rawInt,Builtin.Dict_items.ownedTupleFields] using q
theorem Qz{Q:Option Value->Shared->Prop}(cr:RIt s.heap it d i es.size ep z f ok ov)(hz:(z=.none/\f=false)\/∃(a:Addr) (oa:Obj),z=rawInt a/\s.heap.get? a=some oa/\a≠it)(hm:Ez s.heap d es ep)(hi:i < es.size)
  (hQ:∀h' z' f' js j7,RIt h' it d (i+1) es.size ep z' f' js j7->((z=.none/\z'=rawInt s.heap.objs.size/\f'=false)\/∃a:Addr,z=rawInt a/\z'=rawInt a)->h'.get? s.heap.objs.size=some { cls:=.type "tuple",data:=.seq #[es[i].key,es[i].val] }->h'.objs.size=s.heap.objs.size+1 ->
   (∀b o,b≠it->s.heap.get? b=some o->h'.get? b=some o)->Q (some (.ref s.heap.objs.size)) { s with heap:=h' }):wpAny (model prog w) A (pyNext (.ref it)) Q E s:=by
 obtain⟨hp,g,dr,tk,os⟩:=s
 obtain⟨od,h1,_,h3⟩:=id hm
 have T:Shared.TypeIs ⟨hp,g,dr,tk,os⟩ (.ref it) "dict_itemiterator" := ⟨_,cr,rfl⟩
 unfold pyNext
 refine Yaa (Yc3 (wpAny_callSpecial?_slot (name:=Str.ofString "__next__") T F.slot_dict_itemiterator_next (Ya3 F.slot_dict_itemiterator_next T F.entry_dict_itemiterator_next ?_ (F.args_dict_itemiterator_next_1 _))))
 refine Yaa (Yab (Yaa (Yaa ?_)))
 first | refine Yaa (Ycq T (Yab (Yaa (Ydq cr rfl ?_)))) | refine Yaa (Yc4 T (Yab (Yaa (Ydq cr rfl ?_))))
 simp only [show Builtin.Dict_items.ownsTuple "dict_itemiterator" = true by decide,if_true]
 show wpAny (model prog w) _ (if(Value.ref d==Value.none)=true then _ else _) _ _ _
 rw [Yah (by exact Yag)]
 refine Yaa (Yab (Yaa (Yc9 h1 h3 ?_)))
 rw [Yah (by simp)]
 refine Yaa (Yab (Yaa (Ye0 h1 h3 ?_)))
 rw [Yah (by simp)]
 refine Yab ?_
 simp only [show ¬((i:Int) < 0) by omega,if_false,Int.toNat_natCast,Array.getElem?_eq_getElem hi]
 refine Yaa ?_
 first | refine Yaa (Ycq T (Yab (Yaa (Ydh T ?_)))) | refine Yaa (Yc4 T (Yab (Yaa (Ydh T ?_))))
 show wpAny (model prog w) _ (setField (.ref it) 3 (rawInt ((i:Int)+1)) >>= _) _ _ ⟨hp,g,dr,tk,os⟩
 refine Yaa (Ybd cr (by simp) λk1 q1 s1=>?_)
 replace s1:Heap.SameBut it hp k1:=s1
 replace q1:RIt k1 it d (i+1) es.size ep z f ok ov:=by
  unfold RIt
  rw [show((i+1:Nat):Int)=(i:Int)+1 by omega]
  simpa [rawInt] using q1
 have T1:Shared.TypeIs ⟨k1,g,dr,tk,os⟩ (.ref it) "dict_itemiterator" := ⟨_,q1,rfl⟩
 refine Yaa (Ybf (Yaa (Ydh T1 (Yaa (Ydh T1 ?_)))))
 show wpAny (model prog w) _ (Builtin.Dict_items.pairFromOwner (.ref it) 6 es[i].key es[i].val) _ _ ⟨k1,g,dr,tk,os⟩
 unfold Builtin.Dict_items.pairFromOwner
 refine Yaa (wpAny_newTuple ?_)
 have q2:RIt (k1.push { cls:=.type "tuple",data:=.seq #[es[i].key,es[i].val] }) it d (i+1) es.size ep z f ok ov:=Heap.get?_push_of_some _ q1
 generalize ek:k1.push { cls:=.type "tuple",data:=.seq #[es[i].key,es[i].val] }=k2 at q2
 have z1:k1.objs.size=hp.objs.size:=s1.1
 have il:it < hp.objs.size:=Yae cr
 have t2:k2.get? hp.objs.size=some { cls:=.type "tuple",data:=.seq #[es[i].key,es[i].val] }:=by rw [<- ek,<- z1];exact Heap.get?_push_size _ rfl
 have z2:k2.objs.size=hp.objs.size+1:=by rw [<- ek,Ycj,z1]
 have kk:∀b o,b≠it->hp.get? b=some o->k2.get? b=some o:=λb o hb e=>by rw [<- ek];exact Heap.get?_push_of_some _ (s1.extBut b o hb e)
 show wpAny (model prog w) _ (Builtin.Dict_items.ownedTupleIsFree (.ref it) >>= _) _ _ ⟨k2,g,dr,tk,os⟩
 rw [z1]
 clear ek q1 s1 T1 z1 k1
 have ar:∀(k3:Heap) z' f' js j7,RIt k3 it d (i+1) es.size ep z' f' js j7->((z=.none/\z'=rawInt hp.objs.size/\f'=false)\/∃a:Addr,z=rawInt a/\z'=rawInt a)->Heap.SameBut it k2 k3->Q (some (.ref hp.objs.size)) ⟨k3,g,dr,tk,os⟩:=λk3 z' f' js j7 q3 c s3 =>
  hQ k3 z' f' js j7 q3 c (s3.extBut _ _ (Ybg il) t2) (by show k3.objs.size=_;rw [s3.1,z2]) λb o hb e=>s3.extBut b o hb (kk b o hb e)
 refine Yaa ?_
 unfold Builtin.Dict_items.ownedTupleIsFree
 rcases hz with⟨rfl,rfl⟩ | ⟨a,oa,rfl,ha,hai⟩
 ·refine Yaa (Ya8 q2 rfl (x:=.none) rfl (Yab ?_))
  simp only [if_true]
  refine Yaa (Ya8 q2 rfl (x:=ok) rfl (Yaa (Ya8 q2 rfl (x:=ov) rfl ?_)))
  refine Yaa (Ybd q2 (by simp) λk3 q3 s3=>?_)
  replace q3:RIt k3 it d (i+1) es.size ep .none false es[i].key ov:=q3
  refine Yaa (Ybd q3 (by simp) λk4 q4 s4=>?_)
  replace q4:RIt k4 it d (i+1) es.size ep .none false es[i].key es[i].val:=q4
  refine Yaa (Ybd q4 (by simp) λk5 q5 s5=>?_)
  replace q5:RIt k5 it d (i+1) es.size ep (rawInt hp.objs.size) false es[i].key es[i].val:=q5
  refine Yaa (Ybd q5 (by simp) λk6 q6 s6=>?_)
  replace q6:RIt k6 it d (i+1) es.size ep (rawInt hp.objs.size) false es[i].key es[i].val:=q6
  exact Yaa (wpAny_letGo (Yab (Yab ⟨_,rfl,Yab (ar k6 _ _ _ _ q6 (.inl ⟨rfl,rfl,rfl⟩) (((Heap.SameBut.trans s3 s4).trans s5).trans s6))⟩)))
 ·refine Yaa (Ya8 q2 rfl (x:=rawInt a) rfl ?_)
  show wpAny (model prog w) _ (loadIfAlive ((a:Int).toNat) >>= _) _ _ _
  rw [Ydo]
  refine Yaa (PySem.W.kdx_alive (kk a oa hai ha) ?_)
  simp only [Option.isNone_some,Bool.false_eq_true,if_false]
  refine Yaa (Ya8 q2 rfl (x:=.bool f) rfl ?_)
  cases f with
  | true =>
   rw [Yah (by exact Yag)]
   refine Yab ?_
   simp only [Bool.false_eq_true,if_false]
   exact Yab (Yab ⟨_,rfl,Yab (ar k2 _ _ _ _ q2 (.inr ⟨a,rfl,rfl⟩) (Heap.SameBut.refl _ _))⟩)
  | false =>
   rw [Yaj (by rfl)]
   refine Yaa (Ybd q2 (by simp) λk3 q3 s3=>Yab ?_)
   replace q3:RIt k3 it d (i+1) es.size ep (rawInt a) true ok ov:=q3
   simp only [Bool.false_eq_true,if_false]
   exact Yab (Yab ⟨_,rfl,Yab (ar k3 _ _ _ _ q3 (.inr ⟨a,rfl,rfl⟩) s3)⟩)
theorem Tw{Q:Option Value->Shared->Prop}(hh:A.handled=none)(cr:RIt s.heap it d es.size es.size ep z f ok ov)(hm:Ez s.heap d es ep)(q:∀h',Heap.ExtBut it s.heap h'->Q none { s with heap:=h' }):wpAny (model prog w) A (pyNext (.ref it)) Q E s:=by
 obtain⟨od,h1,_,h3⟩:=id hm
 have T:s.TypeIs (.ref it) "dict_itemiterator" := ⟨_,cr,rfl⟩
 unfold pyNext
 refine Yaa (Yc3 (wpAny_callSpecial?_slot (name:=Str.ofString "__next__") T F.slot_dict_itemiterator_next (Ya3 F.slot_dict_itemiterator_next T F.entry_dict_itemiterator_next ?_ (F.args_dict_itemiterator_next_1 _))))
 refine Yaa (Yab (Yaa (Yaa ?_)))
 first | refine Yaa (Ycq T (Yab (Yaa (Ydq cr rfl ?_)))) | refine Yaa (Yc4 T (Yab (Yaa (Ydq cr rfl ?_))))
 simp only [show Builtin.Dict_items.ownsTuple "dict_itemiterator" = true by decide,if_true]
 show wpAny (model prog w) _ (if(Value.ref d==Value.none)=true then _ else _) _ _ s
 rw [Yah (by exact Yag)]
 refine Yaa (Yab (Yaa (Yc9 h1 h3 ?_)))
 rw [Yah (by simp)]
 refine Yaa (Yab (Yaa (Ye0 h1 h3 ?_)))
 rw [Yah (by simp)]
 refine Yab ?_
 simp only [show ¬((es.size:Int) < 0) by omega,if_false,Int.toNat_natCast,Array.getElem?_eq_none (Nat.le_refl es.size)]
 refine Yaa ?_
 first | refine Yaa (Ycq T (Yab ?_)) | refine Yaa (Yc4 T (Yab ?_))
 show wpAny (model prog w) _ (setField (.ref it) 2 .none >>= _) _ _ s
 refine Yaa (wpAny_setField cr rfl (by simp) (show wpAny _ _ (newExc (.type "StopIteration") [] >>= _) _ _ _ from Yaa ?_))
 simp only [newExc,newTuple]
 refine Yaa (Yay (Yaa (m:=firstArgMember _ _) (wpAny_of_eq (a:=Value.none) (by first | rfl | (simp only [firstArgMember];rfl)) (Yay ?_ (by size_fits)))) (by size_fits))
 simp only [raiseNew]
 refine Yaa (wpAny_handled (?_:_));rw [show A.in1.handled=none from hh];refine Yaa (Yab (wpAny_throw ?_))
 refine Yaa (Yc2 (T := "StopIteration") (b:=true) (by exact⟨_,Heap.get?_push_size _ rfl,rfl⟩) isSubtype_stop ?_)
 exact Yab (q _ (((Ybs ..).extBut.push _).push _))
def ISt(h:Heap)(it d S:Addr)(i n ep:Nat):Prop:=∃z f ok ov,RIt h it d i n ep z f ok ov/\((z=.none/\f=false)\/∃(a:Addr) (oa:Obj),z=rawInt a/\h.get? a=some oa/\a≠it/\a≠S)
theorem ISt.keep{h h':Heap}{S:Addr}{n:Nat}(x:ISt h it d S i n ep)(hk:∀b o,b≠S->h.get? b=some o->h'.get? b=some o)(hI:it≠S):ISt h' it d S i n ep:=by
 obtain⟨z,f,ok,ov,h1,h2⟩:=x
 refine⟨z,f,ok,ov,hk _ _ hI h1,h2.imp_right ?_⟩
 rintro⟨a,oa,e,ha,hi,hS⟩
 exact⟨a,oa,e,hk _ _ hS ha,hi,hS⟩
structure IG(es:Array DictEntry)(lo:Addr)(h:Heap)(as:List Addr):Prop where
 up:as.Pairwise (· < ·)
 lo:∀a∈as,lo < a
 at':∀(j:Nat) (a:Addr),as[j]?=some a->∃e,es[j]?=some e/\h.get? a=some { cls:=.type "tuple",data:=.seq #[e.key,e.val] }
variable {R:Result->Shared->Prop}
theorem Q0{S I:Addr}(hh:A.handled=none)(lu:S < I)(tq:d≠S)(hId:d≠I)(hn:es.size<=sizeLine)(res:Value){h0:Heap}
  (hR:∀h' tk af c as,(∀b o,b≠S->b≠I->h0.get? b=some o->h'.get? b=some o)->h'.get? S=some { cls:=.type "list",dict:=none,data:=.seq af c,slots:=#[] }->as.length=es.size->IG es I h' as->af.toList=as.map Value.ref->R (.ok (.ret res)) { s with heap:=h',toks:=tk }) :
  ∀(k i:Nat) (h:Heap) (tk c:Nat) (af:Array Value) (as:List Addr),es.size - i=k->i<=es.size->ISt h I d S i es.size ep->Ez h d es ep->(∀b o,b≠S->b≠I->h0.get? b=some o->h.get? b=some o) ->
   h.get? S=some { cls:=.type "list",dict:=none,data:=.seq af c,slots:=#[] }->af.toList=as.map Value.ref->as.length=i->IG es I h as->I < h.objs.size->codeAny (model prog w) A (.builtin "list.extend.loop" ⟨[.ref S,.ref I,res],[]⟩) R { s with heap:=h,toks:=tk }:=by
 have ay:S≠I:=Yan lu
 intro k
 induction k with
 | zero =>
  intro i h tk c af as hk hi bv hD kw hS im dq hG t6
  have ei:i=es.size:=by omega
  subst ei
  obtain⟨z,f,ok,ov,q1,_⟩:=bv
  refine Yb0 PySem.F.entry_extend_loop ?_
  rw [Ybj Ycl _]
  refine(show wpAny _ A.in1 (pyNext (.ref I) >>= _) _ _ _ from Yaa (Tw (s:={ s with heap:=h,toks:=tk }) (A:=A.in1) hh q1 hD λh' he=>?_))
  refine Yab (hR h' tk af c as (λb o b1 b2 e=>he b o b2 (kw b o b1 b2 e)) (he S _ ay hS) dq ⟨hG.up,hG.lo,λj a hj=>?_⟩ im)
  obtain⟨e,e1,e2⟩:=hG.at' j a hj
  exact⟨e,e1,he a _ (Ybg (hG.lo a (Yaz hj))) e2⟩
 | succ k ih =>
  intro i h tk c af as hk hi bv hD kw hS im dq hG t6
  have hlt:i < es.size:=by omega
  have hsz:af.size=i:=by rw [<- Yax,im,Yac,dq]
  obtain⟨z,f,ok,ov,q1,q2⟩:=bv
  have vk:S < h.objs.size:=Yae hS
  refine Yb0 PySem.F.entry_extend_loop ?_
  rw [Ybj Ycl _]
  refine(show wpAny _ A.in1 (pyNext (.ref I) >>= _) _ _ _ from Yaa (Qz (s:={ s with heap:=h,toks:=tk }) q1 (q2.imp_right λ⟨a,oa,e,ha,hi,_⟩=>⟨a,oa,e,ha,hi⟩) hD hlt λh' z' f' js j7 q3 q4 ht hz bw=>?_))
  dsimp only at q4 ht hz bw ⊢
  have fe:=bw S _ ay hS
  have zj:ISt h' I d S (i+1) es.size ep:=by
   refine⟨z',f',js,j7,q3,.inr ?_⟩
   rcases q4 with⟨_,rfl,_⟩ | ⟨a,e1,rfl⟩
   ·exact⟨_,_,rfl,ht,Ybg t6,Ybg vk⟩
   ·rcases q2 with⟨e2,_⟩ | ⟨a2,oa,e2,ha,jv,fo⟩
    ·rw [e2]at e1;cases e1
    ·refine⟨a2,oa,by rw [<- e1,e2],bw _ _ jv ha,jv,fo⟩
  have up:∀b o,b≠S->h'.get? b=some o->(h'.update S (Obj.mapSeq (·.push (Value.ref h.objs.size)))).get? b=some o:=λb o hb e=>(Heap.get?_update_other _ _ (Ybe hb)).trans e
  show wpAny _ A.in1 (updateSeq S (·.push (Value.ref h.objs.size)) >>= _) _ _ _
  refine Yaa (Ycp fe rfl (Yab ⟨Yck Ycl _,ih (i+1) _ tk _ (af.push (Value.ref h.objs.size)) (as++[h.objs.size]) (by omega) hlt (zj.keep up (Ybe ay)) (hD.mv λo e=>up d o tq (bw d o hId e))
   (λb o b1 b2 e=>up b o b1 (bw b o b2 (kw b o b1 b2 e))) (Heap.get?_update_self _ fe rfl) (by rw [Yc7,im,Yav];rfl) (by rw [Yao,dq];rfl) ⟨?_,?_,?_⟩ ?_⟩) (by rw [hsz];omega) (by rw [Array.size_push,hsz];omega))
  ·refine Yct.mpr ⟨hG.up,Yd4 _ _,λa ha b hb=>?_⟩
   rw [Yal.mp hb]
   obtain⟨j,hj⟩:=List.mem_iff_getElem?.mp ha
   obtain⟨_,_,e⟩:=hG.at' j a hj
   exact Yae e
  ·intro a ha
   rcases Yat.mp ha with ha | ha
   ·exact hG.lo a ha
   ·rw [Yal.mp ha];exact t6
  ·intro j b hj
   rcases Yco j as.length with j1 | j1
   ·rw [List.getElem?_append_left j1]at hj
    obtain⟨e,e1,e2⟩:=hG.at' j b hj
    have hb:=hG.lo b (Yaz hj)
    exact⟨e,e1,up b _ (Ybg (Yeh lu hb)) (bw b _ (Ybg hb) e2)⟩
   ·rw [List.getElem?_append_right j1]at hj
    have j2:=(List.getElem?_eq_some_iff.mp hj).1
    rw [Yeg]at j2
    have j3:j=i:=by omega
    rw [show j - as.length=0 by omega]at hj
    have hb:h.objs.size=b:=Ya0 hj
    subst hb
    exact⟨es[i],by rw [j3,Array.getElem?_eq_getElem hlt],up _ _ (Ybg vk) ht⟩
  ·have e:(h'.update S (Obj.mapSeq (·.push (Value.ref h.objs.size)))).get? h.objs.size=_:=up _ _ (Ybg vk) ht
   exact Yeh t6 (Yae e)
theorem Tx{r S:Addr}(hh:A.handled=none)(hv:s.heap.IsItemsView r d)(hm:Ez s.heap d es ep)(hSr:S≠r)(tq:d≠S)(res:Value)(c0:Nat)(hS:s.heap.get? S=some { cls:=.type "list",data:=.seq #[] c0 })
  (hR:∀h' tk af c as,(∀b o,b≠S->s.heap.get? b=some o->h'.get? b=some o)->h'.get? S=some { cls:=.type "list",dict:=none,data:=.seq af c,slots:=#[] }->as.length=es.size->IG es s.heap.objs.size h' as->af.toList=as.map Value.ref->R (.ok (.ret res)) { s with heap:=h',toks:=tk }) (hn:es.size<=sizeLine) :
  wpAny (model prog w) A.in1 (Builtin.List.listExtendWith (.ref S) (.ref r) res) (λar s'=>match ar with | .done f=>R (.ok f) s' | .again c'=>c'.quiet=true/\codeAny (model prog w) A c' R s') (λe s'=>R (.error e) s') s:=by
 have lu:S < s.heap.objs.size:=Yae hS
 have key:∀(h:Heap) (c1 tk:Nat),(∀b o,b≠S->(s.heap.push { cls:=.type "dict_itemiterator",data:=.fields #[.none,.bool false,.ref d,.int 0 0,.int es.size 0,.int ep 0,.none,.none] }).get? b=some o->h.get? b=some o) ->
   h.get? S=some { cls:=.type "list",data:=.seq #[] c1 }->codeAny (model prog w) A (.builtin "list.extend.loop" ⟨[.ref S,.ref s.heap.objs.size,res],[]⟩) R { s with heap:=h,toks:=tk }:=by
  intro h c1 tk hk i8
  have hI:=hk s.heap.objs.size _ (Ybg lu) (Heap.get?_push_size _ rfl)
  exact Q0 (es:=es) (ep:=ep) (s:=s) (h0:=s.heap) hh lu tq (Yan hm.lt) hn res (λh' yz af c as hk' fe hl hG im=>hR h' yz af c as (λb o hb e=>hk' b o hb (Yan (Yae e)) e) fe hl hG im)
   es.size 0 h tk c1 #[] [] (Nat.sub_zero _) (Ya4 _) ⟨_,_,_,_,hI,.inl ⟨rfl,rfl⟩⟩ (hm.mv λo e=>hk d o tq (Heap.get?_push_of_some _ e)) (λb o hb _ e=>hk b o hb (Heap.get?_push_of_some _ e)) i8 rfl rfl
   ⟨List.Pairwise.nil,(λ_ ha=>nomatch ha),(λj a hj=>by simp at hj)⟩ (Yae hI)
 unfold Builtin.List.listExtendWith
 refine Yaa (Ydj (T := "dict_items") hv.typeIs ?_)
 simp only [show Builtin.List.listSameRef (.ref S) (.ref r)=false by simp [Builtin.List.listSameRef,hSr],show(Value.type "dict_items" == Value.type "list")=false by decide,show(Value.type "dict_items" == Value.type "tuple")=false by decide,Bool.or_false,Bool.false_eq_true,if_false]
 refine Yaa (Qx hv hm ?_)
 have i8:=Heap.get?_push_of_some { cls:=.type "dict_itemiterator",data:=.fields #[.none,.bool false,.ref d,.int 0 0,.int es.size 0,.int ep 0,.none,.none] } hS
 refine Yaa (Ybf (PySem.W.kdx_hint (let⟨o,ho,hc,_⟩:=hv;⟨o,Heap.get?_push_of_some _ ho,hc⟩) ?_))
 refine Ydm (λ_=>?_) (λ_=>Yab ⟨Yck Ycl _,key _ c0 _ (λb o _ e=>e) i8⟩)
 refine Yaa (Ycb (Yaa (show wpAny _ _ (updateSeq S (·.push .none) >>= λ_=>updateSeq S (·.pop)) _ _ _ from Yaa (Ycp i8 rfl ?_))))
 have fo:=Heap.get?_update_self (Obj.mapSeq (·.push Value.none)) i8 rfl
 refine Ycp (hz:=by seq_fits) fo rfl ?_
 have hS3:=Heap.get?_update_self (Obj.mapSeq (·.pop)) fo rfl
 refine Yab ⟨Yck Ycl _,key _ _ _ (λb o hb e=>?_) hS3⟩
 exact(Heap.get?_update_other _ _ (Ybe hb)).trans ((Heap.get?_update_other _ _ (Ybe hb)).trans e)
theorem Q3{r:Addr}{Q:Value->Shared->Prop}(hh:A.handled=none)(hv:s.heap.IsItemsView r d)(hm:Ez s.heap d es ep)(hn:es.size<=sizeLine)
  (hQ:∀h' tk af c as,(∀b o,s.heap.get? b=some o->h'.get? b=some o)->h'.get? s.heap.objs.size=some { cls:=.type "list",dict:=none,data:=.seq af c,slots:=#[] }->as.length=es.size->IG es s.heap.objs.size h' as->af.toList=as.map Value.ref->Q (.ref s.heap.objs.size) { s with heap:=h',toks:=tk }) :
  wpAny (model prog w) A (call (.type "list") [.ref r]) Q E s:=by
 refine callType_codes (Q₁:=λobj s₁=>obj=.ref s.heap.objs.size/\s₁={ s with heap:=s.heap.push { cls:=.type "list",data:=.seq #[] } }) PySem.F.called_list (PySem.F.typeCall_list_1 _) PySem.F.entry_list_init
  (code_list_new _ ⟨rfl,rfl⟩) λobj s1 h1=>?_
 obtain⟨rfl,rfl⟩:=h1
 have hS:(s.heap.push { cls:=.type "list",data:=.seq #[] }).get? s.heap.objs.size=some { cls:=.type "list",data:=.seq #[] }:=Heap.get?_push_size _ rfl
 have hr:r < s.heap.objs.size:=let⟨_,ho,_⟩:=hv;Yae ho
 refine⟨⟨_,hS,rfl⟩,PySem.F.args_list_init_2 _ _,?_⟩
 generalize hH:s.heap.push { cls:=.type "list",data:=.seq #[] }=H1 at hS
 have jm:∀b o,s.heap.get? b=some o->H1.get? b=some o:=λb o e=>hH ▸ Heap.get?_push_of_some _ e
 refine(show wpAny (model prog w) _ (do let old <- Builtin.List.listItems (.ref s.heap.objs.size);Builtin.List.listUpdate (.ref s.heap.objs.size) (λ_=>#[]);letGo old.toList.reverse;Builtin.List.listExtendWith (.ref s.heap.objs.size) (.ref r) .none) _ _ _ from Yaa ?_)
 unfold Builtin.List.listItems
 refine Yaa (Yb3 (s:={ s with heap:=H1 }) hS rfl (Yab (show wpAny _ _ (updateSeq s.heap.objs.size (λ_=>#[]) >>= λ_=>letGo (#[]:Array Value).toList.reverse >>= λ_=>Builtin.List.listExtendWith (.ref s.heap.objs.size) (.ref r) .none) _ _ _ from Yaa (Ycp hS rfl ?_))))
 have fo:=Heap.get?_update_self (Obj.mapSeq (λ_=>(#[]:Array Value))) hS rfl
 have zp:∀b o,b≠s.heap.objs.size->H1.get? b=some o->(H1.update s.heap.objs.size (Obj.mapSeq (λ_=>(#[]:Array Value)))).get? b=some o:=λb o hb e=>(Heap.get?_update_other _ _ (Ybe hb)).trans e
 have ne:∀{b:Addr} {o:Obj},s.heap.get? b=some o->b≠s.heap.objs.size:=λe=>Yan (Yae e)
 refine Yaa (wpAny_letGo (Tx (es:=es) (ep:=ep) (A:=A.in1) hh (let⟨o,ho,x⟩:=hv;⟨o,zp r o (ne ho) (jm _ _ ho),x⟩) (hm.mv λo e=>zp d o (ne e) (jm _ _ e)) (Ybg hr) (Yan hm.lt) .none _ fo (λh' tk af c as hk fe hl hG im=>?_) hn))
 exact⟨rfl,hQ h' tk af c as (λb o e=>hk b o (ne e) (zp b o (ne e) (jm b o e))) fe hl ⟨hG.up,λa ha=>Yeh (Yae fo) (hG.lo a ha),hG.at'⟩ im⟩
end
section
variable {X:Cx}{k:Nat}
theorem Q4:MtR X "dict.items" (λx vs H Q=>∃a ae,x=.ref a/\vs=[]/\H a=some (.dT ae)/\∀v,H v=none->Q (.ref v) (upd H v (.ext λh=>h.IsItemsView v a))):=by
 intro aa s σ H x xs v us Q I rx r h
 obtain⟨a,ae,rfl,rfl,ha,q⟩:=h
 cases rx
 have hus:=Vals.zero r
 subst hus
 obtain⟨hz,hsys,ys,rel,o,es,ep,h1,h2,h3,h4,_⟩:=N6 I.hok ha
 have hm:Ez s.heap a es ep:=⟨o,h1,h2,h3⟩
 refine call_meetsIn PySem.F.slot_dict_items hm.ty PySem.F.entry_dict_items (PySem.F.args_dict_items_1 _) (Qw hsys) ⟨⟨es,ep,hm⟩,?_⟩
 refine⟨.ref s.heap.objs.size,_,I.laid (t':=s.toks) (o:=.ext λh=>h.IsItemsView s.heap.objs.size a) (λb ob q=>Heap.get?_push_of_some _ q) (Yad _) ?_,rfl,q _ (I.hok.fresh (Yad _))⟩
 exact⟨⟨_,Heap.get?_push_size _ rfl,rfl,rfl⟩,⟨_,Heap.get?_push_size _ rfl⟩,λh1 h2 ⟨o,e,r⟩ k=>⟨o,k o e,r⟩⟩
theorem Inv.trackQ{aa:List (Addr×Obj)}{σ:St}{s:Shared}:∀{as:List Addr} {ps:List (V×V)} {H:Hp},Inv X aa σ H s->as.length=ps.length->as.Pairwise (· < ·)->(∀a∈as,Eo X aa H a) ->
  (∀(j:Nat) (a:Addr) (p:V×V),as[j]?=some a->ps[j]?=some p->∃ah,Vals [p.1,p.2] ah/\IsTup s.heap a ah.toArray) ->
  ∃H',Inv X aa σ H' s/\Same H H'/\(∀(j:Nat) (a:Addr) (p:V×V),as[j]?=some a->ps[j]?=some p->H' a=some (.tup [p.1,p.2]))/\∀b,b∉as->H' b=H b
 | [],_,H,I,_,_,_,_=>⟨H,I,λ_ _ e=>e,λj a p e=>by simp at e,λ_ _=>rfl⟩
 | a :: as,[],_,_,hl,_,_,_=>by simp at hl
 | a :: as,p :: ps,H,I,hl,hp,hf,ht=>by
  obtain⟨ah,hv,hi⟩:=ht 0 a p rfl rfl
  have fa:=hf a (.head _)
  have I1:Inv X aa σ (upd H a (.tup [p.1,p.2])) s:=I.track fa ⟨by show 2<=sizeLine;decide,ah,hv,hi⟩
  have hlt:=(Ycr.mp hp).1
  obtain⟨H',I',S',h1,h2⟩:=Inv.trackQ (as:=as) (ps:=ps) I1 (by simpa using hl) (Ycr.mp hp).2
   (λb hb=>by
    obtain⟨f0,f1⟩:=hf b (.tail _ hb)
    exact⟨by rw [Ap (Ybg (hlt b hb))];exact f0,f1⟩)
   (λj b r e1 e2=>ht (j+1) b r (by simpa using e1) (by simpa using e2))
  have na:a∉as:=λh=>Ycd _ (hlt a h)
  refine⟨H',I',(P0 fa.1 _).tr S',λj b r e1 e2=>?_,λb hb=>?_⟩
  ·cases j with
   | zero =>
    simp at e1 e2
    subst e1 e2
    rw [h2 a na];exact Bh
   | succ j=>exact h1 j b r (by simpa using e1) (by simpa using e2)
  ·rw [h2 b λz=>hb (.tail _ z)]
   exact Ap λz=>hb (by rw [z];exact .head _)
theorem Fp(hc:X.calm=true):Ej X (.type "list") (λxs H Q=>∃v a ae,xs=[.ref v]/\H v=some (.ext λh=>h.IsItemsView v a)/\H a=some (.dT ae) /\
  ∀(l:Addr) (as bs:List Addr) (H':Hp),Same H H'->H' l=none->Paired (λ(p:List Key×V) b=>H b=some (.tup (p.1.map kV))) ae bs->as.length=ae.length->(∀(j:Nat) a b p,as[j]?=some a->bs[j]?=some b->ae[j]?=some p->H' a=some (.tup [.ref b,p.2]))->Q (.ref l) (upd H' l (.lst (as.map V.ref)))):=by
 intro aa s σ H xs us Q I r h
 obtain⟨v,a,ae,rfl,hv,ha,q⟩:=h
 obtain⟨u,rfl,rx⟩:=Ek r
 cases rx
 obtain⟨hview,_,_⟩:=(show Bm X.prog X.w H s.heap v (.ext λh=>h.IsItemsView v a) from I.hok v _ hv)
 obtain⟨hz,hsys,ys,rel,o,es,ep,h1,h2,h3,h4,_⟩:=N6 I.hok ha
 have hl:=Ycc rel
 have so:es.size=ys.length:=by
  have:=Ydn List.length h4
  simpa using this
 refine Q3 (es:=es) (ep:=ep) (I.ok.hd hc) hview ⟨o,h1,h2,h3⟩ (by rw [so,<- hl];exact hz) λh' tk af c as kk hS dq hG im=>?_
 have I1:Inv X aa σ H { s with heap:=h',toks:=tk }:=I.kept kk
 have bs:Paired (λ(p:List Key×V) b=>H b=some (.tup (p.1.map kV))) ae (ys.map λy=>y.2.1):=Ka rel λp y z=>z.2.1
 have wb:∀(j:Nat) p y,ae[j]?=some p->ys[j]?=some y->A0 p.2 y.2.2:=λj p y e1 e2=>by
  obtain⟨y',e3,e4⟩:=Gx rel e1
  rw [e2]at e3;cases e3
  exact e4.2.2
 obtain⟨H',I2,S2,d7,cj⟩:=I1.trackQ (as:=as) (ps:=(ae.zip ys).map λz=>(V.ref z.2.2.1,z.1.2)) (by rw [dq,so,Yac,List.length_zip,<- hl];omega) hG.up
  (λb hb=>I.fpOk (Ybu (hG.lo b hb)) (I.hok.fresh (Ybu (hG.lo b hb))))
  (λj b p e1 e2=>by
   obtain⟨e,e3,e5⟩:=hG.at' j b e1
   rw [List.getElem?_map]at e2
   obtain⟨⟨p',y⟩,e6,rfl⟩:=Yap.mp e2
   obtain⟨e7,e8⟩:=List.getElem?_zip_eq_some.mp e6
   have e9:(ys.map (entryOfKey (tupleKind (Aw X.prog X.w))))[j]?=some e:=by rw [<- h4,Array.getElem?_toList];exact e3
   rw [List.getElem?_map,e8]at e9
   cases e9
   exact⟨[.ref y.2.1,y.2.2],.cons rfl (.cons (wb j p' y e7 e8) .nil),_,e5,rfl,_,rfl⟩)
 have fS:Eo X aa H s.heap.objs.size:=I.fpOk (Yad _) (I.hok.fresh (Yad _))
 have nS:s.heap.objs.size∉as:=λz=>Ycd _ (hG.lo _ z)
 have fS':Eo X aa H' s.heap.objs.size:=⟨by rw [cj _ nS];exact fS.1,fS.2⟩
 refine⟨.ref s.heap.objs.size,_,I2.track (o:=.lst (as.map V.ref)) fS' ⟨by rw [Yac,dq,so,<- hl];exact hz,af.toList,c,by rw [im];exact X3 as,by simpa using hS⟩,rfl,q _ as _ H' S2 fS'.1 bs (by rw [dq,so,<- hl]) λj b b2 p e1 e2 e3=>?_⟩
 rw [List.getElem?_map]at e2
 obtain⟨y,e4,rfl⟩:=Yap.mp e2
 exact d7 j b _ e1 (by rw [List.getElem?_map,List.getElem?_zip_eq_some (z:=(p,y)).mpr ⟨e3,e4⟩];rfl)
def prT(p:List Key×PyData):PyData:=.tuple [.tuple (p.1.map kyD),p.2]
def Qgp(te:AE):AE:=fun τ μ R=>te τ μ λx μ1=>match x with
 | .R a=>opt (μ1 a) λm=>match m with
  | .dt ae=>opt (dats (ae.map (·.2))) λds=>∀p,μ1 p=none->R (.R p) (Ao μ1 p (.lst (((ae.map (·.1)).zip ds).map λq=>.D (prT q))))
  | _=>False
 | _=>False
theorem O4{K:PySem.W.Frag}{H H':Hp}(S:Kp H H'):∀{ae:List (List Key×AV)} {ws:List (List Key×V)} {ds:List PyData} {as bs:List Addr},Db K H ae ws->dats (ae.map (·.2))=some ds->Paired (λ(p:List Key×V) b=>H b=some (.tup (p.1.map kV))) ws bs->as.length=ws.length->(∀(j:Nat) a b p,as[j]?=some a->bs[j]?=some b->ws[j]?=some p->H' a=some (.tup [.ref b,p.2])) ->
  An K H' (((ae.map (·.1)).zip ds).map λq=>.D (prT q)) (as.map V.ref)
 | [],_,ds,as,bs,r,e,hb,hl,_=>by
  cases r
  have:as=[]:=Yca hl
  subst this
  exact .nil
 | kv :: ae,_,ds,as,bs,r,e,hb,hl,hp=>by
  cases r with
  | cons r1 r2 =>
   rename_i w ws
   obtain⟨k0,x⟩:=kv
   obtain⟨k1,v⟩:=w
   obtain⟨e1,e2⟩:=r1
   simp only at e1 e2
   subst e1
   cases hb with
   | cons b1 b2 =>
    rename_i b bs
    cases as with
    | nil=>exact absurd hl (by simp)
    | cons a as =>
     obtain⟨d,lh,rfl,rfl,e'⟩:=Qv e
     have ha:=hp 0 a b (k0,v) rfl rfl rfl
     refine .cons ?_ (O4 S r2 e' b2 (Nat.succ.inj hl) λj a b q h1 h2 h3=>hp (j+1) a b q (by simpa using h1) (by simpa using h2) (by simpa using h3))
     exact Es ha (Bw (Dk.kp S _ _ (Es b1 (Tv _))) (Bw (Dk.kp S _ _ e2) Cc))
theorem Q5{o:Expr}{to:AE}{p pos aw aq:Pos}(hc:X.calm=true)(hg:Gl X "list") (hm:X.mg "list" = none) (ho:VE X o to)
  (bu:attributeBase o "items" X.env (eval o X.env)=eval o X.env:=by rfl) (bt:(aw.endLine==aq.line)=true:=by rfl)
  (hs:starEach [.Call (.Attribute o "items" aw) [] [] aq] X.env=[(false,eval (.Call (.Attribute o "items" aw) [] [] aq) X.env)]:=by rfl) :
  VE X (.Call (.Name "list" p) [.Call (.Attribute o "items" aw) [] [] aq] [] pos) (Qgp to):=by
 have h1:=Ze PySem.F.plainAttrs_dict PySem.F.slot_dict_items PySem.F.type_dict_items (Q4 (X:=X)) ho bu bt
 refine(Ij (Fp hc) hg hm boot_list (N1 h1 Rt hs) (by decide) (by decide) hs rfl).imp fun σ H Q zz=>B4 zz fun τ μ R bv hcn h hq=>?_
 refine⟨τ,μ,_,bv,hcn,h,λx μ1 v H1 S1 c1 rx hx=>?_⟩
 split at hx
 ·rename_i a
  obtain⟨m,em,hx⟩:=Aq hx
  split at hx
  ·rename_i ae
   obtain⟨ds,eds,hx⟩:=Aq hx
   obtain⟨oo,cj,ws,rfl,rk⟩:=c1 _ _ em
   cases (show v=.ref a from rx)
   refine⟨.inr (.inr (.inl ⟨rfl,.inr ⟨ws,cj⟩⟩)),a,ws,rfl,rfl,cj,λw hw=>?_⟩
   have hwa:a≠w:=by rintro rfl;rw [hw]at cj;cases cj
   refine⟨w,a,ws,rfl,Bh,by rw [Ap hwa];exact cj,λl as bs H' S' hl hb dq hp=>?_⟩
   have kk:Kp H1 H':=(Kp.new hw _).trans (Kp.same S')
   have c2:Cn X.K μ1 H':=(c1.over hw).same S'
   have iy:Paired (λ(p:List Key×V) b=>H1 b=some (.tup (p.1.map kV))) ws bs:=by
    have:=Ka (f:=id) hb (G:=λ(p:List Key×V) b=>H1 b=some (.tup (p.1.map kV))) λp b e=>by
     have e:upd H1 w (.ext λh=>h.IsItemsView w a) b=some (.tup (p.1.map kV)):=e
     by_cases z:b=w
     ·rw [z,Bh]at e;cases e
     ·rw [Ap z]at e;exact e
    rwa [List.map_id]at this
   refine hq (.R l) _ (.ref l) _ (S1.trans (kk.trans (Kp.new hl _))) (c2.new hl (Cp (O4 kk rk eds iy dq hp))) C7 (hx l (c2.none hl))
  ·exact hx.elim
 ·exact hx.elim
end
section
variable {X:Cx}{k v:Expr}{pos:Pos}
def Qan(tk tv:TE):TE:=fun σ H Q=>∀p,H p=none->tk σ (upd H p (.dT [])) λx H1=>tv σ H1 λy H2=>H2 p=some (.dT [])/\∃H3,DPut H2 p x y H3/\Q (.ref p) H3
theorem Ty{tk tv:TE}(hu:X.A.units+1 < cLine)(hk:PE X k tk)(hv:PE X v tv):PE X (.Dict [some k] [v] pos) (Qan tk tv):=by
 intro aa s σ H Q I q
 have hn:=I.hok.fresh (Yad s.heap.objs.size)
 have I1:=I.laid (a:=s.heap.objs.size) (o:=.dT []) (h':=s.heap.push { cls:=.type "dict",data:=.dict #[] }) (t':=s.toks) (λ_ _ q=>Heap.get?_push_of_some _ q) (Yad _) (Kv s.heap I.big)
 refine wpAny_Dict_any rfl rfl (by intro z;cases z) (show 1<=15 by decide) (pairTrees_cons_walk (thn (hk aa _ σ _ _ I1 (q _ hn)) λu s1 zz=>B6 zz λx H1 I1 rx q1=>thn (hv aa s1 σ H1 _ I1 q1) λr s2 zz2=>B6 zz2 λy H2 I2 ry q2=>pairTrees_nil_walk ?_))
 obtain⟨e,H3,g,q3⟩:=q2
 unfold storeAll
 rw [List.forIn_cons]
 rcases g with⟨ae,kk,e',_⟩ | ⟨ae,kk,b,e',ey,eb,l,eH⟩
 ·rw [e]at e';cases e'
 ·rw [e]at e'
  cases e'
  subst ey eH
  cases (show u=Value.ref b from rx)
  obtain⟨z,hd,xs,rel,dd⟩:=N6 I2.hok e
  refine Yaa (Yaa (wpAny_dictSet_heap (hsz:=by rw [<- Ycc rel];exact z) (show X.A.units < cLine by omega) (Fk I2.hok eb) dd λh' li hs=>Yab ?_))
  refine(show wpAny _ _ (forIn ([]:List (Value×Value)) PUnit.unit _) _ _ _ from ?_)
  rw [List.forIn_nil]
  refine Yab ⟨.ref s.heap.objs.size,_,?_,rfl,q3⟩
  obtain⟨o,es,ep,hq,h2,h3,h4,_,h5⟩:=li
  refine Jq I2 (by rw [e];exact True.intro) hs ⟨o,hq⟩ ⟨by have:=Dy ([]:List (List Key×V)) kk y;omega,hd,_,(rel.put kk eb ry).keeps λc ys ec=>?_,o,es,ep,hq,h2,h3,h4,h5⟩
  rw [Ap (N0 ec e (λz=>nomatch z))]
  exact ec
def Qao(tk tv:AE):AE:=fun τ μ R=>∀p,μ p=none->tk τ (Ao μ p (.dt [])) λx μ1=>tv τ μ1 λy μ2=>match x with
 | .D d=>μ2 p=some (.dt [])/\opt (dput (.dt []) d y) λm=>R (.R p) (Ao μ2 p m)
 | _=>False
theorem Tz{tk tv:AE}(hu:X.A.units+1 < cLine)(hk:VE X k tk)(hv:VE X v tv):VE X (.Dict [some k] [v] pos) (Qao tk tv):=(Ty hu hk hv).imp fun σ H Q zz=>B4 zz fun τ μ R hs hc h hq=>by
 intro p hp
 refine⟨τ,_,_,hs.kp (Kp.new hp _),hc.new hp (Xr .nil),h p (hc.none hp),λx μ1 xv H1 S1 c1 rx h1=>⟨τ,μ1,_,hs.kp ((Kp.new hp _).trans S1),c1,h1,λy μ2 yv H2 S2 c2 ry h2=>?_⟩⟩
 cases x with
 | D d =>
  obtain⟨em,h2⟩:=h2
  obtain⟨m,em',h2⟩:=Aq h2
  obtain⟨o,ho,ws,rfl,rk⟩:=c2 _ _ em
  cases rk
  obtain⟨H4,g,S4,c4⟩:=Oi c2 em (rx.kp S2) ry em' (show 0 < sizeLine by decide)
  exact⟨ho,H4,g,hq _ _ _ _ ((Kp.new hp _).trans (S1.trans (S2.trans S4))) c4 C7 h2⟩
 | _=>exact h2.elim
end
end L2
namespace L2
open PySem PySem.Spec PyProof.Rows
abbrev Src(prog:Program)(w:World)(i l:Addr)(xs:Array Value)(St:Nat->Heap->Prop):Prop:=∀A:Around,A.handled=none->Draws prog w A i [i,l] xs.size (λk v=>xs[k]?=some v) St
theorem Src.keep{prog:Program}{w:World}{i l:Addr}{xs:Array Value}{St:Nat->Heap->Prop}(S:Src prog w i l xs St){k:Nat}{h h':Heap}(st:St k h)(h1:∀o,h.get? i=some o->h'.get? i=some o)(h2:∀o,h.get? l=some o->h'.get? l=some o):St k h' :=
 (S {} rfl).frame k h h' st λb hb o e=>by
  rcases Ya1.mp hb with rfl | hb
  ·exact h1 o e
  ·rw [Yal.mp hb]at e ⊢;exact h2 o e
theorem Src.live{prog:Program}{w:World}{i l:Addr}{xs:Array Value}{St:Nat->Heap->Prop}(S:Src prog w i l xs St){k:Nat}{h:Heap}(st:St k h):∃o,h.get? i=some o:=(S {} rfl).live k h st
section
variable {prog:Program}{w:World}{A:Around}{E:Value->Shared->Prop}{s:Shared}{z TI TO i1 i2 l1 l2:Addr}{xs ys:Array Value}{St1 St2:Nat->Heap->Prop}{k:Nat}
theorem T0{a b:Value}{Q:Value->Shared->Prop}(hh:A.handled=none)(D:ZipApart z TI TO i1 i2 l1 l2)(S1:Src prog w i1 l1 xs St1)(S2:Src prog w i2 l2 ys St2)(hz:IsZip s.heap z TI TO .none)(jj:IsPair s.heap TI (.ref i1) (.ref i2))(gf:IsPair s.heap TO a b)
  (h1:St1 k s.heap) (h2:St2 k s.heap) (hx:k < xs.size) (hy:k < ys.size)
  (hQ:∀h' tk x y,xs[k]?=some x->ys[k]?=some y->IsZip h' z TI TO (rawInt s.heap.objs.size)->IsPair h' TO x y->St1 (k+1) h'->St2 (k+1) h'->IsPair h' s.heap.objs.size x y->(∀c o,c≠z->c≠TO->c≠i1->c≠i2->s.heap.get? c=some o->h'.get? c=some o)->Q (.ref s.heap.objs.size) { s with heap:=h',toks:=tk }) :
  wpAny (model prog w) A (Builtin.«zip.__next__» ⟨[.ref z],[]⟩) (λar s'=>∃v,ar=.done (.ret v)/\Q v s') E s:=by
 refine(show wpAny _ _ (field (.ref z) 2 >>= _) _ _ _ from Yaa (Ya8 hz rfl (x:=.bool false) rfl (show wpAny _ _ (field (.ref z) 3 >>= _) _ _ _ from Yaa (Ya8 hz rfl (x:=.ref TI) rfl (Yaa (Yb3 jj rfl (show wpAny _ _ (Builtin.SmallTypes.ownedTupleIsFree (.ref z) >>= _) _ _ _ from Yaa ?_)))))))
 unfold Builtin.SmallTypes.ownedTupleIsFree
 refine Yaa (Ya8 hz rfl (x:=.none) rfl (Yab ?_))
 rw [Yaj rfl]
 refine Yaa (Ycb (Yaa (Ya8 hz rfl (x:=.ref TO) rfl (Yaa (Ybd hz (by simp) λg1 e1 k1=>Yaa ?_)))))
 have z1:IsZip g1 z TI TO .ellipsis:=e1
 have a1:St1 k g1:=S1.keep h1 (λo e=>k1.extBut _ _ D.i1z e) (λo e=>k1.extBut _ _ D.l1z e)
 simp only [List.zipIdx_cons,List.zipIdx_nil,List.forIn_cons,List.forIn_nil]
 refine Yaa (Yaa (Yes (show wpAny _ _ (Builtin.SmallTypes.nextOf (.ref i1) >>= _) _ _ _ from Yaa ((S1 A hh).item k _ _ _ hx a1 λx g2 tf ex b2 k2=>Yab ?_))))
 have o2:IsPair g2 TO a b:=k2.extBut _ _ D.TOi1 (k1.extBut _ _ D.TOz gf)
 refine Yaa (Yb3 o2 rfl (Yaa (Yer o2 λg3 e3 k3=>Yaa (wpAny_letGo (Yab ?_)))))
 have o3:IsPair g3 TO x b:=e3
 have a3:St2 k g3:=S2.keep h2 (λo e=>k3.extBut _ _ D.TOi2.symm (k2.extBut _ _ D.i12.symm (k1.extBut _ _ D.i2z e))) (λo e=>k3.extBut _ _ D.l2TO (k2.extBut _ _ D.l2i1 (k1.extBut _ _ D.l2z e)))
 refine Yaa (Yaa (Yes (show wpAny _ _ (Builtin.SmallTypes.nextOf (.ref i2) >>= _) _ _ _ from Yaa ((S2 A hh).item k _ _ _ hy a3 λy g4 tk4 ey b4 k4=>Yab ?_))))
 have o4:IsPair g4 TO x b:=k4.extBut _ _ D.TOi2 o3
 refine Yaa (Yb3 o4 rfl (Yaa (Yer o4 λg5 e5 k5=>Yaa (wpAny_letGo (Yab (Yab ?_))))))
 have o5:IsPair g5 TO x y:=e5
 refine Yaa (Yb3 o5 rfl (Yaa (wpAny_newTuple ?_)))
 have sz:g5.objs.size=s.heap.objs.size:=by rw [k5.1,k4.1,k3.1,k2.1,k1.1]
 have z5:IsZip g5 z TI TO .ellipsis:=k5.extBut _ _ D.TOz.symm (k4.extBut _ _ D.i2z.symm (k3.extBut _ _ D.TOz.symm (k2.extBut _ _ D.i1z.symm z1)))
 have up5:∀c o,c≠z->c≠TO->c≠i1->c≠i2->s.heap.get? c=some o->g5.get? c=some o:=λc o c1 c2 c3 c4 e=>k5.extBut _ _ c2 (k4.extBut _ _ c4 (k3.extBut _ _ c2 (k2.extBut _ _ c3 (k1.extBut _ _ c1 e))))
 have lz:z < g5.objs.size:=Yae z5
 refine(show wpAny _ _ (Builtin.SmallTypes.ownedTupleHandOut (.ref z) (.ref g5.objs.size) >>= _) _ _ _ from Yaa ?_)
 unfold Builtin.SmallTypes.ownedTupleHandOut
 have z6:IsZip (g5.push { cls:=.type "tuple",data:=.seq #[x,y] }) z TI TO .ellipsis:=Heap.get?_push_of_some _ z5
 refine Yaa (Ybd z6 (by simp) λg7 e7 k7=>Ybd (show IsZip g7 z TI TO (rawInt g5.objs.size) from e7) (by simp) λg8 e8 k8=>Yab ⟨_,rfl,?_⟩)
 have ll:∀c o,c≠z->g5.get? c=some o->g8.get? c=some o:=λc o c1 e=>k8.extBut _ _ c1 (k7.extBut _ _ c1 (Heap.get?_push_of_some _ e))
 have t8:IsPair g8 g5.objs.size x y:=k8.extBut _ _ (Ybg lz) (k7.extBut _ _ (Ybg lz) (Heap.get?_push_size _ rfl))
 have z8:IsZip g8 z TI TO (rawInt g5.objs.size):=e8
 have b5:St1 (k+1) g5:=S1.keep b2 (λo e=>k5.extBut _ _ D.TOi1.symm (k4.extBut _ _ D.i12 (k3.extBut _ _ D.TOi1.symm e))) (λo e=>k5.extBut _ _ D.l1TO (k4.extBut _ _ D.l1i2 (k3.extBut _ _ D.l1TO e)))
 have c5:St2 (k+1) g5:=S2.keep b4 (λo e=>k5.extBut _ _ D.TOi2.symm e) (λo e=>k5.extBut _ _ D.l2TO e)
 show Q (.ref g5.objs.size) _
 rw [sz]at z8 t8 ⊢
 exact hQ g8 _ x y ex ey z8 (ll _ _ D.TOz o5) (S1.keep b5 (λo e=>ll _ o D.i1z e) (λo e=>ll _ o D.l1z e)) (S2.keep c5 (λo e=>ll _ o D.i2z e) (λo e=>ll _ o D.l2z e)) t8 λc o c1 c2 c3 c4 e=>ll c o c1 (up5 c o c1 c2 c3 c4 e)
theorem Wr{T:Addr}{b1:Bool}{Q:Value->Shared->Prop}(hh:A.handled=none)(D:ZipApart z TI TO i1 i2 l1 l2)(S1:Src prog w i1 l1 xs St1)(S2:Src prog w i2 l2 ys St2)(hz:ZObj s.heap z TI TO (rawInt T) b1)(hT:∃o,s.heap.get? T=some o)(jj:IsPair s.heap TI (.ref i1) (.ref i2))
  (h1:St1 k s.heap) (h2:St2 k s.heap) (hx:k < xs.size) (hy:k < ys.size)
  (hQ:∀h' tk x y,xs[k]?=some x->ys[k]?=some y->ZObj h' z TI TO (rawInt T) true->St1 (k+1) h'->St2 (k+1) h'->IsPair h' s.heap.objs.size x y->(∀c o,c≠z->c≠i1->c≠i2->s.heap.get? c=some o->h'.get? c=some o)->Q (.ref s.heap.objs.size) { s with heap:=h',toks:=tk }) :
  wpAny (model prog w) A (Builtin.«zip.__next__» ⟨[.ref z],[]⟩) (λar s'=>∃v,ar=.done (.ret v)/\Q v s') E s:=by
 refine(show wpAny _ _ (field (.ref z) 2 >>= _) _ _ _ from Yaa (Ya8 hz rfl (x:=.bool false) rfl (show wpAny _ _ (field (.ref z) 3 >>= _) _ _ _ from Yaa (Ya8 hz rfl (x:=.ref TI) rfl (Yaa (Yb3 jj rfl (show wpAny _ _ (Builtin.SmallTypes.ownedTupleIsFree (.ref z) >>= _) _ _ _ from Yaa (Hi hz hT λg1 kr cq=>?_))))))))
 simp only [Bool.false_eq_true,if_false]
 refine Yaa ?_
 rw [<- Array.forIn_toList]
 simp only [List.forIn_cons,List.forIn_nil]
 have a1:St1 k g1:=S1.keep h1 (λo e=>cq.extBut _ _ D.i1z e) (λo e=>cq.extBut _ _ D.l1z e)
 refine Yaa (Yaa (Ybf (show wpAny _ _ (Builtin.SmallTypes.nextOf (.ref i1) >>= _) _ _ _ from Yaa ((S1 A hh).item k _ _ _ hx a1 λx g2 tf ex b2 fc=>Yab (Yab ?_)))))
 have a2:St2 k g2:=S2.keep h2 (λo e=>fc.extBut _ _ D.i12.symm (cq.extBut _ _ D.i2z e)) (λo e=>fc.extBut _ _ D.l2i1 (cq.extBut _ _ D.l2z e))
 refine Yaa (Yaa (Ybf (show wpAny _ _ (Builtin.SmallTypes.nextOf (.ref i2) >>= _) _ _ _ from Yaa ((S2 A hh).item k _ _ _ hy a2 λy g3 tk3 ey b3 fm=>Yab (Yab (Yab (Yaa (wpAny_newTuple (Yab ⟨_,rfl,?_⟩) (show 2<=sizeLine by decide)))))))))
 have sz:g3.objs.size=s.heap.objs.size:=by rw [fm.1,fc.1,cq.1]
 rw [sz]
 have up:∀c o,c≠z->c≠i1->c≠i2->s.heap.get? c=some o->g3.get? c=some o:=λc o c1 c2 c3 e=>fm.extBut _ _ c3 (fc.extBut _ _ c2 (cq.extBut _ _ c1 e))
 have pu:∀c o,g3.get? c=some o->(g3.push { cls:=.type "tuple",data:=.seq #[x,y] }).get? c=some o:=λc o e=>Heap.get?_push_of_some _ e
 refine hQ _ _ x y ex ey (pu _ _ (fm.extBut _ _ D.i2z.symm (fc.extBut _ _ D.i1z.symm kr))) (S1.keep b2 (λo e=>pu _ o (fm.extBut _ _ D.i12 e)) (λo e=>pu _ o (fm.extBut _ _ D.l1i2 e))) (S2.keep b3 (λo e=>pu _ o e) (λo e=>pu _ o e)) ?_ λc o c1 c2 c3 e=>pu c o (up c o c1 c2 c3 e)
 rw [<- sz]
 exact Heap.get?_push_size _ rfl
theorem Qap{a b:Value}{Q:PySem.Fin->Shared->Prop}(hh:A.handled=none)(D:ZipApart z TI TO i1 i2 l1 l2)(S1:Src prog w i1 l1 xs St1)(S2:Src prog w i2 l2 ys St2)(hz:IsZip s.heap z TI TO .none)(jj:IsPair s.heap TI (.ref i1) (.ref i2))(gf:IsPair s.heap TO a b)
  (h1:St1 k s.heap) (h2:St2 k s.heap) (vm:k=xs.size\/k < xs.size/\k=ys.size)
  (hE:∀h' tk e,(∀c o,c≠z->c≠TO->c≠i1->c≠i2->s.heap.get? c=some o->h'.get? c=some o)->(∃o,h'.get? e=some o/\o.cls=.type "StopIteration")->E (.ref e) { s with heap:=h',toks:=tk }) :
  wpAny (model prog w) A (Builtin.«zip.__next__» ⟨[.ref z],[]⟩) Q E s:=by
 refine(show wpAny _ _ (field (.ref z) 2 >>= _) _ _ _ from Yaa (Ya8 hz rfl (x:=.bool false) rfl (show wpAny _ _ (field (.ref z) 3 >>= _) _ _ _ from Yaa (Ya8 hz rfl (x:=.ref TI) rfl (Yaa (Yb3 jj rfl (show wpAny _ _ (Builtin.SmallTypes.ownedTupleIsFree (.ref z) >>= _) _ _ _ from Yaa ?_)))))))
 unfold Builtin.SmallTypes.ownedTupleIsFree
 refine Yaa (Ya8 hz rfl (x:=.none) rfl (Yab ?_))
 rw [Yaj rfl]
 refine Yaa (Ycb (Yaa (Ya8 hz rfl (x:=.ref TO) rfl (Yaa (Ybd hz (by simp) λg1 e1 k1=>Yaa ?_)))))
 have z1:IsZip g1 z TI TO .ellipsis:=e1
 have a1:St1 k g1:=S1.keep h1 (λo e=>k1.extBut _ _ D.i1z e) (λo e=>k1.extBut _ _ D.l1z e)
 simp only [List.zipIdx_cons,List.zipIdx_nil,List.forIn_cons,List.forIn_nil]
 rcases vm with he | ⟨hx,he⟩
 ·rw [he]at a1
  refine Yaa (Yaa (Yes (show wpAny _ _ (Builtin.SmallTypes.nextOf (.ref i1) >>= _) _ _ _ from Yaa ((S1 A hh).done _ _ _ a1 λg2 e k2 hS=>?_))))
  obtain⟨oe,hoe,hce⟩:=hS
  have z2:IsZip g2 z TI TO .ellipsis:=k2 _ _ D.i1z.symm z1
  have ne:e≠z:=λq=>by subst q;rw [z2]at hoe;cases hoe;simp at hce
  exact Ybd z2 (by simp) λg3 _ k3=>hE g3 _ e (λc o c1 _ c3 _ q=>k3.extBut _ _ c1 (k2 _ _ c3 (k1.extBut _ _ c1 q))) ⟨oe,k3.extBut _ _ ne hoe,hce⟩
 ·refine Yaa (Yaa (Yes (show wpAny _ _ (Builtin.SmallTypes.nextOf (.ref i1) >>= _) _ _ _ from Yaa ((S1 A hh).item k _ _ _ hx a1 λx g2 tf ex b2 k2=>Yab ?_))))
  have o2:IsPair g2 TO a b:=k2.extBut _ _ D.TOi1 (k1.extBut _ _ D.TOz gf)
  refine Yaa (Yb3 o2 rfl (Yaa (Yer o2 λg3 e3 k3=>Yaa (wpAny_letGo (Yab ?_)))))
  have a3:St2 k g3:=S2.keep h2 (λo e=>k3.extBut _ _ D.TOi2.symm (k2.extBut _ _ D.i12.symm (k1.extBut _ _ D.i2z e))) (λo e=>k3.extBut _ _ D.l2TO (k2.extBut _ _ D.l2i1 (k1.extBut _ _ D.l2z e)))
  rw [he]at a3
  refine Yaa (Yaa (Yes (show wpAny _ _ (Builtin.SmallTypes.nextOf (.ref i2) >>= _) _ _ _ from Yaa ((S2 A hh).done _ _ _ a3 λg4 e k4 hS=>?_))))
  obtain⟨oe,hoe,hce⟩:=hS
  have z4:IsZip g4 z TI TO .ellipsis:=k4 _ _ D.i2z.symm (k3.extBut _ _ D.TOz.symm (k2.extBut _ _ D.i1z.symm z1))
  have ne:e≠z:=λq=>by subst q;rw [z4]at hoe;cases hoe;simp at hce
  exact Ybd z4 (by simp) λg5 _ k5=>hE g5 _ e (λc o c1 c2 c3 c4 q=>k5.extBut _ _ c1 (k4 _ _ c4 (k3.extBut _ _ c2 (k2.extBut _ _ c3 (k1.extBut _ _ c1 q))))) ⟨oe,k5.extBut _ _ ne hoe,hce⟩
end
def Q6:Bool->Heap->Addr->Array Value->Prop
 | false,h,l,xs=>h.IsList l xs
 | true,h,l,xs=>h.IsTuple l xs
def ItB:Bool->Heap->Addr->Addr->Nat->Prop
 | false,h,i,l,k=>h.IsListIter i l k
 | true,h,i,l,k=>h.IsTupleIter i l k
abbrev Qgr:Bool->String
 | false => "list_iterator"
 | true => "tuple_iterator"
theorem Q6.at{b:Bool}{h h':Heap}{l:Addr}{xs:Array Value}(x:Q6 b h l xs)(k:∀o,h.get? l=some o->h'.get? l=some o):Q6 b h' l xs:=by
 cases b with
 | false=>exact Heap.IsList.at x λo e=>k o e
 | true=>exact Heap.IsTuple.at x λo e=>k o e
theorem Qdt{prog:Program}{w:World}(b:Bool)(i l:Addr)(ay:l≠i)(xs:Array Value):Src prog w i l xs (λk h=>ItB b h i l k/\Q6 b h l xs):=λA hh=>by
 cases b with
 | false=>exact Draws.list hh i l ay xs
 | true=>exact Gw hh i l ay xs
abbrev Q7(b:Bool)(h:Heap)(l:Addr):Heap:=h.push { cls:=.type (Qgr b),data:=.fields #[.ref l,.int 0 0] }
abbrev zh3(b c:Bool)(h:Heap)(l m:Addr):Heap:=(Q7 c (Q7 b h l) m).push { cls:=.type "tuple",data:=.seq #[.ref h.objs.size,.ref (Q7 b h l).objs.size] }
abbrev X4(b c:Bool)(h:Heap)(l m:Addr):Heap:=((zh3 b c h l m).push { cls:=.type "tuple",data:=.seq #[.none,.none] }).push { cls:=.type "zip",data:=.fields #[.none,.bool false,.bool false,.ref (Q7 c (Q7 b h l) m).objs.size,.ref (zh3 b c h l m).objs.size] }
section
variable {prog:Program}{w:World}{A:Around}{E:Value->Shared->Prop}{s:Shared}
theorem X5{b:Bool}{l:Addr}{xs:Array Value}{Q:Value->Shared->Prop}(h:Q6 b s.heap l xs)(hQ:Q (.ref s.heap.objs.size) { s with heap:=Q7 b s.heap l }):wpAny (model prog w) A (pyIter (.ref l)) Q E s:=by
 cases b with
 | false=>exact wpAny_pyIter_list h hQ
 | true=>exact wpAny_pyIter_tuple h hQ
theorem Ws(b c:Bool)(l m:Addr)(xs ys:Array Value):Meets (Builtin.«zip.__new__» ⟨[.type "zip",.ref l,.ref m],[]⟩) (λ_ R s=>Q6 b s.heap l xs/\Q6 c s.heap m ys/\R (.ok (.ret (.ref (((zh3 b c s.heap l m).push { cls:=.type "tuple",data:=.seq #[.none,.none] }).objs.size)))) { s with heap:=X4 b c s.heap l m }) :=
 .of_wp λprog w A R s h=>by
  obtain⟨hp,g,d,tk,os⟩:=s
  obtain⟨a1,a2,q⟩:=h
  have zac:=sub_zip
  have b1:Q6 b (Shared.heap ⟨hp,g,d,tk,os⟩) l xs:=a1
  have b2:Q6 c (Shared.heap ⟨Q7 b hp l,g,d,tk,os⟩) m ys:=a2.at λo e=>Heap.get?_push_of_some _ e
  wp_walk using X5 b1,X5 b2
  exact⟨_,rfl,q⟩
theorem T3{b c:Bool}{l m:Addr}{xs ys:Array Value}{Q:Value->Shared->Prop}(h1:Q6 b s.heap l xs)(h2:Q6 c s.heap m ys)
  (h:∀h',IsZip h' (s.heap.objs.size+4) (s.heap.objs.size+2) (s.heap.objs.size+3) .none->IsPair h' (s.heap.objs.size+2) (.ref s.heap.objs.size) (.ref (s.heap.objs.size+1))->IsPair h' (s.heap.objs.size+3) .none .none->ItB b h' s.heap.objs.size l 0->ItB c h' (s.heap.objs.size+1) m 0->h'.objs.size=s.heap.objs.size+5 ->
   (∀d o,s.heap.get? d=some o->h'.get? d=some o)->Q (.ref (s.heap.objs.size+4)) { s with heap:=h' }):wpAny (model prog w) A (call (.type "zip") [.ref l,.ref m]) Q E s:=by
 refine callType_new F.called_zip (by decide) (F.typeCall_zip_2 _ _) (F.newCall_zip_2 _ _) (λobj=>F.args_object_init_3 obj _ _) F.entry_zip_new (Ws b c l m xs ys) ⟨h1,h2,?_⟩
 have e1:(Q7 b s.heap l).objs.size=s.heap.objs.size+1:=Ycj ..
 have e2:(Q7 c (Q7 b s.heap l) m).objs.size=s.heap.objs.size+2:=by rw [Ycj,e1]
 have e3:(zh3 b c s.heap l m).objs.size=s.heap.objs.size+3:=by rw [Ycj,e2]
 have e4:((zh3 b c s.heap l m).push { cls:=.type "tuple",data:=.seq #[.none,.none] }).objs.size=s.heap.objs.size+4:=by rw [Ycj,e3]
 have e5:(X4 b c s.heap l m).objs.size=s.heap.objs.size+5:=by rw [Ycj,e4]
 have p5:(X4 b c s.heap l m).get? ((zh3 b c s.heap l m).push { cls:=.type "tuple",data:=.seq #[.none,.none] }).objs.size=some _:=Heap.get?_push_size _ rfl
 have p4:(X4 b c s.heap l m).get? (zh3 b c s.heap l m).objs.size=some _:=Heap.get?_push_of_some _ (Heap.get?_push_size _ rfl)
 have p3:(X4 b c s.heap l m).get? (Q7 c (Q7 b s.heap l) m).objs.size=some _:=Heap.get?_push_of_some _ (Heap.get?_push_of_some _ (Heap.get?_push_size _ rfl))
 have p2:(X4 b c s.heap l m).get? (Q7 b s.heap l).objs.size=some _:=Heap.get?_push_of_some _ (Heap.get?_push_of_some _ (Heap.get?_push_of_some _ (Heap.get?_push_size _ rfl)))
 have p1:(X4 b c s.heap l m).get? s.heap.objs.size=some _:=Heap.get?_push_of_some _ (Heap.get?_push_of_some _ (Heap.get?_push_of_some _ (Heap.get?_push_of_some _ (Heap.get?_push_size _ rfl))))
 have pk:∀d o,s.heap.get? d=some o->(X4 b c s.heap l m).get? d=some o:=λd o x=>Heap.get?_push_of_some _ (Heap.get?_push_of_some _ (Heap.get?_push_of_some _ (Heap.get?_push_of_some _ (Heap.get?_push_of_some _ x))))
 show _/\_
 rw [e2,e3,e4]at p5
 rw [e1,e2]at p3
 rw [e3]at p4
 rw [e1]at p2
 rw [e4]
 refine⟨⟨_,p5,rfl⟩,h _ p5 p3 p4 ?_ ?_ e5 pk⟩
 ·cases b with
  | false=>exact⟨_,p1,rfl,rfl⟩
  | true=>exact⟨_,p1,rfl,rfl⟩
 ·cases c with
  | false=>exact⟨_,p2,rfl,rfl⟩
  | true=>exact⟨_,p2,rfl,rfl⟩
end
def SqB(K:PySem.W.Frag):Bool->Hp->Addr->List V->Prop
 | false,H,a,xs=>Dx K H a xs
 | true,H,a,xs=>Hr K H a xs
section
variable {X:Cx}{aa:List (Addr×Obj)}{σ:St}{H:Hp}{s:Shared}{b:Bool}{a c:Addr}{xs ys:List V}
theorem Inv.seqB(I:Inv X aa σ H s)(h:SqB X.K b H a xs):∃ah:List Value,Vals xs ah/\Q6 b s.heap a ah.toArray:=by
 cases b with
 | false=>obtain⟨ah,r,p,_⟩:=I.list h;exact⟨ah,r,p.isList⟩
 | true=>obtain⟨ah,r,p,_⟩:=I.tuple h;exact⟨ah,r,p⟩
end
section
variable {X:Cx}{e1 e2:Expr}{ta tb:AE}{pos p:Pos}
end
section
variable {prog:Program}{w:World}{A:Around}{E:Value->Shared->Prop}{s:Shared}{z TI TO i1 i2 l1 l2:Addr}{xs ys:Array Value}{St1 St2:Nat->Heap->Prop}
theorem Wt{T:Addr}{b1:Bool}{Q:PySem.Fin->Shared->Prop}(hh:A.handled=none)(D:ZipApart z TI TO i1 i2 l1 l2)(S1:Src prog w i1 l1 xs St1)
  (hz:ZObj s.heap z TI TO (rawInt T) b1) (hT:∃o,s.heap.get? T=some o) (jj:IsPair s.heap TI (.ref i1) (.ref i2)) (h1:St1 xs.size s.heap)
  (hE:∀h' tk e,(∀c o,c≠z->c≠i1->c≠i2->s.heap.get? c=some o->h'.get? c=some o)->(∃o,h'.get? e=some o/\o.cls=.type "StopIteration")->E (.ref e) { s with heap:=h',toks:=tk }) :
  wpAny (model prog w) A (Builtin.«zip.__next__» ⟨[.ref z],[]⟩) Q E s:=by
 refine(show wpAny _ _ (field (.ref z) 2 >>= _) _ _ _ from Yaa (Ya8 hz rfl (x:=.bool false) rfl (show wpAny _ _ (field (.ref z) 3 >>= _) _ _ _ from Yaa (Ya8 hz rfl (x:=.ref TI) rfl (Yaa (Yb3 jj rfl (show wpAny _ _ (Builtin.SmallTypes.ownedTupleIsFree (.ref z) >>= _) _ _ _ from Yaa (Hi hz hT λg1 kr cq=>?_))))))))
 simp only [Bool.false_eq_true,if_false]
 refine Yaa ?_
 rw [<- Array.forIn_toList]
 simp only [List.forIn_cons,List.forIn_nil]
 have a1:St1 xs.size g1:=S1.keep h1 (λo e=>cq.extBut _ _ D.i1z e) (λo e=>cq.extBut _ _ D.l1z e)
 refine Yaa (Yaa (Ybf (show wpAny _ _ (Builtin.SmallTypes.nextOf (.ref i1) >>= _) _ _ _ from Yaa ((S1 A hh).done _ _ _ a1 λg2 e k2 hS=>?_))))
 exact hE g2 _ e (λc o c1 c2 c3 q=>k2 c o c2 (cq.extBut _ _ c1 q)) hS
def ZSg(St1 St2:Nat->Heap->Prop)(h:Heap)(z TI TO i1 i2:Addr)(i:Nat):Prop :=
 IsPair h TI (.ref i1) (.ref i2)/\St1 i h/\St2 i h/\((ZObj h z TI TO .none false/\∃a b,IsPair h TO a b)\/∃(T:Addr) (b1:Bool),ZObj h z TI TO (rawInt T) b1/\(∃o,h.get? T=some o)/\(∃o,h.get? TO=some o)/\T≠z/\T≠TO/\T≠i1/\T≠i2)
theorem Wu{i:Nat}{Q:Option Value->Shared->Prop}(hh:A.handled=none)(D:ZipApart z TI TO i1 i2 l1 l2)(S1:Src prog w i1 l1 xs St1)(S2:Src prog w i2 l2 ys St2)(st:ZSg St1 St2 s.heap z TI TO i1 i2 i)(hx:i < xs.size)(hy:i < ys.size)
  (hQ:∀h' tk T x y,xs[i]?=some x->ys[i]?=some y->ZSg St1 St2 h' z TI TO i1 i2 (i+1)->IsPair h' T x y->s.heap.objs.size<=T->(∀c o,c≠z->c≠TO->c≠i1->c≠i2->s.heap.get? c=some o->h'.get? c=some o)->Q (some (.ref T)) { s with heap:=h',toks:=tk }) :
  wpAny (model prog w) A (pyNext (.ref z)) Q E s:=by
 obtain⟨a1,a2,a3,a6⟩:=st
 have lz:∀{c o},s.heap.get? c=some o->s.heap.objs.size≠c:=λe=>Ybg (Yae e)
 have li1:s.heap.objs.size≠i1:=by obtain⟨o,e⟩:=S1.live a2;exact lz e
 have li2:s.heap.objs.size≠i2:=by obtain⟨o,e⟩:=S2.live a3;exact lz e
 rcases a6 with⟨hz,a,b,gf⟩ | ⟨T,b1,hz,hT,⟨oO,hoO⟩,t1,t2,t3,t4⟩
 ·have gt:s.TypeIs (.ref z) "zip" := ⟨_,hz,rfl⟩
  unfold pyNext
  refine Yaa (Yc3 (wpAny_callSpecial?_slot (name:=Str.ofString "__next__") gt F.slot_zip_next (Ya3 F.slot_zip_next gt F.entry_zip_next (T0 (show A.in1.handled=none from hh) D S1 S2 hz a1 gf a2 a3 hx hy λh' tk x y ex ey z1 z2 z3 z4 z5 hk=>?_) (F.args_zip_next_1 _))))
  exact Yab (hQ h' tk _ x y ex ey ⟨hk _ _ D.TIz D.TITO D.TIi1 D.TIi2 a1,z3,z4,.inr ⟨_,false,z1,⟨_,z5⟩,⟨_,z2⟩,lz hz,lz gf,li1,li2⟩⟩ z5 (Yad _) hk)
 ·have gt:s.TypeIs (.ref z) "zip" := ⟨_,hz,rfl⟩
  unfold pyNext
  refine Yaa (Yc3 (wpAny_callSpecial?_slot (name:=Str.ofString "__next__") gt F.slot_zip_next (Ya3 F.slot_zip_next gt F.entry_zip_next (Wr (show A.in1.handled=none from hh) D S1 S2 hz hT a1 a2 a3 hx hy λh' tk x y ex ey z1 z3 z4 z5 hk=>?_) (F.args_zip_next_1 _))))
  have bw:∀c o,c≠z->c≠TO->c≠i1->c≠i2->s.heap.get? c=some o->h'.get? c=some o:=λc o c1 _ c3 c4 e=>hk c o c1 c3 c4 e
  obtain⟨oT,hoT⟩:=hT
  exact Yab (hQ h' tk _ x y ex ey ⟨hk _ _ D.TIz D.TIi1 D.TIi2 a1,z3,z4,.inr ⟨T,true,z1,⟨oT,hk _ _ t1 t3 t4 hoT⟩,⟨oO,hk _ _ D.TOz D.TOi1 D.TOi2 hoO⟩,t1,t2,t3,t4⟩⟩ z5 (Yad _) bw)
theorem Wv{Q:Option Value->Shared->Prop}(hh:A.handled=none)(D:ZipApart z TI TO i1 i2 l1 l2)(S1:Src prog w i1 l1 xs St1)(S2:Src prog w i2 l2 ys St2)(st:ZSg St1 St2 s.heap z TI TO i1 i2 xs.size)
  (hQ:∀h' tk,(∀c o,c≠z->c≠TO->c≠i1->c≠i2->s.heap.get? c=some o->h'.get? c=some o)->Q none { s with heap:=h',toks:=tk }):wpAny (model prog w) A (pyNext (.ref z)) Q E s:=by
 obtain⟨a1,a2,a3,a6⟩:=st
 rcases a6 with⟨hz,a,b,gf⟩ | ⟨T,b1,hz,hT,⟨oO,hoO⟩,t1,t2,t3,t4⟩
 ·have gt:s.TypeIs (.ref z) "zip" := ⟨_,hz,rfl⟩
  unfold pyNext
  refine Yaa (Yc3 (wpAny_callSpecial?_slot (name:=Str.ofString "__next__") gt F.slot_zip_next (Ya3 F.slot_zip_next gt F.entry_zip_next (Qap (show A.in1.handled=none from hh) D S1 S2 hz a1 gf a2 a3 (.inl rfl) λh' tk e hk he=>?_) (F.args_zip_next_1 _))))
  obtain⟨o,ho,hc⟩:=he
  refine Yaa (Yc2 (T := "StopIteration") (b:=true) ⟨o,ho,hc⟩ isSubtype_stop ?_)
  exact Yab (hQ _ _ hk)
 ·have gt:s.TypeIs (.ref z) "zip" := ⟨_,hz,rfl⟩
  unfold pyNext
  refine Yaa (Yc3 (wpAny_callSpecial?_slot (name:=Str.ofString "__next__") gt F.slot_zip_next (Ya3 F.slot_zip_next gt F.entry_zip_next (Wt (show A.in1.handled=none from hh) D S1 hz hT a1 a2 λh' tk e hk he=>?_) (F.args_zip_next_1 _))))
  obtain⟨o,ho,hc⟩:=he
  refine Yaa (Yc2 (T := "StopIteration") (b:=true) ⟨o,ho,hc⟩ isSubtype_stop ?_)
  exact Yab (hQ _ _ λc o c1 _ c3 c4 e=>hk c o c1 c3 c4 e)
theorem Ww{R:Result->Shared->Prop}{base:Nat}{S:Addr}{res:Value}(hh:A.handled=none)(D:ZipApart z TI TO i1 i2 l1 l2)(S1:Src prog w i1 l1 xs St1)(S2:Src prog w i2 l2 ys St2)(hSn:S∉[z,TI,TO,i1,i2,l1,l2])(hz:xs.size=ys.size)(hn:xs.size<=1000) :
  ∀(m i:Nat) (s:Shared) (af:Array Value) (c:Nat) (as:List Addr),m+i=xs.size->ZSg St1 St2 s.heap z TI TO i1 i2 i->s.heap.get? S=some { cls:=.type "list",dict:=none,data:=.seq af c,slots:=#[] }->af.toList=as.map Value.ref->PairsAt s.heap [S,z,TO,i1,i2] base as ((xs.toList.zip ys.toList).take i)->base<=s.heap.objs.size ->
   (∀h' tk ci c' je,(∀b o,b∉[S,z,TO,i1,i2]->s.heap.get? b=some o->h'.get? b=some o)->h'.get? S=some { cls:=.type "list",dict:=none,data:=.seq ci c',slots:=#[] }->ci.toList=je.map Value.ref->PairsAt h' [S,z,TO,i1,i2] base je (xs.toList.zip ys.toList)->R (.ok (.ret res)) { s with heap:=h',toks:=tk }) ->
   codeAny (model prog w) A (.builtin "list.extend.loop" ⟨[.ref S,.ref z,res],[]⟩) R s:=by
 simp only [List.mem_cons,List.not_mem_nil,or_false,not_or]at hSn
 obtain⟨n1,n2,n3,n4,n5,n6,n7⟩:=hSn
 intro m
 induction m with
 | zero =>
  intro i s af c as hm st hS eA hP hB hR
  have hi:i=xs.size:=by omega
  subst hi
  refine Yb0 F.entry_extend_loop ?_
  rw [Ybj F.plain_extend_loop _]
  refine(show wpAny _ A.in1 (pyNext (.ref z) >>= _) _ _ s from Yaa (Wv (show A.in1.handled=none from hh) D S1 S2 st λh' tk hk=>?_))
  have bw:∀b o,b∉[S,z,TO,i1,i2]->s.heap.get? b=some o->h'.get? b=some o:=λb o hb e=>by
   simp only [List.mem_cons,List.not_mem_nil,or_false,not_or]at hb
   exact hk b o hb.2.1 hb.2.2.1 hb.2.2.2.1 hb.2.2.2.2 e
  refine Yab (hR h' tk af c as bw (hk S _ n1 n3 n4 n5 hS) eA ?_)
  have:=hP.kp bw
  rwa [Yb5 (by simp;omega)]at this
 | succ m ih =>
  intro i s af c as hm st hS eA hP hB hR
  have hlt:i < xs.size:=by omega
  have x9:i < ys.size:=by omega
  have d5:af.size=i:=by
   have h1:=Ycc hP.at_
   have h2:=Ydn List.length eA
   simp at h1 h2;omega
  refine Yb0 F.entry_extend_loop ?_
  rw [Ybj F.plain_extend_loop _]
  refine(show wpAny _ A.in1 (pyNext (.ref z) >>= _) _ _ s from Yaa (Wu (show A.in1.handled=none from hh) D S1 S2 st hlt x9 λh' tk T x y hx hy ai hp hT hk=>?_))
  have fe:=hk S _ n1 n3 n4 n5 hS
  have up:∀b o,b≠S->h'.get? b=some o->(h'.update S (Obj.mapSeq (·.push (Value.ref T)))).get? b=some o:=λb o hb e=>(Heap.get?_update_other _ _ (Ybe hb)).trans e
  have kk:∀b o,b∉[S,z,TO,i1,i2]->s.heap.get? b=some o->(h'.update S (Obj.mapSeq (·.push (Value.ref T)))).get? b=some o:=λb o hb e=>by
   simp only [List.mem_cons,List.not_mem_nil,or_false,not_or]at hb
   exact up b o hb.1 (hk b o hb.2.1 hb.2.2.1 hb.2.2.2.1 hb.2.2.2.2 e)
  refine(show wpAny _ A.in1 (updateSeq S (·.push (.ref T)) >>= _) _ _ _ from Yaa (Ycp fe rfl (Yab ⟨Yck F.plain_extend_loop _,ih (i+1) _ (af.push (.ref T)) _ (as++[T]) (by omega) ?_ (Heap.get?_update_self _ fe rfl) (by rw [Yc7,eA,Yav];rfl) ?_ ?_ λh2 tf ci c' je bw fo eA2 hP2=>?_⟩) (by rw [d5];exact Yaq (by omega) (show 1000<=sizeLine by decide)) (by show(af.push _).size<=sizeLine+1;rw [Array.size_push,d5];exact Yaq (by omega) (show 1001<=sizeLine+1 by decide))))
  ·obtain⟨a1,a2,a3,a6⟩:=ai
   refine⟨up _ _ (Ybe n2) a1,S1.keep a2 (λo e=>up _ o (Ybe n4) e) (λo e=>up _ o (Ybe n6) e),S2.keep a3 (λo e=>up _ o (Ybe n5) e) (λo e=>up _ o (Ybe n7) e),?_⟩
   rcases a6 with⟨hz,a,b,gf⟩ | ⟨T,b1,hz,⟨oT,hoT⟩,⟨oO,hoO⟩,t1⟩
   ·exact .inl ⟨up _ _ (Ybe n1) hz,a,b,up _ _ (Ybe n3) gf⟩
   ·refine .inr ⟨T,b1,up _ _ (Ybe n1) hz,?_,⟨oO,up _ _ (Ybe n3) hoO⟩,t1⟩
    by_cases hTS:T=S
    ·subst hTS;exact⟨_,Heap.get?_update_self _ fe rfl⟩
    ·exact⟨oT,up _ _ hTS hoT⟩
  ·have lt:∀{c o},s.heap.get? c=some o->T≠c:=λe=>Ybg (Yai (Yae e) hT)
   have t0:T≠S:=lt hS
   have e1:(xs.toList.zip ys.toList).take (i+1)=(xs.toList.zip ys.toList).take i++[(x,y)]:=by
    rw [Ycw]
    have:(xs.toList.zip ys.toList)[i]?=some (x,y):=by
     rw [List.getElem?_zip_eq_some,Array.getElem?_toList,Array.getElem?_toList]
     exact⟨hx,hy⟩
    rw [this];rfl
   obtain⟨_,b2,b3,b6⟩:=st
   have tz:T≠z/\T≠TO:=by
    rcases b6 with⟨hz,a,b,gf⟩ | ⟨T,b1,hz,_,⟨oO,hoO⟩,_⟩
    ·exact⟨lt hz,lt gf⟩
    ·exact⟨lt hz,lt hoO⟩
   have hP':=hP.kp kk
   rw [e1]
   refine⟨?_,λU hU=>?_,Paired.snoc hP'.at_ (up _ _ t0 hp)⟩
   ·rw [Yct]
    refine⟨hP.rise,Yd4 _ _,λU hU V hV=>?_⟩
    rw [Yal.mp hV]
    obtain⟨_,q⟩:=Nr hP.at_ U hU
    exact Yai (Yae q) hT
   ·rcases Yat.mp hU with hU | hU
    ·exact hP.new U hU
    ·rw [Yal.mp hU]
     refine⟨Yaq hB hT,?_⟩
     obtain⟨_,c2⟩:=S1.live b2
     obtain⟨_,c3⟩:=S2.live b3
     simp only [List.mem_cons,List.not_mem_nil,or_false,not_or]
     exact⟨t0,tz.1,tz.2,lt c2,lt c3⟩
  ·have:=Yae hp
   rw [Yep]
   exact Yaq hB (Yaq hT (Ybu this))
  ·exact hR h2 tf ci c' je (λb o hb e=>bw b o hb (kk b o hb e)) fo eA2 hP2
theorem Kc{Q:List Value->Shared->Prop}(hh:A.handled=none)(D:ZipApart z TI TO i1 i2 l1 l2)(S1:Src prog w i1 l1 xs St1)(S2:Src prog w i2 l2 ys St2)(ma:s.heap.objs.size≠l1)(m8:s.heap.objs.size≠l2)(st:ZSg St1 St2 s.heap z TI TO i1 i2 0)(hz:xs.size=ys.size)(hn:xs.size<=1000)(hzT:s.TypeIs (.ref z) "zip")
  (h:∀h' tk as,(∀b o,b∉[s.heap.objs.size,z,TO,i1,i2]->s.heap.get? b=some o->h'.get? b=some o)->PairsAt h' [s.heap.objs.size,z,TO,i1,i2] s.heap.objs.size as (xs.toList.zip ys.toList)->Q (as.map Value.ref) { s with heap:=h',toks:=tk }) :
  wpAny (model prog w) A (collect (.ref z)) Q E s:=by
 have lz:∀{c o},s.heap.get? c=some o->s.heap.objs.size≠c:=λe=>Ybg (Yae e)
 unfold collect
 refine Yaa (wpAny_runValue (Yb0 F.entry_proto_collect ?_))
 rw [Ybj F.plain_proto_collect _]
 refine(show wpAny _ A.in1 (newList [] >>= λl=>again (.builtin "list.__iadd__" ⟨[l,.ref z],[]⟩)) _ _ s from Yaa (Yay (Yab ⟨Yck F.plain_list_iadd _,Yb0 F.entry_list_iadd ?_⟩)))
 rw [Ybj F.plain_list_iadd _]
 obtain⟨a1,a2,a3,a6⟩:=st
 have nz:s.heap.objs.size≠z:=by
  obtain⟨o,e,_⟩:=(show ∃o,s.heap.get? z=some o/\_ from hzT)
  exact lz e
 have wk:s.heap.objs.size≠i1:=by obtain⟨_,e⟩:=S1.live a2;exact lz e
 have uv:s.heap.objs.size≠i2:=by obtain⟨_,e⟩:=S2.live a3;exact lz e
 have wo:s.heap.objs.size≠TI:=lz a1
 have ss:s.heap.objs.size≠TO:=by
  rcases a6 with⟨_,a,b,e⟩ | ⟨T,b1,_,_,⟨oO,e⟩,_⟩
  ·exact lz e
  ·exact lz e
 generalize hS:s.heap.objs.size=S at nz wk uv ma m8 wo ss h ⊢
 generalize mz:s.heap.push { cls:=.type "list",data:=.seq ([]:List Value).toArray }=h1
 have k1:∀b o,s.heap.get? b=some o->h1.get? b=some o:=λb o e=>by subst mz;exact Heap.get?_push_of_some _ e
 have eS:h1.get? S=some { cls:=.type "list",data:=.seq ([]:List Value).toArray }:=by subst mz;subst hS;exact Heap.get?_push_size _ rfl
 have T1:Shared.TypeIs { s with heap:=h1 } (.ref z) "zip" := by
  obtain⟨o,e,c⟩:=(show ∃o,s.heap.get? z=some o/\_ from hzT)
  exact⟨o,k1 z o e,c⟩
 have gz:Builtin.List.listSameRef (.ref S) (.ref z)=false:=by simp [Builtin.List.listSameRef,nz]
 refine(show wpAny _ A.in1 (Builtin.List.listExtendWith (.ref S) (.ref z) (.ref S)) _ _ { s with heap:=h1 } from ?_)
 unfold Builtin.List.listExtendWith
 refine Yaa (Ydj T1 (Ydm (λd9=>absurd d9 (by rw [gz];decide)) λ_=>Yaa ?_))
 refine Yec T1 F.slot_zip_iter (Ya3 F.slot_zip_iter T1 F.entry_zip_iter (show wpAny _ _ (ret (.ref z)) _ _ _ from Yab ⟨_,rfl,"zip",_,T1,F.slot_zip_next.lookup,?_⟩) (F.args_zip_iter_1 _))
 refine Yaa (Ybf ?_)
 unfold Builtin.List.listLengthHint
 refine Yaa (Yew T1 Qak (show wpAny _ A.in1 (specialOf (Value.ref z) (Str.ofString "__length_hint__") >>= _) _ _ _ from Yaa (Yew T1 Wq (Yab ?_))))
 refine(show wpAny _ A.in1 (rule "list.extend.makes-room" >>= λ_=>Builtin.List.listTouch (.ref S) >>= λ_=>again (.builtin "list.extend.loop" ⟨[.ref S,.ref z,.ref S],[]⟩)) _ _ _ from Yaa (Ycb (Yaa (show wpAny _ _ (updateSeq S (·.push .none) >>= λ_=>updateSeq S (·.pop)) _ _ _ from Yaa (Ycp eS rfl (Ycp (Heap.get?_update_self (Obj.mapSeq (·.push Value.none)) eS rfl) rfl ?_))))))
 have e4:=Heap.get?_update_self (Obj.mapSeq (·.pop)) (Heap.get?_update_self (Obj.mapSeq (·.push Value.none)) eS rfl) rfl
 have k4:∀b o,b≠S->h1.get? b=some o->((h1.update S (Obj.mapSeq (·.push Value.none))).update S (Obj.mapSeq (·.pop))).get? b=some o:=λb o hb e=>(Heap.get?_update_other _ _ (Ybe hb)).trans ((Heap.get?_update_other _ _ (Ybe hb)).trans e)
 have z4:S<=((h1.update S (Obj.mapSeq (·.push Value.none))).update S (Obj.mapSeq (·.pop))).objs.size:=by
  rw [Yep,Yep];exact Ybu (Yae eS)
 generalize ((h1.update S (Obj.mapSeq (·.push Value.none))).update S (Obj.mapSeq (·.pop)))=h4 at e4 k4 z4 ⊢
 have kk:∀b o,b≠S->s.heap.get? b=some o->h4.get? b=some o:=λb o hb e=>k4 b o hb (k1 b o e)
 refine Yab ⟨Yck F.plain_extend_loop _,Ww (base:=S) hh D S1 S2 ?_ hz hn xs.size 0 { s with heap:=h4 } #[] _ [] (by omega) ⟨kk _ _ (Ybe wo) a1,S1.keep a2 (λo e=>kk _ o (Ybe wk) e) (λo e=>kk _ o (Ybe ma) e),S2.keep a3 (λo e=>kk _ o (Ybe uv) e) (λo e=>kk _ o (Ybe m8) e),?_⟩ e4 rfl ⟨List.Pairwise.nil,(λ_ h=>nomatch h),.nil⟩ z4 λh' tk ci c' je hk' fe eA hP=>?_⟩
 ·simp only [List.mem_cons,List.not_mem_nil,or_false,not_or]
  exact⟨nz,wo,ss,wk,uv,ma,m8⟩
 ·rcases a6 with⟨q1,a,b,q2⟩ | ⟨T,b1,q1,⟨oT,q2⟩,⟨oO,q3⟩,q4⟩
  ·exact .inl ⟨kk _ _ (Ybe nz) q1,a,b,kk _ _ (Ybe ss) q2⟩
  ·exact .inr ⟨T,b1,kk _ _ (Ybe nz) q1,⟨oT,kk _ _ (λz=>by subst z;exact absurd (Yae q2) (by rw [hS];exact Ycd _)) q2⟩,⟨oO,kk _ _ (Ybe ss) q3⟩,q4⟩
 ·refine Yaa (wpAny_load fe (Yab ?_))
  rw [eA]
  refine h h' tk je (λb o hb e=>hk' b o hb (kk b o ?_ e)) hP
  exact λz=>hb (by simp [z])
theorem Nt(z TI TO i1 i2 l1 l2:Addr)(xs ys:Array Value)(St1 St2:Nat->Heap->Prop)(D:ZipApart z TI TO i1 i2 l1 l2)(S1:Src prog w i1 l1 xs St1)(S2:Src prog w i2 l2 ys St2)(hz:xs.size=ys.size)(hn:xs.size<=1000) :
  MeetsIn prog w (Builtin.«tuple.__new__» ⟨[.type "tuple",.ref z],[]⟩) (λA R s=>A.handled=none/\ZSg St1 St2 s.heap z TI TO i1 i2 0/\s.heap.objs.size≠l1/\s.heap.objs.size≠l2/\(∃f0 b1,ZObj s.heap z TI TO f0 b1) /\
   ∀(h':Heap) (tk:Tok) (as:List Addr),(∀b o,b∉[s.heap.objs.size,z,TO,i1,i2]->s.heap.get? b=some o->h'.get? b=some o)->PairsAt h' [s.heap.objs.size,z,TO,i1,i2] s.heap.objs.size as (xs.toList.zip ys.toList) ->
    R (.ok (.ret (.ref h'.objs.size))) { s with heap:=h'.push { cls:=.type "tuple",data:=.seq (as.map Value.ref).toArray },toks:=tk }) :=
 .of_wp λA R s h=>by
  obtain⟨hp,g,dr,tk,os⟩:=s
  obtain⟨hh,st,ma,m8,⟨f0,b1,ho⟩,h⟩:=h
  have q1:=sub_tuple_self
  have q2:=init_tuple_lookup
  have q3:=madeHere_tuple
  have hT:Shared.TypeIs ⟨hp,g,dr,tk,os⟩ (.ref z) "zip" := ⟨_,ho,rfl⟩
  wp_walk using wpAny_loadPart' ho,Ydj hT,Kc (A:=A.in1) (s:=⟨hp,g,dr,tk,os⟩) hh D S1 S2 ma m8 st hz hn hT
  intro h' yz as hk hP
  have aj:(as.map Value.ref).toArray.size<=sizeLine:=by
   have:=Ycc hP.at_
   simp at this ⊢
   exact Yaq (by omega) (show 1000<=sizeLine by decide)
  refine(show wpAny _ _ (Builtin.Tuple.tupleExact (as.map Value.ref).toArray >>= λv=>ret v) _ _ _ from ?_)
  unfold Builtin.Tuple.tupleExact
  exact Yaa (Yay (Yab ⟨_,rfl,h h' yz as hk hP⟩) aj)
end
def Qar(ta tb:AE):AE:=fun τ μ R=>ta τ μ λx μ1=>tb τ μ1 λy μ2=>opt (items μ2 x) λus=>opt (items μ2 y) λvs=>opt (dats us) λds=>opt (dats vs) λes=>(ds.length=es.length/\ds.length<=1000)/\R (.D (.tuple (List.zipWith (λd e=>PyData.tuple [d,e]) ds es))) μ2
section
variable {X:Cx}
theorem X6:∀(as:List Addr),Vals (as.map V.ref) (as.map Value.ref)
 | []=>.nil
 | a :: as=>.cons rfl (X6 as)
theorem T4{e1 e2:Expr}{ta tb:AE}{p p2 pos cg:Pos}(hc:X.calm=true)(hg:Gl X "tuple") (hm:X.mg "tuple" = none) (jz:Gl X "zip") (ie:X.mg "zip" = none) (h1:VE X e1 ta) (h2:VE X e2 tb)
  (hs:starEach [.Call (.Name "zip" p2) [e1,e2] [] cg] X.env=[(false,eval (.Call (.Name "zip" p2) [e1,e2] [] cg) X.env)]:=by rfl) (fc:starEach [e1,e2] X.env=(false,eval e1 X.env) :: starEach [e2] X.env:=by rfl) (fm:starEach [e2] X.env=[(false,eval e2 X.env)]:=by rfl) (hpl:(backTo cg (starEach [e2] X.env)).any (·.1)=false:=by rfl) :
  VE X (.Call (.Name "tuple" p) [.Call (.Name "zip" p2) [e1,e2] [] cg] [] pos) (Qar ta tb):=by
 intro aa s σ H Q I zz201
 refine B4 zz201 fun τ μ R bv hcn h hq=>?_
 refine Ycf (Dl I hg hm boot_tuple (Yce ?_ hs rfl))
 rw [hs]
 refine Ybv (Ycf (Dl I jz ie boot_zip (Yce ?_ fc hpl)))
 rw [fc]
 refine Ybv (Ybw (h1.run I bv hcn h) (λu1 s1 zu=>?_) λ_ _ e=>e)
 obtain⟨x,v,μ1,H1,I1,rv,S1,c1,rx,q1⟩:=zu
 rw [fm]
 refine Ybv (Ybw (h2.run I1 (bv.kp S1) c1 q1) (λu2 s2 zu=>Yci ?_) λ_ _ e=>e)
 obtain⟨y,v2,μ2,H2,I2,rv2,S2,c2,ry,q2⟩:=zu
 obtain⟨us,eu,q2⟩:=Aq q2
 obtain⟨vs,ev,q2⟩:=Aq q2
 obtain⟨ds,ed,q2⟩:=Aq q2
 obtain⟨es,ee,q2⟩:=Aq q2
 obtain⟨⟨aj,hmax⟩,q2⟩:=q2
 have rx2:=rx.kp S2
 obtain⟨a,xs,rfl,ka,ra⟩:=Ca c2 rx2 eu
 obtain⟨b,ys,rfl,kb,rb⟩:=Ca c2 ry ev
 have nv:∀{H:Hp} {z:AV} {c:Addr} {ws:List V},(Sk z=false/\Dx X.K H c ws)\/(Sk z=true/\Hr X.K H c ws)->SqB X.K (Sk z) H c ws:=λ{H z c ws} h=>by
  rcases h with⟨t,h⟩ | ⟨t,h⟩
  ·rw [t];exact h
  ·rw [t];exact h
 cases rv
 cases rv2
 obtain⟨its1,r1,p1⟩:=I2.seqB (nv ka)
 obtain⟨its2,r2,p2'⟩:=I2.seqB (nv kb)
 have da:=ra.dats ed
 have db:=rb.dats ee
 have l1:=r1.length
 have l2:=r2.length
 have l3:=da.length
 have l4:=db.length
 have md:∀{t:Bool} {c:Addr} {zs:Array Value},Q6 t s2.heap c zs->c < s2.heap.objs.size:=λ{t c zs} h=>by
  cases t with
  | false=>obtain⟨o,e,_⟩:=(show s2.heap.IsList c zs from h);exact Yae e
  | true=>obtain⟨o,e,_⟩:=(show s2.heap.IsTuple c zs from h);exact Yae e
 have la:=md p1
 have lb:=md p2'
 refine T3 p1 p2' λh' z1 z2 z3 z4 z5 z6 kz=>Yci ?_
 generalize hB:s2.heap.objs.size=B at la lb z1 z2 z3 z4 z5 z6
 have D:ZipApart (B+4) (B+2) (B+3) B (B+1) a b:=by
  have f:∀{c:Addr} (k:Nat),c < B->c≠B+k:=λk h=>Yan (Yai h (Yeq B k))
  exact⟨(show(B+2:Nat)≠B+4 by omega),(show(B+3:Nat)≠B+4 by omega),(show(B:Nat)≠B+4 by omega),(show(B+1:Nat)≠B+4 by omega),(show(B+2:Nat)≠B+3 by omega),(show(B+2:Nat)≠B by omega),(show(B+2:Nat)≠B+1 by omega),(show(B+3:Nat)≠B by omega),(show(B+3:Nat)≠B+1 by omega),(show(B:Nat)≠B+1 by omega),f 4 la,f 3 la,f 0 la,f 1 la,f 4 lb,f 3 lb,f 0 lb,f 1 lb⟩
 have kr:its1.toArray.size=its2.toArray.size:=by simp;omega
 have hz2:its1.toArray.size<=1000:=by simp;omega
 have xl:h'.objs.size=B+5:=z6
 refine callType_newIn F.called_tuple (by decide) (F.typeCall_tuple_1 _) (F.newCall_tuple_1 _) (λobj=>F.args_object_init_2 obj _) F.entry_tuple_new
  (Nt (prog:=X.prog) (w:=X.w) (B+4) (B+2) (B+3) B (B+1) a b its1.toArray its2.toArray _ _ D (Qdt (Sk x) B a D.l1i1 its1.toArray) (Qdt (Sk y) (B+1) b D.l2i2 its2.toArray) kr hz2) ⟨I.ok.hd hc,⟨z2,⟨z4,p1.at λo e=>kz _ o e⟩,⟨z5,p2'.at λo e=>kz _ o e⟩,.inl ⟨z1,_,_,z3⟩⟩,?_,?_,⟨_,_,z1⟩,λh3 tk as hk hP=>⟨⟨_,Heap.get?_push_size _ rfl,rfl⟩,?_⟩⟩
 ·show h'.objs.size≠a
  rw [xl];exact Ybg (Yai la (Yeq _ _))
 ·show h'.objs.size≠b
  rw [xl];exact Ybg (Yai lb (Yeq _ _))
 have kk:∀c o,s2.heap.get? c=some o->h3.get? c=some o:=λc o e=>by
  have lc:=Yae e
  rw [hB]at lc
  refine hk c o ?_ (kz c o e)
  simp only [List.mem_cons,List.not_mem_nil,or_false,not_or]
  refine⟨?_,?_,?_,?_,?_⟩
  ·show ¬c=h'.objs.size
   rw [xl];exact Yan (Yai lc (by omega))
  all_goals exact Yan (Yai lc (by omega))
 have I3:Inv X aa σ H2 { s2 with heap:=h3 }:=I2.kept kk
 have hfp:∀T∈as,Eo X aa H2 T:=λT hT=>by
  have kx:s2.heap.objs.size<=T:=by
   have:=(hP.new T hT).1
   have:h'.objs.size<=T:=this
   rw [hB];omega
  exact I2.fpOk kx (I2.hok.fresh kx)
 have hpv:=Qt r1 r2
 obtain⟨H4,I4,k4,p4,_⟩:=Inv.trackP (s:={ s2 with heap:=h3 }) I3 hP.rise hfp hP.at_ (by simpa using hpv)
 have S4:=Kp.all k4
 have hn4:=I4.hok.fresh (Yad h3.objs.size)
 have dk:=L7 p4 (Aj.kp S4 _ _ da) (Aj.kp S4 _ _ db)
 have dq:(as.map V.ref).length<=sizeLine:=by
  have:=Ycc hP.at_
  simp at this ⊢
  exact Yaq (by omega) (show 1000<=sizeLine by decide)
 refine⟨.ref h3.objs.size,_,I4.laid (a:=h3.objs.size) (o:=.tup (as.map V.ref)) (t':=tk) (λb o e=>Heap.get?_push_of_some _ e) (Yad _) ⟨dq,as.map Value.ref,X6 as,IsTup.new _ _⟩,rfl,?_⟩
 have S5:Kp H4 (upd H4 h3.objs.size (.tup (as.map V.ref))):=Kp.new hn4 _
 exact hq (.D (.tuple (List.zipWith (λd e=>PyData.tuple [d,e]) ds es))) _ _ _ (((S1.trans S2).trans S4).trans S5) ((c2.allK k4).over hn4) (Es (K:=X.K) Bh (Aj.kp S5 _ _ dk)) q2
end
end L2
namespace K38
open PySem L2
def top(i:Nat):Stmt:=PySem.Challenge.pw_pileduel_k38_sets_that_come_up.main.body.getD i (.Pass ⟨0,0,0,0⟩)
abbrev sRw:Stmt:=top 1
abbrev sSu:Stmt:=top 3
abbrev sAs:Stmt:=top 4
abbrev sSw:Stmt:=top 5
abbrev sPo:Stmt:=top 7
abbrev sDr:Stmt:=top 8
abbrev sNm:Stmt:=top 9
abbrev sNa:Stmt:=top 10
abbrev sRu:Stmt:=top 11
abbrev X7:Stmt:=top 12
abbrev sSo:Stmt:=top 13
abbrev sAr:Stmt:=top 14
abbrev sTa:Stmt:=top 15
abbrev X8:Stmt:=top 16
abbrev sSe:Stmt:=top 17
abbrev sSs:Stmt:=top 18
abbrev sWh:Stmt:=top 19
abbrev X9:Stmt:=top 20
abbrev sPs:Stmt:=top 21
abbrev Gc:Stmt:=top 22
section
variable {P:Program}{w:World}{K:PySem.W.Frag}{mg:Str->Option Value}{base:Heap}{f:Addr}{fd:FuncData}
structure Arw where
 p:Nat
 x:Nat
 ts:List Nat
 c:Option Nat
def Ai(ns:List Nat):PyData:=.tuple (ns.map λ(n:Nat)=>.int n)
def tg(A:List Arw)(p x:Nat):List (List Nat):=(A.filter λa=>decide (a.p=p/\a.x=x)).map Arw.ts
def rd(A:List Arw)(ends:List Nat):List Nat->Nat->Bool
 | [],s=>ends.any λe=>decide (e=s)
 | x :: w,s=>(tg A s x).any λts=>ts.all λt=>rd A ends w t
def F0(A:List Arw):Prop:=∀a∈A,(∀t∈a.ts,t < 5)/\a.ts.length<=5
def Ga(s n:Nat):List Key:=[.inl (s:Int),.inl (n:Int)]
def Cr(μ:M)(tb:Addr)(A:List Arw):Prop:=∃T,μ tb=some (.dt T)/\∀p x:Nat,(∃q,B2 T (Ga p x)=some (.R q)/\μ q=some (.lst ((tg A p x).map λts=>.D (Ai ts))))\/(B2 T (Ga p x)=none/\tg A p x=[])
def Ec(ae:List (List Key×AV)):Prop:=(ae.map (·.1)).Nodup/\∀k∈ae.map (·.1),∃s n:Nat,s < 5/\n < 41/\k=Ga s n
def Nu(μ:M)(kn:Addr)(W:List Nat)(A:List Arw)(ends:List Nat):Prop:=∃ae,μ kn=some (.dt ae)/\Ec ae/\∀(s n:Nat) v,B2 ae (Ga s n)=some v->v=.D (.bool (rd A ends (W.drop (W.length - n)) s))
def Cf(kn:Addr)(μ μ':M):Prop:=∀b m,b≠kn->μ b=some m->μ' b=some m
theorem Cf.refl{kn:Addr}{μ:M}:Cf kn μ μ:=λ_ _ _ h=>h
theorem Cf.trans{kn:Addr}{μ ν ρ:M}(h:Cf kn μ ν)(k:Cf kn ν ρ):Cf kn μ ρ:=λb m h1 e=>k b m h1 (h b m h1 e)
theorem Cf.new{kn p:Addr}{μ ν:M}{o:MO}(h:Cf kn μ ν)(e:ν p=none):Cf kn μ (Ao ν p o):=λb m h1 q=>by
 have:=h b m h1 q
 rw [Ag (by intro z;subst z;rw [e]at this;cases this)];exact this
theorem Cf.put{kn p:Addr}{μ ν:M}{o:MO}(h:Cf kn μ ν)(e:μ p=none):Cf kn μ (Ao ν p o):=λb m h1 q=>by
 rw [Ag (by intro z;subst z;rw [e]at q;cases q)];exact h b m h1 q
theorem Cf.k{kn:Addr}{μ ν:M}{o:MO}(h:Cf kn μ ν):Cf kn μ (Ao ν kn o):=λb m h1 q=>by rw [Ag h1];exact h b m h1 q
theorem Cr.ext{μ μ':M}{tb kn:Addr}{A:List Arw}{ae:List (List Key×AV)}(h:Cr μ tb A)(ht:tb≠kn)(hk:μ kn=some (.dt ae))(S:Cf kn μ μ'):Cr μ' tb A:=by
 obtain⟨T,e,k⟩:=h
 refine⟨T,S _ _ ht e,λp x=>?_⟩
 rcases k p x with⟨q,e1,e2⟩ | h
 ·refine .inl ⟨q,e1,S _ _ ?_ e2⟩
  rintro rfl
  rw [hk]at e2;cases e2
 ·exact .inr h
theorem Fe{α:Type} [DecidableEq α]:∀{xs ys:List α},xs.Nodup->(∀x∈xs,x∈ys)->xs.length<=ys.length
 | [],_,_,_=>Ya4 _
 | x :: xs,ys,hn,h=>by
  have hx:=h x Yas
  obtain⟨hx1,kf⟩:=Ycn.mp hn
  have:=Fe (xs:=xs) (ys:=ys.erase x) kf λz hz=>(List.mem_erase_of_ne (by rintro rfl;exact hx1 hz)).mpr (h z (Yam _ hz))
  rw [List.length_erase_of_mem hx]at this
  have hp:0 < ys.length:=List.length_pos_of_mem hx
  simp only [List.length_cons];omega
def allK:List (List Key):=(List.range 5).flatMap λs=>(List.range 41).map λn=>Ga s n
theorem Ec.len{ae:List (List Key×AV)}(h:Ec ae):ae.length<=205:=by
 have e:=Fe (ys:=allK) h.1 λk hk=>by
  obtain⟨s,n,h1,h2,rfl⟩:=h.2 k hk
  exact List.mem_flatMap.mpr ⟨s,Ybh.mpr h1,Yau.mpr ⟨n,Ybh.mpr h2,rfl⟩⟩
 have e2:allK.length=205:=by decide +kernel
 rw [Yac,e2]at e
 exact e
theorem Hk{κ:Type} [DecidableEq κ](k k':κ)(v:AV):∀(ae:List (κ×AV)),B2 (Dw ae k v) k'=if k'=k then some v else B2 ae k':=by
 intro ae
 unfold Dw
 split
 ·rename_i h
  induction ae with
  | nil=>simp at h
  | cons kv ae ih =>
   rw [Ybm]
   by_cases e:kv.1=k
   ·rw [Yaj e]
    by_cases e2:k'=k
    ·rw [Yaj e2,e2,e];exact Dr
    ·rw [Yah e2]
     obtain⟨a,b⟩:=kv
     have e':a=k:=e
     subst e'
     rw [Ct (Ybe e2),Ct (Ybe e2)]
     by_cases h2:(ae.any λkv=>decide (kv.1=a))=true
     ·rw [ih h2,Yah e2]
     ·congr 1
      refine(Ydd λz hz=>?_).trans (List.map_id ae)
      rw [Yah]
      ·rfl
      ·intro z2
       exact h2 (Ybt.mpr ⟨z,hz,Ybi z2⟩)
   ·rw [Yah e]
    obtain⟨a,b⟩:=kv
    have h2:(ae.any λkv=>decide (kv.1=k))=true:=by
     rw [Ycv,Ybn e,Bool.false_or]at h;exact h
    by_cases e3:a=k'
    ·subst e3
     rw [Dr,Yah e];exact Dr.symm
    ·rw [Ct e3,Ct e3,ih h2]
 ·rename_i h
  induction ae with
  | nil =>
   by_cases e2:k'=k
   ·rw [Yaj e2,e2];exact Dr
   ·rw [Yah e2]
    show B2 ((k,v) :: []) k'=_
    rw [Ct (Ybe e2)]
  | cons kv ae ih =>
   obtain⟨a,b⟩:=kv
   have h1:a≠k:=by
    intro z;apply h;rw [Ycv,Ybi z];rfl
   have h2:¬(ae.any λkv=>decide (kv.1=k))=true:=by
    intro z;apply h;rw [Ycv,z,Bool.or_true]
   show B2 ((a,b) :: (ae++[(k,v)])) k'=_
   by_cases e3:a=k'
   ·subst e3
    rw [Dr,Yah h1];exact Dr.symm
   ·rw [Ct e3,ih h2,Ct e3]
theorem Ec.put{ae:List (List Key×AV)}(h:Ec ae){s n:Nat}(hs:s < 5)(hn:n < 41)(v:AV):Ec (Dw ae (Ga s n) v):=by
 unfold Dw
 split
 ·have e:(ae.map λkv=>if kv.1=Ga s n then(kv.1,v) else kv).map (·.1)=ae.map (·.1):=by
   rw [Ya5]
   exact Ydd λz _=>by show(if z.1=Ga s n then(z.1,v) else z).1=_;split <;> rfl
  unfold Ec
  rw [e];exact h
 ·rename_i hk
  unfold Ec
  rw [Yav]
  refine⟨Yed.mpr ⟨h.1,Ycn.mpr ⟨by simp,Ydf⟩,λa ha b hb=>?_⟩,λk hk'=>?_⟩
  ·have e:b=Ga s n:=by simpa using hb
   rintro rfl
   apply hk
   obtain⟨z,hz,ez⟩:=Yau.mp ha
   exact Ybt.mpr ⟨z,hz,Ybi (ez.trans e)⟩
  ·rcases Yat.mp hk' with hk' | hk'
   ·exact h.2 k hk'
   ·have e:k=Ga s n:=by simpa using hk'
    exact⟨s,n,hs,hn,e⟩
abbrev nRe:List Str:=["_law_table_here","_law_ends","_law_stand","_law_pile","_law_known","_law_key","_law_found","_law_targets"]
theorem Nv:FnScope nRe ["_law_table_here","_law_ends","_law_stand","_law_pile","_law_known"] (Ah X8):=⟨rfl,rfl,rfl,by decide +kernel,rfl,by decide +kernel,by decide +kernel⟩
theorem Qdu:(["_law_target","_law_table_here","_law_ends","_law_known","_law_pile"]:List Str).Nodup:=by decide +kernel
structure ReIn(μ:M)(tb kn:Addr)(A:List Arw)(ends W w:List Nat)(s:Nat):Prop where
 hw:W.drop (W.length - w.length)=w
 hW:W.length<=40
 hs:s < 5
 hA:F0 A
 he:ends.length<=5
 ht:Cr μ tb A
 hk:Nu μ kn W A ends
 ne:tb≠kn
def T5(d:Nat):ASp:=λxs μ R=>∃tb kn A ends W w s,xs=[.R tb,.D (Ai ends),.D (.int (s:Nat)),.D (Ai w),.R kn]/\w.length<=d/\ReIn μ tb kn A ends W w s/\∀ μ',Cf kn μ μ'->Nu μ' kn W A ends->R (.D (.bool (rd A ends w s))) μ'
theorem B1{μ:M}(ns:List Nat):items μ (.D (Ai ns))=some (ns.map λ(n:Nat)=>.D (.int n)):=by
 show some ((ns.map λ(n:Nat)=>PyData.int n).map AV.D)=_
 rw [Ya5];rfl
theorem Dt{ns:List Nat}:PyData.canLayAll0 (ns.map λ(n:Nat)=>.int n)=true/\PyData.depthAll (ns.map λ(n:Nat)=>.int n)<=1:=by
 induction ns with
 | nil=>exact⟨rfl,by simp [PyData.depthAll]⟩
 | cons n ns ih =>
  simp only [List.map_cons,PyData.canLayAll0,PyData.depthAll,ih.1,Bool.and_true]
  refine⟨rfl,?_⟩
  have:=ih.2
  simp only [PyData.depth];omega
theorem Eg{ns:List Nat}:Bq (Ai ns):=⟨by simp only [Ai,PyData.canLay0];exact Dt.1,by have:=(Dt (ns:=ns)).2;simp only [Ai,PyData.depth];omega⟩
theorem L9(ns:List Nat)(s:Nat):((ns.map λ(n:Nat)=>PyData.int n).any λe=>PyData.eqv e (.int s))=ns.any λe=>decide (e=s):=by
 rw [List.any_map]
 congr 1
 funext e
 show PyData.eqv (.int e) (.int s)=_
 rw [Of]
 exact decide_eq_decide.mpr ⟨λh=>by omega,λh=>by omega⟩
theorem T6{α:Type}{L:List α}{g:α->Bool}{i:Nat}{x:α}(h:L[i]?=some x):(L.take (i+1)).any g=((L.take i).any g || g x):=by
 rw [Ycw,h,List.any_append]
 simp
theorem Q8{W:List Nat}{x:Nat}{w:List Nat}(h:W.drop (W.length - (x :: w).length)=x :: w):W.drop (W.length - w.length)=w:=by
 have hl:(W.drop (W.length - (x :: w).length)).length=(x :: w).length:=by rw [h]
 rw [Yb8,Ybk]at hl
 have e:W.length - w.length=(W.length - (x :: w).length)+1:=by rw [Ybk];omega
 rw [e,<- List.drop_drop,h];rfl
theorem Wx{W w:List Nat}(h:W.drop (W.length - w.length)=w):w.length<=W.length:=by
 have hl:(W.drop (W.length - w.length)).length=w.length:=by rw [h]
 rw [Yb8]at hl
 omega
theorem Qaz{A:List Arw}{p x:Nat}{ts:List Nat}(h:ts∈tg A p x):∃a∈A,a.ts=ts:=by
 obtain⟨a,ha,e⟩:=Yau.mp h
 exact⟨a,(Ycm.mp ha).1,e⟩
theorem O5{n:Nat}(F:Fun K "_law_reads" "_law_reads" X8 f fd) (d:Nat) (lv:ASp) (fw:∀d',d=d'+1->lv=T5 d') (vo:VCal P w K mg base n "_law_reads" ["_law_table_here","_law_ends","_law_stand","_law_pile","_law_known"] lv) (ao:mg "len" = none) (be:mg "all" = none) :
  FnOk P w K mg base Ep (n+1) f fd ["_law_table_here","_law_ends","_law_stand","_law_pile","_law_known"] (G6 K 5 (T5 d)):=by
 refine F.vok Nv λaz A outer s H E hr=>⟨_,(Ae (Al (i:=5) Nv.nd rfl (Or.inl rfl) (Bp (Aa (vv 2) (Aa (A8 Dd rfl ao Yb4 (Aa (vv 3) Ad)) Ad))))
   (Ae (Cq (Ix (Dz hr) (vv 5) (vv 4)) (Ae (Al (i:=6) Nv.nd rfl (Or.inl rfl) (G2 (P9 hr) (vv 2) (vv 1) (by with_unfolding_all rfl)))
   (Ae (Cq (Be Vz (A8 Dd rfl ao Yb4 (Aa (vv 3) Ad)) Af (nomark _)) (Ae (Al (i:=6) Nv.nd rfl (Or.inl rfl) Fv)
   (Ak (Ci Yba rfl (Ce (Lk (Dz hr) (vv 0) (Bp (Aa (vv 2) (Aa (Bt Cg (vv 3) Af) Ad))) (B9 Ad))) (Ar (i:=7) Nv.nd rfl (Or.inl rfl)) (Ak (Cq (G3 (Et (vv 6))) (Ak (Al (i:=6) Nv.nd rfl (Or.inl rfl) (A8 (Sm rfl) rfl be Yel (Aa (Cd (N':=["_law_target","_law_table_here","_law_ends","_law_known","_law_pile"]) (mp:=[none,some 0,some 1,some 4,some 3]) rfl (Ce (vv 7)) (λ_ _ _ _=>(Ar (i:=0) Qdu rfl (Or.inl rfl) (Or.inr rfl))) (λ_ _ _ _=>Bz) (λ_ _ _ _=>(Am vo hr rfl (Aa (vv 1) (Aa (vv 2) (Aa (vv 0) (Aa (Dc (vv 4) (Dp Af) Ee) (Aa (vv 3) Ad))))))) (A9 (N:=nRe) (pn:=(Ah X8).names) (by decide +kernel))) Ad)))) Bf))))) Bf)
   (Ak (Gh (Dz hr) (vv 4) (vv 5) (vv 6))))) Bf)
   (Ak (Ba (Oj (Dz hr) (vv 4) (vv 5)))))),?_⟩
 rintro xs μ R _ ⟨tb,kn,A,ends,W,w,s,rfl,hd,I,q⟩
 have hl:((w.map λ(n:Nat)=>PyData.int n).length:Int)=w.length:=by rw [Yac]
 have hwW:=Wx I.hw
 have hW6:=I.hW
 refine Ay (fun τ μ'=>τ=[some (.R tb),some (.D (Ai ends)),some (.D (.int (s:Nat))),some (.D (Ai w)),some (.R kn),some (.D (.tuple [.int (s:Nat),.int (w.length:Nat)])),none,none]/\μ=μ') (λZ hZ=>?_) ?_
 ·refine hZ _ _ ⟨?_,rfl⟩
  rw [hl];rfl
 rintro τ μ' ⟨rfl,rfl⟩
 obtain⟨ae,ek,ki,kv⟩:=I.hk
 refine Ay (fun τ μ'=>∃o6 o7,τ=[some (.R tb),some (.D (Ai ends)),some (.D (.int (s:Nat))),some (.D (Ai w)),some (.R kn),some (.D (.tuple [.int (s:Nat),.int (w.length:Nat)])),o6,o7]/\Cf kn μ μ'/\Nu μ' kn W A ends/\∃qz,μ' kn=some (.dt qz)/\B2 qz (Ga s w.length)=some (.D (.bool (rd A ends w s)))) (λZ hZ=>?_) ?_
 ·refine Ac ek (Ac (x:=B2 ae (Ga s w.length)) rfl (br (λc=>?_) (λc=>?_)))
  ·refine Co (Ac rfl ⟨Dh _,Eg,?_⟩)
   refine Ay (fun τ μ'=>∃o7,τ=[some (.R tb),some (.D (Ai ends)),some (.D (.int (s:Nat))),some (.D (Ai w)),some (.R kn),some (.D (.tuple [.int (s:Nat),.int (w.length:Nat)])),some (.D (.bool (rd A ends w s))),o7]/\Cf kn μ μ'/\Nu μ' kn W A ends) (λZ2 bh=>?_) ?_
   ·cases w with
    | nil =>
     refine My rfl (bh _ _ ⟨none,?_,Cf.refl,ae,ek,ki,kv⟩)
     rw [L9];rfl
    | cons x w =>
     obtain⟨d',rfl⟩:∃d',d=d'+1:=⟨d - 1,by simp at hd;omega⟩
     obtain rfl:=fw d' rfl
     have hw':=Q8 I.hw
     refine Vu (Ybi (by rw [Yac,Ybk];omega)) (Co (Qdd ?_))
     obtain⟨T,eT,kT⟩:=id I.ht
     refine⟨⟨_,eT,trivial⟩,Ac (Bn (j:=0) rfl) λp hp=>?_⟩
     have fb:tb≠p:=by rintro rfl;rw [eT]at hp;cases hp
     refine Ac (x:=MO.dt T) (by rw [Ag fb];exact eT) (Ac (x:=B2 T (Ga s x)) rfl ?_)
     have hpk:p≠kn:=by rintro rfl;rw [ek]at hp;cases hp
     have cr:∃qq,(B2 T (Ga s x)).getD (.R p)=.R qq/\qq≠kn/\Ao μ p (.lst []) qq=some (.lst ((tg A s x).map λts=>.D (Ai ts))):=by
      rcases kT s x with⟨q1,e1,e2⟩ | ⟨e1,e2⟩
      ·have hqk:q1≠kn:=by rintro rfl;rw [ek]at e2;cases e2
       have hq1:q1≠p:=by rintro rfl;rw [e2]at hp;cases hp
       exact⟨q1,by rw [e1];rfl,hqk,by rw [Ag hq1];exact e2⟩
      ·exact⟨p,by rw [e1];rfl,hpk,by rw [Ab,e2];rfl⟩
     obtain⟨qq,eq,qk,hq⟩:=cr
     rw [eq]
     refine Ac (Au hq) ?_
     generalize hμ3:Ao μ p (.lst [])=μ3 at hq
     have S3:Cf kn μ μ3:=by rw [<- hμ3];exact Cf.refl.new hp
     have z9:μ3 kn=some (.dt ae):=by rw [<- hμ3,Ag hpk.symm];exact ek
     have ht3:Cr μ3 tb A:=I.ht.ext I.ne ek S3
     refine Dg (λi τ μ'=>∃o7,τ=[some (.R tb),some (.D (Ai ends)),some (.D (.int (s:Nat))),some (.D (Ai (x :: w))),some (.R kn),some (.D (.tuple [.int (s:Nat),.int ((x :: w).length:Nat)])),some (.D (.bool (((tg A s x).take i).any λts=>ts.all λt=>rd A ends w t))),o7]/\Cf kn μ3 μ'/\Nu μ' kn W A ends) ⟨none,rfl,Cf.refl,ae,z9,ki,kv⟩ ?_ ?_ ?_
     ·rintro i τ μ' ⟨o7,rfl,S,_⟩
      exact Au (S _ _ qk hq)
     ·rintro i y τ μ4 Z3 hy ⟨o7,rfl,S4,K4⟩ dj
      rw [List.getElem?_map]at hy
      obtain⟨ts,hts,rfl⟩:=Yap.mp hy
      obtain⟨a0,ha0,ea0⟩:=Qaz (Yaz hts)
      have rq:=I.hA a0 ha0
      rw [ea0]at rq
      have ni:=T6 (g:=λts=>ts.all λt=>rd A ends w t) hts
      refine br (λc=>?_) (λc=>?_)
      ·refine Ac (B1 ts) λpl hpl=>?_
       have jy:pl≠kn:=by
        obtain⟨kv4,e4,_⟩:=K4
        rintro rfl;rw [e4]at hpl;cases hpl
       refine Eu (λj af τ μ5=>∃o,τ=[o,some (.R tb),some (.D (Ai ends)),some (.R kn),some (.D (Ai (x :: w)))]/\af=(ts.take j).map (λt=>.D (.bool (rd A ends w t)))/\μ5 pl=some (.lst af)/\Cf kn μ4 μ5/\Nu μ5 kn W A ends) ⟨none,rfl,by simp,Ab,Cf.refl.new hpl,?_⟩ (λ_ _ _ _ _=>B1 ts) ?_ ?_
       ·obtain⟨kv4,e4,k4⟩:=K4
        exact⟨kv4,by rw [Ag jy.symm];exact e4,k4⟩
       ·rintro j z af τ μ5 Z4 hz ⟨o,rfl,rfl,e5,S5,K5⟩ jk
        rw [List.getElem?_map]at hz
        obtain⟨t,ht,rfl⟩:=Yap.mp hz
        have htm:=rq.1 t (Yaz ht)
        have ue:Cr μ5 tb A:=ht3.ext I.ne z9 (S4.trans S5)
        refine Vu rfl ⟨tb,kn,A,ends,W,w,t,?_,by simp at hd;omega,⟨hw',I.hW,htm,I.hA,I.he,ue,K5,I.ne⟩,fun μ6 S6 K6=>?_⟩
        ·show [_,_,_,AV.D (.tuple (Hw (PyData.int x :: w.map λ(n:Nat)=>PyData.int n) (some 1) none)),_]=_
         rw [Qgk];rfl
        ·have hj:j < ts.length:=(List.getElem?_eq_some_iff.mp ht).1
         have e6:=S6 pl _ jy e5
         refine⟨e6,Az (by rw [Yac,Yb1];omega),jk _ _ _ ⟨_,rfl,?_,Ab,?_,?_⟩⟩
         ·rw [Ycw,ht,Yav];rfl
         ·exact(S5.trans S6).put hpl
         ·obtain⟨kv6,e7,k7⟩:=K6
          exact⟨kv6,by rw [Ag jy.symm];exact e7,k7⟩
       ·rintro af τ μ5 ⟨o,rfl,rfl,e5,S5,K5⟩
        rw [Yac,Yds]at e5
        dsimp only [M3]
        refine Ta e5 ?_
        refine dj _ _ ⟨some (.D (Ai ts)),?_,S4.trans S5,K5⟩
        rw [ni]
        have c':((tg A s x).take i).any (λts=>ts.all λt=>rd A ends w t)=false:=by simpa using c
        rw [c',Bool.false_or];rfl
      ·refine dj _ _ ⟨some (.D (Ai ts)),?_,S4,K4⟩
       rw [ni]
       have c':((tg A s x).take i).any (λts=>ts.all λt=>rd A ends w t)=true:=by simpa using c
       rw [c',Bool.true_or];rfl
     ·rintro τ μ4 ⟨o7,rfl,S4,K4⟩
      refine bh _ _ ⟨o7,?_,S3.trans S4,K4⟩
      rw [Yac,Yds];rfl
   ·rintro τ μ4 ⟨o7,rfl,S4,K4⟩
    obtain⟨kv4,e4,ki4,k4⟩:=K4
    refine Ac e4 (Ac (x:=MO.dt (Dw kv4 (Ga s w.length) (.D (.bool (rd A ends w s))))) rfl ⟨Az (by have:=ki4.len;show kv4.length<=1000;omega),hZ _ _ ⟨_,_,rfl,S4.k,⟨_,Ab,ki4.put I.hs (by omega) _,λs' n' v hv=>?_⟩,_,Ab,?_⟩⟩)
    ·rw [Hk]at hv
     split at hv
     ·rename_i e
      have e1:(s':Int)=s/\(n':Int)=w.length:=by
       unfold Ga at e
       simp at e
       exact⟨by omega,by omega⟩
      have es:s'=s:=by omega
      have en:n'=w.length:=by omega
      subst es en
      rw [I.hw]
      exact(Ya0 hv).symm
     ·exact k4 s' n' v hv
    ·rw [Hk,Yaj rfl]
  ·refine hZ _ _ ⟨none,none,rfl,Cf.refl,⟨ae,ek,ki,kv⟩,ae,ek,?_⟩
   cases hv:B2 ae (Ga s w.length) with
   | none=>rw [hv]at c;cases c
   | some v =>
    have:=kv s w.length v hv
    rw [I.hw]at this
    rw [this]
 ·rintro τ μ4 ⟨o6,o7,rfl,S4,K4,kv4,e4,v4⟩
  exact Ac e4 (Ac (x:=B2 kv4 (Ga s w.length)) rfl (Ac v4 ⟨_,Sub.refl,q _ S4 K4⟩))
theorem Qdv(F:Fun K "_law_reads" "_law_reads" X8 f fd) (hbd:Binds K fd ["_law_table_here","_law_ends","_law_stand","_law_pile","_law_known"] []) (kw:PySem.W.keepIn K (.ref f)=true) (hmg:mg "_law_reads" = some (.ref f)) (ao:mg "len" = none) (be:mg "all" = none) :
  ∀d:Nat,FnOk P w K mg base Ep (d+1+1) f fd ["_law_table_here","_law_ends","_law_stand","_law_pile","_law_known"] (G6 K 5 (T5 d)):=by
 intro d
 induction d with
 | zero =>
  refine O5 F 0 (λ_ _ _=>False) (by intro d' h;cases h) ⟨f,fd,F.ok Nv (λvs H Q E h=>?_) (λaz A outer s H vs Q E hr h=>?_),hbd,kw,hmg⟩ ao be
  ·obtain⟨_,_,_,_,_,_,h,_⟩:=h
   exact h.elim
  ·obtain⟨_,_,_,_,_,_,h,_⟩:=h
   exact h.elim
 | succ d ih=>exact O5 F (d+1) (T5 d) (by rintro d' h;cases h;rfl) ⟨f,fd,ih,hbd,kw,hmg⟩ ao be
end
section
variable {P:Program}{w:World}{K:PySem.W.Frag}{mg:Str->Option Value}{base:Heap}{f:Addr}{fd:FuncData}
def Ma(a:Arw):List PyData:=.int a.p :: .int a.x :: Ai a.ts :: (match a.c with | none=>[] | some c=>[.int c])
def A7(a:Arw):PyData:=.tuple (Ma a)
theorem O6(a:Arw):Hw (Ma a) none (some 2)=[.int a.p,.int a.x]:=by
 unfold Ma
 cases a.c <;> rfl
theorem Eh{μ:M}(A:List Arw):items μ (.D (.tuple (A.map A7)))=some (A.map λa=>.D (A7 a)):=by
 show some ((A.map A7).map AV.D)=_
 rw [Ya5];rfl
theorem T7{a:Arw}:atI (Ma a) 2=some (Ai a.ts):=Bn (j:=2) rfl
theorem T8{κ:Type} [DecidableEq κ](ae:List (κ×AV))(k:κ)(v:AV):(Dw ae k v).length<=ae.length+1:=by
 unfold Dw
 split
 ·rw [Yac];omega
 ·rw [Yao];exact Yad _
theorem Wy(A:List Arw)(a:Arw)(p x:Nat):tg (A++[a]) p x=tg A p x++(if a.p=p/\a.x=x then [a.ts] else []):=by
 unfold tg
 rw [Yd1,Yav]
 congr 1
 by_cases h:a.p=p/\a.x=x
 ·rw [Yaj h,Ydr,Yaj (Ybi h)];rfl
 ·rw [Yah h,Ydr,Yah (by simpa using h)];rfl
theorem Qa0{p x p' x':Nat}(h:¬(p=p'/\x=x')):Ga p' x'≠Ga p x:=by
 intro e
 apply h
 unfold Ga at e
 simp at e
 omega
abbrev nTa:List Str:=["_law_arrows_here","_law_found","_law_arrow"]
theorem Qa1:FnScope nTa ["_law_arrows_here"] (Ah sTa):=⟨rfl,rfl,rfl,by decide +kernel,rfl,by decide +kernel,by decide +kernel⟩
def Qa2:ASp:=λxs μ R=>∃A:List Arw,xs=[.D (.tuple (A.map A7))]/\A.length<=20/\∀tb μ',Cr μ' tb A->Sub μ μ'->R (.R tb) μ'
theorem Qdw{n:Nat}(F:Fun K "_law_table" "_law_table" sTa f fd):FnOk P w K mg base Ep (n+1) f fd ["_law_arrows_here"] (G6 K 1 Qa2):=by
 refine F.vok Qa1 λaz A outer s H E hr=>⟨_,(Ae (Al (i:=1) Qa1.nd rfl (Or.inl rfl) Lb)
   (Ae (Ci Yba rfl (Ce (vv 0)) (Ar (i:=2) Qa1.nd rfl (Or.inl rfl)) (Ak (Gh (Dz hr) (vv 1) (Dc (vv 2) Ee (Dp Af)) (A4 Bx (Lk (Dz hr) (vv 1) (Dc (vv 2) Ee (Dp Af)) (B9 Ad)) (B9 (Aa (Bt Cg (vv 2) Af) Ad))))))
   (Ak (Ba (vv 1))))),?_⟩
 rintro xs μ R _ ⟨A,rfl,hA,q⟩
 intro tb ue
 refine Ay (fun τ μ'=>∃o2,τ=[some (.D (.tuple (A.map A7))),some (.R tb),o2]/\Cr μ' tb A/\Sub μ μ') (λZ hZ=>?_) ?_
 ·refine Ac (Eh A) ?_
  refine Dg (λi τ μ'=>∃o2,τ=[some (.D (.tuple (A.map A7))),some (.R tb),o2]/\(∃T,μ' tb=some (.dt T)/\T.length<=i/\∀p x:Nat,(∃q,q≠tb/\B2 T (Ga p x)=some (.R q)/\μ' q=some (.lst ((tg (A.take i) p x).map λts=>.D (Ai ts))))\/(B2 T (Ga p x)=none/\tg (A.take i) p x=[]))/\Sub μ μ') ⟨none,rfl,⟨[],Ab,Yad _,λp x=>.inr ⟨rfl,rfl⟩⟩,Sub.refl.new ue⟩ (λ_ _ _ _=>Eh A) ?_ ?_
  ·rintro i y τ μ1 Z2 hy ⟨o2,rfl,⟨T,eT,hT,kT⟩,S⟩ bh
   rw [List.getElem?_map]at hy
   obtain⟨a,ha,rfl⟩:=Yap.mp hy
   have hi:i < A.length:=(List.getElem?_eq_some_iff.mp ha).1
   have fu:A.take (i+1)=A.take i++[a]:=by rw [Ycw,ha];rfl
   refine⟨⟨_,eT,trivial⟩,λp1 gg=>?_⟩
   have h1:tb≠p1:=by rintro rfl;rw [eT]at gg;cases gg
   have hk:∀m,dget (.dt m) (.tuple (Hw (Ma a) none (some 2)))=some (B2 m (Ga a.p a.x)):=λm=>by rw [O6];rfl
   refine Ac (x:=MO.dt T) (by rw [Ag h1];exact eT) (Ac (hk T) ?_)
   obtain⟨q1,e1,h2,e2⟩:∃q1,(B2 T (Ga a.p a.x)).getD (.R p1)=.R q1/\q1≠tb/\Ao μ1 p1 (.lst []) q1=some (.lst ((tg (A.take i) a.p a.x).map λts=>.D (Ai ts))):=by
    rcases kT a.p a.x with⟨q1,e0,e1,e2⟩ | ⟨e1,e2⟩
    ·have h3:q1≠p1:=by rintro rfl;rw [e2]at gg;cases gg
     exact⟨q1,by rw [e1];rfl,e0,by rw [Ag h3];exact e2⟩
    ·exact⟨p1,by rw [e1];rfl,h1.symm,by rw [Ab,e2];rfl⟩
   rw [e1]
   refine Ac T7 λp2 d7=>?_
   have h4:q1≠p2:=by rintro rfl;rw [e2]at d7;cases d7
   have aj:(tg (A.take i) a.p a.x).length<=20:=by
    unfold tg
    rw [Yac]
    exact Yaq (Yej _ _) (by rw [Yb1];omega)
   refine Ac (x:=MO.lst ((tg (A.take i) a.p a.x).map λts=>.D (Ai ts))) (by rw [Ag h4];exact e2) (Ac Ab ⟨seven (by rw [Yac];show _+1<=1000;omega),λp3 fg=>?_⟩)
   have g0:∀b m,μ1 b=some m->Ao (Ao (Ao μ1 p1 (.lst [])) p2 (.lst [.D (Ai a.ts)])) p3 (.lst ((tg (A.take i) a.p a.x).map (λts=>AV.D (Ai ts))++[.D (Ai a.ts)])) b=some m:=λb m hb=>by
    have b1:b≠p1:=by rintro rfl;rw [hb]at gg;cases gg
    have b2:b≠p2:=by rintro rfl;rw [Ag b1,hb]at d7;cases d7
    have b3:b≠p3:=by rintro rfl;rw [Ag b2,Ag b1,hb]at fg;cases fg
    rw [Ag b3,Ag b2,Ag b1];exact hb
   have h5:tb≠p3:=by
    have b1:=h1
    have b2:tb≠p2:=by rintro rfl;rw [Ag b1,eT]at d7;cases d7
    rintro rfl;rw [Ag b2,Ag b1,eT]at fg;cases fg
   refine Ac (g0 _ _ eT) (Ac (x:=MO.dt (Dw T (Ga a.p a.x) (.R p3))) (by rw [O6];rfl) ⟨Az (by show T.length<=1000;omega),bh _ _ ⟨_,rfl,⟨_,Ab,Yaq (T8 _ _ _) (by omega),λp x=>?_⟩,λb m hb=>?_⟩⟩)
   ·rw [fu,Wy,Hk]
    by_cases h:a.p=p/\a.x=x
    ·obtain⟨rfl,rfl⟩:=h
     refine .inl ⟨p3,h5.symm,by rw [Yaj rfl],?_⟩
     rw [Ag h5.symm,Ab,Yaj ⟨rfl,rfl⟩,Yav];rfl
    ·rw [Yah h,Yeu,Yah (Qa0 h)]
     rcases kT p x with⟨q2,e0,e3,e4⟩ | hh
     ·exact .inl ⟨q2,e0,e3,by rw [Ag e0];exact g0 _ _ e4⟩
     ·exact .inr hh
   ·have hb1:=S b m hb
    have hbt:b≠tb:=by rintro rfl;rw [ue]at hb;cases hb
    rw [Ag hbt];exact g0 b m hb1
  ·rintro τ μ1 ⟨o2,rfl,⟨T,eT,hT,kT⟩,S⟩
   refine hZ _ _ ⟨o2,rfl,⟨T,eT,λp x=>?_⟩,S⟩
   rw [Yac,Yds]at kT
   rcases kT p x with⟨q2,e0,e3,e4⟩ | hh
   ·exact .inl ⟨q2,e3,e4⟩
   ·exact .inr hh
 ·rintro τ μ1 ⟨o2,rfl,hT,S⟩
  exact⟨_,Sub.refl,q tb _ hT S⟩
def Di(n:Nat):AV:=.D (.int n)
theorem Ff(ns:List Nat):dats (ns.map Di)=some (ns.map λ(n:Nat)=>.int n):=by
 rw [show ns.map Di=(ns.map λ(n:Nat)=>PyData.int n).map .D by rw [Ya5];rfl];exact Bi _
abbrev nSe:List Str:=["_law_table_here","_law_ends","_law_stands","_law_pile","_law_known"]
theorem Qdx:FnScope nSe ["_law_table_here","_law_ends","_law_stands","_law_pile"] (Ah sSe):=⟨rfl,rfl,rfl,by decide +kernel,rfl,by decide +kernel,by decide +kernel⟩
theorem Qdy:(["_law_stand","_law_table_here","_law_ends","_law_pile","_law_known"]:List Str).Nodup:=by decide +kernel
def Wz:ASp:=λxs μ R=>∃tb A ends W st,xs=[.R tb,.D (Ai ends),.D (.int (st:Nat)),.D (Ai W)]/\st<=5/\W.length<=40/\ends.length<=5/\F0 A/\Cr μ tb A/\∀ μ',Sub μ μ'->R (.D (Ai ((List.range st).filter λs=>rd A ends W s))) μ'
theorem Qdz{n:Nat}(F:Fun K "_law_set" "_law_set" sSe f fd) (vo:VCal P w K mg base n "_law_reads" ["_law_table_here","_law_ends","_law_stand","_law_pile","_law_known"] (T5 40)) (ak:mg "tuple" = none) (ag:mg "range" = none):FnOk P w K mg base Ep (n+1) f fd ["_law_table_here","_law_ends","_law_stands","_law_pile"] (G6 K 4 Wz):=by
 refine F.vok Qdx λaz A outer s H E hr=>⟨_,(Ae (Al (i:=4) Qdx.nd rfl (Or.inr rfl) Lb)
   (Ak (Ba (Cb Dq rfl ak Ybl (Aa (Cd (N':=["_law_stand","_law_table_here","_law_ends","_law_pile","_law_known"]) (mp:=[none,some 0,some 1,some 3,some 4]) rfl (Bc rfl ag (Aa (vv 2) Ad)) (λ_ _ _ _=>(Ar (i:=0) Qdy rfl (Or.inl rfl) (Or.inr rfl))) (λ_ _ _ _=>(G7 (Et (Am vo hr rfl (Aa (vv 1) (Aa (vv 2) (Aa (vv 0) (Aa (vv 3) (Aa (vv 4) Ad))))))))) (λ_ _ _ _=>(vv 0)) (A9 (N:=nSe) (pn:=(Ah sSe).names) (by decide +kernel))) Ad))))),?_⟩
 rintro xs μ R _ ⟨tb,A,ends,W,st,rfl,bv,hW,he,hA,ht,q⟩
 intro kn sn
 have S1:Sub μ (Ao μ kn (.dt [])):=Sub.refl.new sn
 have fu:tb≠kn:=by
  obtain⟨T,eT,_⟩:=ht
  rintro rfl;rw [eT]at sn;cases sn
 have ht1:Cr (Ao μ kn (.dt [])) tb A:=by
  obtain⟨T,eT,kT⟩:=ht
  refine⟨T,S1 _ _ eT,λp x=>?_⟩
  rcases kT p x with⟨q1,e1,e2⟩ | h
  ·exact .inl ⟨q1,e1,S1 _ _ e2⟩
  ·exact .inr h
 have k1:Ao μ kn (.dt []) kn=some (.dt []):=Ab
 have hkf:∀b,μ b≠none->b≠kn:=λb hb z=>by subst z;exact hb sn
 generalize hμ1:Ao μ kn (.dt [])=μ1 at S1 ht1 k1
 refine⟨by omega,by omega,λpl hpl=>?_⟩
 have ql:pl≠kn:=by rintro rfl;rw [k1]at hpl;cases hpl
 have aj:(Cy 0 (st:Int).toNat).length=st:=by rw [A6];omega
 refine Eu (λj af τ μ'=>∃o,τ=[o,some (.R tb),some (.D (Ai ends)),some (.D (Ai W)),some (.R kn)]/\af=((List.range j).filter λs=>rd A ends W s).map Di/\μ' pl=some (.lst af)/\Cf kn μ1 μ'/\Nu μ' kn W A ends) ⟨none,rfl,rfl,Ab,Cf.refl.new hpl,[],by rw [Ag ql.symm];exact k1,⟨Ydf,(λ_ z=>nomatch z)⟩,λ_ _ _ z=>nomatch z⟩ (λ_ _ _ _ _=>trivial) ?_ ?_
 ·rintro j x af τ μ2 Z hx ⟨o,rfl,rfl,e2,S2,K2⟩ hZ
  have hj:j < st:=by rw [<- aj];exact(List.getElem?_eq_some_iff.mp hx).1
  have ex:=Df _ _ _ hx
  rw [Int.zero_add]at ex
  subst ex
  refine⟨tb,kn,A,ends,W,W,j,rfl,hW,⟨by simp,hW,by omega,hA,he,ht1.ext fu k1 S2,K2,fu⟩,fun μ3 S3 K3=>?_⟩
  have e3:=S3 pl _ ql e2
  have hr:(List.range (j+1)).filter (λs=>rd A ends W s)=(List.range j).filter (λs=>rd A ends W s)++(if rd A ends W j then [j] else []):=by
   rw [List.range_succ,Yd1,Ydr];rfl
  refine br (λc=>?_) (λc=>?_)
  ·have hb:((List.range j).filter λs=>rd A ends W s).length<=5:=Yaq (Yej _ _) (by rw [Yee];omega)
   refine⟨e3,Az (by rw [Yac];omega),hZ _ _ _ ⟨_,rfl,?_,Ab,(S2.trans S3).put hpl,?_⟩⟩
   ·rw [hr,Yaj c,Yav];rfl
   ·obtain⟨kv,e4,k4⟩:=K3
    exact⟨kv,by rw [Ag ql.symm];exact e4,k4⟩
  ·refine hZ _ _ _ ⟨_,rfl,?_,e3,S2.trans S3,K3⟩
   rw [hr,Yah (by rw [c];exact Yag),Yeu]
 ·rintro af τ μ2 ⟨o,rfl,rfl,e2,S2,K2⟩
  rw [aj]at e2
  refine Ac (Au e2) (Ac (Ff _) ⟨_,Sub.refl,q _ λb m hb=>S2 b m (hkf b (by rw [hb];exact λz=>nomatch z)) (S1 b m hb)⟩)
end
section
variable {P:Program}{w:World}{K:PySem.W.Frag}{mg:Str->Option Value}{base:Heap}{f:Addr}{fd:FuncData}
def Kd(i:Int):AV:=.D (.int i)
structure PotAt(μ:M)(a l:Addr)(sd nm:Int)(ns:List Int):Prop where
 ha:μ a=some (.lst [.D (.int sd),.D (.int nm),.R l])
 hl:μ l=some (.lst (ns.map Kd))
 s0:0<=sd
 s1:sd < 2147483648
 n0:0<=nm
 p0:∀n∈ns,0<=n
 ne:a≠l
def Pot(μ:M)(a l:Addr):Prop:=∃sd nm ns,PotAt μ a l sd nm ns
def A5(a l:Addr)(μ μ':M):Prop:=∀b m,b≠a->b≠l->μ b=some m->μ' b=some m
theorem A5.refl{a l:Addr}{μ:M}:A5 a l μ μ:=λ_ _ _ _ h=>h
theorem A5.trans{a l:Addr}{μ ν ρ:M}(h:A5 a l μ ν)(k:A5 a l ν ρ):A5 a l μ ρ:=λb m h1 h2 e=>k b m h1 h2 (h b m h1 h2 e)
theorem A5.new{a l p:Addr}{μ ν:M}{o:MO}(h:A5 a l μ ν)(e:ν p=none):A5 a l μ (Ao ν p o):=λb m h1 h2 q=>by
 have:=h b m h1 h2 q
 rw [Ag (by intro z;subst z;rw [e]at this;cases this)];exact this
theorem A5.put{a l p:Addr}{μ ν:M}{o:MO}(h:A5 a l μ ν)(e:μ p=none):A5 a l μ (Ao ν p o):=λb m h1 h2 q=>by
 rw [Ag (by intro z;subst z;rw [e]at q;cases q)];exact h b m h1 h2 q
theorem A5.a{a l:Addr}{μ ν:M}{o:MO}(h:A5 a l μ ν):A5 a l μ (Ao ν a o):=λb m h1 h2 q=>by rw [Ag h1];exact h b m h1 h2 q
theorem A5.l{a l:Addr}{μ ν:M}{o:MO}(h:A5 a l μ ν):A5 a l μ (Ao ν l o):=λb m h1 h2 q=>by rw [Ag h2];exact h b m h1 h2 q
theorem A5.none{a l p:Addr}{μ ν:M}(h:A5 a l μ ν)(h1:a≠p)(h2:l≠p)(e:ν p=none):μ p=none:=by
 cases q:μ p with
 | none=>rfl
 | some m=>rw [h p m h1.symm h2.symm q]at e;cases e
theorem PotAt.other{μ:M}{a l p:Addr}{sd nm:Int}{ns:List Int}{o:MO}(h:PotAt μ a l sd nm ns)(h1:a≠p)(h2:l≠p):PotAt (Ao μ p o) a l sd nm ns :=
 ⟨by rw [Ag h1];exact h.ha,by rw [Ag h2];exact h.hl,h.s0,h.s1,h.n0,h.p0,h.ne⟩
theorem Pot.other{μ:M}{a l p:Addr}{o:MO}(h:Pot μ a l)(h1:a≠p)(h2:l≠p):Pot (Ao μ p o) a l:=let⟨sd,nm,ns,h⟩:=h;⟨sd,nm,ns,h.other h1 h2⟩
theorem Pot.ne{μ:M}{a l p:Addr}(h:Pot μ a l)(e:μ p=none):a≠p/\l≠p:=by
 obtain⟨sd,nm,ns,h⟩:=h
 exact⟨λz=>by(subst z;rw [h.ha]at e;cases e),λz=>by(subst z;rw [h.hl]at e;cases e)⟩
theorem Pot.new{μ:M}{a l p:Addr}{o:MO}(h:Pot μ a l)(e:μ p=none):Pot (Ao μ p o) a l:=h.other (h.ne e).1 (h.ne e).2
abbrev nDr:List Str:=["_law_pot_here","_law_many","_law_digit","_law_one"]
theorem Qa3:FnScope nDr ["_law_pot_here","_law_many"] (Ah sDr):=⟨rfl,rfl,rfl,by decide +kernel,rfl,by decide +kernel,by decide +kernel⟩
def Mb:ASp:=λxs μ R=>∃(a l:Addr) (au:Nat),xs=[.R a,.D (.int au)]/\Pot μ a l/\0 < au/\au < 1000000/\∀(v:Nat) (μ':M),v < au->Pot μ' a l->A5 a l μ μ'->R (.D (.int v)) μ'
theorem T9{v:Int}{au:Nat}(h0:0<=v)(h1:v < au):∃n:Nat,v=n/\n < au:=⟨v.toNat,by omega,by omega⟩
theorem Qd0{n:Nat}(F:Fun K "_law_draw" "_law_draw" sDr f fd) (ao:mg "len" = none):FnOk P w K mg base Ep (n+1) f fd ["_law_pot_here","_law_many"] (G6 K 2 Mb):=by
 refine F.vok Qa3 λaz A outer s H E hr=>⟨_,(Ae (E9 Yba (VW.pt (Jy (Be (Hx hr) (Bt Cg (vv 0) Af) Af (nomark _)) (Ge (Be Vz (A8 Dd rfl ao Yb4 (Aa (Bt Cg (vv 0) Af) Ad)) Af (nomark _))))) (Ak (M9 (D5 PySem.F.slot_list_pop PySem.F.type_list_pop Oe (Bt Cg (vv 0) Af) (Aa Af Ad)) (M7 (vv 0) Af))))
   (Ae (Cq (Be Vz (Bt Cg (vv 0) Af) Af (nomark _)) (Ae (Al (i:=2) Qa3.nd rfl (Or.inl rfl) (A4 Fw (Bt Cg (vv 0) Af) (vv 1)))
   (Ae (M9 (A4 M4 (Bt Cg (vv 0) Af) (vv 1)) (M7 (vv 0) Af))
   (Ak (Ba (vv 2))))) Bf)
   (Ae (Al (i:=3) Qa3.nd rfl (Or.inl rfl) (A4 Fw (A4 Bx (A4 G4 (Bt Cg (vv 0) Af) Af) Af) Af))
   (Ae (M9 (A4 Bx (A4 Fw (A4 Bx (A4 G4 (vv 3) Af) Af) Af) Af) (M7 (vv 0) Af))
   (Ak (Ba (A4 Fw (A4 M4 (A4 Bx (A4 G4 (A4 Fw (A4 G4 (vv 3) (vv 3)) Af) Af) (Bt Cg (vv 0) Af)) Af) (vv 1)))))))),?_⟩
 rintro xs μ R _ ⟨a,l,au,rfl,⟨sd,nm,ns,D0⟩,h0,h1,q⟩
 refine Ay (fun τ μ'=>∃sd nm ns,τ=[some (.R a),some (.D (.int au)),none,none]/\PotAt μ' a l sd nm ns/\A5 a l μ μ') (λW' sx=>?_) ?_
 ·refine Gg (λm τ μ'=>∃sd nm ns,τ=[some (.R a),some (.D (.int au)),none,none]/\m=ns.length/\PotAt μ' a l sd nm ns/\A5 a l μ μ') ns.length ⟨sd,nm,ns,rfl,rfl,D0,A5.refl⟩ ?_
  rintro m τ μ' W ⟨sd,nm,ns,rfl,rfl,D,S⟩ hW
  refine Ac D.ha (Ac rfl (ieq (λc=>?_) (λc=>My rfl (sx _ _ ⟨sd,nm,ns,rfl,D,S⟩))))
  refine Ac D.ha (Ac rfl (Ac D.hl (dif (λc2=>?_) (λc2=>sx _ _ ⟨sd,nm,ns,rfl,D,S⟩))))
  cases ns with
  | nil=>exact absurd c2 (by decide)
  | cons x ns =>
   have ow:Ao μ' l (.lst (((x :: ns).map Kd).eraseIdx 0)) a=some (.lst [.D (.int sd),.D (.int nm),.R l]):=by rw [Ag D.ne];exact D.ha
   have ix:seqIndex? 0 ((x :: ns).map Kd).length=some 0:=by
    rw [Yac]
    unfold seqIndex?
    simp
   refine Ac D.ha (Ac rfl ⟨Ac D.hl trivial,Ac D.hl ⟨⟨by decide,by decide⟩,Ac ix (Ac rfl (Ac ow (Ac rfl (hW ns.length _ _ (Yde _) ⟨sd,x,ns,rfl,rfl,?_,S.l.a⟩))))⟩⟩)
   refine⟨Ab,by rw [Ag D.ne.symm,Ab];rfl,D.s0,D.s1,D.p0 x Yas,λz hz=>D.p0 z (Yam _ hz),D.ne⟩
 ·rintro τ μ' ⟨sd,nm,ns,rfl,D,S⟩
  have b0:=D.s0
  have b1:=D.s1
  refine Ac D.ha (Ac rfl (dif (λc=>?_) (λc=>?_)))
  ·refine Ac D.ha (Ac rfl ⟨(by show(0:Int) < _;omega),Ac D.ha (Ac rfl ⟨⟨by omega,by omega⟩,Ac D.ha (Ac rfl ⟨_,Sub.refl,?_⟩)⟩)⟩)
   obtain⟨v,ev,hv⟩:=T9 (Yd5 nm (show(au:Int)≠0 by omega)) (Ydi nm (show 0 < (au:Int) by omega))
   dsimp only
   rw [ev]
   exact q v _ hv ⟨sd,nm / au,ns,Ab,by rw [Ag D.ne.symm];exact D.hl,b0,b1,Int.ediv_nonneg D.n0 (by omega),D.p0,D.ne⟩ S.a
  ·refine Ac D.ha (Ac rfl ⟨.inr ⟨by decide,by decide⟩,(by show(0:Int) < _;decide),?_⟩)
   dsimp only
   have e1:=Yd5 (sd * 48271+7919) (show(2147483647:Int)≠0 by decide)
   have e2:=Ydi (sd * 48271+7919) (show(0:Int) < 2147483647 by decide)
   generalize (sd * 48271+7919) % 2147483647=one at e1 e2 ⊢
   refine⟨.inr ⟨by decide,by decide⟩,(by show(0:Int) < _;decide),Ac D.ha (Ac rfl ?_)⟩
   dsimp only
   have e3:=Yd5 (one * 40692+12345) (show(2147483399:Int)≠0 by decide)
   have e4:=Ydi (one * 40692+12345) (show(0:Int) < 2147483399 by decide)
   generalize (one * 40692+12345) % 2147483399=two at e3 e4 ⊢
   refine⟨.inl ⟨by omega,by omega⟩,(by show(0:Int) < _;decide),⟨.inr ⟨by decide,by decide⟩,Ac Ab (Ac rfl ⟨⟨by decide,by decide⟩,(by show(0:Int) < _;omega),_,Sub.refl,?_⟩)⟩⟩
   dsimp only
   obtain⟨v,ev,hv⟩:=T9 (Yd5 ((one * one % 2147483629 * 31+(two+1)) / 64) (show(au:Int)≠0 by omega)) (Ydi ((one * one % 2147483629 * 31+(two+1)) / 64) (show 0 < (au:Int) by omega))
   rw [ev]
   exact q v _ hv ⟨two+1,nm,ns,Ab,by rw [Ag D.ne.symm];exact D.hl,by omega,by omega,D.n0,D.p0,D.ne⟩ S.a
abbrev nPo:List Str:=["_law_script","_law_base","_law_seed","_law_left","_law_cell"]
theorem Ua:FnScope nPo ["_law_script","_law_base"] (Ah sPo):=⟨rfl,rfl,rfl,by decide +kernel,rfl,by decide +kernel,by decide +kernel⟩
def Fg(ns:List Int):PyData:=.list (ns.map .int)
theorem Q9(μ:M)(ns:List Int):items μ (.D (Fg ns))=some (ns.map Kd):=by
 show some ((ns.map PyData.int).map AV.D)=_
 rw [Ya5];rfl
theorem Ub{α:Type}(g:α->AV)(xs:List α)(lo hi:Option Int):∃ys:List α,Sg (xs.map g) lo hi=ys.map g/\ys.length<=xs.length:=by
 refine⟨(xs.drop (HT.sIx (xs.map g).length 0 lo)).take (HT.sIx (xs.map g).length (xs.map g).length hi - HT.sIx (xs.map g).length 0 lo),?_,?_⟩
 ·unfold Sg
  rw [<- List.map_drop,<- List.map_take]
 ·rw [Yb1,Yb8];omega
def Qa4:ASp:=λxs μ R=>∃(ns:List Int) (b:Nat),xs=[.D (Fg ns),.D (.int b)]/\b < 1000/\ns.length<=63/\∀(a l:Addr) (μ':M),μ a=none->μ l=none->Pot μ' a l->Sub μ μ'->R (.R a) μ'
theorem Qd1{n:Nat}(F:Fun K "_law_pot" "_law_pot" sPo f fd):FnOk P w K mg base Ep (n+1) f fd ["_law_script","_law_base"] (G6 K 2 Qa4):=by
 refine F.vok Ua λaz A outer s H E hr=>⟨_,(Ae (Al (i:=2) Ua.nd rfl (Or.inl rfl) (A4 Bx (A4 G4 Af (vv 1)) Af))
   (Ae (Al (i:=3) Ua.nd rfl (Or.inl rfl) (B9 Ad))
   (Ae (Ci Yba rfl (Ce (Dc (vv 0) (Dp (vv 1)) (Dp Af))) (Ar (i:=4) Ua.nd rfl (Or.inl rfl)) (Ae (Al (i:=2) Ua.nd rfl (Or.inl rfl) (A4 Fw (A4 Bx (A4 Bx (A4 G4 (vv 2) Af) (A4 Fw (vv 4) Af)) Af) Af))
   (Ak (Cq (Be Qf7 (vv 4) (A4 Qc0 Af Af) (nomark _)) (Ak (Cs (D5 Ybx Yby Cw (vv 3) (Aa (vv 4) Ad)))) Bf))))
   (Ak (Ba (B9 (Aa (vv 2) (Aa Af (Aa (vv 3) Ad))))))))),?_⟩
 rintro xs μ R _ ⟨ns,b,rfl,hb,hn,q⟩
 refine⟨.inl ⟨by decide,by decide⟩,?_⟩
 intro l hl
 obtain⟨cs,ecs,kg⟩:=Ub Kd ns (some (b:Int)) (some 63)
 refine Ay (fun τ μ'=>∃(o:Option AV) (sd:Int) (ls:List Int),τ=[some (.D (Fg ns)),some (.D (.int b)),some (.D (.int sd)),some (.R l),o]/\μ' l=some (.lst (ls.map Kd))/\Sub μ μ'/\(∀z∈ls,0<=z)/\0<=sd/\sd < 2147483648) (λW' sx=>?_) ?_
 ·refine Ac (Q9 _ ns) λp hp=>?_
  rw [ecs]
  have hpl:l≠p:=by intro z;subst z;rw [Ab]at hp;cases hp
  have hpn:μ p=none:=by rw [Ag hpl.symm]at hp;exact hp
  refine Ac (x:=cs.map Kd) (by show(match Ao _ p _ p with | some (MO.lst xs)=>some xs | _=>none)=_;rw [Ab]) ?_
  refine Dg (λi τ μ'=>∃(o:Option AV) (sd:Int) (ls:List Int),τ=[some (.D (Fg ns)),some (.D (.int b)),some (.D (.int sd)),some (.R l),o]/\μ' l=some (.lst (ls.map Kd))/\μ' p=some (.lst (cs.map Kd))/\Sub μ μ'/\(∀z∈ls,0<=z)/\ls.length<=i/\0<=sd/\sd < 2147483648)
   ⟨none,7919 * b+104729,[],rfl,by rw [Ag hpl,Ab];rfl,Ab,(Sub.refl.new hl).new hpn,(λ_ z=>nomatch z),Ya4 _,by omega,by omega⟩ ?_ ?_ ?_
  ·rintro i τ μ' ⟨o,sd,ls,rfl,h1,h2,_⟩
   show(match μ' p with | some (MO.lst xs)=>some xs | _=>none)=_
   rw [h2]
  ·rintro i y τ μ' W hy ⟨o,sd,ls,rfl,h1,h2,h3,h4,h5,h6,h7⟩ hW
   rw [List.getElem?_map]at hy
   obtain⟨c,hc,rfl⟩:=Yap.mp hy
   have hi:i < cs.length:=(List.getElem?_eq_some_iff.mp hc).1
   refine⟨.inr ⟨by decide,by decide⟩,(by show(0:Int) < _;decide),(by show(0:Int) < _;decide),?_⟩
   dsimp only
   have e1:=Yd5 (sd * 48271+c % 2147483629+1) (show(2147483647:Int)≠0 by decide)
   have e2:=Ydi (sd * 48271+c % 2147483629+1) (show(0:Int) < 2147483647 by decide)
   generalize (sd * 48271+c % 2147483629+1) % 2147483647=s2 at e1 e2 ⊢
   refine⟨⟨by decide,by decide,by decide⟩,dif (λc2=>?_) (λc2=>hW _ _ ⟨_,s2,ls,rfl,h1,h2,h3,h4,by omega,by omega,by omega⟩)⟩
   refine⟨Ac h1 trivial,Ac h1 ⟨by rw [Yac];exact Az (by omega),hW _ _ ⟨_,s2,ls++[c],rfl,?_,by rw [Ag hpl.symm];exact h2,?_,?_,by simp;omega,by omega,by omega⟩⟩⟩
   ·rw [Ab,Yav];rfl
   ·intro b m e
    rw [Ag (by intro z;subst z;rw [hl]at e;cases e)];exact h3 b m e
   ·intro z hz
    rcases Yat.mp hz with hz | hz
    ·exact h4 z hz
    ·rw [Yal.mp hz]
     have:(10 ^ (18:Int).toNat:Int)<=c:=c2
     have h18:(0:Int)<=10 ^ (18:Int).toNat:=by decide
     omega
  ·rintro τ μ' ⟨o,sd,ls,rfl,h1,h2,h3,h4,h5,h6,h7⟩
   exact sx _ _ ⟨o,sd,ls,rfl,h1,h3,h4,h6,h7⟩
 ·rintro τ μ' ⟨o,sd,ls,rfl,h1,h3,h4,h6,h7⟩
  intro a ha
  have dq:a≠l:=by intro z;subst z;rw [h1]at ha;cases ha
  have han:=h3.none ha
  exact⟨_,Sub.refl,q a l _ han hl ⟨sd,0,ls,Ab,by rw [Ag dq.symm];exact h1,h6,h7,Int.le_refl 0,h4,dq⟩ (h3.new han)⟩
end
section
variable {P:Program}{w:World}{K:PySem.W.Frag}{mg:Str->Option Value}{base:Heap}{f:Addr}{fd:FuncData}
abbrev nSo:List Str:=["_law_pot_here","_law_first","_law_many"]
theorem Qgs:FnScope nSo ["_law_pot_here","_law_first","_law_many"] (Ah sSo):=⟨rfl,rfl,rfl,by decide +kernel,rfl,by decide +kernel,by decide +kernel⟩
theorem Qd2:(["_law_k","_law_first","_law_pot_here"]:List Str).Nodup:=by decide +kernel
def W0:ASp:=λxs μ R=>∃(a l:Addr) (fi au:Nat),xs=[.R a,.D (.int fi),.D (.int au)]/\au<=5/\Pot μ a l/\∀(ns:List Nat) μ',(∀n∈ns,n < fi+au)->ns.length<=au->Pot μ' a l->A5 a l μ μ'->R (.D (Ai ns)) μ'
theorem Qd3{n:Nat}(F:Fun K "_law_some" "_law_some" sSo f fd) (bx:VCal P w K mg base n "_law_draw" ["_law_pot_here","_law_many"] Mb) (ak:mg "tuple" = none) (ag:mg "range" = none):FnOk P w K mg base Ep (n+1) f fd ["_law_pot_here","_law_first","_law_many"] (G6 K 3 W0):=by
 refine F.vok Qgs λaz A outer s H E hr=>⟨_,(Ak (Ba (Cb Dq rfl ak Ybl (Aa (Cd (N':=["_law_k","_law_first","_law_pot_here"]) (mp:=[none,some 1,some 0]) rfl (Bc rfl ag (Aa (vv 2) Ad)) (λ_ _ _ _=>(Ar (i:=0) Qd2 rfl (Or.inl rfl) (Or.inr rfl))) (λ_ _ _ _=>(G7 (Be (Hx hr) (Am bx hr rfl (Aa (vv 2) (Aa Af Ad))) Af (nomark _)))) (λ_ _ _ _=>(A4 Bx (vv 1) (vv 0))) (A9 (N:=nSo) (pn:=(Ah sSo).names) (by decide +kernel))) Ad)))),?_⟩
 rintro xs μ R _ ⟨a,l,fi,au,rfl,hm,hP,q⟩
 refine⟨by omega,by omega,λpl hpl=>?_⟩
 have ay:=hP.ne hpl
 have aj:(Cy 0 (au:Int).toNat).length=au:=by rw [A6];omega
 refine Eu (λj af τ μ'=>∃(o:Option AV) (ns:List Nat),τ=[o,some (.D (.int fi)),some (.R a)]/\af=ns.map Di/\ns.length<=j/\(∀n∈ns,n < fi+au)/\μ' pl=some (.lst af)/\Pot μ' a l/\A5 a l μ μ') ⟨none,[],rfl,rfl,Yad _,(λ_ z=>nomatch z),Ab,hP.new hpl,A5.refl.new hpl⟩ (λ_ _ _ _ _=>trivial) ?_ ?_
 ·rintro j x af τ μ2 Z hx ⟨o,ns,rfl,rfl,hn,hb,e2,P2,S2⟩ hZ
  have hj:j < au:=by rw [<- aj];exact(List.getElem?_eq_some_iff.mp hx).1
  have ex:=Df _ _ _ hx
  rw [Int.zero_add]at ex
  subst ex
  refine⟨a,l,3,rfl,P2,by decide,by decide,λv μ3 hv P3 S3=>?_⟩
  have e3:=S3 pl _ ay.1.symm ay.2.symm e2
  refine ieq (λc=>?_) (λc=>hZ _ _ _ ⟨_,ns,rfl,rfl,by omega,hb,e3,P3,S2.trans S3⟩)
  refine⟨e3,Az (by rw [Yac];omega),hZ _ _ _ ⟨_,ns++[fi+j],rfl,by rw [Yav];rfl,by rw [Yao];show ns.length+1<=_;omega,λn ym=>?_,Ab,P3.other ay.1 ay.2,(S2.trans S3).put hpl⟩⟩
  rcases Yat.mp ym with h | h
  ·exact hb n h
  ·rw [Yal.mp h];omega
 ·rintro af τ μ2 ⟨o,ns,rfl,rfl,hn,hb,e2,P2,S2⟩
  rw [aj]at hn
  exact Ac (Au e2) (Ac (Ff _) ⟨_,Sub.refl,q ns _ hb hn P2 S2⟩)
theorem Fq:∀(ns:List Nat),Ax (ns.map λ(n:Nat)=>.int n)=true
 | []=>rfl
 | n :: ns=>by simp only [List.map_cons,Ax,Cano,Fq ns,Bool.and_self]
theorem Mc:∀(ms ns:List Nat),cmpbs (ms.map λ(n:Nat)=>.int n) (ns.map λ(n:Nat)=>.int n)=true
 | [],_=>by simp only [List.map_nil,cmpbs]
 | _ :: _,[]=>by simp only [List.map_nil,List.map_cons,cmpbs]
 | m :: ms,n :: ns=>by
  simp only [List.map_cons,cmpbs,cmpb,Mc ms ns,ite_self]
theorem Ke(a:Arw):(A7 a).canLay0=true/\(A7 a).depth<=3/\Cano (A7 a)=true:=by
 obtain⟨p,x,ts,c⟩:=a
 have h1:=Dt (ns:=ts)
 have h2:=Fq ts
 cases c with
 | none =>
  simp only [A7,Ma,Ai,PyData.canLay0,PyData.canLayAll0,PyData.depth,PyData.depthAll,Cano,Ax,h1.1,h2,Bool.and_true,Bool.true_and,true_and,and_true]
  have:=h1.2
  omega
 | some c =>
  simp only [A7,Ma,Ai,PyData.canLay0,PyData.canLayAll0,PyData.depth,PyData.depthAll,Cano,Ax,h1.1,h2,Bool.and_true,Bool.true_and,true_and,and_true]
  have:=h1.2
  omega
theorem W5{a b:Arw}(h:a.c.isSome=b.c.isSome):cmpb (A7 a) (A7 b)=true:=by
 obtain⟨p,x,ts,c⟩:=a
 obtain⟨p',x',ts',c'⟩:=b
 cases c <;> cases c' <;> simp at h <;> simp only [A7,Ma,Ai,cmpb,cmpbs,Mc,ite_self]
theorem Gj:∀(B:List Arw),PyData.canLayAll0 (B.map A7)=true/\PyData.depthAll (B.map A7)<=3/\Ax (B.map A7)=true
 | []=>⟨rfl,by simp [PyData.depthAll],rfl⟩
 | a :: B=>by
  obtain⟨h1,h2,h3⟩:=Ke a
  obtain⟨k1,k2,k3⟩:=Gj B
  simp only [List.map_cons,PyData.canLayAll0,PyData.depthAll,Ax,h1,h3,k1,k3,Bool.and_self,true_and,and_true]
  omega
theorem Uc{B:List Arw}{k:Bool}(hl:B.length<=20)(hn:(B.map A7).Nodup)(hc:∀a∈B,a.c.isSome=k):SortOk (B.map A7):=by
 obtain⟨k1,k2,k3⟩:=Gj B
 refine⟨by rw [Yac];omega,k1,by omega,k3,hn,λ_ d hd=>?_,λd hd e he=>?_⟩
 ·obtain⟨a,ha,rfl⟩:=Yau.mp hd
  exact⟨a.p,_,rfl⟩
 ·obtain⟨a,ha,rfl⟩:=Yau.mp hd
  obtain⟨b,hb,rfl⟩:=Yau.mp he
  exact W5 ((hc a ha).trans (hc b hb).symm)
theorem unmap{α β:Type}{g:α->β}{B:List α}:∀{es:List β},(∀e∈es,e∈B.map g)->∃A:List α,es=A.map g/\A.length=es.length/\∀a∈A,a∈B
 | [],_=>⟨[],rfl,rfl,λ_ z=>nomatch z⟩
 | e :: es,h=>by
  obtain⟨A,rfl,hl,hA⟩:=unmap (es:=es) λx hx=>h x (Yam _ hx)
  obtain⟨a,ha,rfl⟩:=Yau.mp (h e Yas)
  refine⟨a :: A,rfl,by simp,λb hb=>?_⟩
  rcases Ya1.mp hb with rfl | hb
  ·exact ha
  ·exact hA b hb
theorem W6{B:List Arw}{a:Arw}(h:((B.map A7).any λe=>PyData.eqv e (A7 a))=false):A7 a∉B.map A7:=λhm=>by
 have:((B.map A7).any λe=>PyData.eqv e (A7 a))=true:=Ybt.mpr ⟨_,hm,D6 (A7 a) (Ke a).2.2⟩
 rw [this]at h;cases h
theorem Md(B:List Arw):dats (B.map λa=>.D (A7 a))=some (B.map A7):=by
 rw [show(B.map λa=>AV.D (A7 a))=(B.map A7).map .D by rw [Ya5];rfl];exact Bi _
theorem Ud(a:Arw):Bq (A7 a):=⟨(Ke a).1,Yaq (Ke a).2.1 (by decide)⟩
theorem Ra(B:List Arw):Bq (.tuple (B.map A7)):=⟨by simp only [PyData.canLay0];exact(Gj B).1,by have:=(Gj B).2.1;simp only [PyData.depth];omega⟩
abbrev nAr:List Str:=["_law_pot_here","_law_stands","_law_letters","_law_found","_law_costs","_law_k","_law_one"]
theorem Rb:FnScope nAr ["_law_pot_here","_law_stands","_law_letters"] (Ah sAr):=⟨rfl,rfl,rfl,by decide +kernel,rfl,by decide +kernel,by decide +kernel⟩
def Qa5:ASp:=λxs μ R=>∃(a l:Addr) (st le:Nat),xs=[.R a,.D (.int st),.D (.int le)]/\0 < st/\st<=5/\0 < le/\le<=5/\Pot μ a l/\∀(A:List Arw) μ',F0 A->(∀x∈A,x.p < st)->A.length<=20->Pot μ' a l->A5 a l μ μ'->R (.D (.tuple (A.map A7))) μ'
theorem Qd4{n:Nat}(F:Fun K "_law_arrows" "_law_arrows" sAr f fd) (bx:VCal P w K mg base n "_law_draw" ["_law_pot_here","_law_many"] Mb) (oi:VCal P w K mg base n "_law_some" ["_law_pot_here","_law_first","_law_many"] W0) (ag:mg "range" = none) (ak:mg "tuple" = none) (bd:mg "sorted" = none):FnOk P w K mg base Ep (n+1) f fd ["_law_pot_here","_law_stands","_law_letters"] (G6 K 3 Qa5):=by
 refine F.vok Rb λaz A outer s H E hr=>⟨_,(Ae (Al (i:=3) Rb.nd rfl (Or.inl rfl) (B9 Ad))
   (Ae (Al (i:=4) Rb.nd rfl (Or.inl rfl) (Am bx hr rfl (Aa (vv 0) (Aa Af Ad))))
   (Ae (Ci Yba rfl (Bc rfl ag (Aa (Am bx hr rfl (Aa (vv 0) (Aa Af Ad))) Ad)) (Ar (i:=5) Rb.nd rfl (Or.inl rfl)) (Ae (Al (i:=6) Rb.nd rfl (Or.inl rfl) (Bp (Aa (Am bx hr rfl (Aa (vv 0) (Aa (vv 1) Ad))) (Aa (Am bx hr rfl (Aa (vv 0) (Aa (vv 2) Ad))) (Aa (Am oi hr rfl (Aa (vv 0) (Aa Af (Aa (vv 1) Ad)))) Ad)))))
   (Ae (Cq (Be (Hx hr) (vv 4) Af (nomark _)) (Ak (Al (i:=6) Rb.nd rfl (Or.inl rfl) (A4 Bx (vv 6) (Bp (Aa (Am bx hr rfl (Aa (vv 0) (Aa Af Ad))) Ad))))) Bf)
   (Ak (Cq (Be (Gf hr) (vv 6) (vv 3) (by with_unfolding_all rfl)) (Ak (Cs (D5 Ybx Yby Cw (vv 3) (Aa (vv 6) Ad)))) Bf)))))
   (Ak (Ba (Cb Dq rfl ak Ybl (Aa (A8 (To hr) rfl bd PyProof.Rows.boot_sorted (Aa (vv 3) Ad)) Ad))))))),?_⟩
 rintro xs μ R _ ⟨a,l,st,le,rfl,hs0,ga,gh,hl5,hP,q⟩
 intro pf cw
 have ay:=hP.ne cw
 refine Ay (fun τ μ'=>∃cs:Nat,τ=[some (.R a),some (.D (.int st)),some (.D (.int le)),some (.R pf),some (.D (.int cs)),none,none]/\μ' pf=some (.lst [])/\Pot μ' a l/\A5 a l μ μ') (λZ hZ=>?_) ?_
 ·exact⟨a,l,2,rfl,hP.new cw,by decide,by decide,λcs μ1 hcs P1 S1=>hZ _ _ ⟨cs,rfl,S1 pf _ ay.1.symm ay.2.symm Ab,P1,(A5.refl.new cw).trans S1⟩⟩
 rintro τ μ1 ⟨cs,rfl,e1,P1,S1⟩
 refine Ay (fun τ μ'=>∃o5 o6 B,τ=[some (.R a),some (.D (.int st)),some (.D (.int le)),some (.R pf),some (.D (.int cs)),o5,o6]/\μ' pf=some (.lst (B.map λb=>.D (A7 b)))/\B.length<=20/\F0 B/\(∀b∈B,b.p < st)/\(B.map A7).Nodup/\(∀b∈B,b.c.isSome=decide ((cs:Int)=1))/\Pot μ' a l/\A5 a l μ μ') (λZ hZ=>?_) ?_
 ·refine⟨a,l,13,rfl,P1,by decide,by decide,λc μ2 hc P2 S2=>⟨by omega,by omega,?_⟩⟩
  have aj:(Cy 0 (c:Int).toNat).length=c:=by rw [A6];omega
  have e2:=S2 pf _ ay.1.symm ay.2.symm e1
  refine Dg (λi τ μ'=>∃o5 o6 B,τ=[some (.R a),some (.D (.int st)),some (.D (.int le)),some (.R pf),some (.D (.int cs)),o5,o6]/\μ' pf=some (.lst (B.map λb=>.D (A7 b)))/\B.length<=i/\F0 B/\(∀b∈B,b.p < st)/\(B.map A7).Nodup/\(∀b∈B,b.c.isSome=decide ((cs:Int)=1))/\Pot μ' a l/\A5 a l μ μ') ⟨none,none,[],rfl,e2,Yad _,(λ_ z=>nomatch z),(λ_ z=>nomatch z),Ydf,(λ_ z=>nomatch z),P2,S1.trans S2⟩ (λ_ _ _ _=>trivial) ?_ ?_
  ·rintro i y τ μ3 Z2 hy ⟨o5,o6,B,rfl,e3,hB,kB,pB,nB,cB,P3,S3⟩ bh
   have hi:i < c:=by rw [<- aj];exact(List.getElem?_eq_some_iff.mp hy).1
   refine Ay (fun τ μ'=>∃p x ts,τ=[some (.R a),some (.D (.int st)),some (.D (.int le)),some (.R pf),some (.D (.int cs)),some y,some (.D (A7 ⟨p,x,ts,none⟩))]/\p < st/\(∀t∈ts,t < 5)/\ts.length<=5/\μ' pf=some (.lst (B.map λb=>.D (A7 b)))/\Pot μ' a l/\A5 a l μ μ') (λZ3 dj=>?_) ?_
   ·refine⟨a,l,st,rfl,P3,hs0,by omega,λp μ4 hp P4 S4=>⟨a,l,le,rfl,P4,gh,by omega,λx μ5 hx P5 S5=>⟨a,l,0,st,rfl,ga,P5,λts μ6 hts hlt P6 S6=>dj _ _ ⟨p,x,ts,rfl,hp,λt ht=>?_,by omega,?_,P6,((S3.trans S4).trans S5).trans S6⟩⟩⟩⟩
    ·have:=hts t ht;omega
    ·exact S6 pf _ ay.1.symm ay.2.symm (S5 pf _ ay.1.symm ay.2.symm (S4 pf _ ay.1.symm ay.2.symm e3))
   rintro τ μ4 ⟨p,x,ts,rfl,hp,hts,hlt,e4,P4,S4⟩
   refine Ay (fun τ μ'=>∃v:Arw,τ=[some (.R a),some (.D (.int st)),some (.D (.int le)),some (.R pf),some (.D (.int cs)),some y,some (.D (A7 v))]/\v.p < st/\(∀t∈v.ts,t < 5)/\v.ts.length<=5/\v.c.isSome=decide ((cs:Int)=1)/\μ' pf=some (.lst (B.map λb=>.D (A7 b)))/\Pot μ' a l/\A5 a l μ μ') (λZ3 dj=>?_) ?_
   ·refine ieq (λc1=>?_) (λc1=>dj _ _ ⟨⟨p,x,ts,none⟩,rfl,hp,hts,hlt,by rw [Ybn c1];rfl,e4,P4,S4⟩)
    refine⟨a,l,12,rfl,P4,by decide,by decide,λv μ5 hv P5 S5=>⟨seven (n:=4) (by decide),dj _ _ ⟨⟨p,x,ts,some v⟩,rfl,hp,hts,hlt,by rw [Ybi c1];rfl,S5 pf _ ay.1.symm ay.2.symm e4,P5,S4.trans S5⟩⟩⟩
   rintro τ μ5 ⟨v,rfl,hp,hts,hlt,hcv,e5,P5,S5⟩
   refine Ac rfl (Ac (Au e5) (Ac (Md B) ⟨Ud v,Ra B,br (λc1=>?_) (λc1=>?_)⟩))
   ·have c1':((B.map A7).any λe=>PyData.eqv e (A7 v))=false:=by simpa using c1
    refine⟨Ac e5 trivial,Ac e5 ⟨Az (by rw [Yac];omega),bh _ _ ⟨_,_,B++[v],rfl,by rw [Ab,Yav];rfl,by rw [Yao];show B.length+1<=_;omega,?_,?_,?_,?_,P5.other ay.1 ay.2,S5.put cw⟩⟩⟩
    ·intro b hb
     rcases Yat.mp hb with hb | hb
     ·exact kB b hb
     ·rw [Yal.mp hb];exact⟨hts,hlt⟩
    ·intro b hb
     rcases Yat.mp hb with hb | hb
     ·exact pB b hb
     ·rw [Yal.mp hb];exact hp
    ·rw [Yav]
     refine Yed.mpr ⟨nB,Ycn.mpr ⟨by simp,Ydf⟩,λz hz z' mh e=>?_⟩
     have e':z'=A7 v:=by simpa using mh
     rw [e,e']at hz
     exact W6 c1' hz
    ·intro b hb
     rcases Yat.mp hb with hb | hb
     ·exact cB b hb
     ·rw [Yal.mp hb];exact hcv
   ·exact bh _ _ ⟨_,_,B,rfl,e5,by omega,kB,pB,nB,cB,P5,S5⟩
  ·rintro τ μ3 ⟨o5,o6,B,rfl,e3,hB,kB,pB,nB,cB,P3,S3⟩
   rw [aj]at hB
   exact hZ _ _ ⟨_,_,B,rfl,e3,by omega,kB,pB,nB,cB,P3,S3⟩
 ·rintro τ μ3 ⟨o5,o6,B,rfl,e3,hB,kB,pB,nB,cB,P3,S3⟩
  refine Ac e3 (Ac (Md B) ⟨Uc hB nB cB,λes p i6 _ hp=>?_⟩)
  obtain⟨A',rfl,hl',hA'⟩:=unmap (g:=A7) (B:=B) (es:=es) λe he=>i6.mem_iff.mp he
  have km:=i6.length_eq
  rw [Yac,Yac]at km
  refine Ac (Au Ab) (Ac (Bi _) ⟨_,Sub.refl,q A' _ (λb hb=>kB b (hA' b hb)) (λb hb=>pB b (hA' b hb)) (by omega) (P3.new hp) (S3.new hp)⟩)
end
section
variable {P:Program}{w:World}{K:PySem.W.Frag}{mg:Str->Option Value}{base:Heap}{f:Addr}{fd:FuncData}
theorem Rc{κ:Type} [DecidableEq κ](ae:List (κ×AV))(k:κ)(v:AV):(Dw ae k v).map (·.1)=if k∈ae.map (·.1) then ae.map (·.1) else ae.map (·.1)++[k]:=by
 unfold Dw
 by_cases h:k∈ae.map (·.1)
 ·obtain⟨z,hz,e⟩:=Yau.mp h
  rw [Yaj h,Yaj (Ybt.mpr ⟨z,hz,Ybi e⟩),Ya5]
  exact Ydd λz _=>by show(if z.1=k then(z.1,v) else z).1=_;split <;> rfl
 ·rw [Yah h,Yah,Yav]
  ·rfl
  ·intro q
   obtain⟨z,hz,e⟩:=Ybt.mp q
   exact h (Yau.mpr ⟨z,hz,Yaw e⟩)
def inK(n:Nat):Key:=.inl (n:Int)
theorem O7{s:Nat}{ps:List Nat}:inK s∈ps.map inK↔s∈ps:=by
 constructor
 ·intro h
  obtain⟨z,hz,e⟩:=Yau.mp h
  have:z=s:=by
   unfold inK at e
   have:=Sum.inl.inj e
   omega
  rw [<- this];exact hz
 ·exact λh=>Yau.mpr ⟨s,h,rfl⟩
def Fits(rs:List Nat)(x:Nat)(a:Arw)(s:Nat):Prop:=a.p=s/\a.x=x/\(a.ts.all λt=>rs.any λr=>decide (r=t))=true
abbrev nRw:List Str:=["arrows","reading","letter","above","arrow"]
theorem Qa7:FnScope nRw ["arrows","reading","letter"] (Ah sRw):=⟨rfl,rfl,rfl,by decide +kernel,rfl,by decide +kernel,by decide +kernel⟩
theorem Qd5:(["target","reading"]:List Str).Nodup:=by decide +kernel
def Kf(μ:M)(ab:Addr)(ps:List Nat):Prop:=∃ae,μ ab=some (.dk ae)/\ae.map (·.1)=ps.map inK/\ps.Nodup
def Qd6:ASp:=λxs μ R=>∃A rs x,xs=[.D (.tuple (A.map A7)),.D (Ai rs),.D (.int (x:Nat))]/\A.length<=20/\F0 A/\∀ab ps μ',Kf μ' ab ps->ps.length<=20->(∀s,s∈ps↔∃a∈A,Fits rs x a s)->Sub μ μ'->R (.R ab) μ'
theorem Qd7{n:Nat}(F:Fun K "reading_with" "reading_with" sRw f fd) (be:mg "all" = none):FnOk P w K mg base Ep (n+1) f fd ["arrows","reading","letter"] (G6 K 3 Qd6):=by
 refine F.vok Qa7 λaz A outer s H E hr=>⟨_,(Ae (Al (i:=3) Qa7.nd rfl (Or.inl rfl) Sy)
   (Ae (Ci Yba rfl (Ce (vv 0)) (Ar (i:=4) Qa7.nd rfl (Or.inl rfl)) (Ak (Cq (VW.pt (Jy (Be (Hx hr) (Bt Cg (vv 4) Af) (vv 2) (nomark _)) (Ge (Et (A8 (Sm rfl) rfl be Yel (Aa (Cd (N':=["target","reading"]) (mp:=[none,some 1]) rfl (Ce (Bt Cg (vv 4) Af)) (λ_ _ _ _=>(Ar (i:=0) Qd5 rfl (Or.inl rfl) (Or.inr rfl))) (λ_ _ _ _=>Bz) (λ_ _ _ _=>(G2 (P9 hr) (vv 0) (vv 1) (by with_unfolding_all rfl))) (A9 (N:=nRw) (pn:=(Ah sRw).names) (by decide +kernel))) Ad)))))) (Ak (Gh (Dz hr) (vv 3) (Bt Cg (vv 4) Af) Fv)) Bf)))
   (Ak (Ba (vv 3))))),?_⟩
 rintro xs μ R _ ⟨A,rs,x,rfl,hA,kA,q⟩
 intro ab d9
 refine Ay (fun τ μ'=>∃o4 ps,τ=[some (.D (.tuple (A.map A7))),some (.D (Ai rs)),some (.D (.int (x:Nat))),some (.R ab),o4]/\Kf μ' ab ps/\ps.length<=20/\(∀s,s∈ps↔∃a∈A,Fits rs x a s)/\Sub μ μ') (λZ hZ=>?_) ?_
 ·refine Ac (Eh A) ?_
  refine Dg (λi τ μ'=>∃o4 ps,τ=[some (.D (.tuple (A.map A7))),some (.D (Ai rs)),some (.D (.int (x:Nat))),some (.R ab),o4]/\Kf μ' ab ps/\ps.length<=i/\(∀s,s∈ps↔∃a∈A.take i,Fits rs x a s)/\Sub μ μ') ⟨none,[],rfl,⟨[],Ab,rfl,Ydf⟩,Yad _,(λs=>by simp),Sub.refl.new d9⟩ (λ_ _ _ _=>Eh A) ?_ ?_
  ·rintro i y τ μ1 Z2 hy ⟨o4,ps,rfl,⟨ae,ek,kk,nd⟩,hl,hm,S⟩ bh
   rw [List.getElem?_map]at hy
   obtain⟨a,ha,rfl⟩:=Yap.mp hy
   have hi:i < A.length:=(List.getElem?_eq_some_iff.mp ha).1
   have kA1:=kA a (Yaz ha)
   have fu:A.take (i+1)=A.take i++[a]:=by rw [Ycw,ha];rfl
   have ik:(∀s,¬Fits rs x a s)->∀s,s∈ps↔∃a∈A.take (i+1),Fits rs x a s:=λhn s=>by
    rw [hm s,fu]
    constructor
    ·rintro⟨b,hb,e⟩;exact⟨b,Ycs _ hb,e⟩
    ·rintro⟨b,hb,e⟩
     rcases Yat.mp hb with hb | hb
     ·exact⟨b,hb,e⟩
     ·rw [Yal.mp hb]at e;exact absurd e (hn s)
   refine Ac (Bn (j:=1) rfl) (ieq (λc=>?_) (λc=>My rfl (bh _ _ ⟨_,ps,rfl,⟨ae,ek,kk,nd⟩,by omega,ik λs h=>c (by rw [h.2.1]),S⟩)))
   refine Ac T7 (Ac (B1 a.ts) λpl hpl=>?_)
   have dq:ab≠pl:=by rintro rfl;rw [ek]at hpl;cases hpl
   refine cmap a.ts _ (λt=>.D (.bool (rs.any λr=>decide (r=t)))) (fun τ=>∃o,τ=[o,some (.D (Ai rs))]) ⟨none,rfl⟩ Ab (seven (by omega)) (λ_=>B1 a.ts) ?_ ?_
   ·rintro j t τ' af W hj ⟨o,rfl⟩ hW
    refine Ac rfl ⟨Dh _,Eg,?_⟩
    rw [L9]
    exact hW _ ⟨_,rfl⟩
   ·dsimp only [M3]
    refine Ta Ab (br (λc2=>?_) (λc2=>?_))
    ·have ek2:Ao (Ao μ1 pl (.lst [])) pl (.lst (a.ts.map λt=>.D (.bool (rs.any λr=>decide (r=t))))) ab=some (.dk ae):=by rw [Ag dq,Ag dq];exact ek
     have ql:ae.length<=1000:=by
      have:ae.length=ps.length:=by rw [<- Yac (f:=(·.1)) (as:=ae),kk,Yac]
      omega
     refine Ac (Bn (j:=0) rfl) (Ac ek2 (Ac (x:=MO.dk (Dw ae (inK a.p) (.D (.bool true)))) rfl ⟨Az ql,?_⟩))
     have fo:Sub μ (Ao (Ao (Ao μ1 pl (.lst [])) pl (.lst (a.ts.map λt=>.D (.bool (rs.any λr=>decide (r=t)))))) ab (.dk (Dw ae (inK a.p) (.D (.bool true))))):=λb m hb=>by
      have h1:=S b m hb
      have b1:b≠ab:=by rintro rfl;rw [d9]at hb;cases hb
      have b2:b≠pl:=by rintro rfl;rw [h1]at hpl;cases hpl
      rw [Ag b1,Ag b2,Ag b2];exact h1
     have iw:Fits rs x a a.p:=⟨rfl,by omega,c2⟩
     have c8:∀s,(s∈ps\/s=a.p)↔∃a∈A.take (i+1),Fits rs x a s:=λs=>by
      rw [hm s,fu]
      constructor
      ·rintro(⟨b,hb,e⟩ | rfl)
       ·exact⟨b,Ycs _ hb,e⟩
       ·exact⟨a,Ya2 _ (by simp),iw⟩
      ·rintro⟨b,hb,e⟩
       rcases Yat.mp hb with hb | hb
       ·exact .inl ⟨b,hb,e⟩
       ·rw [Yal.mp hb]at e;exact .inr e.1.symm
     have bo:=Rc ae (inK a.p) (.D (.bool true))
     rw [kk]at bo
     by_cases hp:a.p∈ps
     ·rw [Yaj (O7.mpr hp)]at bo
      refine bh _ _ ⟨_,ps,rfl,⟨_,Ab,bo,nd⟩,by omega,λs=>?_,fo⟩
      rw [<- c8 s]
      exact⟨.inl,λh=>h.elim id λe=>by rw [e];exact hp⟩
     ·rw [Yah (λz=>hp (O7.mp z))]at bo
      refine bh _ _ ⟨_,ps++[a.p],rfl,⟨_,Ab,by rw [bo,Yav];rfl,Yed.mpr ⟨nd,Ycn.mpr ⟨by simp,Ydf⟩,λz hz z' mh e=>?_⟩⟩,by rw [Yao];show ps.length+1<=_;omega,λs=>?_,fo⟩
      ·have e':z'=a.p:=by simpa using mh
       rw [e,e']at hz;exact hp hz
      ·rw [<- c8 s];simp
    ·refine bh _ _ ⟨_,ps,rfl,⟨ae,by rw [Ag dq,Ag dq];exact ek,kk,nd⟩,by omega,ik λs h=>?_,λb m hb=>?_⟩
     ·have h3:=h.2.2
      have c2':(a.ts.all λt=>rs.any λr=>decide (r=t))=false:=c2
      rw [c2']at h3;cases h3
     ·have h1:=S b m hb
      have b2:b≠pl:=by rintro rfl;rw [h1]at hpl;cases hpl
      rw [Ag b2,Ag b2];exact h1
  ·rintro τ μ1 ⟨o4,ps,rfl,hI,hl,hm,S⟩
   rw [Yac]at hl hm
   rw [Yds]at hm
   exact hZ _ _ ⟨_,ps,rfl,hI,by omega,hm,S⟩
 ·rintro τ μ1 ⟨o4,ps,rfl,hI,hl,hm,S⟩
  exact⟨_,Sub.refl,q ab ps _ hI hl hm S⟩
end
section
variable {P:Program}{w:World}{K:PySem.W.Frag}{mg:Str->Option Value}{base:Heap}{f:Addr}{fd:FuncData}
def Rise(ns:List Nat):Prop:=ns.Pairwise (· < ·)
def Qa8:ASp:=λxs μ R=>∃ns:List Nat,ns.length<=20/\(xs=[.D (Ai ns)]\/∃ab,xs=[.R ab]/\Kf μ ab ns)/\∀rs μ',Rise rs->(∀n,n∈rs↔n∈ns)->Sub μ μ'->R (.D (Ai rs)) μ'
abbrev nSw:List Str:=["arrows","stands","letter"]
theorem Qgt:FnScope nSw ["arrows","stands","letter"] (Ah sSw):=⟨rfl,rfl,rfl,by decide +kernel,rfl,by decide +kernel,by decide +kernel⟩
def Qd8:ASp:=λxs μ R=>∃A rs x,xs=[.D (.tuple (A.map A7)),.D (Ai rs),.D (.int (x:Nat))]/\A.length<=20/\F0 A/\∀jg μ',Rise jg->(∀s,s∈jg↔∃a∈A,Fits rs x a s)->Sub μ μ'->R (.D (Ai jg)) μ'
theorem Qd9{n:Nat}(F:Fun K "set_with" "set_with" sSw f fd) (uq:VCal P w K mg base n "as_set" ["stands"] Qa8) (cRw:VCal P w K mg base n "reading_with" ["arrows","reading","letter"] Qd6):FnOk P w K mg base Ep (n+1) f fd ["arrows","stands","letter"] (G6 K 3 Qd8):=by
 refine F.vok Qgt λaz A outer s H E hr=>⟨_,(Ak (Ba (Am uq hr rfl (Aa (Am cRw hr rfl (Aa (vv 0) (Aa (vv 1) (Aa (vv 2) Ad)))) Ad)))),?_⟩
 rintro xs μ R _ ⟨A,rs,x,rfl,hA,kA,q⟩
 refine⟨A,rs,x,rfl,hA,kA,λab ps μ1 hI hl hm S1=>⟨ps,hl,.inr ⟨ab,rfl,hI⟩,λjg μ2 hr ie S2=>⟨_,Sub.refl,q jg μ2 hr (λs=>(ie s).trans (hm s)) λb m hb=>S2 b m (S1 b m hb)⟩⟩⟩
theorem Kg{rs:List Nat}{t:Nat}:(rs.any λr=>decide (r=t))=true↔t∈rs:=by
 rw [Ybt]
 constructor
 ·rintro⟨r,hr,e⟩;rw [<- Yaw e];exact hr
 ·exact λh=>⟨t,h,Ybi rfl⟩
theorem Kh{A:List Arw}{ends w rs:List Nat}{x s:Nat}(h:∀t,t∈rs↔rd A ends w t=true):rd A ends (x :: w) s=true↔∃a∈A,Fits rs x a s:=by
 rw [rd,Ybt]
 have iu:∀a:Arw,(a.ts.all λt=>rs.any λr=>decide (r=t))=true↔(a.ts.all λt=>rd A ends w t)=true:=λa=>by
  rw [Yb9,Yb9]
  exact forall_congr' λt=>imp_congr_right λ_=>Kg.trans (h t)
 constructor
 ·rintro⟨ts,hts,e⟩
  obtain⟨a,ha,rfl⟩:=Yau.mp hts
  obtain⟨ha1,ow⟩:=Ycm.mp ha
  have ha3:=Yaw ow
  exact⟨a,ha1,ha3.1,ha3.2,(iu a).mpr e⟩
 ·rintro⟨a,ha,h1,h2,h3⟩
  exact⟨a.ts,Yau.mpr ⟨a,Ycm.mpr ⟨ha,Ybi ⟨h1,h2⟩⟩,rfl⟩,(iu a).mp h3⟩
abbrev nWh:List Str:=["_law_found"]
theorem Qgu:FnScope nWh ["_law_found"] (Ah sWh):=⟨rfl,rfl,rfl,by decide +kernel,rfl,by decide +kernel,by decide +kernel⟩
def W7:ASp:=λxs μ R=>∃i:Int,xs=[.D (.int i)]/\R (.D (.bool true)) μ
theorem Qgv:kit "int" "int" = true:=by decide
theorem Qgw:(!kit "int" "bool")=true:=by decide
theorem Qea{n:Nat}(F:Fun K "_law_whole" "_law_whole" sWh f fd) (al:mg "isinstance" = none) (dv:mg "int" = none) (eg:mg "bool" = none):FnOk P w K mg base Ep (n+1) f fd ["_law_found"] (G6 K 1 W7):=by
 refine F.vok Qgu λaz A outer s H E hr=>⟨_,(Ak (Ba (Zu (G5 rfl al rfl dv PyProof.Rows.boot_int Tb (vv 0)) (Zt (Zv (G5 rfl al rfl eg PyProof.Rows.boot_bool Qf (vv 0))))))),?_⟩
 rintro xs μ R _ ⟨i,rfl,q⟩
 refine Ac rfl (Vu Qgv (Ac rfl ⟨μ,Sub.refl,?_⟩))
 rw [Qgw];exact q
end
section
variable {P:Program}{w:World}{K:PySem.W.Frag}{mg:Str->Option Value}{base:Heap}{f:Addr}{fd:FuncData}
abbrev nAs:List Str:=["stands"]
theorem Qgx:FnScope nAs ["stands"] (Ah sAs):=⟨rfl,rfl,rfl,by decide +kernel,rfl,by decide +kernel,by decide +kernel⟩
theorem Ue{ns:List Nat}{ms:List Int}(h:∀n,n∈ms↔n∈ns.map (λ(n:Nat)=>(n:Int)))(hr:ms.Pairwise (· < ·)):∃rs:List Nat,ms=rs.map (λ(n:Nat)=>(n:Int))/\Rise rs/\∀n,n∈rs↔n∈ns:=by
 have hn:∀m∈ms,(m.toNat:Int)=m:=λm hm=>by
  obtain⟨n,_,rfl⟩:=Yau.mp ((h m).mp hm)
  simp
 have e:ms=(ms.map Int.toNat).map (λ(n:Nat)=>(n:Int)):=by
  rw [Ya5]
  conv=>lhs;rw [<- List.map_id ms]
  exact Ydd λm hm=>(hn m hm).symm
 refine⟨ms.map Int.toNat,e,?_,λn=>?_⟩
 ·unfold Rise
  rw [Ycy]
  refine Ydw (λ{a b} ha hb d9=>?_) hr
  have:=hn a ha
  have:=hn b hb
  omega
 ·constructor
  ·intro hm
   obtain⟨m,ie,rfl⟩:=Yau.mp hm
   obtain⟨n,hn,rfl⟩:=Yau.mp ((h m).mp ie)
   simpa using hn
  ·intro hm
   exact Yau.mpr ⟨(n:Int),(h n).mpr (Yau.mpr ⟨n,hm,rfl⟩),by simp⟩
theorem Fr:∀(rs:List Nat),dats ((rs.map (λ(n:Nat)=>(n:Int))).map λn=>AV.D (.int n))=some (rs.map λ(n:Nat)=>PyData.int n)
 | []=>rfl
 | n :: rs=>by
  have:=Fr rs
  simp only [List.map_cons,dats,this]
theorem Jg(μ:M)(l:Addr)(ys:List AV):items (Ao μ l (.lst ys)) (.R l)=some ys:=by simp only [items,Ab]
theorem Qeb{n:Nat}(F:Fun K "as_set" "as_set" sAs f fd) (ak:mg "tuple" = none) (bd:mg "sorted" = none) (gy:mg "set" = none):FnOk P w K mg base Ep (n+1) f fd ["stands"] (G6 K 1 Qa8):=by
 refine F.vok Qgx λaz A outer s H E hr=>⟨_,(Ak (Ba (Cb Dq rfl ak Ybl (Aa (Wp rfl rfl bd rfl gy (vv 0)) Ad)))),?_⟩
 rintro xs μ R _ ⟨ns,hl,hx,q⟩
 have km:(ns.map λ(n:Nat)=>(n:Int)).length < 60:=by simp;omega
 have ar:∀(l:Addr) (ms:List Int),μ l=none->ms.Pairwise (· < ·)->(∀n,n∈ms↔n∈ns.map (λ(n:Nat)=>(n:Int)))->∃rs:List Nat,ms=rs.map (λ(n:Nat)=>(n:Int))/\R (.D (Ai rs)) (Ao μ l (.lst (ms.map λn=>.D (.int n)))):=λl ms hl hr hm=>by
  obtain⟨rs,e,hr',hm'⟩:=Ue hm hr
  exact⟨rs,e,q rs _ hr' hm' (Sub.refl.new hl)⟩
 rcases hx with rfl | ⟨ab,rfl,ae,ek,kk,nd⟩
 ·refine⟨ns.map λ(n:Nat)=>(n:Int),km,.inl ?_,λl ms hl hr hm=>?_⟩
  ·unfold Ai
   rw [Ya5];rfl
  ·obtain⟨rs,rfl,q'⟩:=ar l ms hl hr hm
   exact Ac (Jg _ _ _) (Ac (Fr rs) ⟨_,Sub.refl,q'⟩)
 ·refine⟨ns.map λ(n:Nat)=>(n:Int),km,.inr ⟨ab,ae,rfl,ek,?_⟩,λl ms hl hr hm=>?_⟩
  ·rw [kk,Ya5];rfl
  ·obtain⟨rs,rfl,q'⟩:=ar l ms hl hr hm
   exact Ac (Jg _ _ _) (Ac (Fr rs) ⟨_,Sub.refl,q'⟩)
end
section
variable {P:Program}{w:World}{K:PySem.W.Frag}{mg:Str->Option Value}{base:Heap}{f:Addr}{fd:FuncData}
theorem Fh:∀{xs ys:List Nat},Rise xs->Rise ys->(∀n,n∈xs↔n∈ys)->xs=ys
 | [],[],_,_,_=>rfl
 | [],y :: ys,_,_,h=>absurd ((h y).mpr Yas) (by simp)
 | x :: xs,[],_,_,h=>absurd ((h x).mp Yas) (by simp)
 | x :: xs,y :: ys,hx,hy,h=>by
  obtain⟨hx1,mj⟩:=Ycr.mp hx
  obtain⟨hy1,hy2⟩:=Ycr.mp hy
  have e:x=y:=by
   rcases Ya1.mp ((h x).mp Yas) with e | e
   ·exact e
   ·rcases Ya1.mp ((h y).mpr Yas) with e2 | e2
    ·exact e2.symm
    ·have:=hy1 x e
     have:=hx1 y e2
     omega
  subst e
  rw [Fh mj hy2 λn=>?_]
  constructor
  ·intro hn
   rcases Ya1.mp ((h n).mp (Yam _ hn)) with e | e
   ·have:=hx1 n hn;omega
   ·exact e
  ·intro hn
   rcases Ya1.mp ((h n).mpr (Yam _ hn)) with e | e
   ·have:=hy1 n hn;omega
   ·exact e
theorem Rise.nodup{xs:List Nat}(h:Rise xs):xs.Nodup:=h.imp λh=>Yan h
theorem Qec{A:List Arw}{ends:List Nat}{st:Nat}(hA:∀a∈A,a.p < st)(he:∀e∈ends,e < st):∀{w:List Nat} {s:Nat},rd A ends w s=true->s < st
 | [],s,h=>he s (Kg.mp h)
 | x :: w,s,h=>by
  rw [rd,Ybt]at h
  obtain⟨ts,hts,_⟩:=h
  obtain⟨a,ha,rfl⟩:=Yau.mp hts
  obtain⟨ha1,ow⟩:=Ycm.mp ha
  have:=hA a ha1
  have e:=(Yaw ow).1
  omega
theorem Hl:∀(rs:List Nat),PyData.canLayAll0 (rs.map λ_=>PyData.bool true)=true/\PyData.depthAll (rs.map λ_=>PyData.bool true)<=1/\((rs.map λ_=>PyData.bool true).any λe=>PyData.eqv e (.bool false))=false
 | []=>⟨rfl,by simp [PyData.depthAll],rfl⟩
 | r :: rs=>by
  obtain⟨h1,h2,h3⟩:=Hl rs
  refine⟨?_,?_,?_⟩
  ·simp only [List.map_cons,PyData.canLayAll0,h1,Bool.and_true];rfl
  ·simp only [List.map_cons,PyData.depthAll,PyData.depth];omega
  ·simp only [List.map_cons,List.any_cons,h3,Bool.or_false];rfl
theorem Qed:(!kit "tuple" "tuple")=false:=by decide
theorem Ki:∀(n:Nat) (lo:Nat),Cy (lo:Int) n=(List.range' lo n).map Di
 | 0,_=>rfl
 | n+1,lo=>by
  rw [Cy,List.range'_succ,Ybm]
  have:=Ki n (lo+1)
  rw [<- this];rfl
abbrev nRi:List Str:=["_law_found"]
theorem Qgz:FnScope nRi ["_law_found"] (Ah X9):=⟨rfl,rfl,rfl,by decide +kernel,rfl,by decide +kernel,by decide +kernel⟩
theorem Qee:(["_law_one"]:List Str).Nodup:=by decide +kernel
theorem Qef:(["_law_k","_law_found"]:List Str).Nodup:=by decide +kernel
def Qa9:ASp:=λxs μ R=>∃rs:List Nat,xs=[.D (Ai rs)]/\rs.length<=20/\Rise rs/\∀ μ',Sub μ μ'->R (.D (.bool true)) μ'
theorem Qeg{n:Nat}(F:Fun K "_law_is_rising" "_law_is_rising" X9 f fd) (qm:VCal P w K mg base n "_law_whole" ["_law_found"] W7) (al:mg "isinstance" = none) (ak:mg "tuple" = none) (be:mg "all" = none) (ag:mg "range" = none) (ao:mg "len" = none):FnOk P w K mg base Ep (n+1) f fd ["_law_found"] (G6 K 1 Qa9):=by
 refine F.vok Qgz λaz A outer s H E hr=>⟨_,(Ae (Cq (VW.pt (K7 (G3 (Et (G5 rfl al rfl ak Ybl G9 (vv 0)))) (Jx (Be (P9 hr) Fv (Cd (N':=["_law_one"]) (mp:=[none]) rfl (Ce (vv 0)) (λ_ _ _ _=>(Ar (i:=0) Qee rfl (Or.inl rfl) (Or.inr rfl))) (λ_ _ _ _=>Bz) (λ_ _ _ _=>(Am qm hr rfl (Aa (vv 0) Ad))) (A9 (N:=nRi) (pn:=(Ah X9).names) (by decide +kernel))) (by with_unfolding_all rfl))))) (Ak (Ba Fv)) Bf)
   (Ak (Ba (A8 (Sm rfl) rfl be Yel (Aa (Cd (N':=["_law_k","_law_found"]) (mp:=[none,some 0]) rfl (Bc rfl ag (Aa (A4 Xo (A8 Dd rfl ao Yb4 (Aa (vv 0) Ad)) Af) Ad)) (λ_ _ _ _=>(Ar (i:=0) Qef rfl (Or.inl rfl) (Or.inr rfl))) (λ_ _ _ _=>Bz) (λ_ _ _ _=>(G2 Vy (Bt Cg (vv 1) (vv 0)) (Bt Cg (vv 1) (A4 Bx (vv 0) Af)) (nomark _))) (A9 (N:=nRi) (pn:=(Ah X9).names) (by decide +kernel))) Ad))))),?_⟩
 rintro xs μ R _ ⟨rs,rfl,hl,hr,q⟩
 refine Ay (fun τ μ'=>τ=[some (.D (Ai rs))]/\Sub μ μ') (λZ hZ=>?_) ?_
 ·refine Ac rfl (My Qed (Ac (B1 rs) λpl hpl=>?_))
  refine cmap rs _ (λ_=>.D (.bool true)) (fun τ=>∃o,τ=[o]) ⟨none,rfl⟩ Ab (seven (by omega)) (λ_=>B1 rs) ?_ ?_
  ·rintro i x τ' af W hi ⟨o,rfl⟩ hW
   exact⟨_,rfl,hW _ ⟨_,rfl⟩⟩
  ·obtain⟨t1,t2,t3⟩:=Hl rs
   have hd:dats (rs.map λ_=>AV.D (.bool true))=some (rs.map λ_=>.bool true):=by
    rw [show(rs.map λ_=>AV.D (.bool true))=(rs.map λ_=>PyData.bool true).map .D by rw [Ya5];rfl];exact Bi _
   refine Ac rfl (Ac (Au Ab) (Ac hd ⟨Iw _,⟨by simp only [PyData.canLay0];exact t1,by simp only [PyData.depth];omega⟩,My t3 (hZ _ _ ⟨rfl,(Sub.refl.new hpl).new hpl⟩)⟩))
 ·rintro τ μ1 ⟨rfl,S1⟩
  have aj:((rs.map λ(n:Nat)=>PyData.int n).length:Int)=rs.length:=by rw [Yac]
  refine⟨by rw [aj];omega,by rw [aj];omega,λpl hpl=>?_⟩
  have hn:(((rs.map λ(n:Nat)=>PyData.int n).length:Int) - 1).toNat=rs.length - 1:=by rw [aj];omega
  dsimp only
  rw [hn]
  have uy:Cy 0 (rs.length - 1)=(List.range' 0 (rs.length - 1)).map Di:=Ki _ 0
  rw [uy]
  refine cmap (List.range' 0 (rs.length - 1)) Di (λ_=>.D (.bool true)) (fun τ=>∃o,τ=[o,some (.D (Ai rs))]) ⟨none,rfl⟩ Ab (seven (by rw [Yd6];omega)) (λ_=>trivial) ?_ ?_
  ·rintro i x τ' af W hi ⟨o,rfl⟩ hW
   have hx:x < rs.length - 1:=by
    have:=List.mem_range'.mp (Yaz hi)
    omega
   have h1:(rs.map λ(n:Nat)=>PyData.int n)[x]?=some (.int (rs[x]'(by omega):Nat)):=by rw [List.getElem?_map,List.getElem?_eq_getElem (by omega)];rfl
   have h2:(rs.map λ(n:Nat)=>PyData.int n)[x+1]?=some (.int (rs[x+1]'(by omega):Nat)):=by rw [List.getElem?_map,List.getElem?_eq_getElem (by omega)];rfl
   refine Ac (Bn (j:=x) h1) (Ac (Bn (j:=x+1) h2) ?_)
   have hlt:rs[x]'(by omega) < rs[x+1]'(by omega):=Yb7.mp hr x (x+1) (by omega) (by omega) (by omega)
   have hw:=hW [some (Di x),some (.D (Ai rs))] ⟨_,rfl⟩
   have e:(true:Bool)=decide (((rs[x]'(by omega):Nat):Int) < ((rs[x+1]'(by omega):Nat):Int)):=(Ybi (by omega)).symm
   rw [e]at hw
   exact hw
  ·dsimp only [M3]
   refine Ta (g:=λ_=>true) Ab ⟨_,Sub.refl,?_⟩
   have e:((List.range' 0 (rs.length - 1)).all λ_=>true)=true:=by simp
   rw [e]
   exact q _ λb m hb=>((Sub.refl.new hpl).new hpl) b m (S1 b m hb)
end
section
variable {P:Program}{w:World}{K:PySem.W.Frag}{mg:Str->Option Value}{base:Heap}{f:Addr}{fd:FuncData}
def Cm(z:Str):AV:=.D (.str z)
theorem O8{z:Str}(h:lets z):PyData.canLay0 (.str z)=true:=by
 show PyData.strOk z=true
 unfold PyData.strOk
 rw [Array.all_eq_true]
 intro i hi
 have:=h z.cps[i] (by simp)
 simp
 omega
theorem Jh{z:Str}(h:lets z):Bq (.str z):=Sx (O8 h)
theorem Hm(zs:List Str):dats (zs.map Cm)=some (zs.map PyData.str):=by
 rw [show zs.map Cm=(zs.map PyData.str).map .D by rw [Ya5];rfl];exact Bi _
theorem Me:∀(zs:List Str),txts (zs.map Cm)=some zs
 | []=>rfl
 | z :: zs=>by simp only [List.map_cons,Cm,txts,Option.map_eq_some_iff];exact⟨zs,Me zs,rfl⟩
theorem W8:∀i:Fin 26,∃c,("abcdefghijklmnopqrstuvwxyz" : Str).cps.toList[i.val]?=some c/\97<=c/\c<=122:=by decide +kernel
theorem Qba{v:Nat}(h:v < 26):∃c,atI ("abcdefghijklmnopqrstuvwxyz" : Str).cps.toList (v:Int)=some c/\97<=c/\c<=122:=by
 obtain⟨c,e,h1⟩:=W8 ⟨v,h⟩
 exact⟨c,Bn e,h1⟩
theorem Mf{c:Nat}(h:97<=c/\c<=122):lets ⟨#[c]⟩:=λd hd=>by
 have:d=c:=by simpa using hd
 rw [this];exact h
theorem Qbb:("abcdefghijklmnopqrstuvwxyz" : Str).length<=sizeLine:=by decide +kernel
theorem Uf:("" : Str).length=0:=by decide +kernel
theorem Kj(x y:Str):(x++y).length=x.length+y.length:=by rw [J9,J9,J9,O3,Yao]
theorem Mg:∀{zs:List Str},(∀z∈zs,z.length=1)->(zs.map (·.length)).sum=zs.length
 | [],_=>rfl
 | z :: zs,h=>by
  simp only [List.map_cons,List.sum_cons,List.length_cons]
  rw [h z Yas,Mg λy hy=>h y (Yam _ hy)];omega
theorem Re(zs:List Str):(Txt.join "" zs).length=(zs.map (·.length)).sum:=by
 show(PySem.Builtin.Str.glued "" zs).length=_
 rw [StrLaws.glued_eq_join]
 induction zs with
 | nil=>rfl
 | cons x zs ih =>
  cases zs with
  | nil=>simp [Str.join]
  | cons y zs =>
   have e:Str.join "" (x :: y :: zs)=x ++ "" ++ Str.join "" (y :: zs):=rfl
   rw [e,Kj,Kj,Uf,ih]
   simp
theorem Qbc:lets "q" := λc h=>by rw [Qdr,Yal]at h;omega
abbrev Ug:List Str:=["place","letter","rule","own","arrow","ends","one","other"]
theorem Rf:Bq (.tuple (Ug.map PyData.str)):=⟨by decide +kernel,by decide +kernel⟩
theorem Uh{x:AV}{i:Nat}{u:AS}{k:ASt->M->Prop}{r:AV->M->Prop}{b c:ASt->M->Prop}{τ:ASt}{μ:M}(h:u k r b c (τ.set i (some x)) μ):So (M8 (vC x) (Fx i)) u k r b c τ μ:=h
abbrev Qbd:List Str:=["plac","places","lette","rules","owns","arro","end","ones","o","others"]
theorem W9:∀i:Fin 10,∃z,Qbd[i.val]?=some z/\(z.cps.toList.all λc=>decide (97<=c/\c<=122))=true/\z.length<=6:=by decide +kernel
theorem Qbe{v:Nat}(h:v < 10):∃z,atI (Qbd.map Cm) (v:Int)=some (Cm z)/\lets z/\z.length<=6:=by
 obtain⟨z,e,h1,h2⟩:=W9 ⟨v,h⟩
 exact⟨z,Bn (by rw [List.getElem?_map,e];rfl),λc hc=>Yaw (Yb9.mp h1 c hc),h2⟩
theorem Qeh:∀w∈Ug,((Txt.slice w none (some 5)).cps.toList.all λc=>decide (97<=c/\c<=122))=true/\(Txt.slice w none (some 5)).length<=5:=by decide +kernel
abbrev nNm:List Str:=["_law_pot_here","_law_letters","_law_name_here"]
theorem Ui:FnScope nNm ["_law_pot_here"] (Ah sNm):=⟨rfl,rfl,rfl,by decide +kernel,rfl,by decide +kernel,by decide +kernel⟩
theorem Qei:(["_law_k","_law_letters","_law_pot_here"]:List Str).Nodup:=by decide +kernel
def Qej:ASp:=λxs μ R=>∃(a l:Addr),xs=[.R a]/\Pot μ a l/\∀(z:Str) μ',lets z->z.length<=6->Pot μ' a l->A5 a l μ μ'->R (Cm z) μ'
theorem Qek{n:Nat}(F:Fun K "_law_name" "_law_name" sNm f fd) (bx:VCal P w K mg base n "_law_draw" ["_law_pot_here","_law_many"] Mb) (ag:mg "range" = none):FnOk P w K mg base Ep (n+1) f fd ["_law_pot_here"] (G6 K 1 Qej):=by
 refine F.vok Ui λaz A outer s H E hr=>⟨_,(@Ae _ _ _ _ _ (@Al _ _ _ _ 1 _ _ Ui.nd rfl (Or.inr rfl) Bg (by rfl) (by first | exact .inl rfl | exact .inr rfl | assumption)) (@Ae _ _ _ _ _ (@Al _ _ _ _ 2 _ _ Ui.nd rfl (Or.inl rfl) (@Qg4 _ _ _ _ _ _ _ _ _ _ _ PySem.F.slot_str_join PySem.F.type_str_join Qal Bg (@Aa _ _ _ _ _ (Cd (N':=["_law_k","_law_letters","_law_pot_here"]) (mp:=[none,some 1,some 0]) rfl (Bc rfl ag (@Aa _ _ _ _ _ (@A4 _ _ _ _ _ _ _ _ Bx Af (@Am _ _ _ _ _ _ _ _ _ _ bx hr rfl (@Aa _ _ _ _ _ (vv 0) (@Aa _ _ _ _ _ Af Ad (by rfl)) (by rfl)) (by rfl) (by decide) (by rfl) (by rfl))) Ad (by rfl))) (λ_ _ _ _=>(Ar (i:=0) Qei rfl (Or.inl rfl) (Or.inr rfl))) (λ_ _ _ _=>Bz) (λ_ _ _ _=>(@Bt _ _ _ _ _ _ _ Cg (vv 1) (@Am _ _ _ _ _ _ _ _ _ _ bx hr rfl (@Aa _ _ _ _ _ (vv 2) (@Aa _ _ _ _ _ Af Ad (by rfl)) (by rfl)) (by rfl) (by decide) (by rfl) (by rfl)) (by intro _ _;rfl))) (A9 (N:=nNm) (pn:=(Ah sNm).names) (by decide +kernel))) Ad (by rfl)) (by rfl) (by rfl) (by rfl) (by rfl) (by rfl)) (by rfl) (by first | exact .inl rfl | exact .inr rfl | assumption)) (@Ae _ _ _ _ _ (@Cq _ _ _ _ _ _ _ _ (@Be _ _ _ _ _ _ _ _ (Hx hr) (@Am _ _ _ _ _ _ _ _ _ _ bx hr rfl (@Aa _ _ _ _ _ (vv 0) (@Aa _ _ _ _ _ Af Ad (by rfl)) (by rfl)) (by rfl) (by decide) (by rfl) (by rfl)) Af (nomark _)) (@Ak _ _ _ (@Al _ _ _ _ 2 _ _ Ui.nd rfl (Or.inl rfl) (@Bt _ _ _ _ _ _ _ Cg (@B9 _ _ _ _ (@Aa _ _ _ _ _ Bg (@Aa _ _ _ _ _ Bg (@Aa _ _ _ _ _ Bg (@Aa _ _ _ _ _ Bg (@Aa _ _ _ _ _ Bg (@Aa _ _ _ _ _ Bg (@Aa _ _ _ _ _ Bg (@Aa _ _ _ _ _ Bg (@Aa _ _ _ _ _ Bg (@Aa _ _ _ _ _ Bg Ad (by rfl)) (by rfl)) (by rfl)) (by rfl)) (by rfl)) (by rfl)) (by rfl)) (by rfl)) (by rfl)) (by rfl)) (by decide)) (@Am _ _ _ _ _ _ _ _ _ _ bx hr rfl (@Aa _ _ _ _ _ (vv 0) (@Aa _ _ _ _ _ Af Ad (by rfl)) (by rfl)) (by rfl) (by decide) (by rfl) (by rfl)) (by intro _ _;rfl)) (by rfl) (by first | exact .inl rfl | exact .inr rfl | assumption))) Bf) (@Ae _ _ _ _ _ (@Cq _ _ _ _ _ _ _ _ (@Be _ _ _ _ _ _ _ _ (P9 hr) (vv 2) (Bp (@Aa _ _ _ _ _ Bg (@Aa _ _ _ _ _ Bg (@Aa _ _ _ _ _ Bg (@Aa _ _ _ _ _ Bg (@Aa _ _ _ _ _ Bg (@Aa _ _ _ _ _ Bg (@Aa _ _ _ _ _ Bg (@Aa _ _ _ _ _ Bg Ad (by rfl)) (by rfl)) (by rfl)) (by rfl)) (by rfl)) (by rfl)) (by rfl)) (by rfl))) (by with_unfolding_all rfl)) (@Ak _ _ _ (@Al _ _ _ _ 2 _ _ Ui.nd rfl (Or.inl rfl) (@A4 _ _ _ _ _ _ _ _ Bx (@Dc _ _ _ _ _ _ _ _ _ (vv 2) Ee (@Dp _ _ _ Af)) Bg) (by rfl) (by first | exact .inl rfl | exact .inr rfl | assumption))) Bf) (@Ak _ _ _ (@Ba _ _ _ _ (vv 2))))))),?_⟩
 rintro xs μ R _ ⟨a,l,rfl,hP,q⟩
 refine Uh (Ay (fun τ μ'=>∃z:Str,τ=[some (.R a),some (Cm "abcdefghijklmnopqrstuvwxyz"),some (Cm z)]/\lets z/\z.length<=6/\Pot μ' a l/\A5 a l μ μ') (λZ hZ=>?_) ?_)
 ·refine⟨trivial,a,l,6,rfl,hP,by decide,by decide,λc μ1 hc P1 S1=>⟨by omega,by omega,λpl hpl=>?_⟩⟩
  have ay:=P1.ne hpl
  have aj:(Cy 0 (1+(c:Int)).toNat).length=1+c:=by rw [A6];omega
  refine Eu (λj af τ μ'=>∃(o:Option AV) (zs:List Str),τ=[o,some (Cm "abcdefghijklmnopqrstuvwxyz"),some (.R a)]/\af=zs.map Cm/\zs.length=j/\(∀z∈zs,lets z/\z.length=1)/\μ' pl=some (.lst af)/\Pot μ' a l/\A5 a l μ1 μ') ⟨none,[],rfl,rfl,rfl,(λ_ z=>nomatch z),Ab,P1.new hpl,A5.refl.new hpl⟩ (λ_ _ _ _ _=>trivial) ?_ ?_
  ·rintro j x af τ μ2 Z2 hx ⟨o,zs,rfl,rfl,hn,hb,e2,P2,S2⟩ bh
   refine Vu rfl ⟨a,l,26,rfl,P2,by decide,by decide,λv μ3 hv P3 S3=>?_⟩
   have e3:=S3 pl _ ay.1.symm ay.2.symm e2
   obtain⟨ch,ec,di⟩:=Qba hv
   have hj:j < 1+c:=by rw [<- aj];exact(List.getElem?_eq_some_iff.mp hx).1
   refine⟨Qbb,Ac ec ⟨e3,Az (by rw [Yac];omega),bh _ _ _ ⟨_,zs++[⟨#[ch]⟩],rfl,by rw [Yav];rfl,by rw [Yao,hn];rfl,λz hz=>?_,Ab,P3.other ay.1 ay.2,(S2.trans S3).put hpl⟩⟩⟩
   rcases Yat.mp hz with h | h
   ·exact hb z h
   ·rw [Yal.mp h];exact⟨Mf di,rfl⟩
  ·rintro af τ μ2 ⟨o,zs,rfl,rfl,hn,hb,e2,P2,S2⟩
   rw [aj]at hn
   have om:=Mg λz hz=>(hb z hz).2
   refine Ac e2 (Ac (Me zs) ⟨?_,hZ _ _ ⟨Txt.join "" zs,rfl,Qu λz hz=>(hb z hz).1,?_,P2,S1.trans S2⟩⟩)
   ·rw [om,Uf];omega
   ·rw [Re,om];omega
 rintro τ μ1 ⟨z,rfl,lz,hz,P1,S1⟩
 refine Ay (fun τ μ'=>∃z:Str,τ=[some (.R a),some (Cm "abcdefghijklmnopqrstuvwxyz"),some (Cm z)]/\lets z/\z.length<=6/\Pot μ' a l/\A5 a l μ μ') (λZ hZ=>?_) ?_
 ·refine⟨a,l,6,rfl,P1,by decide,by decide,λv μ2 hv P2 S2=>ieq (λc=>?_) (λc=>hZ _ _ ⟨z,rfl,lz,hz,P2,S1.trans S2⟩)⟩
  intro pt fb
  have i9:=P2.ne fb
  refine⟨a,l,10,rfl,P2.new fb,by decide,by decide,λu μ3 hu P3 S3=>?_⟩
  obtain⟨y,ey,ly,hy⟩:=Qbe hu
  exact Ac (x:=MO.lst (Qbd.map Cm)) (S3 pt _ i9.1.symm i9.2.symm Ab) (Ac ey (hZ _ _ ⟨y,rfl,ly,hy,P3,(S1.trans S2).trans ((A5.refl.new fb).trans S3)⟩))
 clear lz hz P1 S1
 rintro τ μ2 ⟨z,rfl,lz,hz,P2,S2⟩
 refine Ay (fun τ μ'=>∃z:Str,τ=[some (.R a),some (Cm "abcdefghijklmnopqrstuvwxyz"),some (Cm z)]/\lets z/\z.length<=6/\μ2=μ') (λZ hZ=>?_) ?_
 ·refine Ac rfl ⟨Jh lz,Rf,br (λc=>?_) (λc=>hZ _ _ ⟨z,rfl,lz,hz,rfl⟩)⟩
  have hzs:z.length<=sizeLine:=Yaq hz (by decide)
  have h5:∃y:Str,Txt.slice z none (some 5)=y/\lets y/\y.length<=5:=by
   obtain⟨e,he,e2⟩:=Ybt.mp c
   obtain⟨w,hw,rfl⟩:=Yau.mp (show e∈Ug.map PyData.str from he)
   rw [J3]at e2
   rw [<- Yaw e2]
   obtain⟨h1,h2⟩:=Qeh w hw
   exact⟨_,rfl,λc hc=>Yaw (Yb9.mp h1 c hc),h2⟩
  obtain⟨y,ey,ly,hy⟩:=h5
  refine⟨hzs,?_⟩
  rw [ey]
  refine⟨Yaq (show y.length+1<=10 by omega) (by decide),hZ _ _ ⟨y ++ "q",rfl,Hj ly Qbc,by rw [Kj];exact Nat.succ_le_succ hy,rfl⟩⟩
 clear lz hz
 rintro τ _ ⟨z,rfl,lz,hz,rfl⟩
 exact⟨_,Sub.refl,q z _ lz hz P2 S2⟩
theorem Xa:∀i:Fin 26,("zyxwvutsrqponmlkjihgfedcba" : Str).cps.toList[i.val]?=some (122 - i.val):=by decide +kernel
theorem Qbf{v:Nat}(h:v < 26):atI ("zyxwvutsrqponmlkjihgfedcba" : Str).cps.toList (v:Int)=some (122 - v):=Bn (Xa ⟨v,h⟩)
theorem Qbg:("zyxwvutsrqponmlkjihgfedcba" : Str).length<=sizeLine:=by decide +kernel
def zS(j:Nat):Str:=⟨#[122 - j]⟩
theorem Qbh{i j:Nat}(hi:i < 26)(hj:j < 26)(h:zS i=zS j):i=j:=by
 have h:(#[122 - i]:Array Nat)=#[122 - j]:=Ydn Str.cps h
 simp at h
 omega
theorem Xb{j:Nat}(h:j < 26):lets (zS j):=Mf ⟨by omega,by omega⟩
theorem Uj(zs:List Str)(z:Str):((zs.map PyData.str).any λe=>PyData.eqv e (.str z))=true↔z∈zs:=by
 rw [Ybt]
 constructor
 ·rintro⟨e,he,h⟩
  obtain⟨y,hy,rfl⟩:=Yau.mp he
  rw [J3]at h
  rw [<- Yaw h];exact hy
 ·exact λh=>⟨_,Yau.mpr ⟨z,h,rfl⟩,by rw [J3];exact Ybi rfl⟩
theorem O9:∀{zs:List Str},(∀z∈zs,lets z)->PyData.canLayAll0 (zs.map PyData.str)=true/\PyData.depthAll (zs.map PyData.str)<=1
 | [],_=>⟨rfl,by simp [PyData.depthAll]⟩
 | z :: zs,h=>by
  obtain⟨a,b⟩:=O9 λy hy=>h y (.tail _ hy)
  have:=O8 (h z (.head _))
  refine⟨?_,?_⟩
  ·simp only [List.map_cons,PyData.canLayAll0,this,a,Bool.and_self]
  ·simp only [List.map_cons,PyData.depthAll,PyData.depth];omega
theorem Rg{zs:List Str}(h:∀z∈zs,lets z):Bq (.tuple (zs.map PyData.str)):=by
 obtain⟨a,b⟩:=O9 h
 exact⟨by simp only [PyData.canLay0];exact a,by simp only [PyData.depth];omega⟩
abbrev nNa:List Str:=["_law_pot_here","_law_many","_law_letters","_law_found","_law_k","_law_name_here","_law_spare"]
theorem Mh:FnScope nNa ["_law_pot_here","_law_many"] (Ah sNa):=⟨rfl,rfl,rfl,by decide +kernel,rfl,by decide +kernel,by decide +kernel⟩
def Qel:ASp:=λxs μ R=>∃(a l:Addr) (au:Nat),xs=[.R a,.D (.int au)]/\au<=3/\Pot μ a l/\∀(zs:List Str) (p:Addr) μ',zs.length=au->μ p=none->μ' p=some (.lst (zs.map Cm))->Pot μ' a l->A5 a l μ μ'->R (.R p) μ'
theorem Qem{n:Nat}(F:Fun K "_law_names" "_law_names" sNa f fd) (cNm:VCal P w K mg base n "_law_name" ["_law_pot_here"] Qej) (ag:mg "range" = none):FnOk P w K mg base Ep (n+1) f fd ["_law_pot_here","_law_many"] (G6 K 2 Qel):=by
 refine F.vok Mh λaz A outer s H E hr=>⟨_,(Ae (Al (i:=2) Mh.nd rfl (Or.inl rfl) Bg)
   (Ae (Al (i:=3) Mh.nd rfl (Or.inl rfl) (B9 Ad))
   (Ae (Ci Yba rfl (Bc rfl ag (Aa (vv 1) Ad)) (Ar (i:=4) Mh.nd rfl (Or.inl rfl)) (Ae (Al (i:=5) Mh.nd rfl (Or.inl rfl) (Am cNm hr rfl (Aa (vv 0) Ad)))
   (Ae (Al (i:=6) Mh.nd rfl (Or.inl rfl) Af)
   (Ae (E9 Yba (Be (P9 hr) (vv 5) (vv 3) (by with_unfolding_all rfl)) (Ae (Al (i:=5) Mh.nd rfl (Or.inl rfl) (A4 G4 (Bt Cg (vv 2) (A4 Fw (vv 6) Af)) (A4 Bx Af (A4 M4 (vv 6) Af))))
   (Ak (Al (i:=6) Mh.nd rfl (Or.inl rfl) (A4 Bx (vv 6) Af)))))
   (Ak (Cs (D5 Ybx Yby Cw (vv 3) (Aa (vv 5) Ad))))))))
   (Ak (Ba (vv 3)))))),?_⟩
 rintro xs μ R _ ⟨a,l,au,rfl,hm,hP,q⟩
 refine Uh ?_
 intro pf cw
 have ay:=hP.ne cw
 refine Ay (fun τ μ'=>∃o4 o5 o6,∃zs:List Str,τ=[some (.R a),some (.D (.int au)),some (Cm "zyxwvutsrqponmlkjihgfedcba"),some (.R pf),o4,o5,o6]/\zs.length=au/\μ' pf=some (.lst (zs.map Cm))/\Pot μ' a l/\A5 a l μ μ') (λZ hZ=>?_) ?_
 ·refine⟨by omega,by omega,?_⟩
  have aj:(Cy 0 (au:Int).toNat).length=au:=by rw [A6];omega
  refine Dg (λi τ μ'=>∃o4 o5 o6,∃zs:List Str,τ=[some (.R a),some (.D (.int au)),some (Cm "zyxwvutsrqponmlkjihgfedcba"),some (.R pf),o4,o5,o6]/\zs.length=i/\(∀z∈zs,lets z/\z.length<=6)/\μ' pf=some (.lst (zs.map Cm))/\Pot μ' a l/\A5 a l μ μ') ⟨none,none,none,[],rfl,rfl,(λ_ z=>nomatch z),Ab,hP.new cw,A5.refl.new cw⟩ (λ_ _ _ _=>trivial) ?_ ?_
  ·rintro i y τ μ1 Z2 hy ⟨o4,o5,o6,zs,rfl,hn,hz,e1,P1,S1⟩ bh
   have hi:i < au:=by rw [<- aj];exact(List.getElem?_eq_some_iff.mp hy).1
   refine Co ⟨a,l,rfl,P1,λnm μ2 lnm hnm P2 S2=>?_⟩
   have e2:=S2 pf _ ay.1.symm ay.2.symm e1
   have S12:=S1.trans S2
   refine Uh (Ay (fun τ μ'=>∃o6,∃nm:Str,τ=[some (.R a),some (.D (.int au)),some (Cm "zyxwvutsrqponmlkjihgfedcba"),some (.R pf),some y,some (Cm nm),o6]/\lets nm/\nm.length<=6/\μ2=μ') (λZ3 dj=>?_) ?_)
   ·refine Gg (λm τ μ'=>∃sp:Nat,∃nm:Str,τ=[some (.R a),some (.D (.int au)),some (Cm "zyxwvutsrqponmlkjihgfedcba"),some (.R pf),some y,some (Cm nm),some (.D (.int (sp:Nat)))]/\lets nm/\nm.length<=6/\m+sp=10/\(∀j,j < sp->nm∈zs->zS j∈zs)/\sp<=4/\μ2=μ') 10 ⟨0,nm,rfl,lnm,hnm,rfl,(λj h=>absurd h (Yd3 _)),Ya4 _,rfl⟩ ?_
    rintro m τ _ W ⟨sp,nm,rfl,lnm,hnm,hmm,ck,fw,rfl⟩ hW
    refine Ac rfl (Ac (Au e2) (Ac (Hm zs) ⟨Jh lnm,Rg λz h=>(hz z h).1,br (λc=>?_) (λc=>dj _ _ ⟨_,nm,rfl,lnm,hnm,rfl⟩)⟩))
    have c8:=(Uj zs nm).mp c
    have zaf:sp<=zs.length:=by
     have tm:((List.range sp).map zS).Nodup:=by
      unfold List.Nodup
      rw [Ycy]
      exact Ydw (λ{i j} hi hj ay e=>ay (Qbh (by have:=Ybh.mp hi;omega) (by have:=Ybh.mp hj;omega) e)) List.nodup_range
     have:=Fe tm (ys:=zs) λx hx=>by
      obtain⟨j,hj,rfl⟩:=Yau.mp hx
      exact ck j (Ybh.mp hj) c8
     rwa [Yac,Yee]at this
    have e26:((sp:Int) % 26)=(sp:Nat):=Int.emod_eq_of_lt (by omega) (by omega)
    have d26:((sp:Int) / 26)=0:=Int.ediv_eq_zero_of_lt (by omega) (by omega)
    have ec:atI ("zyxwvutsrqponmlkjihgfedcba" : Str).cps.toList ((sp:Int) % 26)=some (122 - sp):=by rw [e26];exact Qbf (by omega)
    have e1':(1+(sp:Int) / 26)=1:=by rw [d26];rfl
    refine Ay (fun τ μ'=>τ=[some (.R a),some (.D (.int au)),some (Cm "zyxwvutsrqponmlkjihgfedcba"),some (.R pf),some y,some (Cm (zS sp)),some (.D (.int (sp:Nat)))]/\μ2=μ') (λZ4 jk=>⟨(show(0:Int) < 26 by decide),Qbg,Ac ec ⟨⟨by omega,by omega⟩,.inr e1',jk _ _ ⟨?_,rfl⟩⟩⟩) ?_
    ·rw [Yah (by rw [e1'];decide)];rfl
    rintro τ _ ⟨rfl,rfl⟩
    refine hW (m - 1) _ _ (by omega) ⟨sp+1,zS sp,rfl,Xb (by omega),by show 1<=6;decide,by omega,λj hj mh=>?_,by omega,rfl⟩
    rcases Yco j sp with h | h
    ·exact ck j h c8
    ·rw [show j=sp by omega];exact mh
   clear lnm hnm
   rintro τ _ ⟨o6,nm,rfl,lnm,hnm,rfl⟩
   refine⟨Ac e2 trivial,Ac e2 ⟨Az (by rw [Yac];omega),bh _ _ ⟨_,_,_,zs++[nm],rfl,by rw [Yao,hn];rfl,λz h=>?_,by rw [Ab,Yav];rfl,P2.other ay.1 ay.2,S12.put cw⟩⟩⟩
   rcases Yat.mp h with h | h
   ·exact hz z h
   ·rw [Yal.mp h];exact⟨lnm,hnm⟩
  ·rintro τ μ1 ⟨o4,o5,o6,zs,rfl,hn,hz,e1,P1,S1⟩
   rw [aj]at hn
   exact hZ _ _ ⟨_,_,_,zs,rfl,hn,e1,P1,S1⟩
 rintro τ μ1 ⟨o4,o5,o6,zs,rfl,hn,e1,P1,S1⟩
 exact⟨_,Sub.refl,q zs pf _ hn cw e1 P1 S1⟩
end
section
variable {P:Program}{w:World}{K:PySem.W.Frag}{mg:Str->Option Value}{base:Heap}{f:Addr}{fd:FuncData}
structure Rq where
 p:Nat
 x:Nat
 q:Nat
 w:List Nat
def Xc(r:Rq):PyData:=.tuple [.int (r.p:Nat),.int (r.x:Nat),.int (r.q:Nat),Ai r.w]
def Mm(r:Rq):AV:=.D (Xc r)
theorem Uk:∀(B:List Rq),PyData.canLayAll0 (B.map Xc)=true/\PyData.depthAll (B.map Xc)<=4
 | []=>⟨rfl,by simp [PyData.depthAll]⟩
 | r :: B=>by
  obtain⟨a,b⟩:=Uk B
  have h:=Dt (ns:=r.w)
  refine⟨?_,?_⟩
  ·simp only [List.map_cons,Xc,Ai,PyData.canLayAll0,PyData.canLay0,h.1,a,Bool.and_true]
  ·simp only [List.map_cons,Xc,Ai,PyData.depthAll,PyData.depth];omega
theorem Xd(r:Rq):Bq (Xc r):=by
 obtain⟨a,b⟩:=Uk [r]
 simp only [List.map_cons,List.map_nil,PyData.canLayAll0,PyData.depthAll,Bool.and_true]at a b
 exact⟨a,by omega⟩
theorem Ul(B:List Rq):Bq (.tuple (B.map Xc)):=by
 obtain⟨a,b⟩:=Uk B
 exact⟨by simp only [PyData.canLay0];exact a,by simp only [PyData.depth];omega⟩
theorem Pa(B:List Rq):dats (B.map Mm)=some (B.map Xc):=by
 rw [show B.map Mm=(B.map Xc).map .D by rw [Ya5];rfl];exact Bi _
abbrev nRu:List Str:=["_law_pot_here","_law_places","_law_letters","_law_pushes","_law_wide","_law_many","_law_w"]
theorem Um:FnScope nRu ["_law_pot_here","_law_places","_law_letters","_law_pushes"] (Ah sRu):=⟨rfl,rfl,rfl,by decide +kernel,rfl,by decide +kernel,by decide +kernel⟩
theorem Qen:(["_law_k","_law_pot_here","_law_letters"]:List Str).Nodup:=by decide +kernel
def Qeo:ASp:=λxs μ R=>∃(a l:Addr) (np nl:Nat) (pu:Int),xs=[.R a,.D (.int np),.D (.int nl),.D (.int pu)]/\0 < np/\np<=3/\0 < nl/\nl<=3/\Pot μ a l/\∀(r:Rq) μ',r.p < np->Pot μ' a l->A5 a l μ μ'->R (Mm r) μ'
theorem Qep{n:Nat}(F:Fun K "_law_rule" "_law_rule" sRu f fd) (bx:VCal P w K mg base n "_law_draw" ["_law_pot_here","_law_many"] Mb) (ak:mg "tuple" = none) (ag:mg "range" = none):FnOk P w K mg base Ep (n+1) f fd ["_law_pot_here","_law_places","_law_letters","_law_pushes"] (G6 K 4 Qeo):=by
 refine F.vok Um λaz A outer s H E hr=>⟨_,(Ae (Al (i:=4) Um.nd rfl (Or.inl rfl) (Bt Cg (B9 (Aa Af (Aa Af (Aa Af (Aa Af Ad))))) (Am bx hr rfl (Aa (vv 0) (Aa Af Ad)))))
   (Ae (Al (i:=5) Um.nd rfl (Or.inl rfl) (Bt Cg (B9 (Aa Af (Aa Af (Aa Af (Aa Af Ad))))) (Am bx hr rfl (Aa (vv 0) (Aa (vv 4) Ad)))))
   (Ae (Cq (VW.pt (Jy (Be (Hx hr) (vv 5) Af (nomark _)) (Ge (Be Vy (vv 3) Af (nomark _))))) (Ak (Al (i:=5) Um.nd rfl (Or.inl rfl) Af)) Bf)
   (Ae (Al (i:=6) Um.nd rfl (Or.inl rfl) (Cb Dq rfl ak Ybl (Aa (Cd (N':=["_law_k","_law_pot_here","_law_letters"]) (mp:=[none,some 0,some 2]) rfl (Bc rfl ag (Aa (vv 5) Ad)) (λ_ _ _ _=>(Ar (i:=0) Qen rfl (Or.inl rfl) (Or.inr rfl))) (λ_ _ _ _=>Bz) (λ_ _ _ _=>(Am bx hr rfl (Aa (vv 1) (Aa (vv 2) Ad)))) (A9 (N:=nRu) (pn:=(Ah sRu).names) (by decide +kernel))) Ad)))
   (Ak (Ba (Bp (Aa (Am bx hr rfl (Aa (vv 0) (Aa (vv 1) Ad))) (Aa (Am bx hr rfl (Aa (vv 0) (Aa (vv 2) Ad))) (Aa (Am bx hr rfl (Aa (vv 0) (Aa (vv 1) Ad))) (Aa (vv 6) Ad))))))))))),?_⟩
 rintro xs μ R _ ⟨a,l,np,nl,pu,rfl,hp0,fg,gh,kh,hP,q⟩
 refine Ay (fun τ μ'=>∃wd:Nat,τ=[some (.R a),some (.D (.int np)),some (.D (.int nl)),some (.D (.int pu)),some (.D (.int (wd:Nat))),none,none]/\0 < wd/\wd<=4/\Pot μ' a l/\A5 a l μ μ') (λZ hZ=>?_) ?_
 ·intro pt fb
  have i9:=hP.ne fb
  refine⟨a,l,4,rfl,hP.new fb,by decide,by decide,λc μ1 hc P1 S1=>?_⟩
  obtain⟨m,h0,h4,hix⟩:∃m:Nat,0 < m/\m<=4/\atI [AV.D (.int 3),.D (.int 3),.D (.int 4),.D (.int 2)] (c:Int)=some (.D (.int (m:Nat))):=by
   match c,hc with
   | 0,_=>exact⟨3,by decide,by decide,rfl⟩
   | 1,_=>exact⟨3,by decide,by decide,rfl⟩
   | 2,_=>exact⟨4,by decide,by decide,rfl⟩
   | 3,_=>exact⟨2,by decide,by decide,rfl⟩
  exact Ac (S1 pt _ i9.1.symm i9.2.symm Ab) (Ac hix (hZ _ _ ⟨m,rfl,h0,h4,P1,(A5.refl.new fb).trans S1⟩))
 rintro τ μ1 ⟨wd,rfl,w0,w4,P1,S1⟩
 refine Ay (fun τ μ'=>∃mn:Nat,τ=[some (.R a),some (.D (.int np)),some (.D (.int nl)),some (.D (.int pu)),some (.D (.int (wd:Nat))),some (.D (.int (mn:Nat))),none]/\mn<=2/\Pot μ' a l/\A5 a l μ μ') (λZ hZ=>?_) ?_
 ·intro pt fb
  have i9:=P1.ne fb
  refine⟨a,l,wd,rfl,P1.new fb,w0,by omega,λc μ2 hc P2 S2=>?_⟩
  obtain⟨m,h2,hix⟩:∃m:Nat,m<=2/\atI [AV.D (.int 0),.D (.int 1),.D (.int 2),.D (.int 2)] (c:Int)=some (.D (.int (m:Nat))):=by
   match c,(show c < 4 by omega) with
   | 0,_=>exact⟨0,by decide,rfl⟩
   | 1,_=>exact⟨1,by decide,rfl⟩
   | 2,_=>exact⟨2,by decide,rfl⟩
   | 3,_=>exact⟨2,by decide,rfl⟩
  exact Ac (S2 pt _ i9.1.symm i9.2.symm Ab) (Ac hix (hZ _ _ ⟨m,rfl,h2,P2,S1.trans ((A5.refl.new fb).trans S2)⟩))
 rintro τ μ2 ⟨mn,rfl,m2,P2,S2⟩
 refine Ay (fun τ μ'=>∃mn:Nat,τ=[some (.R a),some (.D (.int np)),some (.D (.int nl)),some (.D (.int pu)),some (.D (.int (wd:Nat))),some (.D (.int (mn:Nat))),none]/\mn<=2/\μ2=μ') (λZ hZ=>?_) ?_
 ·exact ieq (λc=>dif (λc2=>hZ _ _ ⟨1,rfl,by decide,rfl⟩) (λc2=>hZ _ _ ⟨mn,rfl,m2,rfl⟩)) (λc=>My rfl (hZ _ _ ⟨mn,rfl,m2,rfl⟩))
 clear m2
 rintro τ _ ⟨mn,rfl,m2,rfl⟩
 refine Ay (fun τ μ'=>∃w:List Nat,τ=[some (.R a),some (.D (.int np)),some (.D (.int nl)),some (.D (.int pu)),some (.D (.int (wd:Nat))),some (.D (.int (mn:Nat))),some (.D (Ai w))]/\Pot μ' a l/\A5 a l μ μ') (λZ hZ=>?_) ?_
 ·refine⟨by omega,by omega,λpl hpl=>?_⟩
  have gu:=P2.ne hpl
  have aj:(Cy 0 (mn:Int).toNat).length=mn:=by rw [A6];omega
  refine Eu (λj af τ' μ'=>∃o,∃ws:List Nat,τ'=[o,some (.R a),some (.D (.int nl))]/\af=ws.map Di/\ws.length=j/\μ' pl=some (.lst af)/\Pot μ' a l/\A5 a l μ2 μ') ⟨none,[],rfl,rfl,rfl,Ab,P2.new hpl,A5.refl.new hpl⟩ (λ_ _ _ _ _=>trivial) ?_ ?_
  ·rintro j x af τ' μ3 W hx ⟨o,ws,rfl,rfl,hn,e3,P3,S3⟩ hW
   have hj:j < mn:=by rw [<- aj];exact(List.getElem?_eq_some_iff.mp hx).1
   refine Vu rfl ⟨a,l,nl,rfl,P3,gh,by omega,λv μ4 hv P4 S4=>⟨S4 pl _ gu.1.symm gu.2.symm e3,Az (by rw [Yac];omega),hW _ _ _ ⟨_,ws++[v],rfl,by rw [Yav];rfl,by rw [Yao,hn];rfl,Ab,P4.other gu.1 gu.2,(S3.trans S4).put hpl⟩⟩⟩
  ·rintro af τ' μ3 ⟨o,ws,rfl,rfl,hn,e3,P3,S3⟩
   exact Ac (Au e3) (Ac (Ff _) (hZ _ _ ⟨ws,rfl,P3,S2.trans S3⟩))
 rintro τ μ3 ⟨w,rfl,P3,S3⟩
 exact⟨a,l,np,rfl,P3,hp0,by omega,λp μ4 hp P4 S4=>⟨a,l,nl,rfl,P4,gh,by omega,λx μ5 hx P5 S5=>⟨a,l,np,rfl,P5,hp0,by omega,λy μ6 hy P6 S6=>⟨_,Sub.refl,q ⟨p,x,y,w⟩ _ hp P6 (S3.trans (S4.trans (S5.trans S6)))⟩⟩⟩⟩
abbrev nGa:List Str:=["_law_pot_here","_law_most","_law_k","_law_hands","_law_letters","_law_rules","_law_pushes","_law_one","_law_here","_law_places"]
theorem Ia:FnScope nGa ["_law_pot_here","_law_most"] (Ah X7):=⟨rfl,rfl,rfl,by decide +kernel,rfl,by decide +kernel,by decide +kernel⟩
theorem Qeq:(["_law_k","_law_pot_here"]:List Str).Nodup:=by decide +kernel
theorem Qer:(["_law_rule_here","_law_one"]:List Str).Nodup:=by decide +kernel
def Qbi:ASp:=λxs μ R=>∃(a l:Addr),xs=[.R a,.D (.int 3)]/\Pot μ a l/\∀(ps ls rs:List PyData) μ',0 < ps.length->ps.length<=3->0 < ls.length->ls.length<=3->Pot μ' a l->A5 a l μ μ'->R (.D (.tuple [.tuple ps,.tuple ls,.tuple rs])) μ'
theorem Qes{n:Nat}(F:Fun K "_law_game" "_law_game" X7 f fd) (bx:VCal P w K mg base n "_law_draw" ["_law_pot_here","_law_many"] Mb) (cNa:VCal P w K mg base n "_law_names" ["_law_pot_here","_law_many"] Qel) (cRu:VCal P w K mg base n "_law_rule" ["_law_pot_here","_law_places","_law_letters","_law_pushes"] Qeo) (ag:mg "range" = none) (ao:mg "len" = none) (dv:mg "int" = none) (ak:mg "tuple" = none) (gq:mg "zip" = none):FnOk P w K mg base Ep (n+1) f fd ["_law_pot_here","_law_most"] (G6 K 2 Qbi):=by
 refine F.vok Ia λaz A outer s H E hr=>⟨_,(Ae (J2 (i:=3) (N':=["_law_k","_law_pot_here"]) (mp:=[none,some 0]) rfl Ia.nd rfl rfl (Bc rfl ag (Aa (A4 Bx Af (Am bx hr rfl (Aa (vv 0) (Aa Af Ad)))) Ad)) (λ_ _ _ _=>(Ar (i:=0) Qeq rfl (Or.inl rfl) (Or.inr rfl))) (λ_ _ _ _=>Bz) (λ_ _ _ _=>(Am bx hr rfl (Aa (vv 1) (Aa Af Ad)))) (A9 (N:=nGa) (pn:=(Ah X7).names) (by decide +kernel)))
   (Ae (Al (i:=4) Ia.nd rfl (Or.inl rfl) (A4 Bx Af (Am bx hr rfl (Aa (vv 0) (Aa Af Ad)))))
   (Ae (Al (i:=5) Ia.nd rfl (Or.inl rfl) (B9 Ad))
   (Ae (Al (i:=6) Ia.nd rfl (Or.inl rfl) Af)
   (Ae (Ci Yba rfl (Bc rfl ag (Aa (Am bx hr rfl (Aa (vv 0) (Aa (A4 Bx (vv 1) Af) Ad))) Ad)) (Ar (i:=2) Ia.nd rfl (Or.inl rfl)) (Ae (Al (i:=7) Ia.nd rfl (Or.inr rfl) (Am cRu hr rfl (Aa (vv 0) (Aa (A8 Dd rfl ao Yb4 (Aa (vv 3) Ad)) (Aa (vv 4) (Aa (vv 6) Ad))))))
   (Ae (J2 (i:=8) (N':=["_law_rule_here","_law_one"]) (mp:=[none,some 7]) rfl Ia.nd rfl rfl (Ce (vv 5)) (λ_ _ _ _=>(Ar (i:=0) Qer rfl (Or.inl rfl) (Or.inr rfl))) (λ_ _ _ _=>(G7 (Be (Hx hr) (Dc (vv 0) Ee (Dp Af)) (Dc (vv 1) Ee (Dp Af)) (nomark _)))) (λ_ _ _ _=>(vv 0)) (A9 (N:=nGa) (pn:=(Ah X7).names) (by decide +kernel)))
   (Ak (Cq (VW.pt (Jy (Be (Gf hr) (vv 7) (vv 5) (by with_unfolding_all rfl)) (Ge (VW.pt (K7 (Be (Hx hr) (Bt Cg (vv 3) (Bt Cg (vv 7) Af)) Af (nomark _)) (Jx (Be Vy (A8 Dd rfl ao Yb4 (Aa (vv 8) Ad)) Af (nomark _)))))))) (Ae (Cs (D5 Ybx Yby Cw (vv 5) (Aa (vv 7) Ad)))
   (Ak (Al (i:=6) Ia.nd rfl (Or.inl rfl) (A4 Xo (vv 6) (Cb Qdq rfl dv PyProof.Rows.boot_int (Aa (G2 (Hx hr) (A8 Dd rfl ao Yb4 (Aa (Bt Cg (vv 7) Af) Ad)) Af (nomark _)) Ad)))))) Bf)))))
   (Ae (Al (i:=9) Ia.nd rfl (Or.inl rfl) (T4 rfl rfl ak rfl gq (Am cNa hr rfl (Aa (vv 0) (Aa (A8 Dd rfl ao Yb4 (Aa (vv 3) Ad)) Ad))) (vv 3)))
   (Ak (Ba (Bp (Aa (vv 9) (Aa (Cb Dq rfl ak Ybl (Aa (Am cNa hr rfl (Aa (vv 0) (Aa (vv 4) Ad))) Ad)) (Aa (Cb Dq rfl ak Ybl (Aa (vv 5) Ad)) Ad)))))))))))),?_⟩
 rintro xs μ R _ ⟨a,l,rfl,hP,q⟩
 refine Ay (fun τ μ'=>∃(ph:Addr) (hs:List Nat),τ=[some (.R a),some (.D (.int 3)),none,some (.R ph),none,none,none,none,none,none]/\0 < hs.length/\hs.length<=3/\ph≠a/\ph≠l/\μ' ph=some (.lst (hs.map Di))/\Pot μ' a l/\A5 a l μ μ') (λZ hZ=>?_) ?_
 ·refine⟨a,l,3,rfl,hP,by decide,by decide,λc μ1 hc P1 S1=>⟨by omega,by omega,λpl hpl=>?_⟩⟩
  have gu:=P1.ne hpl
  have aj:(Cy 0 (1+(c:Int)).toNat).length=1+c:=by rw [A6];omega
  refine Eu (λj af τ' μ'=>∃o,∃ws:List Nat,τ'=[o,some (.R a)]/\af=ws.map Di/\ws.length=j/\μ' pl=some (.lst af)/\Pot μ' a l/\A5 a l μ1 μ') ⟨none,[],rfl,rfl,rfl,Ab,P1.new hpl,A5.refl.new hpl⟩ (λ_ _ _ _ _=>trivial) ?_ ?_
  ·rintro j x af τ' μ3 W hx ⟨o,ws,rfl,rfl,hn,e3,P3,S3⟩ hW
   have hj:j < 1+c:=by rw [<- aj];exact(List.getElem?_eq_some_iff.mp hx).1
   refine Vu rfl ⟨a,l,2,rfl,P3,by decide,by decide,λv μ4 hv P4 S4=>⟨S4 pl _ gu.1.symm gu.2.symm e3,Az (by rw [Yac];omega),hW _ _ _ ⟨_,ws++[v],rfl,by rw [Yav];rfl,by rw [Yao,hn];rfl,Ab,P4.other gu.1 gu.2,(S3.trans S4).put hpl⟩⟩⟩
  ·rintro af τ' μ3 ⟨o,ws,rfl,rfl,hn,e3,P3,S3⟩
   rw [aj]at hn
   exact hZ _ _ ⟨pl,ws,rfl,by omega,by omega,gu.1.symm,gu.2.symm,e3,P3,S1.trans S3⟩
 rintro τ μ1 ⟨ph,hs,rfl,hh0,hh3,ha,hl,e1,P1,S1⟩
 refine Ay (fun τ μ'=>∃nl:Nat,τ=[some (.R a),some (.D (.int 3)),none,some (.R ph),some (.D (.int (nl:Nat))),none,none,none,none,none]/\0 < nl/\nl<=3/\μ' ph=some (.lst (hs.map Di))/\Pot μ' a l/\A5 a l μ μ') (λZ hZ=>⟨a,l,3,rfl,P1,by decide,by decide,λv μ2 hv P2 S2=>hZ _ _ ⟨1+v,rfl,by omega,by omega,S2 ph _ ha hl e1,P2,S1.trans S2⟩⟩) ?_
 rintro τ μ2 ⟨nl,rfl,gh,kh,e2,P2,S2⟩
 intro pr kq
 have gn:=P2.ne kq
 have hhr:ph≠pr:=by rintro rfl;rw [e2]at kq;cases kq
 have hr0:μ pr=none:=S2.none gn.1 gn.2 kq
 refine Uh (Ay (fun τ μ'=>∃o2 o6 o7 o8,∃B:List Rq,τ=[some (.R a),some (.D (.int 3)),o2,some (.R ph),some (.D (.int (nl:Nat))),some (.R pr),o6,o7,o8,none]/\B.length<=3/\μ' pr=some (.lst (B.map Mm))/\μ' ph=some (.lst (hs.map Di))/\Pot μ' a l/\A5 a l μ μ') (λZ hZ=>?_) ?_)
 ·refine⟨a,l,4,rfl,P2.new kq,by decide,by decide,λc μ3 hc P3 S3=>⟨by omega,by omega,?_⟩⟩
  have aj:(Cy 0 (c:Int).toNat).length=c:=by rw [A6];omega
  have e3:=S3 ph _ ha hl (by rw [Ag hhr];exact e2)
  have r3:=S3 pr _ gn.1.symm gn.2.symm Ab
  refine Dg (λi τ μ'=>∃o2 o7 o8,∃(pu:Int) (B:List Rq),τ=[some (.R a),some (.D (.int 3)),o2,some (.R ph),some (.D (.int (nl:Nat))),some (.R pr),some (.D (.int pu)),o7,o8,none]/\B.length<=i/\μ' pr=some (.lst (B.map Mm))/\μ' ph=some (.lst (hs.map Di))/\Pot μ' a l/\A5 a l μ μ') ⟨none,none,none,2,[],rfl,Yad _,r3,e3,P3,S2.trans ((A5.refl.new kq).trans S3)⟩ (λ_ _ _ _=>trivial) ?_ ?_
  ·rintro i y τ μ4 Z2 hy ⟨o2,o7,o8,pu,B,rfl,hB,r4,e4,P4,S4⟩ bh
   have hi:i < c:=by rw [<- aj];exact(List.getElem?_eq_some_iff.mp hy).1
   refine Ay (fun τ μ'=>∃r:Rq,τ=[some (.R a),some (.D (.int 3)),some y,some (.R ph),some (.D (.int (nl:Nat))),some (.R pr),some (.D (.int pu)),some (Mm r),o8,none]/\r.p < hs.length/\μ' pr=some (.lst (B.map Mm))/\μ' ph=some (.lst (hs.map Di))/\Pot μ' a l/\A5 a l μ μ') (λZ3 dj=>?_) ?_
   ·refine Ac e4 ?_
    refine⟨a,l,hs.length,nl,pu,by rw [Yac],hh0,hh3,gh,kh,P4,λr μ5 hr P5 S5=>dj _ _ ⟨r,rfl,hr,S5 pr _ gn.1.symm gn.2.symm r4,S5 ph _ ha hl e4,P5,S4.trans S5⟩⟩
   rintro τ μ5 ⟨r,rfl,hr,r5,e5,P5,S5⟩
   refine Ay (fun τ μ'=>∃(p8:Addr) (B8:List Rq),τ=[some (.R a),some (.D (.int 3)),some y,some (.R ph),some (.D (.int (nl:Nat))),some (.R pr),some (.D (.int pu)),some (Mm r),some (.R p8),none]/\μ' p8=some (.lst (B8.map Mm))/\μ' pr=some (.lst (B.map Mm))/\μ' ph=some (.lst (hs.map Di))/\Pot μ' a l/\A5 a l μ μ') (λZ3 dj=>?_) ?_
   ·refine Ac (Au r5) λp8 jx=>?_
    have h8r:pr≠p8:=by rintro rfl;rw [r5]at jx;cases jx
    have h8h:ph≠p8:=by rintro rfl;rw [e5]at jx;cases jx
    have hn8:=P5.ne jx
    refine cmapf B Mm (λu=>PyData.eqv (.tuple [.int (u.p:Nat),.int (u.x:Nat)]) (.tuple [.int (r.p:Nat),.int (r.x:Nat)])) Mm (fun τ=>∃o,τ=[o,some (Mm r)]) ⟨none,rfl⟩ Ab (seven (by omega)) (λaf=>Au (by rw [Bu,Ag h8r];exact r5)) ?_ ?_
    ·rintro k u τ' af W1 W2 hu ⟨o,rfl⟩ w1 w2
     have ko:∀x y:Nat,Bq (.tuple [.int (x:Nat),.int (y:Nat)]):=λx y=>⟨rfl,by simp [PyData.depth,PyData.depthAll]⟩
     exact⟨ko u.p u.x,ko r.p r.x,br (λc=>w1 c _ ⟨_,rfl⟩) (λc=>w2 c _ ⟨_,rfl⟩)⟩
    ·rw [Bu]
     exact dj _ _ ⟨p8,_,rfl,Ab,by rw [Ag h8r];exact r5,by rw [Ag h8h];exact e5,P5.new jx,S5.new jx⟩
   rintro τ μ6 ⟨p8,B8,rfl,e8,r6,e6,P6,S6⟩
   have nxt:∀o8,Z2 [some (.R a),some (.D (.int 3)),some y,some (.R ph),some (.D (.int (nl:Nat))),some (.R pr),some (.D (.int pu)),some (Mm r),o8,none] μ6:=λo8=>bh _ _ ⟨_,_,_,pu,B,rfl,by omega,r6,e6,P6,S6⟩
   obtain⟨hd,ehd⟩:∃hd,hs[r.p]?=some hd:=⟨_,List.getElem?_eq_getElem hr⟩
   have eh:atI (hs.map Di) ((r.p:Nat):Int)=some (Di hd):=Bn (by rw [List.getElem?_map,ehd];rfl)
   have ar:So (Xq (vBL J0 (Mz 5) (N9 (Mz 7) M3))) (M8 (Xn Qcy (Mz 6) (vCB Qdp (N9 (Xn aEq (vCB V2 (N9 (Xn aIx (Mz 7) (vC (AV.D (.int 3)))) M3)) (vC (AV.D (.int 2)))) M3))) (Fx 6)) Z2 (aRt R) Z Z2 [some (.R a),some (.D (.int 3)),some y,some (.R ph),some (.D (.int (nl:Nat))),some (.R pr),some (.D (.int pu)),some (Mm r),some (.R p8),none] μ6:=by
    refine Co ⟨Ac r6 trivial,Ac r6 ⟨Az (by rw [Yac];omega),Ac (x:=Ai r.w) rfl ⟨Dh _,Dh _,?_⟩⟩⟩
    exact bh _ _ ⟨_,_,_,_,B++[r],rfl,by rw [Yao];show B.length+1<=_;omega,by rw [Ab,Yav];rfl,by rw [Ag hhr];exact e6,P6.other gn.1 gn.2,S6.put hr0⟩
   refine Ac rfl (Ac (Au r6) (Ac (Pa B) ⟨Xd r,Ul B,br (λc=>?_) (λc=>My rfl (nxt _))⟩))
   exact Ac (x:=PyData.int (r.p:Nat)) rfl (Ac e6 (Ac eh (ieq (λc2=>Vu rfl ar) (λc2=>Ac e8 (dif (λ_=>ar) (λ_=>nxt _))))))
  ·rintro τ μ4 ⟨o2,o7,o8,pu,B,rfl,hB,r4,e4,P4,S4⟩
   rw [aj]at hB
   exact hZ _ _ ⟨_,_,_,_,B,rfl,by omega,r4,e4,P4,S4⟩
 rintro τ μ3 ⟨o2,o6,o7,o8,B,rfl,hB,r3,e3,P3,S3⟩
 refine Ay (fun τ μ'=>∃ps:List PyData,τ=[some (.R a),some (.D (.int 3)),o2,some (.R ph),some (.D (.int (nl:Nat))),some (.R pr),o6,o7,o8,some (.D (.tuple ps))]/\ps.length=hs.length/\μ' pr=some (.lst (B.map Mm))/\Pot μ' a l/\A5 a l μ μ') (λZ hZ=>?_) ?_
 ·refine Ac e3 ⟨a,l,hs.length,by rw [Yac],hh3,P3,λzs p μ4 hzl hp e4 P4 S4=>?_⟩
  refine Ac (Au e4) (Ac (Au (S4 ph _ ha hl e3)) (Ac (Hm zs) (Ac (Ff hs) ⟨⟨by rw [Yac,Yac];exact hzl,by rw [Yac];omega⟩,hZ _ _ ⟨_,rfl,by rw [List.length_zipWith,Yac,Yac];omega,S4 pr _ gn.1.symm gn.2.symm r3,P4,S3.trans S4⟩⟩)))
 rintro τ μ4 ⟨ps,rfl,vg,r4,P4,S4⟩
 refine⟨a,l,nl,rfl,kh,P4,λzs p μ5 hzl hp e5 P5 S5=>Ac (Au e5) (Ac (Hm zs) (Ac (Au (S5 pr _ gn.1.symm gn.2.symm r4)) (Ac (Pa B) ⟨_,Sub.refl,q ps _ _ _ (by omega) (by omega) (by rw [Yac];omega) (by rw [Yac];omega) P5 (S4.trans S5)⟩)))⟩
end
section
variable {P:Program}{w:World}{K:PySem.W.Frag}{mg:Str->Option Value}{base:Heap}{f:Addr}{fd:FuncData}
def Dj(A:List Arw)(ends:List Nat)(st:Nat)(W:List Nat):List Nat:=(List.range st).filter λs=>rd A ends W s
abbrev Bl:=List (List Nat×List Nat)
section
variable(A:List Arw)(ends:List Nat)(st le:Nat)
def bst(p:List Nat)(L:Bl)(x:Nat):Bl:=if Dj A ends st (x :: p)∈L.map (·.1) then L else L++[(Dj A ends st (x :: p),x :: p)]
def bin(p:List Nat)(n:Nat)(L:Bl):Bl:=(List.range n).foldl (bst A ends st p) L
def bsq:Nat->Bl
 | 0=>[(Dj A ends st [],[])]
 | k+1=>match(bsq k)[k]? with
  | some e=>bin A ends st e.2 le (bsq k)
  | none=>bsq k
structure BOk(L:Bl)(k:Nat):Prop where
 nd:(L.map (·.1)).Nodup
 eq:∀e∈L,e.1=Dj A ends st e.2
 ln:∀e∈L,e.2.length<=k
end
section
variable {A:List Arw}{ends:List Nat}{st le:Nat}
theorem Ed(p:List Nat)(n:Nat)(L:Bl):bin A ends st p (n+1) L=bst A ends st p (bin A ends st p n L) n:=by
 unfold bin
 rw [List.range_succ,List.foldl_append];rfl
theorem Pb(p:List Nat)(L:Bl)(x:Nat):L <+: bst A ends st p L x:=by
 unfold bst
 split
 ·exact Ye2
 ·exact List.prefix_append _ _
theorem Gk(p:List Nat)(L:Bl):∀n,L <+: bin A ends st p n L
 | 0=>Ye2
 | n+1=>by rw [Ed];exact(Gk p L n).trans (Pb p _ n)
theorem BOk.s1{L:Bl}{k x:Nat}{p:List Nat}(h:BOk A ends st L k)(hp:p.length < k):BOk A ends st (bst A ends st p L x) k:=by
 unfold bst
 split
 ·exact h
 ·rename_i hn
  refine⟨?_,λe he=>?_,λe he=>?_⟩
  ·rw [Yav,Yed]
   exact⟨h.nd,by simp,λa ha b hb e=>hn (by rw [Ybm,List.map_nil,Yal]at hb;have hb:b=Dj A ends st (x :: p):=hb;rw [<- hb,<- e];exact ha)⟩
  ·rcases Yat.mp he with he | he
   ·exact h.eq e he
   ·rw [Yal.mp he]
  ·rcases Yat.mp he with he | he
   ·exact h.ln e he
   ·rw [Yal.mp he];exact hp
theorem BOk.bn{L:Bl}{k:Nat}{p:List Nat}(h:BOk A ends st L k)(hp:p.length < k):∀n,BOk A ends st (bin A ends st p n L) k
 | 0=>h
 | n+1=>by rw [Ed];exact(BOk.bn h hp n).s1 hp
theorem BOk.up{L:Bl}{k:Nat}(h:BOk A ends st L k):BOk A ends st L (k+1):=⟨h.nd,h.eq,λe he=>Yeb (h.ln e he)⟩
theorem Hn:∀k,BOk A ends st (bsq A ends st le k) k
 | 0=>⟨by unfold bsq;simp,λe he=>by rw [Yal.mp he],λe he=>by rw [Yal.mp he];exact Yad _⟩
 | k+1=>by
  have ih:=Hn k
  rw [bsq]
  split
  ·rename_i e he
   exact ih.up.bn (Nat.lt_succ_of_le (ih.ln e (Yaz he))) le
  ·exact ih.up
theorem Kk(k:Nat):bsq A ends st le k <+: bsq A ends st le (k+1):=by
 rw [show bsq A ends st le (k+1)=match(bsq A ends st le k)[k]? with | some e=>bin A ends st e.2 le (bsq A ends st le k) | none=>bsq A ends st le k by rw [bsq]]
 split
 ·exact Gk _ _ _
 ·exact Ye2
theorem Ho{j k:Nat}(h:j<=k):bsq A ends st le j <+: bsq A ends st le k:=by
 induction h with
 | refl=>exact Ye2
 | step _ ih=>exact ih.trans (Kk _)
end
section
variable {A:List Arw}{ends:List Nat}{st le:Nat}
theorem Hq{k:Nat}{e:List Nat×List Nat}(h:(bsq A ends st le k)[k]?=some e):bsq A ends st le (k+1)=bin A ends st e.2 le (bsq A ends st le k):=by
 rw [bsq,h]
def bits:List Nat->Nat:=List.foldl (λb k=>b ||| 2 ^ k) 0
def sts(n:Nat):List Nat:=(List.range 5).filter λk=>n.testBit k
theorem Mi(t:Nat):∀(ts:List Nat) (b:Nat),(ts.foldl (λb k=>b ||| 2 ^ k) b).testBit t=(b.testBit t || ts.contains t)
 | [],b=>by simp
 | k :: ts,b=>by
  rw [List.foldl_cons,Mi t ts,Nat.testBit_or,Nat.testBit_two_pow,List.contains_cons,Bool.or_assoc]
  congr 2
  by_cases h:k=t
  ·rw [Ybi h,h,beq_self_eq_true]
  ·rw [Ybn h]
   exact(Ydt.mpr λc=>h c.symm).symm
theorem Uo{ts:List Nat}(hu:Rise ts)(h:∀t∈ts,t < 5):sts (bits ts)=ts:=by
 refine Fh (List.Pairwise.sublist List.filter_sublist Ydg) hu λt=>?_
 unfold sts bits
 rw [Ycm,Ybh,Mi,Nat.zero_testBit,Bool.false_or,List.contains_iff_mem]
 exact⟨λz=>z.2,λz=>⟨h t z,z⟩⟩
theorem Pc:∀{ts:List Nat},(∀t∈ts,t < 5)->∀{b:Nat},b < 32->ts.foldl (λb k=>b ||| 2 ^ k) b < 32
 | [],_,_,hb=>hb
 | t :: ts,h,b,hb=>Pc (ts:=ts) (λu hu=>h u (.tail _ hu)) (Nat.or_lt_two_pow (n:=5) hb (Nat.pow_lt_pow_right (by decide) (h t (.head _))))
theorem Ft(W:List Nat):Rise (Dj A ends st W):=List.Pairwise.sublist List.filter_sublist Ydg
theorem Uq(W:List Nat):∀t∈Dj A ends st W,t < st:=λt h=>Ybh.mp (Ycm.mp h).1
theorem BOk.len{L:Bl}{k:Nat}(h:BOk A ends st L k)(hs:st<=5):L.length<=32:=by
 have:=Fe (ys:=(List.range 32).map sts) h.nd λS hS=>by
  obtain⟨e,he,rfl⟩:=Yau.mp hS
  rw [h.eq e he]
  have h5:∀t∈Dj A ends st e.2,t < 5:=λt ht=>Yai (Uq _ t ht) hs
  exact Yau.mpr ⟨bits (Dj A ends st e.2),Ybh.mpr (Pc h5 (by decide)),Uo (Ft _) h5⟩
 rwa [Yac,Yac,Yee]at this
structure BEnd(A:List Arw)(ends:List Nat)(st le k:Nat):Prop where
 go:∀j,j < k->j < (bsq A ends st le j).length
 no:(bsq A ends st le k).length=k
theorem BEnd.eq{k k':Nat}(h:BEnd A ends st le k)(h':BEnd A ends st le k'):k=k':=by
 rcases Nat.lt_trichotomy k k' with c | c | c
 ·have:=h'.go k c;rw [h.no]at this;omega
 ·exact c
 ·have:=h.go k' c;rw [h'.no]at this;omega
theorem Pd{p:List Nat}{L:Bl}:∀{n x:Nat},x < n->Dj A ends st (x :: p)∈(bin A ends st p n L).map (·.1)
 | n+1,x,h=>by
  rw [Ed]
  rcases Yco x n with c | c
  ·exact((Pb p _ n).map (·.1)).subset (Pd c)
  ·rw [show x=n by omega]
   unfold bst
   split
   ·assumption
   ·rw [Yav];exact Ya2 _ (by simp)
theorem BEnd.closed{k:Nat}(h:BEnd A ends st le k){e:List Nat×List Nat}(he:e∈bsq A ends st le k){x:Nat}(hx:x < le):Dj A ends st (x :: e.2)∈(bsq A ends st le k).map (·.1):=by
 obtain⟨j,hj⟩:=List.mem_iff_getElem?.mp he
 have ug:j < k:=by rw [<- h.no];exact(List.getElem?_eq_some_iff.mp hj).1
 have lm:=h.go j ug
 have hj3:(bsq A ends st le j)[j]?=some e:=by
  have:=List.IsPrefix.getElem (Ho (A:=A) (ends:=ends) (st:=st) (le:=le) (Ybu ug)) lm
  rw [List.getElem?_eq_getElem lm,this]
  rw [List.getElem?_eq_getElem (by rw [h.no];exact ug)]at hj
  exact hj
 have h1:Dj A ends st (x :: e.2)∈(bsq A ends st le (j+1)).map (·.1):=by rw [Hq hj3];exact Pd hx
 exact((Ho ug).map (·.1)).subset h1
theorem Du(hA:∀a∈A,a.p < st)(he:∀e∈ends,e < st)(W:List Nat)(t:Nat):t∈Dj A ends st W↔rd A ends W t=true:=by
 unfold Dj
 rw [Ycm,Ybh]
 exact⟨λh=>h.2,λh=>⟨Qec hA he h,h⟩⟩
theorem Ur(hA:∀a∈A,a.p < st)(he:∀e∈ends,e < st){W W':List Nat}(h:Dj A ends st W=Dj A ends st W')(x:Nat):Dj A ends st (x :: W)=Dj A ends st (x :: W'):=by
 refine Fh (Ft _) (Ft _) λt=>?_
 rw [Du hA he,Du hA he,Kh (Du hA he W),Kh (Du hA he W'),h]
theorem BEnd.all{k:Nat}(h:BEnd A ends st le k)(hA:∀a∈A,a.p < st)(he:∀e∈ends,e < st):∀{W:List Nat},(∀x∈W,x < le)->Dj A ends st W∈(bsq A ends st le k).map (·.1)
 | [],_=>((Ho (Ya4 k)).map (·.1)).subset (.head _)
 | x :: W,hW=>by
  obtain⟨e,hm,e1⟩:=Yau.mp (BEnd.all h hA he λy hy=>hW y (.tail _ hy))
  have e1:e.1=Dj A ends st W:=e1
  rw [(Hn k).eq e hm]at e1
  rw [<- Ur hA he e1 x]
  exact h.closed hm (hW x (.head _))
end
end
section
variable {P:Program}{w:World}{K:PySem.W.Frag}{mg:Str->Option Value}{base:Heap}{f:Addr}{fd:FuncData}
def bD(e:List Nat×List Nat):PyData:=.tuple [Ai e.1,Ai e.2]
def bA(e:List Nat×List Nat):AV:=.D (bD e)
def sA(e:List Nat×List Nat):AV:=.D (Ai e.1)
def kN(ns:List Nat):List Key:=ns.map λ(n:Nat)=>.inl (n:Int)
def kvB(e:List Nat×List Nat):List Key×AV:=(kN e.1,.D (Ai e.2))
theorem E3(ns:List Nat):Fa (ns.map λ(n:Nat)=>PyData.int n)=some (kN ns):=by
 have h:∀ns:List Nat,Ev (ns.map λ(n:Nat)=>PyData.int n)=some (kN ns):=by
  intro ns
  induction ns with
  | nil=>rfl
  | cons n ns ih=>simp only [List.map_cons,Ev,Ir,ih];rfl
 unfold Fa
 rw [show Lit (ns.map λ(n:Nat)=>PyData.int n)=false by cases ns <;> rfl]
 exact h ns
theorem Nw{a b:List Nat}(h:kN a=kN b):a=b:=(List.map_inj_right λx y e=>Int.ofNat.inj (Sum.inl.inj e)).mp h
theorem Mj:∀{L:Bl} {S:List Nat},S∉L.map (·.1)->B2 (L.map kvB) (kN S)=none
 | [],_,_=>rfl
 | e :: L,S,h=>by
  rw [Ybm]
  rw [show B2 (kvB e :: L.map kvB) (kN S)=B2 (L.map kvB) (kN S) from Ct λz=>h (by rw [<- Nw z];exact .head _)]
  exact Mj λz=>h (.tail _ z)
theorem Kl:∀{L:Bl} {e:List Nat×List Nat},(L.map (·.1)).Nodup->e∈L->B2 (L.map kvB) (kN e.1)=some (.D (Ai e.2))
 | x :: L,e,hn,he=>by
  rw [Ybm,Ycn]at hn
  rw [Ybm]
  by_cases h:x.1=e.1
  ·have hx:e=x:=by
    rcases Ya1.mp he with rfl | he
    ·rfl
    ·exact absurd (Yau.mpr ⟨e,he,h.symm⟩) hn.1
   subst hx
   exact Dr
  ·have ht:e∈L:=by
    rcases Ya1.mp he with rfl | he
    ·exact absurd rfl h
    ·exact he
   rw [show B2 (kvB x :: L.map kvB) (kN e.1)=B2 (L.map kvB) (kN e.1) from Ct λz=>h (Nw z)]
   exact Kl hn.2 ht
theorem Qg1{L:Bl}{S p:List Nat}(h:S∉L.map (·.1)):Dw (L.map kvB) (kN S) (.D (Ai p))=(L++[(S,p)]).map kvB:=by
 unfold Dw
 rw [Yah,Yav]
 ·rfl
 ·intro a
  obtain⟨kv,h1,h2⟩:=Ybt.mp a
  obtain⟨e,he,rfl⟩:=Yau.mp h1
  exact h (Yau.mpr ⟨e,he,Nw (Yaw h2)⟩)
theorem Xe(L:Bl):dats ((L.map kvB).map (·.2))=some (L.map λe=>Ai e.2)/\((((L.map kvB).map (·.1)).zip (L.map λe=>Ai e.2)).map λq=>AV.D (prT q))=L.map bA:=by
 refine⟨?_,?_⟩
 ·rw [Ya5,show L.map ((·.2) ∘ kvB)=(L.map λe=>Ai e.2).map .D by rw [Ya5];rfl];exact Bi _
 ·rw [Ya5,List.zip_map',Ya5]
  refine Ydd λe _=>?_
  show AV.D (.tuple [.tuple ((kN e.1).map kyD),Ai e.2])=_
  unfold kN
  rw [Ya5];rfl
abbrev nSu:List Str:=["game","arrows","ends","first","piles","left","stands","letter","above"]
theorem Nx:FnScope nSu ["game","arrows","ends"] (Ah sSu):=⟨rfl,rfl,rfl,by decide +kernel,rfl,by decide +kernel,by decide +kernel⟩
structure BIn(A:List Arw)(ends:List Nat)(st le:Nat):Prop where
 n:A.length<=20
 a:F0 A
 s:st<=5
 p:∀a∈A,a.p < st
 e:∀e∈ends,e < st
 m:ends.length<=5
 l:le<=3
def Qbj:ASp:=λxs μ R=>∃(gp gr:PyData) (gl:List PyData) (A:List Arw) (ends:List Nat) (st:Nat),xs=[.D (.tuple [gp,.tuple gl,gr]),.D (.tuple (A.map A7)),.D (Ai ends)]/\BIn A ends st gl.length/\∀(k:Nat) (l:Addr) μ',BEnd A ends st gl.length k->μ l=none->μ' l=some (.lst ((bsq A ends st gl.length k).map bA))->Sub μ μ'->R (.R l) μ'
theorem Qet{n:Nat}(F:Fun K "sets_come_up" "sets_come_up" sSu f fd) (uq:VCal P w K mg base n "as_set" ["stands"] Qa8) (cSw:VCal P w K mg base n "set_with" ["arrows","stands","letter"] Qd8) (ao:mg "len" = none) (ag:mg "range" = none) (bf:mg "list" = none):FnOk P w K mg base Ep (n+1) f fd ["game","arrows","ends"] (G6 K 3 Qbj):=by
 refine F.vok Nx λaz A outer s H E hr=>⟨_,(Ae (Al (i:=3) Nx.nd rfl (Or.inl rfl) (Am uq hr rfl (Aa (vv 2) Ad)))
   (Ae (Al (i:=4) Nx.nd rfl (Or.inl rfl) (Tz (Dz hr) (vv 3) (Bp Ad)))
   (Ae (Al (i:=5) Nx.nd rfl (Or.inl rfl) (B9 (Aa (vv 3) Ad)))
   (Ae (E9 Yba (Be Vz (A8 Dd rfl ao Yb4 (Aa (vv 5) Ad)) Af (nomark _)) (Ae (Al (i:=6) Nx.nd rfl (Or.inl rfl) (D5 PySem.F.slot_list_pop PySem.F.type_list_pop Oe (vv 5) (Aa Af Ad)))
   (Ak (Ci Yba rfl (Bc rfl ag (Aa (A8 Dd rfl ao Yb4 (Aa (Bt Cg (vv 0) Af) Ad)) Ad)) (Ar (i:=7) Nx.nd rfl (Or.inl rfl)) (Ae (Al (i:=8) Nx.nd rfl (Or.inl rfl) (Am cSw hr rfl (Aa (vv 1) (Aa (vv 6) (Aa (vv 7) Ad)))))
   (Ak (Cq (Ix (Dz hr) (vv 8) (vv 4)) (Ae (Gh (Dz hr) (vv 4) (vv 8) (A4 Bx (Bp (Aa (vv 7) Ad)) (Oj (Dz hr) (vv 4) (vv 6))))
   (Ak (Cs (D5 Ybx Yby Cw (vv 5) (Aa (vv 8) Ad))))) Bf)))))))
   (Ak (Ba (Q5 rfl rfl bf (vv 4)))))))),?_⟩
 rintro xs μ R _ ⟨gp,gr,gl,A,ends,st,rfl,I,q⟩
 have kh:=I.l
 have xo:=I.m
 generalize bm:gl.length=le at I q kh
 generalize hG:PyData.tuple [gp,.tuple gl,gr]=gD
 have zaa:∀(τ:ASt) (μ':M) (R:AV->M->Prop),R (.D (.int (le:Nat))) μ'->opt (atI [gp,PyData.tuple gl,gr] 1) λd=>V2 [.D d] μ' R:=fun τ μ' R h=>Ac (Bn (j:=1) rfl) (by rw [<- bm]at h;exact h)
 refine Co ⟨ends,by omega,.inl rfl,λrs μ1 hr1 hm1 S1=>?_⟩
 have zy:rs=Dj A ends st []:=Fh hr1 (Ft _) λt=>((hm1 t).trans Kg.symm).trans (Du I.p I.e [] t).symm
 subst zy
 refine Ay (fun τ μ'=>∃pp,τ=[some (.D gD),some (.D (.tuple (A.map A7))),some (.D (Ai ends)),some (.D (Ai (Dj A ends st []))),some (.R pp),none,none,none,none]/\μ pp=none/\μ' pp=some (.dt ((bsq A ends st le 0).map kvB))/\Sub μ μ') (λZ hZ=>?_) ?_
 ·intro pp su
  refine⟨Ab,Ac (x:=MO.dt ((bsq A ends st le 0).map kvB)) ?_ (hZ _ _ ⟨pp,rfl,S1.none su,Ab,?_⟩)⟩
  ·show(Fa ((Dj A ends st []).map λ(n:Nat)=>PyData.int n)).map _=_
   rw [E3];rfl
  ·rw [Bu];exact S1.new (S1.none su)
 rintro τ μ2 ⟨pp,rfl,su,e2,S2⟩
 intro pl hpl
 have gh:μ pl=none:=S2.none hpl
 have sy:pp≠pl:=by rintro rfl;rw [e2]at hpl;cases hpl
 refine Ay (fun τ μ'=>∃k o6 o7 o8,τ=[some (.D gD),some (.D (.tuple (A.map A7))),some (.D (Ai ends)),some (.D (Ai (Dj A ends st []))),some (.R pp),some (.R pl),o6,o7,o8]/\BEnd A ends st le k/\μ' pp=some (.dt ((bsq A ends st le k).map kvB))/\Sub μ μ') (λZ hZ=>?_) ?_
 ·refine Gg (λm τ μ'=>∃k o6 o7 o8,τ=[some (.D gD),some (.D (.tuple (A.map A7))),some (.D (Ai ends)),some (.D (Ai (Dj A ends st []))),some (.R pp),some (.R pl),o6,o7,o8]/\m+k=32/\(∀j,j < k->j < (bsq A ends st le j).length)/\k<=(bsq A ends st le k).length/\μ' pp=some (.dt ((bsq A ends st le k).map kvB))/\μ' pl=some (.lst (((bsq A ends st le k).drop k).map sA))/\Sub μ μ') 32 ⟨0,none,none,none,rfl,rfl,(λj h=>absurd h (Yd3 _)),Ya4 _,by rw [Ag sy];exact e2,Ab,S2.new gh⟩ ?_
  rintro m τ μ3 W ⟨k,o6,o7,o8,rfl,hmk,i0,hk,e3,f3,S3⟩ hW
  have hB:=Hn (A:=A) (ends:=ends) (st:=st) (le:=le) k
  have uc:=hB.len I.s
  refine Ac f3 (dif (λc=>?_) (λc=>?_))
  ·have bw:k < (bsq A ends st le k).length:=by
    have c:(0:Int) < ((((bsq A ends st le k).drop k).map sA).length:Nat):=c
    rw [Yac,Yb8]at c
    omega
   obtain⟨e,he⟩:∃e,(bsq A ends st le k)[k]?=some e:=⟨_,List.getElem?_eq_getElem bw⟩
   have i5:=Yaz he
   have gc:(bsq A ends st le k).drop k=e :: (bsq A ends st le k).drop (k+1):=by
    rw [Ybb bw]
    rw [List.getElem?_eq_getElem bw]at he
    rw [Ya0 he]
   have cy:=hB.ln e i5
   have uf:=hB.eq e i5
   refine Ay (fun τ μ'=>τ=[some (.D gD),some (.D (.tuple (A.map A7))),some (.D (Ai ends)),some (.D (Ai (Dj A ends st []))),some (.R pp),some (.R pl),some (.D (Ai e.1)),o7,o8]/\μ' pp=some (.dt ((bsq A ends st le k).map kvB))/\μ' pl=some (.lst (((bsq A ends st le k).drop (k+1)).map sA))/\Sub μ μ') (λZ2 bh=>?_) ?_
   ·rw [gc]at f3
    refine⟨Ac f3 trivial,Ac f3 ⟨⟨by decide,by decide⟩,Ac (x:=0) ?_ (Ac (x:=sA e) rfl (bh _ _ ⟨rfl,by rw [Ag sy];exact e3,Ab,λb m hb=>?_⟩))⟩⟩
    ·rw [Ybm,Ybk];unfold seqIndex?;simp
    ·rw [Ag (by rintro rfl;rw [gh]at hb;cases hb)];exact S3 b m hb
   rintro τ μ4 ⟨rfl,e4,f4,S4⟩
   have jm:=Hq he
   subst hG
   refine Ac (Bn (j:=1) rfl) ⟨by rw [bm];omega,by rw [bm];omega,?_⟩
   rw [bm]
   have aj:(Cy 0 (le:Int).toNat).length=le:=by rw [A6];omega
   refine Dg (λi τ μ'=>∃o7 o8,τ=[some (.D (.tuple [gp,.tuple gl,gr])),some (.D (.tuple (A.map A7))),some (.D (Ai ends)),some (.D (Ai (Dj A ends st []))),some (.R pp),some (.R pl),some (.D (Ai e.1)),o7,o8]/\μ' pp=some (.dt ((bin A ends st e.2 i (bsq A ends st le k)).map kvB))/\μ' pl=some (.lst (((bin A ends st e.2 i (bsq A ends st le k)).drop (k+1)).map sA))/\Sub μ μ') ⟨_,_,rfl,e4,f4,S4⟩ (λ_ _ _ _=>trivial) ?_ ?_
   ·rintro i y τ μ5 Z2 hy ⟨o7,o8,rfl,e5,f5,S5⟩ bh
    have hi:i < le:=by rw [<- aj];exact(List.getElem?_eq_some_iff.mp hy).1
    have ey:=Df _ _ _ hy
    rw [Int.zero_add]at ey
    subst ey
    have ji:=(hB.up.bn (p:=e.2) (Nat.lt_succ_of_le cy) i)
    have bp:=Gk (A:=A) (ends:=ends) (st:=st) e.2 (bsq A ends st le k) i
    rw [Ed]at bh
    generalize bin A ends st e.2 i (bsq A ends st le k)=L at e5 f5 ji bp bh
    have u7:=ji.len I.s
    have wf:k+1<=L.length:=Yaq bw bp.length_le
    refine Co ⟨A,e.1,i,rfl,I.n,I.a,λrs μ6 hr6 hm6 S6=>?_⟩
    have zy:rs=Dj A ends st (i :: e.2):=Fh hr6 (Ft _) λt=>by
     rw [hm6 t,Du I.p I.e,Kh (rs:=e.1) λt=>by rw [uf];exact Du I.p I.e _ t]
    subst zy
    have e6:=S6 _ _ e5
    have f6:=S6 _ _ f5
    have S06:Sub μ μ6:=λb m hb=>S6 b m (S5 b m hb)
    have dg:∀S:List Nat,dget (.dt (L.map kvB)) (Ai S)=some (B2 (L.map kvB) (kN S)):=λS=>by
     show(Fa (S.map λ(n:Nat)=>PyData.int n)).map _=_
     rw [E3];rfl
    refine Ac e6 (Ac (dg _) ?_)
    by_cases ck:Dj A ends st (i :: e.2)∈L.map (·.1)
    ·obtain⟨e',qj,ee'⟩:=Yau.mp ck
     have hv:=Kl ji.nd qj
     rw [show e'.1=Dj A ends st (i :: e.2) from ee']at hv
     rw [hv]
     refine My rfl (bh _ _ ⟨_,_,rfl,?_,?_,S06⟩)
     ·unfold bst;rw [Yaj ck];exact e6
     ·unfold bst;rw [Yaj ck];exact f6
    ·rw [Mj ck]
     have hv:B2 (L.map kvB) (kN e.1)=some (.D (Ai e.2)):=Kl ji.nd (bp.subset i5)
     refine Vu rfl (Ay (fun τ μ'=>∃o7,τ=[some (.D (.tuple [gp,.tuple gl,gr])),some (.D (.tuple (A.map A7))),some (.D (Ai ends)),some (.D (Ai (Dj A ends st []))),some (.R pp),some (.R pl),some (.D (Ai e.1)),o7,some (.D (Ai (Dj A ends st (i :: e.2))))]/\μ' pp=some (.dt ((L++[(Dj A ends st (i :: e.2),i :: e.2)]).map kvB))/\μ' pl=some (.lst ((L.drop (k+1)).map sA))/\Sub μ μ') (λZ3 dj=>?_) ?_)
     ·refine Ac e6 (Ac (dg e.1) (Ac hv ⟨seven (by show 1+(e.2.map _).length<=_;rw [Yac];omega),?_⟩))
      refine Ac e6 (Ac (x:=MO.dt ((L++[(Dj A ends st (i :: e.2),i :: e.2)]).map kvB)) ?_ ⟨Az (show(L.map kvB).length<=_ by rw [Yac];omega),dj _ _ ⟨_,rfl,Ab,by rw [Ag sy.symm];exact f6,λb m hb=>?_⟩⟩)
      ·rw [<- Qg1 ck]
       show(Fa ((Dj A ends st (i :: e.2)).map λ(n:Nat)=>PyData.int n)).map _=_
       rw [E3];rfl
      ·rw [Ag (by rintro rfl;rw [su]at hb;cases hb)];exact S06 b m hb
     rintro τ μ7 ⟨o7,rfl,e7,f7,S7⟩
     refine⟨Ac f7 trivial,Ac f7 ⟨Az (by rw [Yac,Yb8];omega),bh _ _ ⟨_,_,rfl,?_,?_,λb m hb=>?_⟩⟩⟩
     ·unfold bst;rw [Yah ck,Ag sy];exact e7
     ·unfold bst
      rw [Yah ck,Ab,List.drop_append_of_le_length wf,Yav];rfl
     ·rw [Ag (by rintro rfl;rw [gh]at hb;cases hb)];exact S7 b m hb
   ·rintro τ μ5 ⟨o7,o8,rfl,e5,f5,S5⟩
    rw [aj,<- jm]at e5 f5
    have bp:=(Kk (A:=A) (ends:=ends) (st:=st) (le:=le) k).length_le
    exact hW (m - 1) _ _ (by omega) ⟨k+1,_,_,_,rfl,by omega,λj hj=>by
     rcases Yco j k with c | c
     ·exact i0 j c
     ·rw [show j=k by omega];exact bw,by omega,e5,f5,S5⟩
  ·have bw:(bsq A ends st le k).length=k:=by
    have c:¬(0:Int) < ((((bsq A ends st le k).drop k).map sA).length:Nat):=c
    rw [Yac,Yb8]at c
    omega
   exact hZ _ _ ⟨k,_,_,_,rfl,⟨i0,bw⟩,e3,S3⟩
 rintro τ μ3 ⟨k,o6,o7,o8,rfl,hE,e3,S3⟩
 obtain⟨d1,d2⟩:=Xe (bsq A ends st le k)
 refine Ac e3 (Ac d1 λp hp=>?_)
 rw [d2]
 exact⟨_,Sub.refl,q k p _ hE (S3.none hp) Ab (S3.new (S3.none hp))⟩
end
section
variable {P:Program}{w:World}{K:PySem.W.Frag}{mg:Str->Option Value}{base:Heap}{f:Addr}{fd:FuncData}
theorem Qbk{a b:PyData}{i j:Nat}{τ:ASt}{μ:M}{R:ASt->M->Prop}(h:R ((τ.set i (some (.D a))).set j (some (.D b))) μ):Sq (Fx i) (Sq (Fx j) Qc7) (List.map AV.D [a,b]) τ μ R:=h
theorem Cr.sub{μ μ':M}{tb:Addr}{A:List Arw}(h:Cr μ tb A)(S:Sub μ μ'):Cr μ' tb A:=by
 obtain⟨T,eT,kT⟩:=h
 refine⟨T,S _ _ eT,λp x=>?_⟩
 rcases kT p x with⟨q,e1,e2⟩ | h
 ·exact .inl ⟨q,e1,S _ _ e2⟩
 ·exact .inr h
theorem E4(ns:List Nat):Cano (Ai ns)=true:=by simp only [Ai,Cano];exact Fq ns
theorem Rh{a b:List Nat}(h:Ai a=Ai b):a=b:=by
 unfold Ai at h
 rw [PyData.tuple.injEq]at h
 refine(List.map_inj_right λx y e=>?_).mp h
 injection e with e
 exact Int.ofNat.inj e
theorem Pe(Ss:List (List Nat))(S:List Nat):((Ss.map Ai).any λx=>PyData.eqv x (Ai S))=decide (S∈Ss):=by
 rw [Yey,Ybt,decide_eq_true_iff]
 constructor
 ·rintro⟨x,hx,h⟩
  obtain⟨T,hT,rfl⟩:=Yau.mp hx
  rw [<- Rh (Ew _ _ (E4 T) (E4 S) h)];exact hT
 ·exact λh=>⟨_,Yau.mpr ⟨S,h,rfl⟩,D6 _ (E4 S)⟩
theorem Us:∀(Ss:List (List Nat)),PyData.canLayAll0 (Ss.map Ai)=true/\PyData.depthAll (Ss.map Ai)<=3
 | []=>⟨rfl,by simp [PyData.depthAll]⟩
 | S :: Ss=>by
  obtain⟨a,b⟩:=Us Ss
  have h:=Dt (ns:=S)
  refine⟨?_,?_⟩
  ·simp only [List.map_cons,Ai,PyData.canLayAll0,PyData.canLay0,h.1,Bool.true_and];exact a
  ·simp only [List.map_cons,Ai,PyData.depthAll,PyData.depth]at b ⊢;omega
theorem Mk(Ss:List (List Nat)):Bq (.tuple (Ss.map Ai)):=by
 obtain⟨a,b⟩:=Us Ss
 exact⟨by simp only [PyData.canLay0];exact a,by simp only [PyData.depth];omega⟩
theorem Pf(L:Bl):dats (L.map sA)=some ((L.map (·.1)).map Ai):=by
 rw [show L.map sA=((L.map (·.1)).map Ai).map .D by rw [Ya5,Ya5];rfl];exact Bi _
abbrev nSs:List Str:=["_law_table_here","_law_ends","_law_stands","_law_letters","_law_found","_law_at","_law_letter","_law_pile","_law_here"]
theorem Ny:FnScope nSs ["_law_table_here","_law_ends","_law_stands","_law_letters"] (Ah sSs):=⟨rfl,rfl,rfl,by decide +kernel,rfl,by decide +kernel,by decide +kernel⟩
theorem Ya:(["_law_known","_law_first"]:List Str).Nodup:=by decide +kernel
def Qbl:ASp:=λxs μ R=>∃(tb:Addr) (A:List Arw) (ends:List Nat) (st le:Nat),xs=[.R tb,.D (Ai ends),.D (.int (st:Nat)),.D (.int (le:Nat))]/\BIn A ends st le/\Cr μ tb A/\∀(k:Nat) (l:Addr) μ',BEnd A ends st le k->μ l=none->μ' l=some (.lst ((bsq A ends st le k).map bA))->Sub μ μ'->R (.R l) μ'
theorem Qeu{n:Nat}(F:Fun K "_law_sets" "_law_sets" sSs f fd) (lj:VCal P w K mg base n "_law_set" ["_law_table_here","_law_ends","_law_stands","_law_pile"] Wz) (ao:mg "len" = none) (ag:mg "range" = none):FnOk P w K mg base Ep (n+1) f fd ["_law_table_here","_law_ends","_law_stands","_law_letters"] (G6 K 4 Qbl):=by
 refine F.vok Ny λaz A outer s H E hr=>⟨_,(Ae (Al (i:=4) Ny.nd rfl (Or.inl rfl) (B9 (Aa (Bp (Aa (Am lj hr rfl (Aa (vv 0) (Aa (vv 1) (Aa (vv 2) (Aa (Bp Ad) Ad))))) (Aa (Bp Ad) Ad))) Ad)))
   (Ae (Al (i:=5) Ny.nd rfl (Or.inl rfl) Af)
   (Ae (E9 Yba (Be Vy (vv 5) (A8 Dd rfl ao Yb4 (Aa (vv 4) Ad)) (nomark _)) (Ae (Ci Yba rfl (Bc rfl ag (Aa (vv 3) Ad)) (Ar (i:=6) Ny.nd rfl (Or.inl rfl)) (Ae (Al (i:=7) Ny.nd rfl (Or.inl rfl) (A4 Bx (Bp (Aa (vv 6) Ad)) (Bt Cg (Bt Cg (vv 4) (vv 5)) Af)))
   (Ae (Al (i:=8) Ny.nd rfl (Or.inl rfl) (Am lj hr rfl (Aa (vv 0) (Aa (vv 1) (Aa (vv 2) (Aa (vv 7) Ad))))))
   (Ak (Cq (Be (Gf hr) (vv 8) (Cd (N':=["_law_known","_law_first"]) (mp:=[none,none]) rfl (Ce (vv 4)) (λ_ _ _ _=>(M6 (n:=2) rfl (De (Ar (i:=0) Ya rfl (Or.inl rfl) (Or.inr rfl)) (De (Ar (i:=1) Ya rfl (Or.inl rfl) (Or.inr rfl)) J1)))) (λ_ _ _ _=>Bz) (λ_ _ _ _=>(vv 0)) (A9 (N:=nSs) (pn:=(Ah sSs).names) (by decide +kernel))) (by with_unfolding_all rfl)) (Ak (Cs (D5 Ybx Yby Cw (vv 4) (Aa (Bp (Aa (vv 8) (Aa (vv 7) Ad))) Ad)))) Bf)))))
   (Ak (Al (i:=5) Ny.nd rfl (Or.inl rfl) (A4 Bx (vv 5) Af)))))
   (Ak (Ba (vv 4)))))),?_⟩
 rintro xs μ R _ ⟨tb,A,ends,st,le,rfl,I,hT,q⟩
 have kh:=I.l
 have xo:=I.m
 have ga:=I.s
 refine Ay (fun τ μ'=>∃pf,τ=[some (.R tb),some (.D (Ai ends)),some (.D (.int (st:Nat))),some (.D (.int (le:Nat))),some (.R pf),none,none,none,none]/\μ pf=none/\μ' pf=some (.lst ((bsq A ends st le 0).map bA))/\Sub μ μ') (λZ hZ=>?_) ?_
 ·exact⟨tb,A,ends,[],st,rfl,ga,by decide,xo,I.a,hT,fun μ1 S1 pf cw=>hZ _ _ ⟨pf,rfl,S1.none cw,Ab,S1.new (S1.none cw)⟩⟩
 rintro τ μ1 ⟨pf,rfl,cw,e1,S1⟩
 have put:∀{ν:M} {o:MO},Sub μ ν->Sub μ (Ao ν pf o):=λS b m hb=>by rw [Ag (by rintro rfl;rw [cw]at hb;cases hb)];exact S b m hb
 refine Uh (Ay (fun τ μ'=>∃k o5 o6 o7 o8,τ=[some (.R tb),some (.D (Ai ends)),some (.D (.int (st:Nat))),some (.D (.int (le:Nat))),some (.R pf),o5,o6,o7,o8]/\BEnd A ends st le k/\μ' pf=some (.lst ((bsq A ends st le k).map bA))/\Sub μ μ') (λZ hZ=>?_) ?_)
 ·refine Gg (λm τ μ'=>∃(k:Nat) (o6 o7 o8:Option AV),τ=[some (.R tb),some (.D (Ai ends)),some (.D (.int (st:Nat))),some (.D (.int (le:Nat))),some (.R pf),some (.D (.int (k:Nat))),o6,o7,o8]/\m+k=32/\(∀j,j < k->j < (bsq A ends st le j).length)/\k<=(bsq A ends st le k).length/\μ' pf=some (.lst ((bsq A ends st le k).map bA))/\Sub μ μ') 32 ⟨0,none,none,none,rfl,rfl,(λj h=>absurd h (Yd3 _)),Ya4 _,e1,S1⟩ ?_
  rintro m τ μ3 W ⟨k,o6,o7,o8,rfl,hmk,i0,hk,e3,S3⟩ hW
  have hB:=Hn (A:=A) (ends:=ends) (st:=st) (le:=le) k
  have uc:=hB.len ga
  refine Ac e3 (dif (λc=>?_) (λc=>?_))
  ·have bw:k < (bsq A ends st le k).length:=by
    have c:(k:Int) < (((bsq A ends st le k).map bA).length:Nat):=c
    rw [Yac]at c
    omega
   obtain⟨e,he⟩:∃e,(bsq A ends st le k)[k]?=some e:=⟨_,List.getElem?_eq_getElem bw⟩
   have cy:=hB.ln e (Yaz he)
   have jm:=Hq he
   refine Ay (fun τ μ'=>∃o6 o7 o8,τ=[some (.R tb),some (.D (Ai ends)),some (.D (.int (st:Nat))),some (.D (.int (le:Nat))),some (.R pf),some (.D (.int (k:Nat))),o6,o7,o8]/\μ' pf=some (.lst ((bsq A ends st le (k+1)).map bA))/\Sub μ μ') (λZ2 bh=>?_) ?_
   ·refine⟨by omega,by omega,?_⟩
    have aj:(Cy 0 (le:Int).toNat).length=le:=by rw [A6];omega
    refine Dg (λi τ μ'=>∃o6 o7 o8,τ=[some (.R tb),some (.D (Ai ends)),some (.D (.int (st:Nat))),some (.D (.int (le:Nat))),some (.R pf),some (.D (.int (k:Nat))),o6,o7,o8]/\μ' pf=some (.lst ((bin A ends st e.2 i (bsq A ends st le k)).map bA))/\Sub μ μ') ⟨_,_,_,rfl,e3,S3⟩ (λ_ _ _ _=>trivial) ?_ ?_
    ·rintro i y τ μ5 Z3 hy ⟨o6,o7,o8,rfl,e5,S5⟩ dj
     have hi:i < le:=by rw [<- aj];exact(List.getElem?_eq_some_iff.mp hy).1
     have ey:=Df _ _ _ hy
     rw [Int.zero_add]at ey
     subst ey
     have ji:=(hB.up.bn (p:=e.2) (Nat.lt_succ_of_le cy) i)
     have bp:=Gk (A:=A) (ends:=ends) (st:=st) e.2 (bsq A ends st le k) i
     rw [Ed]at dj
     generalize bin A ends st e.2 i (bsq A ends st le k)=L at e5 ji bp dj
     have u7:=ji.len ga
     have hLk:L[k]?=some e:=by
      have wf:=Yai bw bp.length_le
      rw [List.getElem?_eq_getElem wf,<- List.IsPrefix.getElem bp bw,<- List.getElem?_eq_getElem];exact he
     have eix:atI (L.map bA) ((k:Nat):Int)=some (bA e):=Bn (by rw [List.getElem?_map,hLk];rfl)
     refine Ay (fun τ μ'=>τ=[some (.R tb),some (.D (Ai ends)),some (.D (.int (st:Nat))),some (.D (.int (le:Nat))),some (.R pf),some (.D (.int (k:Nat))),some (.D (.int (i:Nat))),some (.D (Ai (i :: e.2))),o8]/\μ5=μ') (λZ4 jk=>Ac e5 (Ac eix (Ac (x:=Ai e.2) (Bn (j:=1) rfl) ⟨seven (by show 1+(e.2.map _).length<=_;rw [Yac];omega),jk _ _ ⟨rfl,rfl⟩⟩))) ?_
     rintro τ _ ⟨rfl,rfl⟩
     refine Co ⟨tb,A,ends,i :: e.2,st,rfl,ga,by rw [Ybk];omega,xo,I.a,hT.sub S5,fun μ6 S6=>?_⟩
     have e6:=S6 _ _ e5
     have S06:Sub μ μ6:=λb m hb=>S6 b m (S5 b m hb)
     refine Ac (Au e6) λpc d6=>?_
     have p9:pf≠pc:=by rintro rfl;rw [e6]at d6;cases d6
     refine cmap L bA sA (fun τ=>∃o1 o2,τ=[o1,o2]) ⟨none,none,rfl⟩ Ab (seven (by omega)) (λaf=>Au (by rw [Bu,Ag p9];exact e6)) ?_ ?_
     ·rintro j u τ' af W1 hu ⟨o1,o2,rfl⟩ hW1
      exact⟨rfl,Qbk (hW1 _ ⟨_,_,rfl⟩)⟩
     ·rw [Bu]
      have e7:Ao μ6 pc (.lst (L.map sA)) pf=some (.lst (L.map bA)):=by rw [Ag p9];exact e6
      have S7:Sub μ (Ao μ6 pc (.lst (L.map sA))):=S06.new (S06.none d6)
      have c7:Ao μ6 pc (.lst (L.map sA)) pc=some (.lst (L.map sA)):=Ab
      generalize Ao μ6 pc (.lst (L.map sA))=μ7 at e7 S7 c7
      refine Ac rfl (Ac (Au c7) (Ac (Pf L) ⟨Eg,Mk _,?_⟩))
      rw [Pe]
      by_cases ck:Dj A ends st (i :: e.2)∈L.map (·.1)
      ·refine My (by show(!decide (Dj A ends st (i :: e.2)∈L.map (·.1)))=false;rw [Ybi ck];rfl) (dj _ _ ⟨_,_,_,rfl,?_,S7⟩)
       unfold bst;rw [Yaj ck];exact e7
      ·refine Vu (by show(!decide (Dj A ends st (i :: e.2)∈L.map (·.1)))=true;rw [Ybn ck];rfl) ⟨Ac e7 trivial,Ac e7 ⟨Az (by rw [Yac];omega),dj _ _ ⟨_,_,_,rfl,?_,put S7⟩⟩⟩
       unfold bst;rw [Yah ck,Ab,Yav];rfl
    ·rintro τ μ5 ⟨o6,o7,o8,rfl,e5,S5⟩
     rw [aj,<- jm]at e5
     exact bh _ _ ⟨_,_,_,rfl,e5,S5⟩
   rintro τ μ5 ⟨o6,o7,o8,rfl,e5,S5⟩
   have bp:=(Kk (A:=A) (ends:=ends) (st:=st) (le:=le) k).length_le
   exact hW (m - 1) _ _ (by omega) ⟨k+1,_,_,_,rfl,by omega,λj hj=>by
    rcases Yco j k with c | c
    ·exact i0 j c
    ·rw [show j=k by omega];exact bw,by omega,e5,S5⟩
  ·have bw:(bsq A ends st le k).length=k:=by
    have c:¬(k:Int) < (((bsq A ends st le k).map bA).length:Nat):=c
    rw [Yac]at c
    omega
   exact hZ _ _ ⟨k,_,_,_,_,rfl,⟨i0,bw⟩,e3,S3⟩
 rintro τ μ3 ⟨k,o5,o6,o7,o8,rfl,hE,e3,S3⟩
 exact⟨_,Sub.refl,q k pf _ hE cw e3 S3⟩
def nA(W:List Nat):AV:=.D (Ai W)
def Ri(le i:Nat)(W:List Nat):Prop:=W.length<=i/\∀x∈W,x < le
abbrev nPs:List Str:=["_law_letters","_law_many","_law_found","_law_longest","_law_k","_law_longer","_law_pile"]
theorem Nz:FnScope nPs ["_law_letters","_law_many"] (Ah sPs):=⟨rfl,rfl,rfl,by decide +kernel,rfl,by decide +kernel,by decide +kernel⟩
theorem Qev:(["_law_letter","_law_pile"]:List Str).Nodup:=by decide +kernel
def Qbm:ASp:=λxs μ R=>∃(le:Nat),xs=[.D (.int (le:Nat)),.D (.int 4)]/\le<=3/\∀(Fs:List (List Nat)) (l:Addr) μ',(∀W∈Fs,Ri le 4 W)->μ l=none->μ' l=some (.lst (Fs.map nA))->Sub μ μ'->R (.R l) μ'
theorem Qew{n:Nat}(F:Fun K "_law_piles" "_law_piles" sPs f fd) (ag:mg "range" = none):FnOk P w K mg base Ep (n+1) f fd ["_law_letters","_law_many"] (G6 K 2 Qbm):=by
 refine F.vok Nz λaz A outer s H E hr=>⟨_,(Ae (Al (i:=2) Nz.nd rfl (Or.inl rfl) (B9 (Aa (Bp Ad) Ad)))
   (Ae (Al (i:=3) Nz.nd rfl (Or.inl rfl) (B9 (Aa (Bp Ad) Ad)))
   (Ae (Ci Yba rfl (Bc rfl ag (Aa (vv 1) Ad)) (Ar (i:=4) Nz.nd rfl (Or.inl rfl)) (Ae (Al (i:=5) Nz.nd rfl (Or.inl rfl) (B9 Ad))
   (Ae (Ci Yba rfl (Ce (vv 3)) (Ar (i:=6) Nz.nd rfl (Or.inr rfl)) (Ak (Cs (D5 PySem.F.slot_list_extend PySem.F.type_list_extend K9 (vv 5) (Aa (Cd (N':=["_law_letter","_law_pile"]) (mp:=[none,some 6]) rfl (Bc rfl ag (Aa (vv 0) Ad)) (λ_ _ _ _=>(Ar (i:=0) Qev rfl (Or.inl rfl) (Or.inr rfl))) (λ_ _ _ _=>Bz) (λ_ _ _ _=>(A4 Bx (Bp (Aa (vv 0) Ad)) (vv 1))) (A9 (N:=nPs) (pn:=(Ah sPs).names) (by decide +kernel))) Ad)))))
   (Ae (Al (i:=3) Nz.nd rfl (Or.inl rfl) (vv 5))
   (Ak (Cs (D5 PySem.F.slot_list_extend PySem.F.type_list_extend K9 (vv 2) (Aa (vv 3) Ad))))))))
   (Ak (Ba (vv 2)))))),?_⟩
 rintro xs μ R _ ⟨le,rfl,kh,q⟩
 intro pf cw
 refine Co ?_
 intro pg uh
 have hfg:pf≠pg:=by rintro rfl;rw [Ab]at uh;cases uh
 have S0:Sub μ (Ao (Ao μ pf (.lst [nA []])) pg (.lst [nA []])):=(Sub.refl.new cw).new ((Sub.refl.new cw:Sub μ _).none uh)
 have put:∀{ν:M} {o:MO},Sub μ ν->Sub μ (Ao ν pf o):=λS b m hb=>by rw [Ag (by rintro rfl;rw [cw]at hb;cases hb)];exact S b m hb
 refine Ay (fun τ μ'=>∃o3 o4 o5 o6,∃Fs:List (List Nat),τ=[some (.D (.int (le:Nat))),some (.D (.int 4)),some (.R pf),o3,o4,o5,o6]/\(∀W∈Fs,Ri le 4 W)/\μ' pf=some (.lst (Fs.map nA))/\Sub μ μ') (λZ hZ=>?_) ?_
 ·refine⟨by decide,by decide,?_⟩
  refine Dg (λi τ μ'=>∃o4 o5 o6,∃(pg:Addr) (Fs Gs:List (List Nat)),τ=[some (.D (.int (le:Nat))),some (.D (.int 4)),some (.R pf),some (.R pg),o4,o5,o6]/\pg≠pf/\(∀W∈Fs,Ri le i W)/\(∀W∈Gs,Ri le i W)/\Gs.length<=3 ^ i/\Fs.length<=3 ^ (i+1)/\μ' pf=some (.lst (Fs.map nA))/\μ' pg=some (.lst (Gs.map nA))/\Sub μ μ') ⟨none,none,none,pg,[[]],[[]],rfl,hfg.symm,(λW h=>by rw [Yal.mp h];exact⟨Yad _,λ_ z=>nomatch z⟩),(λW h=>by rw [Yal.mp h];exact⟨Yad _,λ_ z=>nomatch z⟩),Yad _,by decide,by rw [Ag hfg];exact Ab,Ab,S0⟩ (λ_ _ _ _=>trivial) ?_ ?_
  ·rintro i y τ μ1 Z2 hy ⟨o4,o5,o6,pg,Fs,Gs,rfl,hgf,hF,hG,lG,lF,e1,g1,S1⟩ bh
   have hi:i < 4:=(List.getElem?_eq_some_iff.mp hy).1
   have p3:3 ^ i<=27:=Nat.pow_le_pow_right (n:=3) (by decide) (show i<=3 by omega)
   have p4:3 ^ (i+1)=3 * 3 ^ i:=by rw [Nat.pow_succ];omega
   have p5:3 ^ (i+1+1)=9 * 3 ^ i:=by rw [Nat.pow_succ,p4];omega
   intro ph n9
   have vt:pg≠ph:=by rintro rfl;rw [g1]at n9;cases n9
   have ud:pf≠ph:=by rintro rfl;rw [e1]at n9;cases n9
   have h0:μ ph=none:=S1.none n9
   refine Ay (fun τ μ'=>∃o6,∃Hs:List (List Nat),τ=[some (.D (.int (le:Nat))),some (.D (.int 4)),some (.R pf),some (.R pg),some y,some (.R ph),o6]/\(∀W∈Hs,Ri le (i+1) W)/\Hs.length<=3 ^ (i+1)/\μ' pf=some (.lst (Fs.map nA))/\μ' ph=some (.lst (Hs.map nA))/\Sub μ μ') (λZ3 dj=>?_) ?_
   ·refine Ac (Au (by rw [Ag vt];exact g1)) ?_
    refine Dg (λj τ μ'=>∃o6,∃Hs:List (List Nat),τ=[some (.D (.int (le:Nat))),some (.D (.int 4)),some (.R pf),some (.R pg),some y,some (.R ph),o6]/\(∀W∈Hs,Ri le (i+1) W)/\Hs.length<=3 * j/\μ' pf=some (.lst (Fs.map nA))/\μ' pg=some (.lst (Gs.map nA))/\μ' ph=some (.lst (Hs.map nA))/\Sub μ μ') ⟨_,[],rfl,(λ_ z=>nomatch z),Yad _,by rw [Ag ud];exact e1,by rw [Ag vt];exact g1,Ab,S1.new h0⟩ (λ_ _ _ ⟨_,_,_,_,_,_,g,_⟩=>Au g) ?_ ?_
    ·rintro j u τ μ2 Z4 hu ⟨o6,Hs,rfl,hH,lH,e2,g2,h2,S2⟩ jk
     rw [List.getElem?_map]at hu
     obtain⟨W,hW,rfl⟩:=Yap.mp hu
     have hj:=(List.getElem?_eq_some_iff.mp hW).1
     have my:=hG W (Yaz hW)
     have hWl:=my.1
     refine⟨Ac h2 trivial,by omega,by omega,λpc d6=>?_⟩
     have hcf:pf≠pc:=by rintro rfl;rw [e2]at d6;cases d6
     have hcg:pg≠pc:=by rintro rfl;rw [g2]at d6;cases d6
     have di:ph≠pc:=by rintro rfl;rw [h2]at d6;cases d6
     have hrm:Cy 0 (le:Int).toNat=(List.range' 0 le).map Di:=by rw [Ydo];exact Ki le 0
     rw [hrm]
     refine cmap (List.range' 0 le) Di (λx=>nA (x :: W)) (fun τ=>∃o,τ=[o,some (nA W)]) ⟨none,rfl⟩ Ab (seven (by rw [Yd6];omega)) (λ_=>trivial) ?_ ?_
     ·rintro k x τ' af W1 hx ⟨o,rfl⟩ hW1
      exact⟨seven (by show 1+(W.map _).length<=_;rw [Yac];omega),hW1 _ ⟨_,rfl⟩⟩
     ·rw [Bu]
      refine Ac (x:=MO.lst (Hs.map nA)) (by rw [Ag di];exact h2) (Ac Ab ⟨seven (by rw [Yac,Yac,Yd6];omega),jk _ _ ⟨_,Hs++(List.range' 0 le).map (λx=>x :: W),rfl,λV hV=>?_,by rw [Yao,Yac,Yd6];omega,by rw [Ag ud,Ag hcf];exact e2,by rw [Ag vt,Ag hcg];exact g2,by rw [Ab,Yav,Ya5];rfl,λb m hb=>?_⟩⟩)
      ·rcases Yat.mp hV with hV | hV
       ·exact hH V hV
       ·obtain⟨x,hx,rfl⟩:=Yau.mp hV
        have hx:=List.mem_range'.mp hx
        refine⟨by rw [Ybk];omega,λz hz=>?_⟩
        rcases Ya1.mp hz with rfl | hz
        ·omega
        ·exact my.2 z hz
      ·have:=S2 b m hb
       rw [Ag (by rintro rfl;rw [h0]at hb;cases hb),Ag (by rintro rfl;rw [d6]at this;cases this)]
       exact this
    ·rintro τ μ2 ⟨o6,Hs,rfl,hH,lH,e2,g2,h2,S2⟩
     rw [Yac]at lH
     exact dj _ _ ⟨_,Hs,rfl,hH,by omega,e2,h2,S2⟩
   rintro τ μ2 ⟨o6,Hs,rfl,hH,lH,e2,h2,S2⟩
   refine Co ?_
   refine⟨Ac e2 trivial,Ac e2 (Ac h2 ⟨seven (by rw [Yac,Yac];omega),bh _ _ ⟨_,_,_,ph,Fs++Hs,Hs,rfl,ud.symm,λW hW=>?_,hH,lH,by rw [Yao];omega,by rw [Ab,Yav],by rw [Ag ud.symm];exact h2,put S2⟩⟩)⟩
   rcases Yat.mp hW with hW | hW
   ·exact⟨Yeb (hF W hW).1,(hF W hW).2⟩
   ·exact hH W hW
  ·rintro τ μ1 ⟨o4,o5,o6,pg,Fs,Gs,rfl,hgf,hF,hG,lG,lF,e1,g1,S1⟩
   exact hZ _ _ ⟨_,_,_,_,Fs,rfl,hF,e1,S1⟩
 rintro τ μ1 ⟨o3,o4,o5,o6,Fs,rfl,hF,e1,S1⟩
 exact⟨_,Sub.refl,q Fs pf _ hF cw e1 S1⟩
end
section
variable {P:Program}{w:World}{K:PySem.W.Frag}{mg:Str->Option Value}{base:Heap}{f:Addr}{fd:FuncData}
theorem Gm(L:Bl):dats (L.map bA)=some (L.map bD):=by
 rw [show L.map bA=(L.map bD).map .D by rw [Ya5];rfl];exact Bi _
theorem Yb:∀(L:Bl),PyData.canLayAll0 (L.map bD)=true/\PyData.depthAll (L.map bD)<=4
 | []=>⟨rfl,by simp [PyData.depthAll]⟩
 | e :: L=>by
  obtain⟨a,b⟩:=Yb L
  have h1:=Dt (ns:=e.1)
  have h2:=Dt (ns:=e.2)
  refine⟨?_,?_⟩
  ·simp only [List.map_cons,bD,Ai,PyData.canLayAll0,PyData.canLay0,h1.1,h2.1,Bool.and_true,Bool.true_and];exact a
  ·simp only [List.map_cons,bD,Ai,PyData.depthAll,PyData.depth]at b ⊢;omega
theorem Xf(L:Bl):Bq (.list (L.map bD)):=by
 obtain⟨a,b⟩:=Yb L
 exact⟨by simp only [PyData.canLay0];exact a,by simp only [PyData.depth];omega⟩
theorem Pg{μ:M}{p:Addr}{xs:List AV}{ds:List PyData}(h:μ p=some (.lst xs))(hd:dats xs=some ds):see μ (.R p)=some (.list ds):=by
 simp only [see,h,hd]
theorem Qg2:(!kit "list" "list")=false:=by decide
abbrev Qbn:List Str:=["_law_script","_law_pot_here","_law_game_here","_law_letters","_law_stands","_law_arrows_here","_law_ends","_law_table_here","_law_due","_law_found","_law_known","_law_pile","_law_some_here"]
theorem C6:FnScope Qbn ["_law_script"] (Ah Gc):=⟨rfl,rfl,rfl,by decide +kernel,rfl,by decide +kernel,by decide +kernel⟩
theorem Qbo:(["_law_one"]:List Str).Nodup:=by decide +kernel
theorem Ut:(["_law_known","_law_pile"]:List Str).Nodup:=by decide +kernel
def spL:ASp:=λxs _ R=>∃ns:List Int,xs=[.D (Fg ns)]/\ns.length<=63/\∀ μ',R (.D (.bool true)) μ'
theorem Xg{n:Nat}(F:Fun K "law" "law" Gc f fd) (vp:VCal P w K mg base n "_law_pot" ["_law_script","_law_base"] Qa4) (bx:VCal P w K mg base n "_law_draw" ["_law_pot_here","_law_many"] Mb) (ze:VCal P w K mg base n "_law_game" ["_law_pot_here","_law_most"] Qbi) (v7:VCal P w K mg base n "_law_arrows" ["_law_pot_here","_law_stands","_law_letters"] Qa5) (oi:VCal P w K mg base n "_law_some" ["_law_pot_here","_law_first","_law_many"] W0)
  (x5:VCal P w K mg base n "_law_table" ["_law_arrows_here"] Qa2) (ww:VCal P w K mg base n "_law_sets" ["_law_table_here","_law_ends","_law_stands","_law_letters"] Qbl) (tu:VCal P w K mg base n "sets_come_up" ["game","arrows","ends"] Qbj) (wq:VCal P w K mg base n "_law_is_rising" ["_law_found"] Qa9) (qm:VCal P w K mg base n "_law_whole" ["_law_found"] W7) (zm:VCal P w K mg base n "_law_piles" ["_law_letters","_law_many"] Qbm) (lj:VCal P w K mg base n "_law_set" ["_law_table_here","_law_ends","_law_stands","_law_pile"] Wz) (ao:mg "len" = none) (al:mg "isinstance" = none) (bf:mg "list" = none) (ak:mg "tuple" = none):FnOk P w K mg base Ep (n+1) f fd ["_law_script"] (G6 K 1 spL):=by
 refine F.vok C6 λaz A outer s H E hr=>⟨_,(Ae (Al (i:=1) C6.nd rfl (Or.inl rfl) (Am vp hr rfl (Aa (vv 0) (Aa Af Ad))))
   (Ae (Al (i:=2) C6.nd rfl (Or.inl rfl) (Am ze hr rfl (Aa (vv 1) (Aa Af Ad))))
   (Ae (Al (i:=3) C6.nd rfl (Or.inl rfl) (A8 Dd rfl ao Yb4 (Aa (Bt Cg (vv 2) Af) Ad)))
   (Ae (Al (i:=4) C6.nd rfl (Or.inl rfl) (A4 Bx (A8 Dd rfl ao Yb4 (Aa (Bt Cg (vv 2) Af) Ad)) (Am bx hr rfl (Aa (vv 1) (Aa Af Ad)))))
   (Ae (Al (i:=5) C6.nd rfl (Or.inl rfl) (Am v7 hr rfl (Aa (vv 1) (Aa (vv 4) (Aa (vv 3) Ad)))))
   (Ae (Al (i:=6) C6.nd rfl (Or.inl rfl) (Am oi hr rfl (Aa (vv 1) (Aa Af (Aa (vv 4) Ad)))))
   (Ae (Al (i:=7) C6.nd rfl (Or.inl rfl) (Am x5 hr rfl (Aa (vv 5) Ad)))
   (Ae (Al (i:=8) C6.nd rfl (Or.inl rfl) (Am ww hr rfl (Aa (vv 7) (Aa (vv 6) (Aa (vv 4) (Aa (vv 3) Ad))))))
   (Ae (Al (i:=9) C6.nd rfl (Or.inl rfl) (Am tu hr rfl (Aa (vv 2) (Aa (vv 5) (Aa (vv 6) Ad)))))
   (Ae (Cq (VW.pt (K7 (G3 (Et (G5 rfl al rfl bf PyProof.Rows.boot_list Qe (vv 9)))) (Jx (Be (Qf3 hr) (vv 9) (vv 8) (nomark _))))) (Ak (Ba Fv)) Bf)
   (Ae (Ci Yba rfl (Ce (vv 9)) (M6 (n:=2) rfl (De (Ar (i:=10) C6.nd rfl (Or.inl rfl)) (De (Ar (i:=11) C6.nd rfl (Or.inl rfl)) J1))) (Ak (Cq (VW.pt (K7 (G3 (Et (Am wq hr rfl (Aa (vv 10) Ad)))) (K7 (G3 (Et (G5 rfl al rfl ak Ybl G9 (vv 11)))) (Jx (Be (P9 hr) Fv (Cd (N':=["_law_one"]) (mp:=[none]) rfl (Ce (vv 11)) (λ_ _ _ _=>(Ar (i:=0) Qbo rfl (Or.inl rfl) (Or.inr rfl))) (λ_ _ _ _=>Bz) (λ_ _ _ _=>(Am qm hr rfl (Aa (vv 0) Ad))) (A9 (N:=Qbn) (pn:=(Ah Gc).names) (by decide +kernel))) (by with_unfolding_all rfl)))))) (Ak (Ba Fv)) Bf)))
   (Ae (J2 (i:=12) (N':=["_law_known","_law_pile"]) (mp:=[none,none]) rfl C6.nd rfl rfl (Ce (vv 9)) (λ_ _ _ _=>(M6 (n:=2) rfl (De (Ar (i:=0) Ut rfl (Or.inl rfl) (Or.inr rfl)) (De (Ar (i:=1) Ut rfl (Or.inl rfl) (Or.inr rfl)) J1)))) (λ_ _ _ _=>Bz) (λ_ _ _ _=>(vv 0)) (A9 (N:=Qbn) (pn:=(Ah Gc).names) (by decide +kernel)))
   (Ae (Ci Yba rfl (Ce (Am zm hr rfl (Aa (vv 3) (Aa Af Ad)))) (Ar (i:=11) C6.nd rfl (Or.inl rfl)) (Ak (Cq (Be (Gf hr) (Am lj hr rfl (Aa (vv 7) (Aa (vv 6) (Aa (vv 4) (Aa (vv 11) Ad))))) (vv 12) (by with_unfolding_all rfl)) (Ak (Ba Fv)) Bf)))
   (Ae (Cs (D5 Ybx Yby Cw (vv 9) (Aa (Bp (Aa (Bp Ad) (Aa (Bp Ad) Ad))) Ad)))
   (Ak (Ba (G2 (Hx hr) (Am tu hr rfl (Aa (vv 2) (Aa (vv 5) (Aa (vv 6) Ad)))) (vv 8) (nomark _)))))))))))))))))),?_⟩
 rintro xs μ R _ ⟨ns,rfl,fq,q⟩
 refine Co ⟨ns,0,rfl,by decide,fq,λa l μ1 _ _ P1 _=>?_⟩
 refine Co ⟨a,l,rfl,P1,λps ls rs μ2 p0 p3 l0 l3 P2 S2=>?_⟩
 refine Ay (fun τ μ'=>τ=[some (.D (Fg ns)),some (.R a),some (.D (.tuple [.tuple ps,.tuple ls,.tuple rs])),some (.D (.int (ls.length:Nat))),none,none,none,none,none,none,none,none,none]/\μ2=μ') (λZ hZ=>Ac (Bn (j:=1) rfl) (hZ _ _ ⟨rfl,rfl⟩)) ?_
 rintro τ _ ⟨rfl,rfl⟩
 refine Ay (fun τ μ'=>∃st:Nat,τ=[some (.D (Fg ns)),some (.R a),some (.D (.tuple [.tuple ps,.tuple ls,.tuple rs])),some (.D (.int (ls.length:Nat))),some (.D (.int (st:Nat))),none,none,none,none,none,none,none,none]/\0 < st/\st<=5/\Pot μ' a l) (λZ hZ=>Ac (Bn (j:=0) rfl) ⟨a,l,3,rfl,P2,by decide,by decide,λv μ3 hv P3 S3=>hZ _ _ ⟨ps.length+v,rfl,by omega,by omega,P3⟩⟩) ?_
 rintro τ μ3 ⟨st,rfl,hs0,ga,P3⟩
 refine Co ⟨a,l,st,ls.length,rfl,hs0,ga,l0,by omega,P3,λA μ4 kA pA lA P4 S4=>?_⟩
 refine Co ⟨a,l,0,st,rfl,ga,P4,λends μ5 he cy P5 S5=>?_⟩
 have I:BIn A ends st ls.length:=⟨lA,kA,ga,pA,λe h=>by have:=he e h;omega,by omega,l3⟩
 refine Co ⟨A,rfl,lA,λtb μ6 hT6 S6=>?_⟩
 refine Co ⟨tb,A,ends,st,ls.length,rfl,I,hT6,λk pd μ7 hE7 hpd e7 S7=>?_⟩
 refine Co ⟨.tuple ps,.tuple rs,ls,A,ends,st,rfl,I,λk' pf μ8 hE8 cw e8 S8=>?_⟩
 have ek:k'=k:=hE8.eq hE7
 subst ek
 have hB:=Hn (A:=A) (ends:=ends) (st:=st) (le:=ls.length) k'
 have uc:=hB.len ga
 have d8:=S8 _ _ e7
 have hT8:Cr μ8 tb A:=(hT6.sub S7).sub S8
 have j9:pd≠pf:=by rintro rfl;rw [e7]at cw;cases cw
 have kln:k'<=32:=by rw [<- hE7.no];exact uc
 generalize hLL:bsq A ends st ls.length k'=L at e8 d8 hB uc
 have hok:=Xf L
 refine Ay (fun τ μ'=>τ=[some (.D (Fg ns)),some (.R a),some (.D (.tuple [.tuple ps,.tuple ls,.tuple rs])),some (.D (.int (ls.length:Nat))),some (.D (.int (st:Nat))),some (.D (.tuple (A.map A7))),some (.D (Ai ends)),some (.R tb),some (.R pd),some (.R pf),none,none,none]/\μ8=μ') (λZ hZ=>?_) ?_
 ·refine Ac (x := "list") (by simp only [tyA,e8]) (My Qg2 (Ac (Pg e8 (Gm L)) (Ac (Pg d8 (Gm L)) ⟨hok,hok,My (by rw [PySem.SeqAt.eqv_refl _ hok.1];rfl) (hZ _ _ ⟨rfl,rfl⟩)⟩)))
 rintro τ _ ⟨rfl,rfl⟩
 refine Ay (fun τ μ'=>∃io fx,τ=[some (.D (Fg ns)),some (.R a),some (.D (.tuple [.tuple ps,.tuple ls,.tuple rs])),some (.D (.int (ls.length:Nat))),some (.D (.int (st:Nat))),some (.D (.tuple (A.map A7))),some (.D (Ai ends)),some (.R tb),some (.R pd),some (.R pf),io,fx,none]/\Sub μ8 μ') (λZ hZ=>?_) ?_
 ·refine Ac (Au e8) ?_
  refine Dg (λi τ μ'=>∃io fx,τ=[some (.D (Fg ns)),some (.R a),some (.D (.tuple [.tuple ps,.tuple ls,.tuple rs])),some (.D (.int (ls.length:Nat))),some (.D (.int (st:Nat))),some (.D (.tuple (A.map A7))),some (.D (Ai ends)),some (.R tb),some (.R pd),some (.R pf),io,fx,none]/\Sub μ8 μ') ⟨_,_,rfl,Sub.refl⟩ (λ_ _ _ ⟨_,_,_,S⟩=>Au (S _ _ e8)) ?_ ?_
  ·rintro i y τ μ9 Z2 hy ⟨io,fx,rfl,S9⟩ bh
   rw [List.getElem?_map]at hy
   obtain⟨e,i5,rfl⟩:=Yap.mp hy
   have i5:=Yaz i5
   have uf:=hB.eq e i5
   have zab:=hB.ln e i5
   refine⟨rfl,Qbk ?_⟩
   dsimp only [List.set]
   have hup:Rise e.1:=by rw [uf];exact Ft _
   have h1l:e.1.length<=20:=by
    have:=Fe (ys:=List.range st) hup.nodup λt ht=>Ybh.mpr (by rw [uf]at ht;exact Uq _ t ht)
    rw [Yee]at this
    omega
   refine⟨e.1,rfl,h1l,hup,fun μ10 S10=>My rfl (Ac rfl (My Qed (Ac (B1 e.2) λpc d6=>?_)))⟩
   refine cmap e.2 _ (λ_=>.D (.bool true)) (fun τ=>∃o,τ=[o]) ⟨none,rfl⟩ Ab (seven (by omega)) (λ_=>B1 e.2) ?_ ?_
   ·rintro j x τ' af W hx ⟨o,rfl⟩ hW
    exact⟨_,rfl,hW _ ⟨_,rfl⟩⟩
   ·obtain⟨t1,t2,t3⟩:=Hl e.2
    have hd:dats (e.2.map λ_=>AV.D (.bool true))=some (e.2.map λ_=>.bool true):=by
     rw [show(e.2.map λ_=>AV.D (.bool true))=(e.2.map λ_=>PyData.bool true).map .D by rw [Ya5];rfl];exact Bi _
    have S10':Sub μ8 μ10:=λb m hb=>S10 b m (S9 b m hb)
    refine Ac rfl (Ac (Au Ab) (Ac hd ⟨Iw _,⟨by simp only [PyData.canLay0];exact t1,by simp only [PyData.depth];omega⟩,My t3 (bh _ _ ⟨_,_,rfl,?_⟩)⟩))
    rw [Bu];exact S10'.new (S10'.none d6)
  ·rintro τ μ9 ⟨io,fx,rfl,S9⟩
   exact hZ _ _ ⟨_,_,rfl,S9⟩
 rintro τ μ9 ⟨io,fx,rfl,S9⟩
 refine Ay (fun τ μ'=>∃ph,τ=[some (.D (Fg ns)),some (.R a),some (.D (.tuple [.tuple ps,.tuple ls,.tuple rs])),some (.D (.int (ls.length:Nat))),some (.D (.int (st:Nat))),some (.D (.tuple (A.map A7))),some (.D (Ai ends)),some (.R tb),some (.R pd),some (.R pf),io,fx,some (.R ph)]/\ph≠pf/\μ' ph=some (.lst (L.map sA))/\Sub μ8 μ') (λZ hZ=>?_) ?_
 ·have e9:=S9 _ _ e8
  refine Ac (Au e9) λpc d6=>?_
  have p9:pf≠pc:=by rintro rfl;rw [e9]at d6;cases d6
  refine cmap L bA sA (fun τ=>∃o1 o2,τ=[o1,o2]) ⟨none,none,rfl⟩ Ab (seven (by omega)) (λaf=>Au (by rw [Bu,Ag p9];exact e9)) ?_ ?_
  ·rintro j u τ' af W1 hu ⟨o1,o2,rfl⟩ hW1
   exact⟨rfl,Qbk (hW1 _ ⟨_,_,rfl⟩)⟩
  ·rw [Bu]
   exact hZ _ _ ⟨pc,rfl,p9.symm,Ab,S9.new (S9.none d6)⟩
 rintro τ μ10 ⟨ph,rfl,hhf,c10,S10⟩
 refine Ay (fun τ μ'=>∃fx,τ=[some (.D (Fg ns)),some (.R a),some (.D (.tuple [.tuple ps,.tuple ls,.tuple rs])),some (.D (.int (ls.length:Nat))),some (.D (.int (st:Nat))),some (.D (.tuple (A.map A7))),some (.D (Ai ends)),some (.R tb),some (.R pd),some (.R pf),io,fx,some (.R ph)]/\Sub μ8 μ') (λZ hZ=>?_) ?_
 ·refine⟨ls.length,rfl,l3,λFs pq μ11 hF hpq qd S11=>Ac (Au qd) ?_⟩
  refine Dg (λi τ μ'=>∃fx,τ=[some (.D (Fg ns)),some (.R a),some (.D (.tuple [.tuple ps,.tuple ls,.tuple rs])),some (.D (.int (ls.length:Nat))),some (.D (.int (st:Nat))),some (.D (.tuple (A.map A7))),some (.D (Ai ends)),some (.R tb),some (.R pd),some (.R pf),io,fx,some (.R ph)]/\Sub μ11 μ') ⟨_,rfl,Sub.refl⟩ (λ_ _ _ ⟨_,_,S⟩=>Au (S _ _ qd)) ?_ ?_
  ·rintro i y τ μ12 Z2 hy ⟨fx,rfl,S12⟩ bh
   rw [List.getElem?_map]at hy
   obtain⟨W,hW,rfl⟩:=Yap.mp hy
   have my:=hF W (Yaz hW)
   have x4:Cr μ12 tb A:=((hT8.sub S10).sub S11).sub S12
   refine⟨tb,A,ends,W,st,rfl,ga,Yaq my.1 (by decide),by omega,kA,x4,fun μ13 S13=>?_⟩
   have c13:=S13 _ _ (S12 _ _ (S11 _ _ c10))
   refine Ac rfl (Ac (Au c13) (Ac (Pf L) ⟨Eg,Mk _,?_⟩))
   rw [Pe]
   have ck:Dj A ends st W∈L.map (·.1):=by rw [<- hLL];exact hE7.all pA I.e my.2
   exact My (by show(!decide (Dj A ends st W∈L.map (·.1)))=false;rw [Ybi ck];rfl) (bh _ _ ⟨_,rfl,λb m hb=>S13 b m (S12 b m hb)⟩)
  ·rintro τ μ12 ⟨fx,rfl,S12⟩
   exact hZ _ _ ⟨_,rfl,λb m hb=>S12 b m (S11 b m (S10 b m hb))⟩
 rintro τ μ11 ⟨o11',rfl,S11⟩
 have qd:=S11 _ _ e8
 have d11:=S11 _ _ d8
 refine Co ⟨Ac qd trivial,Ac qd ⟨Az (by rw [Yac];omega),?_⟩⟩
 refine⟨.tuple ps,.tuple rs,ls,A,ends,st,rfl,I,λk2 pg μ12 hE12 uh e12 S12=>?_⟩
 have ek:k2=k':=hE12.eq hE7
 subst ek
 rw [hLL]at e12
 have d12:=S12 _ _ (show Ao μ11 pf _ pd=some (.lst (L.map bA)) by rw [Ag j9];exact d11)
 refine Ac (Pg e12 (Gm L)) (Ac (Pg d12 (Gm L)) ⟨hok,hok,?_⟩)
 rw [PySem.SeqAt.eqv_refl _ hok.1]
 exact⟨_,Sub.refl,q _⟩
def Ph(K:PySem.W.Frag):Sp:=λvs H Q _=>∃(a:Addr) (ns:List Int),vs=[.ref a]/\Dx K H a (ns.map V.int)/\Only H/\ns.length<=63/\∀H',Q (.bl true) H'
theorem dk_ints{H:Hp}:∀(ns:List Int),Aj K H (ns.map .int) (ns.map V.int)
 | []=>Cc
 | n :: ns=>Bw D3 (dk_ints ns)
theorem Qbp{n:Nat}(F:Fun K "law" "law" Gc f fd) (vp:VCal P w K mg base n "_law_pot" ["_law_script","_law_base"] Qa4) (bx:VCal P w K mg base n "_law_draw" ["_law_pot_here","_law_many"] Mb) (ze:VCal P w K mg base n "_law_game" ["_law_pot_here","_law_most"] Qbi) (v7:VCal P w K mg base n "_law_arrows" ["_law_pot_here","_law_stands","_law_letters"] Qa5) (oi:VCal P w K mg base n "_law_some" ["_law_pot_here","_law_first","_law_many"] W0)
  (x5:VCal P w K mg base n "_law_table" ["_law_arrows_here"] Qa2) (ww:VCal P w K mg base n "_law_sets" ["_law_table_here","_law_ends","_law_stands","_law_letters"] Qbl) (tu:VCal P w K mg base n "sets_come_up" ["game","arrows","ends"] Qbj) (wq:VCal P w K mg base n "_law_is_rising" ["_law_found"] Qa9) (qm:VCal P w K mg base n "_law_whole" ["_law_found"] W7) (zm:VCal P w K mg base n "_law_piles" ["_law_letters","_law_many"] Qbm) (lj:VCal P w K mg base n "_law_set" ["_law_table_here","_law_ends","_law_stands","_law_pile"] Wz) (ao:mg "len" = none) (al:mg "isinstance" = none) (bf:mg "list" = none) (ak:mg "tuple" = none):FnOk P w K mg base Ep (n+1) f fd ["_law_script"] (Ph K):=by
 refine(Xg F vp bx ze v7 oi x5 ww tu wq qm zm lj ao al bf ak).imp ?_
 rintro vs H Q E ⟨a,ns,rfl,hS,hO,hl,q⟩
 refine⟨[.D (Fg ns)],λ_=>none,λv _=>v=.D (.bool true),rfl,.cons ?_ .nil,(λ_ _ z=>nomatch z),⟨ns,rfl,hl,λ_=>rfl⟩,?_⟩
 ·refine Zs (xs:=ns.map V.int) ?_ (dk_ints ns)
  rcases hS with(h | h) | h
  ·rcases hO a with z | ⟨o,xs,z⟩
   ·rw [z]at h;cases h
   ·rw [z]at h;cases h
  ·exact .inl h
  ·exact .inr h
 ·rintro x μ v H' _ _ rx rfl
  cases RelA.bl rx
  exact q _
end
theorem Ji{us:List Value}(h:us.length=1):∃a0,us=[a0]:=by
 obtain⟨a0,t,rfl,h2⟩:=Cz h
 rw [Yca h2];exact⟨a0,rfl⟩
theorem Jj{us:List Value}(h:us.length=2):∃a0 a1,us=[a0,a1]:=by
 obtain⟨a0,t,rfl,h2⟩:=Cz h
 obtain⟨a1,rfl⟩:=Ji h2
 exact⟨a0,a1,rfl⟩
theorem Jk{us:List Value}(h:us.length=3):∃a0 a1 a2,us=[a0,a1,a2]:=by
 obtain⟨a0,t,rfl,h2⟩:=Cz h
 obtain⟨a1,a2,rfl⟩:=Jj h2
 exact⟨a0,a1,a2,rfl⟩
theorem Pi{us:List Value}(h:us.length=4):∃a0 a1 a2 a3,us=[a0,a1,a2,a3]:=by
 obtain⟨a0,t,rfl,h2⟩:=Cz h
 obtain⟨a1,a2,a3,rfl⟩:=Jk h2
 exact⟨a0,a1,a2,a3,rfl⟩
theorem Qex{us:List Value}(h:us.length=5):∃a0 a1 a2 a3 a4,us=[a0,a1,a2,a3,a4]:=by
 obtain⟨a0,t,rfl,h2⟩:=Cz h
 obtain⟨a1,a2,a3,a4,rfl⟩:=Pi h2
 exact⟨a0,a1,a2,a3,a4,rfl⟩
theorem all_mk{l:PySem.W.OpenLaw}{w:World}{K:PySem.W.Frag}{h:Heap}{mg:Str->Option Value}{fa f1 f2 f3 f4 f5 f6 f7 f8 f9 we xc zf u4 yl zr yu zc w9 wt x6:Addr}(X:K.In h)(G:h.Ns mainGlobals mg)(hfa:mg "law" = some (.ref fa))
  {od1 an1 od2 an2 od3 an3 od4 an4 od5 an5 od6 an6 od7 an7 od8 an8 od9 an9 y6 xz xa yh zi xk ve zx z0 wy yj yi vc za um xh wz uo vj w6 xt oq:Option Addr} {sl1 ku sl3 sl4 sl5 sl6 sl7 sl8 sl9 y8 vx yf yp zk xq zo w5 va zg vq:Array (Option Value)} {oc1 kV1 dc1 pm1 cd1 ct1 oc2 kV2 dc2 pm2 cd2 ct2 oc3 kV3 dc3 pm3 cd3 ct3 oc4 kV4 dc4 pm4 cd4 ct4 oc5 kV5 dc5 pm5 cd5 ct5 oc6 kV6 dc6 pm6 cd6 ct6 oc7 kV7 dc7 pm7 cd7 ct7 oc8 kV8 dc8 pm8 cd8 ct8 oc9 kV9 dc9 pm9 cd9 ct9 v8 yq y3 ye nu ux zn u5 vd xx o9 wn v3 yd y7 u9 qy yc y9 yw zt z7 sk wm zl yr vn ur qb uw yn wu xw wg oj u6 yt zd yk v5 m4 xg vf x8 uu ut pe wj vb wv vy y1 oh x3 y4 xf xb yb mx vw u8 qh sf oz ke n8:Value}
  (a1:PySem.W.nsIn K mainGlobals "reading_with" = some (some (.ref f1)))
  (l1:K.lookup f1=some ⟨oc1,od1,.func (PySem.W.fnOf "reading_with" "reading_with" (A3 sRw) (Av sRw) (Ah sRw) .none kV1 dc1 pm1 an1 cd1 ct1),sl1⟩)
  (c_1:PySem.W.codeIn K cd1 "reading_with" = true)
  (k1:PySem.W.keepIn K (.ref f1)=true)
  (a2:PySem.W.nsIn K mainGlobals "sets_come_up" = some (some (.ref f2)))
  (l2:K.lookup f2=some ⟨oc2,od2,.func (PySem.W.fnOf "sets_come_up" "sets_come_up" (A3 sSu) (Av sSu) (Ah sSu) .none kV2 dc2 pm2 an2 cd2 ct2),ku⟩)
  (c_2:PySem.W.codeIn K cd2 "sets_come_up" = true)
  (k2:PySem.W.keepIn K (.ref f2)=true)
  (a3:PySem.W.nsIn K mainGlobals "as_set" = some (some (.ref f3)))
  (l3:K.lookup f3=some ⟨oc3,od3,.func (PySem.W.fnOf "as_set" "as_set" (A3 sAs) (Av sAs) (Ah sAs) .none kV3 dc3 pm3 an3 cd3 ct3),sl3⟩)
  (c_3:PySem.W.codeIn K cd3 "as_set" = true)
  (k3:PySem.W.keepIn K (.ref f3)=true)
  (a4:PySem.W.nsIn K mainGlobals "set_with" = some (some (.ref f4)))
  (l4:K.lookup f4=some ⟨oc4,od4,.func (PySem.W.fnOf "set_with" "set_with" (A3 sSw) (Av sSw) (Ah sSw) .none kV4 dc4 pm4 an4 cd4 ct4),sl4⟩)
  (c_4:PySem.W.codeIn K cd4 "set_with" = true)
  (k4:PySem.W.keepIn K (.ref f4)=true)
  (a5:PySem.W.nsIn K mainGlobals "_law_pot" = some (some (.ref f5)))
  (l5:K.lookup f5=some ⟨oc5,od5,.func (PySem.W.fnOf "_law_pot" "_law_pot" (A3 sPo) (Av sPo) (Ah sPo) .none kV5 dc5 pm5 an5 cd5 ct5),sl5⟩)
  (c_5:PySem.W.codeIn K cd5 "_law_pot" = true)
  (k5:PySem.W.keepIn K (.ref f5)=true)
  (a6:PySem.W.nsIn K mainGlobals "_law_draw" = some (some (.ref f6)))
  (l6:K.lookup f6=some ⟨oc6,od6,.func (PySem.W.fnOf "_law_draw" "_law_draw" (A3 sDr) (Av sDr) (Ah sDr) .none kV6 dc6 pm6 an6 cd6 ct6),sl6⟩)
  (c_6:PySem.W.codeIn K cd6 "_law_draw" = true)
  (k6:PySem.W.keepIn K (.ref f6)=true)
  (a7:PySem.W.nsIn K mainGlobals "_law_name" = some (some (.ref f7)))
  (l7:K.lookup f7=some ⟨oc7,od7,.func (PySem.W.fnOf "_law_name" "_law_name" (A3 sNm) (Av sNm) (Ah sNm) .none kV7 dc7 pm7 an7 cd7 ct7),sl7⟩)
  (c_7:PySem.W.codeIn K cd7 "_law_name" = true)
  (k7:PySem.W.keepIn K (.ref f7)=true)
  (a8:PySem.W.nsIn K mainGlobals "_law_names" = some (some (.ref f8)))
  (l8:K.lookup f8=some ⟨oc8,od8,.func (PySem.W.fnOf "_law_names" "_law_names" (A3 sNa) (Av sNa) (Ah sNa) .none kV8 dc8 pm8 an8 cd8 ct8),sl8⟩)
  (c_8:PySem.W.codeIn K cd8 "_law_names" = true)
  (k8:PySem.W.keepIn K (.ref f8)=true)
  (a9:PySem.W.nsIn K mainGlobals "_law_rule" = some (some (.ref f9)))
  (l9:K.lookup f9=some ⟨oc9,od9,.func (PySem.W.fnOf "_law_rule" "_law_rule" (A3 sRu) (Av sRu) (Ah sRu) .none kV9 dc9 pm9 an9 cd9 ct9),sl9⟩)
  (c_9:PySem.W.codeIn K cd9 "_law_rule" = true)
  (k9:PySem.W.keepIn K (.ref f9)=true)
  (a10:PySem.W.nsIn K mainGlobals "_law_game" = some (some (.ref we)))
  (l10:K.lookup we=some ⟨v8,y6,.func (PySem.W.fnOf "_law_game" "_law_game" (A3 X7) (Av X7) (Ah X7) .none yq y3 ye xz nu ux),y8⟩)
  (c_10:PySem.W.codeIn K nu "_law_game" = true)
  (k10:PySem.W.keepIn K (.ref we)=true)
  (a11:PySem.W.nsIn K mainGlobals "_law_some" = some (some (.ref xc)))
  (l11:K.lookup xc=some ⟨zn,xa,.func (PySem.W.fnOf "_law_some" "_law_some" (A3 sSo) (Av sSo) (Ah sSo) .none u5 vd xx yh o9 wn),vx⟩)
  (c_11:PySem.W.codeIn K o9 "_law_some" = true)
  (k11:PySem.W.keepIn K (.ref xc)=true)
  (a12:PySem.W.nsIn K mainGlobals "_law_arrows" = some (some (.ref zf)))
  (l12:K.lookup zf=some ⟨v3,zi,.func (PySem.W.fnOf "_law_arrows" "_law_arrows" (A3 sAr) (Av sAr) (Ah sAr) .none yd y7 u9 xk qy yc),yf⟩)
  (c_12:PySem.W.codeIn K qy "_law_arrows" = true)
  (k12:PySem.W.keepIn K (.ref zf)=true)
  (a13:PySem.W.nsIn K mainGlobals "_law_table" = some (some (.ref u4)))
  (l13:K.lookup u4=some ⟨y9,ve,.func (PySem.W.fnOf "_law_table" "_law_table" (A3 sTa) (Av sTa) (Ah sTa) .none yw zt z7 zx sk wm),yp⟩)
  (c_13:PySem.W.codeIn K sk "_law_table" = true)
  (k13:PySem.W.keepIn K (.ref u4)=true)
  (a14:PySem.W.nsIn K mainGlobals "_law_reads" = some (some (.ref yl)))
  (l14:K.lookup yl=some ⟨zl,z0,.func (PySem.W.fnOf "_law_reads" "_law_reads" (A3 X8) (Av X8) (Ah X8) .none yr vn ur wy qb uw),zk⟩)
  (c_14:PySem.W.codeIn K qb "_law_reads" = true)
  (k14:PySem.W.keepIn K (.ref yl)=true)
  (a15:PySem.W.nsIn K mainGlobals "_law_set" = some (some (.ref zr)))
  (l15:K.lookup zr=some ⟨yn,yj,.func (PySem.W.fnOf "_law_set" "_law_set" (A3 sSe) (Av sSe) (Ah sSe) .none wu xw wg yi oj u6),xq⟩)
  (c_15:PySem.W.codeIn K oj "_law_set" = true)
  (k15:PySem.W.keepIn K (.ref zr)=true)
  (a16:PySem.W.nsIn K mainGlobals "_law_sets" = some (some (.ref yu)))
  (l16:K.lookup yu=some ⟨yt,vc,.func (PySem.W.fnOf "_law_sets" "_law_sets" (A3 sSs) (Av sSs) (Ah sSs) .none zd yk v5 za m4 xg),zo⟩)
  (c_16:PySem.W.codeIn K m4 "_law_sets" = true)
  (k16:PySem.W.keepIn K (.ref yu)=true)
  (a17:PySem.W.nsIn K mainGlobals "_law_whole" = some (some (.ref zc)))
  (l17:K.lookup zc=some ⟨vf,um,.func (PySem.W.fnOf "_law_whole" "_law_whole" (A3 sWh) (Av sWh) (Ah sWh) .none x8 uu ut xh pe wj),w5⟩)
  (c_17:PySem.W.codeIn K pe "_law_whole" = true)
  (k17:PySem.W.keepIn K (.ref zc)=true)
  (a18:PySem.W.nsIn K mainGlobals "_law_is_rising" = some (some (.ref w9)))
  (l18:K.lookup w9=some ⟨vb,wz,.func (PySem.W.fnOf "_law_is_rising" "_law_is_rising" (A3 X9) (Av X9) (Ah X9) .none wv vy y1 uo oh x3),va⟩)
  (c_18:PySem.W.codeIn K oh "_law_is_rising" = true)
  (k18:PySem.W.keepIn K (.ref w9)=true)
  (a19:PySem.W.nsIn K mainGlobals "_law_piles" = some (some (.ref wt)))
  (l19:K.lookup wt=some ⟨y4,vj,.func (PySem.W.fnOf "_law_piles" "_law_piles" (A3 sPs) (Av sPs) (Ah sPs) .none xf xb yb w6 mx vw),zg⟩)
  (c_19:PySem.W.codeIn K mx "_law_piles" = true)
  (k19:PySem.W.keepIn K (.ref wt)=true)
  (a20:PySem.W.nsIn K mainGlobals "law" = some (some (.ref x6)))
  (l20:K.lookup x6=some ⟨u8,xt,.func (PySem.W.fnOf "law" "law" (A3 Gc) (Av Gc) (Ah Gc) .none qh sf oz oq ke n8),vq⟩)
  (c_20:PySem.W.codeIn K ke "law" = true)
  (k20:PySem.W.keepIn K (.ref x6)=true)
  (z_all:PySem.W.nsIn K mainGlobals "all" = some none)
  (z_len:PySem.W.nsIn K mainGlobals "len" = some none)
  (z_range:PySem.W.nsIn K mainGlobals "range" = some none)
  (z_list:PySem.W.nsIn K mainGlobals "list" = some none)
  (z_tuple:PySem.W.nsIn K mainGlobals "tuple" = some none)
  (z_sorted:PySem.W.nsIn K mainGlobals "sorted" = some none)
  (z_set:PySem.W.nsIn K mainGlobals "set" = some none)
  (z_int:PySem.W.nsIn K mainGlobals "int" = some none)
  (z_zip:PySem.W.nsIn K mainGlobals "zip" = some none)
  (z_isinstance:PySem.W.nsIn K mainGlobals "isinstance" = some none)
  (z_bool:PySem.W.nsIn K mainGlobals "bool" = some none) :
  ∃fd:FuncData,(∀(s:Shared) (v:Value),BindsTo s fd ⟨[v],[]⟩ [("_law_script",v)])/\∀base:Heap,K.In base->base.Ns mainGlobals mg->FnOk l.prog w K mg base Ep 65 fa fd ["_law_script"] (Ph K):=by
 have e:=hfa.symm.trans (Ya9 X G a20)
 cases e
 have F1:=Bo (st:=sRw) l1 c_1 k1
 have F2:=Bo (st:=sSu) l2 c_2 k2
 have F3:=Bo (st:=sAs) l3 c_3 k3
 have F4:=Bo (st:=sSw) l4 c_4 k4
 have F5:=Bo (st:=sPo) l5 c_5 k5
 have F6:=Bo (st:=sDr) l6 c_6 k6
 have F7:=Bo (st:=sNm) l7 c_7 k7
 have F8:=Bo (st:=sNa) l8 c_8 k8
 have F9:=Bo (st:=sRu) l9 c_9 k9
 have F10:=Bo (st:=X7) l10 c_10 k10
 have F11:=Bo (st:=sSo) l11 c_11 k11
 have F12:=Bo (st:=sAr) l12 c_12 k12
 have F13:=Bo (st:=sTa) l13 c_13 k13
 have F14:=Bo (st:=X8) l14 c_14 k14
 have F15:=Bo (st:=sSe) l15 c_15 k15
 have F16:=Bo (st:=sSs) l16 c_16 k16
 have F17:=Bo (st:=sWh) l17 c_17 k17
 have F18:=Bo (st:=X9) l18 c_18 k18
 have F19:=Bo (st:=sPs) l19 c_19 k19
 have F20:=Bo (st:=Gc) l20 c_20 k20
 have b1:=F1.binds (ps:=["arrows","reading","letter"]) λ_ _ _ _ _ _ us hl=>by obtain⟨a0,a1,a2,rfl⟩:=Jk hl;rfl
 have b2:=F2.binds (ps:=["game","arrows","ends"]) λ_ _ _ _ _ _ us hl=>by obtain⟨a0,a1,a2,rfl⟩:=Jk hl;rfl
 have b3:=F3.binds (ps:=["stands"]) λ_ _ _ _ _ _ us hl=>by obtain⟨a0,rfl⟩:=Ji hl;rfl
 have b4:=F4.binds (ps:=["arrows","stands","letter"]) λ_ _ _ _ _ _ us hl=>by obtain⟨a0,a1,a2,rfl⟩:=Jk hl;rfl
 have b5:=F5.binds (ps:=["_law_script","_law_base"]) λ_ _ _ _ _ _ us hl=>by obtain⟨a0,a1,rfl⟩:=Jj hl;rfl
 have b6:=F6.binds (ps:=["_law_pot_here","_law_many"]) λ_ _ _ _ _ _ us hl=>by obtain⟨a0,a1,rfl⟩:=Jj hl;rfl
 have b7:=F7.binds (ps:=["_law_pot_here"]) λ_ _ _ _ _ _ us hl=>by obtain⟨a0,rfl⟩:=Ji hl;rfl
 have b8:=F8.binds (ps:=["_law_pot_here","_law_many"]) λ_ _ _ _ _ _ us hl=>by obtain⟨a0,a1,rfl⟩:=Jj hl;rfl
 have b9:=F9.binds (ps:=["_law_pot_here","_law_places","_law_letters","_law_pushes"]) λ_ _ _ _ _ _ us hl=>by obtain⟨a0,a1,a2,a3,rfl⟩:=Pi hl;rfl
 have b10:=F10.binds (ps:=["_law_pot_here","_law_most"]) λ_ _ _ _ _ _ us hl=>by obtain⟨a0,a1,rfl⟩:=Jj hl;rfl
 have b11:=F11.binds (ps:=["_law_pot_here","_law_first","_law_many"]) λ_ _ _ _ _ _ us hl=>by obtain⟨a0,a1,a2,rfl⟩:=Jk hl;rfl
 have b12:=F12.binds (ps:=["_law_pot_here","_law_stands","_law_letters"]) λ_ _ _ _ _ _ us hl=>by obtain⟨a0,a1,a2,rfl⟩:=Jk hl;rfl
 have b13:=F13.binds (ps:=["_law_arrows_here"]) λ_ _ _ _ _ _ us hl=>by obtain⟨a0,rfl⟩:=Ji hl;rfl
 have b14:=F14.binds (ps:=["_law_table_here","_law_ends","_law_stand","_law_pile","_law_known"]) λ_ _ _ _ _ _ us hl=>by obtain⟨a0,a1,a2,a3,a4,rfl⟩:=Qex hl;rfl
 have b15:=F15.binds (ps:=["_law_table_here","_law_ends","_law_stands","_law_pile"]) λ_ _ _ _ _ _ us hl=>by obtain⟨a0,a1,a2,a3,rfl⟩:=Pi hl;rfl
 have b16:=F16.binds (ps:=["_law_table_here","_law_ends","_law_stands","_law_letters"]) λ_ _ _ _ _ _ us hl=>by obtain⟨a0,a1,a2,a3,rfl⟩:=Pi hl;rfl
 have b17:=F17.binds (ps:=["_law_found"]) λ_ _ _ _ _ _ us hl=>by obtain⟨a0,rfl⟩:=Ji hl;rfl
 have b18:=F18.binds (ps:=["_law_found"]) λ_ _ _ _ _ _ us hl=>by obtain⟨a0,rfl⟩:=Ji hl;rfl
 have b19:=F19.binds (ps:=["_law_letters","_law_many"]) λ_ _ _ _ _ _ us hl=>by obtain⟨a0,a1,rfl⟩:=Jj hl;rfl
 have be:=Ybp X G z_all
 have ao:=Ybp X G z_len
 have ag:=Ybp X G z_range
 have bf:=Ybp X G z_list
 have ak:=Ybp X G z_tuple
 have bd:=Ybp X G z_sorted
 have gy:=Ybp X G z_set
 have dv:=Ybp X G z_int
 have gq:=Ybp X G z_zip
 have al:=Ybp X G z_isinstance
 have eg:=Ybp X G z_bool
 refine⟨PySem.W.fnOf "law" "law" (A3 Gc) (Av Gc) (Ah Gc) .none qh sf oz oq ke n8,λs v=>.of_eq rfl,λbase _ _=>?_⟩
 have g1:=Qd7 (P:=l.prog) (w:=w) (mg:=mg) (base:=base) (n:=0) F1 be
 have q1:VCal l.prog w K mg base 1 "reading_with" ["arrows","reading","letter"] _:=⟨_,_,g1,b1,k1,Ya9 X G a1⟩
 have g3:=Qeb (P:=l.prog) (w:=w) (mg:=mg) (base:=base) (n:=0) F3 ak bd gy
 have q3:VCal l.prog w K mg base 1 "as_set" ["stands"] _:=⟨_,_,g3,b3,k3,Ya9 X G a3⟩
 have g4:=Qd9 (P:=l.prog) (w:=w) (mg:=mg) (base:=base) (n:=1) F4 (q3.mono (by decide)) (q1.mono (by decide))
 have q4:VCal l.prog w K mg base 2 "set_with" ["arrows","stands","letter"] _:=⟨_,_,g4,b4,k4,Ya9 X G a4⟩
 have g2:=Qet (P:=l.prog) (w:=w) (mg:=mg) (base:=base) (n:=2) F2 (q3.mono (by decide)) (q4.mono (by decide)) ao ag bf
 have q2:VCal l.prog w K mg base 3 "sets_come_up" ["game","arrows","ends"] _:=⟨_,_,g2,b2,k2,Ya9 X G a2⟩
 have g5:=Qd1 (P:=l.prog) (w:=w) (mg:=mg) (base:=base) (n:=0) F5
 have q5:VCal l.prog w K mg base 1 "_law_pot" ["_law_script","_law_base"] _:=⟨_,_,g5,b5,k5,Ya9 X G a5⟩
 have g6:=Qd0 (P:=l.prog) (w:=w) (mg:=mg) (base:=base) (n:=0) F6 ao
 have q6:VCal l.prog w K mg base 1 "_law_draw" ["_law_pot_here","_law_many"] _:=⟨_,_,g6,b6,k6,Ya9 X G a6⟩
 have g7:=Qek (P:=l.prog) (w:=w) (mg:=mg) (base:=base) (n:=1) F7 (q6.mono (by decide)) ag
 have q7:VCal l.prog w K mg base 2 "_law_name" ["_law_pot_here"] _:=⟨_,_,g7,b7,k7,Ya9 X G a7⟩
 have g8:=Qem (P:=l.prog) (w:=w) (mg:=mg) (base:=base) (n:=2) F8 (q7.mono (by decide)) ag
 have q8:VCal l.prog w K mg base 3 "_law_names" ["_law_pot_here","_law_many"] _:=⟨_,_,g8,b8,k8,Ya9 X G a8⟩
 have g9:=Qep (P:=l.prog) (w:=w) (mg:=mg) (base:=base) (n:=1) F9 (q6.mono (by decide)) ak ag
 have q9:VCal l.prog w K mg base 2 "_law_rule" ["_law_pot_here","_law_places","_law_letters","_law_pushes"] _:=⟨_,_,g9,b9,k9,Ya9 X G a9⟩
 have g10:=Qes (P:=l.prog) (w:=w) (mg:=mg) (base:=base) (n:=3) F10 (q6.mono (by decide)) (q8.mono (by decide)) (q9.mono (by decide)) ag ao dv ak gq
 have q10:VCal l.prog w K mg base 4 "_law_game" ["_law_pot_here","_law_most"] _:=⟨_,_,g10,b10,k10,Ya9 X G a10⟩
 have g11:=Qd3 (P:=l.prog) (w:=w) (mg:=mg) (base:=base) (n:=1) F11 (q6.mono (by decide)) ak ag
 have q11:VCal l.prog w K mg base 2 "_law_some" ["_law_pot_here","_law_first","_law_many"] _:=⟨_,_,g11,b11,k11,Ya9 X G a11⟩
 have g12:=Qd4 (P:=l.prog) (w:=w) (mg:=mg) (base:=base) (n:=2) F12 (q6.mono (by decide)) (q11.mono (by decide)) ag ak bd
 have q12:VCal l.prog w K mg base 3 "_law_arrows" ["_law_pot_here","_law_stands","_law_letters"] _:=⟨_,_,g12,b12,k12,Ya9 X G a12⟩
 have g13:=Qdw (P:=l.prog) (w:=w) (mg:=mg) (base:=base) (n:=0) F13
 have q13:VCal l.prog w K mg base 1 "_law_table" ["_law_arrows_here"] _:=⟨_,_,g13,b13,k13,Ya9 X G a13⟩
 have g14:=Qdv (P:=l.prog) (w:=w) (mg:=mg) (base:=base) F14 b14 k14 (Ya9 X G a14) ao be 40
 have q14:VCal l.prog w K mg base 42 "_law_reads" ["_law_table_here","_law_ends","_law_stand","_law_pile","_law_known"] _:=⟨_,_,g14,b14,k14,Ya9 X G a14⟩
 have g15:=Qdz (P:=l.prog) (w:=w) (mg:=mg) (base:=base) (n:=42) F15 (q14.mono (by decide)) ak ag
 have q15:VCal l.prog w K mg base 43 "_law_set" ["_law_table_here","_law_ends","_law_stands","_law_pile"] _:=⟨_,_,g15,b15,k15,Ya9 X G a15⟩
 have g16:=Qeu (P:=l.prog) (w:=w) (mg:=mg) (base:=base) (n:=43) F16 (q15.mono (by decide)) ao ag
 have q16:VCal l.prog w K mg base 44 "_law_sets" ["_law_table_here","_law_ends","_law_stands","_law_letters"] _:=⟨_,_,g16,b16,k16,Ya9 X G a16⟩
 have g17:=Qea (P:=l.prog) (w:=w) (mg:=mg) (base:=base) (n:=0) F17 al dv eg
 have q17:VCal l.prog w K mg base 1 "_law_whole" ["_law_found"] _:=⟨_,_,g17,b17,k17,Ya9 X G a17⟩
 have g18:=Qeg (P:=l.prog) (w:=w) (mg:=mg) (base:=base) (n:=1) F18 (q17.mono (by decide)) al ak be ag ao
 have q18:VCal l.prog w K mg base 2 "_law_is_rising" ["_law_found"] _:=⟨_,_,g18,b18,k18,Ya9 X G a18⟩
 have g19:=Qew (P:=l.prog) (w:=w) (mg:=mg) (base:=base) (n:=0) F19 ag
 have q19:VCal l.prog w K mg base 1 "_law_piles" ["_law_letters","_law_many"] _:=⟨_,_,g19,b19,k19,Ya9 X G a19⟩
 have g20:=Qbp (P:=l.prog) (w:=w) (mg:=mg) (base:=base) (n:=44) F20 (q5.mono (by decide)) (q6.mono (by decide)) (q10.mono (by decide)) (q12.mono (by decide)) (q11.mono (by decide)) (q13.mono (by decide)) (q16.mono (by decide)) (q2.mono (by decide)) (q18.mono (by decide)) (q17.mono (by decide)) (q19.mono (by decide)) (q15.mono (by decide)) ao al bf ak
 exact g20.mono (by decide)
theorem walk{l:PySem.W.OpenLaw}{q:Program}{dy:List Str}{XP:(Str->Option Value)->Heap->Prop}{YP:World->Heap->Prop}{d:DefRec}{K:Params->PySem.W.Frag}(hn:l.most=some 63)(j9:d.params.defaults=[])
  (hY:∀(w:World) (h:Heap),YP w h->(K w.params).In h)
  (F:∀(w:World) (mg:Str->Option Value) (fa:Addr) (h:Heap),(K w.params).In h->h.Ns mainGlobals mg->mg d.name=some (.ref fa) ->
   ∃fd:FuncData,(∀(s:Shared) (u:Value),BindsTo s fd ⟨[u],[]⟩ [("_law_script",u)])/\∀base:Heap,(K w.params).In base->base.Ns mainGlobals mg->FnOk l.prog w (K w.params) mg base Ep 65 fa fd ["_law_script"] (Ph (K w.params))) :
  PySem.W.WalkO q dy XP YP l.row.toRowW d [] (λf vs=>PySem.call f vs) :=
 L2.walk_of (n:=63) (k:=65) (x := "_law_script") (CX:=λ_=>Ep) (sp:=λw=>Ph (K w.params)) hn (by decide) j9 ⟨rfl,by decide,by decide,rfl⟩ hY F (λ_ _ a ns hl hO hS=>⟨a,ns,rfl,hS,hO,hl,λ_=>rfl⟩) λ_ _ _ _ _ z=>z
end K38
namespace PySem.W.Fast
theorem tw2679555799011452504:True:=trivial
theorem tw13079984047727543785:True:=trivial
theorem tw4584424630815980285:True:=trivial
theorem tw5612809916865781569:True:=trivial
theorem tw901833581598326567:True:=trivial
theorem tw5046113093387943064:True:=trivial
theorem tw12981945420876337392:True:=trivial
theorem tw11707818433351133930:True:=trivial
theorem tw722851845039707209:True:=trivial
theorem tw14496543408474768023:True:=trivial
theorem tw7132198077764288515:True:=trivial
theorem tw17497848342843476084:True:=trivial
theorem tw10700111383129604123:True:=trivial
theorem tw7073911993679131340:True:=trivial
theorem tw2461131385967418548:True:=trivial
theorem tw9100946197734660458:True:=trivial
theorem tw8368587857918532368:True:=trivial
theorem tw9488433938819946560:True:=trivial
theorem tw7964581219657325325:True:=trivial
theorem tw4084298773381190906:True:=trivial
theorem tw14934261398256810795:True:=trivial
theorem tw11596641992699744148:True:=trivial
theorem tw5081806646960617717:True:=trivial
theorem tw10178949952912897179:True:=trivial
theorem tw9370335257266167957:True:=trivial
theorem tw14650280788660791186:True:=trivial
theorem tw10543651352429525468:True:=trivial
theorem tw14153083776128690630:True:=trivial
theorem tw3953258977739735780:True:=trivial
theorem tw8168651356750196368:True:=trivial
theorem tw5455463383486738279:True:=trivial
theorem tw10872930692928125665:True:=trivial
theorem tw11030248583010592518:True:=trivial
theorem tw16315085796528992455:True:=trivial
theorem tw16649604381119403908:True:=trivial
theorem tw583794861998494064:True:=trivial
theorem tw14172833906998341932:True:=trivial
theorem tw17593686695201189326:True:=trivial
theorem tw17628158946871207341:True:=trivial
theorem tw7368473533018955558:True:=trivial
theorem tw1951082804150377448:True:=trivial
theorem tw10818264951857337865:True:=trivial
theorem tw14606963653395276334:True:=trivial
theorem tw4920591691463500785:True:=trivial
theorem tw11933812500497236566:True:=trivial
theorem tw6292771985494507919:True:=trivial
theorem tw7735369730428432149:True:=trivial
theorem tw383989064945468830:True:=trivial
theorem tw9981091888788021893:True:=trivial
end PySem.W.Fast
open PySem PySem.W PyProof.Rows
set_option maxRecDepth 100000 in
set_option maxHeartbeats 0 in
theorem PySem.Challenge.cw_pileduel_k38_sets_that_come_up_holds : PySem.Challenge.rw_pileduel_k38_sets_that_come_up.Holds := by
 w_on;o_law;k_head;(case hw=>w_witness2)
 k_fill
 refine K38.walk (l:=PySem.Challenge.rw_pileduel_k38_sets_that_come_up) rfl rfl (fun w h Y=>PySem.W.kIn_of Y) ?F
 case F =>
  intro w mg fa h KX G hmg
  refine' K38.all_mk KX G hmg ?a1 ?l1 ?c_1 ?k1 ?a2 ?l2 ?c_2 ?k2 ?a3 ?l3 ?c_3 ?k3 ?a4 ?l4 ?c_4 ?k4 ?a5 ?l5 ?c_5 ?k5 ?a6 ?l6 ?c_6 ?k6 ?a7 ?l7 ?c_7 ?k7 ?a8 ?l8 ?c_8 ?k8 ?a9 ?l9 ?c_9 ?k9 ?a10 ?l10 ?c_10 ?k10 ?a11 ?l11 ?c_11 ?k11 ?a12 ?l12 ?c_12 ?k12 ?a13 ?l13 ?c_13 ?k13 ?a14 ?l14 ?c_14 ?k14 ?a15 ?l15 ?c_15 ?k15 ?a16 ?l16 ?c_16 ?k16 ?a17 ?l17 ?c_17 ?k17 ?a18 ?l18 ?c_18 ?k18 ?a19 ?l19 ?c_19 ?k19 ?a20 ?l20 ?c_20 ?k20 ?z_all ?z_len ?z_range ?z_list ?z_tuple ?z_sorted ?z_set ?z_int ?z_zip ?z_isinstance ?z_bool
  (case a1=>k_is)
  (case l1=>k_is)
  (case c_1=>k_is)
  (case k1=>k_is)
  (case a2=>k_is)
  (case l2=>k_is)
  (case c_2=>k_is)
  (case k2=>k_is)
  (case a3=>k_is)
  (case l3=>k_is)
  (case c_3=>k_is)
  (case k3=>k_is)
  (case a4=>k_is)
  (case l4=>k_is)
  (case c_4=>k_is)
  (case k4=>k_is)
  (case a5=>k_is)
  (case l5=>k_is)
  (case c_5=>k_is)
  (case k5=>k_is)
  (case a6=>k_is)
  (case l6=>k_is)
  (case c_6=>k_is)
  (case k6=>k_is)
  (case a7=>k_is)
  (case l7=>k_is)
  (case c_7=>k_is)
  (case k7=>k_is)
  (case a8=>k_is)
  (case l8=>k_is)
  (case c_8=>k_is)
  (case k8=>k_is)
  (case a9=>k_is)
  (case l9=>k_is)
  (case c_9=>k_is)
  (case k9=>k_is)
  (case a10=>k_is)
  (case l10=>k_is)
  (case c_10=>k_is)
  (case k10=>k_is)
  (case a11=>k_is)
  (case l11=>k_is)
  (case c_11=>k_is)
  (case k11=>k_is)
  (case a12=>k_is)
  (case l12=>k_is)
  (case c_12=>k_is)
  (case k12=>k_is)
  (case a13=>k_is)
  (case l13=>k_is)
  (case c_13=>k_is)
  (case k13=>k_is)
  (case a14=>k_is)
  (case l14=>k_is)
  (case c_14=>k_is)
  (case k14=>k_is)
  (case a15=>k_is)
  (case l15=>k_is)
  (case c_15=>k_is)
  (case k15=>k_is)
  (case a16=>k_is)
  (case l16=>k_is)
  (case c_16=>k_is)
  (case k16=>k_is)
  (case a17=>k_is)
  (case l17=>k_is)
  (case c_17=>k_is)
  (case k17=>k_is)
  (case a18=>k_is)
  (case l18=>k_is)
  (case c_18=>k_is)
  (case k18=>k_is)
  (case a19=>k_is)
  (case l19=>k_is)
  (case c_19=>k_is)
  (case k19=>k_is)
  (case a20=>k_is)
  (case l20=>k_is)
  (case c_20=>k_is)
  (case k20=>k_is)
  (case z_all=>k_is)
  (case z_len=>k_is)
  (case z_range=>k_is)
  (case z_list=>k_is)
  (case z_tuple=>k_is)
  (case z_sorted=>k_is)
  (case z_set=>k_is)
  (case z_int=>k_is)
  (case z_zip=>k_is)
  (case z_isinstance=>k_is)
  (case z_bool=>k_is)
