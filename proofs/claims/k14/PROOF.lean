import PyProof.Rows.All
import Wide.All
import OpenK.AllK
import Wide.FinOn
import Lean
import PyProof.EqAt
import PyProof.EqKinds
import PyProof.TupleCall
import PyProof.CompFree
import PyProof.CompUse
import PyProof.CollectIter
import PyProof.ListNew
import KE.KRevIter
import PyProof.EnumMake
import PyProof.Draws
import PyProof.TupleIter
import PyProof.WalksMore
import PyProof.ReprRoads
import PyProof.P3Eq
import PyProof.NeData
import PyProof.EqLayable
import PyProof.Rows.RegFStrParts
import PyProof.AutoListH
import KE.KItemsList
import KE.KDictList
import PyProof.StrBlockG
import PyProof.StrLawsOcc
import PyProof.StrLawsTight
import PyProof.StrLawsChain
import PyProof.Rows.Range3
import PyProof.MinMaxWalk
import PyProof.WalkInts
import PyProof.ExcClass3
import PyProof.ExcInit
import PyProof.InstStoreFacts
import PyProof.ExcArgsOwn
import KE.KIsAll
import PyProof.RaisesMany
import PyProof.RulesTry
import PyProof.Raises
import PyProof.RulesAs
import PyProof.NsDelKeeps
import PyProof.PassesOwn
import PyProof.Rows.CatchHere
import KE.KSortTup
import PyProof.FactsAll.tuple_2
import PyProof.TupleKey
import PyProof.Rows.RowHeap
import PyProof.SetKind
import PyProof.SetNew
import PyProof.DictIter
import PyProof.CollectWalk
import PyProof.Walks
import PyProof.ZipIter
import KE.KRevSl
import KE.KStateDown
import PyProof.SetRoads
import PyProof.SumWalk
import PyProof.CallStr
import PyProof.FactsAll.tuple_3
import PyProof.StrLawsIn
import PySem.Challenge.RW_pileduel_k14_texts_refused
set_option Elab.async false
set_option linter.all false
set_option maxRecDepth 100000
abbrev Yaa:=@List.length_map
abbrev Yab:=@PySem.wpAny_bind
abbrev Yac:=@List.map_append
abbrev Yad:=@PySem.wpAny_pure
abbrev Yae:=@List.mem_cons_of_mem
abbrev Yaf:=@of_decide_eq_true
abbrev Yag:=@Nat.le_refl
abbrev Yah:=@decide_eq_false
abbrev Yai:=@List.length_append
abbrev Yaj:=@decide_eq_true
abbrev Yak:=@Bool.false_ne_true
abbrev Yal:=@List.size_toArray
abbrev Yam:=@PySem.Heap.lt_size
abbrev Yan:=@PySem.boot_len
abbrev Yao:=@List.mem_cons_self
abbrev Yap:=@Nat.le_trans
abbrev Yaq:=@Bool.and_false
abbrev Yar:=@if_neg
abbrev Yas:=@Option.some.inj
abbrev Yat:=@Bool.false_and
abbrev Yau:=@Nat.lt_of_lt_of_le
abbrev Yav:=@PySem.W.mg_of
abbrev Yaw:=@if_pos
abbrev Yax:=@Option.map_eq_some_iff
abbrev Yay:=@Bool.not_eq_true'
abbrev Yaz:=@List.mem_map
abbrev Ya0:=@List.map_map
abbrev Ya1:=@Bool.not_eq_false'
abbrev Ya2:=@Bool.and_eq_true
abbrev Ya3:=@List.mem_singleton
abbrev Ya4:=@Bool.true_and
abbrev Ya5:=@List.mem_append
abbrev Ya6:=@Nat.ne_of_lt
abbrev Ya7:=@List.map_cons
abbrev Ya8:=@decide_eq_true_iff
abbrev Ya9:=@List.mem_of_getElem?
abbrev Yba:=@List.length_cons
abbrev Ybb:=@List.mem_cons
abbrev Ybc:=@PyProof.Rows.boot_tuple
abbrev Ybd:=@List.length_take
abbrev Ybe:=@decide_eq_false_iff_not
abbrev Ybf:=@List.mem_append_right
abbrev Ybg:=@List.getElem_mem
abbrev Ybh:=@of_decide_eq_false
abbrev Ybi:=@List.append_nil
abbrev Ybj:=@List.length_drop
abbrev Ybk:=@List.append_assoc
abbrev Ybl:=@PySem.Calls.spliced_cons
abbrev Ybm:=@PySem.W.mg_none_of
abbrev Ybn:=@List.drop_eq_getElem_cons
abbrev Ybo:=@congrArg
abbrev Ybp:=@PyProof.Rows.slot_tuple_getitem
abbrev Ybq:=@PySem.wpAny_Call_Name_kw
abbrev Ybr:=@Exists.elim
abbrev Ybs:=@List.all_eq_true
abbrev Ybt:=@PySem.W.kia_one
abbrev Ybu:=@PySem.PassesOwn.never
abbrev Ybv:=@PySem.wpAny_newObj_type
abbrev Ybw:=@PySem.F.slot_list_append
abbrev Ybx:=@PySem.F.type_list_append
abbrev Yby:=@PySem.wpAny_mono
abbrev Ybz:=@PySem.wpAny_field
abbrev Yb0:=@Nat.zero_le
abbrev Yb1:=@PyProof.Rows.callWith_builtin1
abbrev Yb2:=@PyProof.Rows.callWith_type1
abbrev Yb3:=@List.mem_of_mem_take
abbrev Yb4:=@List.drop_length
abbrev Yb5:=@decide_eq_decide
abbrev Yb6:=@PySem.wpAny_truthy_bool
abbrev Yb7:=@PySem.Calls.spliced_nil
abbrev Yb8:=@PySem.wpAny_holding
abbrev Yb9:=@PySem.F.slot_str_join
abbrev Yca:=@PySem.F.type_str_join
abbrev Ycb:=@List.take_length
abbrev Ycc:=@Nat.lt_irrefl
abbrev Ycd:=@PySem.F.slot_list_index
abbrev Yce:=@PySem.F.slot_str_split
abbrev Ycf:=@PySem.F.type_str_split
abbrev Ycg:=@List.cons_append
abbrev Ych:=@PyProof.Rows.assignInOrder_cons
abbrev Yci:=@List.mem_of_mem_drop
abbrev Ycj:=@PySem.wpAny_passesOwn
abbrev Yck:=@List.length_nil
abbrev Ycl:=@beq_eq_false_iff_ne
abbrev Ycm:=@PySem.mem_of_lookup
abbrev Ycn:=@List.any_cons
abbrev Yco:=@PySem.wpAny_getItem_str_slice
abbrev Ycp:=@PySem.W.looks_mroIn
abbrev Ycq:=@List.length_eq_zero_iff
abbrev Ycr:=@PySem.F.type_list_index
abbrev Ycs:=@PySem.W.Looks.ld
abbrev Yct:=@List.eq_nil_of_length_eq_zero
abbrev Ycu:=@PySem.Heap.size_push
abbrev Ycv:=@PySem.wpAny_setField
abbrev Ycw:=@List.take_succ
abbrev Ycx:=@List.take_of_length_le
abbrev Ycy:=@PyProof.Rows.boot_repr
abbrev Ycz:=@Nat.lt_of_le_of_lt
abbrev Yc0:=@Nat.le_of_lt
abbrev Yc1:=@List.map_nil
abbrev Yc2:=@PySem.wpAny_loadPart'
abbrev Yc3:=@List.nil_append
abbrev Yc4:=@PyProof.Rows.boot_all
abbrev Yc5:=@PySem.Paired.length
abbrev Yc6:=@PySem.wpAny_standAt
abbrev Yc7:=@List.mem_append_left
abbrev Yc8:=@PySem.W.looks_findIn
abbrev Yc9:=@List.mem_range
abbrev Yda:=@PySem.W.any_some
abbrev Ydb:=@Option.bind_some
abbrev Ydc:=@Ne.symm
abbrev Ydd:=@Array.length_toList
abbrev Yde:=@PySem.F.args_tuple_add_2
abbrev Ydf:=@List.append_cancel_right
abbrev Ydg:=@PySem.wpAny_execs_nil
abbrev Ydh:=@List.nodup_cons
abbrev Ydi:=@PySem.F.entry_tuple_add
abbrev Ydj:=@PySem.tupleKind_room_in1
abbrev Ydk:=@Bool.or_eq_true
abbrev Ydl:=@PySem.Obj.data_mapFields
abbrev Ydm:=@PySem.wpAny_pyIter_tuple
abbrev Ydn:=@PySem.StrLaws.join_split
abbrev Ydo:=@Int.emod_lt_of_pos
abbrev Ydp:=@Bool.decide_and
abbrev Ydq:=@PySem.F.slot_tuple_add
abbrev Ydr:=@PyProof.Rows.boot_list
abbrev Yds:=@Sum.inr.inj
abbrev Ydt:=@List.reverse_cons
abbrev Ydu:=@PySem.call_meets
abbrev Ydv:=@Nat.le_succ
abbrev Ydw:=@PySem.WalksT.enumerateD
abbrev Ydx:=@PySem.wpAny_pyIter_enum
abbrev Ydy:=@Bool.eq_false_iff
abbrev Ydz:=@List.nodup_append
abbrev Yd0:=@PySem.wpAny_bindName
abbrev Yd1:=@Bool.decide_or
abbrev Yd2:=@Bool.not_false
abbrev Yd3:=@PySem.Obj.isFreed_of_fields
abbrev Yd4:=@PySem.StrLaws.glued_eq_join
abbrev Yd5:=@PySem.wpAny_call_entry
abbrev Yd6:=@List.lookup_cons
abbrev Yd7:=@Nat.lt_succ_self
abbrev Yd8:=@PySem.Heap.size_update
abbrev Yd9:=@List.any_eq_true
abbrev Yea:=@List.cons.inj
abbrev Yeb:=@Bool.not_true
abbrev Yec:=@PySem.post_val_or_str
abbrev Yed:=@Bool.eq_iff_iff
abbrev Yee:=@PyProof.Rows.boot_isinstance
abbrev Yef:=@Int.emod_nonneg
abbrev Yeg:=@Nat.min_eq_left
abbrev Yeh:=@Nat.ne_of_gt
abbrev Yei:=@PySem.codeAny_mono
abbrev Yej:=@PySem.wpAny_typeOf
abbrev Yek:=@Nat.zero_add
abbrev Yel:=@PySem.typeIs_str
namespace L2
theorem Ql{α:Sort _}{a b:α->Prop}{P:Prop}(h:∃x,a x/\b x)(k:∀x,a x->b x->P):P:=Ybr h λx y=>k x y.1 y.2
theorem Cd{α β:Sort _}{a b c:α->β->Prop}{P:Prop}(h:∃x y,a x y/\b x y/\c x y)(k:∀x y,a x y->b x y->c x y->P):P:=Ybr h λx h=>Ybr h λy h=>k x y h.1 h.2.1 h.2.2
theorem B9{α β γ:Sort _}{a b c d:α->β->γ->Prop}{P:Prop}(h:∃x y z,a x y z/\b x y z/\c x y z/\d x y z)(k:∀x y z,a x y z->b x y z->c x y z->d x y z->P):P:=Ybr h λx h=>Ybr h λy h=>Ybr h λz h=>k x y z h.1 h.2.1 h.2.2.1 h.2.2.2
theorem Dl{α β γ δ:Sort _}{a b c d e:α->β->γ->δ->Prop}{P:Prop}(h:∃x y z u,a x y z u/\b x y z u/\c x y z u/\d x y z u/\e x y z u)(k:∀x y z u,a x y z u->b x y z u->c x y z u->d x y z u->e x y z u->P):P:=Ybr h λx h=>Ybr h λy h=>Ybr h λz h=>Ybr h λu h=>k x y z u h.1 h.2.1 h.2.2.1 h.2.2.2.1 h.2.2.2.2
theorem Qku{α β γ δ:Sort _}{a b c d e f:α->β->γ->δ->Prop}{P:Prop}(h:∃x y z u,a x y z u/\b x y z u/\c x y z u/\d x y z u/\e x y z u/\f x y z u)(k:∀x y z u,a x y z u->b x y z u->c x y z u->d x y z u->e x y z u->f x y z u->P):P:=Ybr h λx h=>Ybr h λy h=>Ybr h λz h=>Ybr h λu h=>k x y z u h.1 h.2.1 h.2.2.1 h.2.2.2.1 h.2.2.2.2.1 h.2.2.2.2.2
theorem E4{α β γ δ ε ζ:Sort _}{a b c d:α->β->γ->δ->ε->ζ->Prop}{P:Prop}(h:∃x y z u v w,a x y z u v w/\b x y z u v w/\c x y z u v w/\d x y z u v w)(k:∀x y z u v w,a x y z u v w->b x y z u v w->c x y z u v w->d x y z u v w->P):P:=Ybr h λx h=>Ybr h λy h=>Ybr h λz h=>Ybr h λu h=>Ybr h λv h=>Ybr h λw h=>k x y z u v w h.1 h.2.1 h.2.2.1 h.2.2.2
open PySem PySem.Spec PyProof.Rows
abbrev Key:=Sum Int Str
def Kg:Key->Value->Bool
 | .inl k,v=>Value.isInt k v
 | .inr x,v=>Value.isStrOf x v
def Qac(w:World):Key->Int
 | .inl k=>hashInt k
 | .inr x=>hashStr w x
theorem keyIs_shape:∀{k:Key} {v:Value},Kg k v=true->(∃i t,k=Sum.inl i/\v=Value.int i t)\/(∃x t,k=Sum.inr x/\v=Value.str x t)
 | .inl i,v,h=>by
  obtain⟨t,e⟩:=Value.isInt_shape (k:=i) (v:=v) h
  exact .inl ⟨i,t,rfl,e⟩
 | .inr x,v,h=>by
  obtain⟨t,e⟩:=Value.isStrOf_shape (x:=x) (v:=v) h
  exact .inr ⟨x,t,rfl,e⟩
theorem Qm(i:Int)(t:Tok):Kg (.inl i) (.int i t)=true:=by simp [Kg,Value.isInt]
theorem Qn(x:Str)(t:Tok):Kg (.inr x) (.str x t)=true:=by simp [Kg,Value.isStrOf]
theorem Qad(a b:Int):decide ((Sum.inl a:Key)=Sum.inl b)=(a==b):=by
 by_cases e:a=b
 ·subst e;simp
 ·have h:¬(Sum.inl a:Key)=Sum.inl b:=λq=>e (Sum.inl.inj q)
  rw [Yah h]
  exact(Ycl.mpr e).symm
theorem Qae(a b:Str):decide ((Sum.inr a:Key)=Sum.inr b)=decide (a=b):=by
 by_cases e:a=b
 ·subst e;simp
 ·have h:¬(Sum.inr a:Key)=Sum.inr b:=λq=>e (Yds q)
  rw [Yah h,Yah e]
theorem Qaf(a:Int)(b:Str):decide ((Sum.inl a:Key)=Sum.inr b)=false:=Yah (λq=>nomatch q)
theorem Qag(a:Str)(b:Int):decide ((Sum.inr a:Key)=Sum.inl b)=false:=Yah (λq=>nomatch q)
def B2(prog:Program)(w:World):PySem.KeyKind prog w Key where
 is:=Kg
 hash:=Qac w
 inj:=λv a b ha hb=>by
  rcases keyIs_shape ha with⟨i,t,rfl,rfl⟩ | ⟨x,t,rfl,rfl⟩
  ·rcases keyIs_shape hb with⟨j,u,rfl,e⟩ | ⟨y,u,rfl,e⟩
   ·injection e with e1 _;rw [e1]
   ·exact nomatch e
  ·rcases keyIs_shape hb with⟨j,u,rfl,e⟩ | ⟨y,u,rfl,e⟩
   ·exact nomatch e
   ·injection e with e1 _;rw [e1]
 byValue:=λk v h=>by
  rcases keyIs_shape h with⟨i,t,rfl,rfl⟩ | ⟨x,t,rfl,rfl⟩ <;> rfl
 pyHash:=λhv h=>by
  rcases keyIs_shape hv with⟨i,t,rfl,rfl⟩ | ⟨x,t,rfl,rfl⟩
  ·exact wpAny_pyHash_int h
  ·exact wpAny_pyHash_str h
 eqBool:=λhu hv h=>by
  rcases keyIs_shape hu with⟨i,t,rfl,rfl⟩ | ⟨x,t,rfl,rfl⟩
  ·rcases keyIs_shape hv with⟨j,u,rfl,rfl⟩ | ⟨y,u,rfl,rfl⟩
   ·rw [Qad]at h;exact wpAny_eqBool_int h
   ·rw [Qaf]at h;exact SeqAt.EqAt.int_str i t y u _ _ _ _ h
  ·rcases keyIs_shape hv with⟨j,u,rfl,rfl⟩ | ⟨y,u,rfl,rfl⟩
   ·rw [Qag]at h;exact SeqAt.EqAt.str_int x t j u _ _ _ _ h
   ·rw [Qae]at h;exact wpAny_eqBool_str h
 «strs»:=λk x t v h=>by
  rcases keyIs_shape h with⟨i,u,rfl,e⟩ | ⟨y,u,rfl,e⟩
  ·exact nomatch e
  ·injection e with e1 _
   subst e1
   cases v <;> rfl
theorem Mo(prog:Program)(w:World)(i:Int)(t:Tok):(B2 prog w).is (.inl i) (.int i t)=true:=Qm i t
theorem Mp(prog:Program)(w:World)(x:Str)(t:Tok):(B2 prog w).is (.inr x) (.str x t)=true:=Qn x t
end L2
namespace L2
open PySem PySem.Spec PyProof.Rows
inductive V where
 | non | bl (b:Bool) | int (i:Int) | str (x:Str) | byt (b:Array UInt8) | flt (b:UInt64) | ref (a:Addr) | ty (n:String)
 deriving DecidableEq
def Bh:V->Value->Prop
 | .non,u=>u=Value.none
 | .bl b,u=>u=Value.bool b
 | .int i,u=>∃t,u=Value.int i t
 | .str x,u=>∃t,u=Value.str x t
 | .byt b,u=>∃t,u=Value.bytes b t
 | .flt b,u=>∃t,u=Value.float b t
 | .ref a,u=>u=Value.ref a
 | .ty n,u=>u=Value.type n
abbrev Vals:List V->List Value->Prop:=Paired Bh
theorem Vals.length{xs:List V}{us:List Value}(r:Vals xs us):xs.length=us.length:=Yc5 r
theorem Vals.get:∀{xs:List V} {us:List Value} {i:Nat} {x:V},Vals xs us->xs[i]?=some x->∃u,us[i]?=some u/\Bh x u
 | _,_,_,_,.nil,e=>by simp at e
 | _,_,0,_,.cons r _,e=>by simp at e;subst e;exact⟨_,rfl,r⟩
 | _,_,i+1,x,.cons _ t,e=>by
  obtain⟨u,h1,h2⟩:=Vals.get (i:=i) (x:=x) t (by simpa using e)
  exact⟨u,by simpa using h1,h2⟩
theorem Vals.set{x:V}{u:Value}(r:Bh x u):∀{xs:List V} {us:List Value} (i:Nat),Vals xs us->Vals (xs.set i x) (us.set i u)
 | _,_,_,.nil=>.nil
 | _,_,0,.cons _ t=>.cons r t
 | _,_,i+1,.cons q t=>.cons q (Vals.set r i t)
theorem Vals.append:∀{xs ys:List V} {us ws:List Value},Vals xs us->Vals ys ws->Vals (xs++ys) (us++ws)
 | _,_,_,_,.nil,s=>s
 | _,_,_,_,.cons r t,s=>.cons r (Vals.append t s)
theorem Vals.take:∀{xs:List V} {us:List Value} (n:Nat),Vals xs us->Vals (xs.take n) (us.take n)
 | _,_,0,_=>.nil
 | _,_,_+1,.nil=>.nil
 | _,_,n+1,.cons r t=>.cons r (Vals.take n t)
theorem Vals.drop:∀{xs:List V} {us:List Value} (n:Nat),Vals xs us->Vals (xs.drop n) (us.drop n)
 | _,_,0,r=>r
 | _,_,_+1,.nil=>.nil
 | _,_,n+1,.cons _ t=>Vals.drop n t
def Fs:Option V->Option Value->Prop
 | some v,some u=>Bh v u
 | none,none=>True
 | _,_=>False
def KV{κ:Type}:List (κ×V)->List (κ×Value)->Prop:=Paired λ(p:κ×V) (q:κ×Value)=>p.1=q.1/\Bh p.2 q.2
def kV:Key->V
 | .inl i=>.int i
 | .inr x=>.str x
mutual
def Yx(w:World):PyData->Int
 | .int i=>Qac w (.inl i)
 | .str x=>Qac w (.inr x)
 | .tuple ds=>reduceHash (Builtin.Tuple.tupleHashOf (Se w ds))
 | _=>0
def Se(w:World):List PyData->List Int
 | []=>[]
 | d :: ds=>Yx w d :: Se w ds
end
def Qhu(w:World)(x:PyData×Addr×Value):DictEntry:=⟨Yx w x.1,.ref x.2.1,x.2.2⟩
def Qhv(w:World)(h:Heap)(a:Addr)(xs:List (PyData×Addr×Value)):Prop :=
 ∃o es ep,h.get? a=some o/\o.ExactDict/\o.data=.dict es ep/\es.toList=xs.map (Qhu w)/\(xs.map (·.1)).Nodup/\(a==sysModules)=false/\xs.length<=sizeLine
inductive HO where
 | lst (xs:List V)
 | tup (xs:List V)
 | dK (kvs:List (Key×V)) | dT (kvs:List (List Key×V))
 | set (S:Int->Bool) (n:Nat)
 | ins (C dx:Addr) (fs:List (Str×V))
 | own (x:Addr)
 | xd (fs:List (Str×V))
 | met (f x:Addr)
 | rng (lo hi:Int)
 | frz (o:Obj) (u:HO)
 | tbl (ps:Array Value)
 | ext (φ:Heap->Prop)
 | dd (xs:List (PyData×Addr×Value))
abbrev Hp:=Addr->Option HO
def upd(H:Hp)(a:Addr)(o:HO):Hp:=λb=>if b=a then some o else H b
theorem Bc{H:Hp}{a:Addr}{o:HO}:upd H a o a=some o:=by unfold upd;rw [Yaw rfl]
theorem Az{H:Hp}{a b:Addr}{o:HO}(h:b≠a):upd H a o b=H b:=by unfold upd;rw [Yar h]
theorem Mq{H:Hp}{a b:Addr}{o u:HO}(h:H a=some o)(h':H b=some u)(d:o≠u):a≠b:=by
 intro e;subst e;rw [h]at h';exact d (Yas h')
theorem Bz{H:Hp}{a b:Addr}{o:HO}(h:H a=some o)(h':H b=none):a≠b:=by
 intro e;subst e;rw [h]at h';cases h'
section
variable(P:Program)(w:World)
def Bn(H:Hp)(h:Heap)(a:Addr):HO->Prop
 | .lst xs=>xs.length<=sizeLine/\∃(ae:List Value) (n:Nat),Vals xs ae/\h.get? a=some { cls:=.type "list",data:=.seq ae.toArray n }
 | .tup xs=>xs.length<=sizeLine/\∃ae:List Value,Vals xs ae/\IsTup h a ae.toArray
 | .dK kvs=>kvs.length<=sizeLine/\(a==sysModules)=false/\∃vs,KV kvs vs/\h.DictOf (B2 P w) a vs
 | .dT kvs=>kvs.length<=sizeLine/\(a==sysModules)=false/\∃xs:List (List Key×Addr×Value),
   Paired (λ(p:List Key×V) (q:List Key×Addr×Value)=>p.1=q.1/\H q.2.1=some (.tup (p.1.map kV))/\Bh p.2 q.2.2) kvs xs /\
   ∃o es ep,h.get? a=some o/\o.ExactDict/\o.data=.dict es ep/\es.toList=xs.map (entryOfKey (tupleKind (B2 P w)))/\(xs.map (·.1)).Nodup
 | .set S n=>h.SetOf (intKind P w) a S n
 | .ins C dx fs=>H dx=some (.own a)/\fs.length<=1000/\dx≠a/\h.get? a=some (PySem.W.instObj C dx) /\
   ∃mA,h.Ns1 dx mA/\(∀f,Fs (fs.lookup f) (mA f))/\PySem.Within mA (fs.map (·.1))
 | .own _=>∃o,h.get? a=some o
 | .xd fs=>∃mA,h.Ns1 a mA/\∀f,Fs (fs.lookup f) (mA f)
 | .rng lo hi=>∃t u v,h.get? a=some { cls:=.type "range",data:=.fields #[.int lo t,.int hi u,.int 1 v] }
 | .frz o u=>h.get? a=some o/\Bn H h a u
 | .tbl ps=>h.get? a=some { cls:=.none,data:=.fields ps }
 | .met f x=>h.get? a=some (PySem.W.methodObj (.ref f) (.ref x))
 | .ext φ=>φ h/\(∃o,h.get? a=some o)/\∀h1 h2:Heap,φ h1->(∀o,h1.get? a=some o->h2.get? a=some o)->φ h2
 | .dd xs=>Qhv w h a xs
def HOk(H:Hp)(h:Heap):Prop:=∀a o,H a=some o->Bn P w H h a o
end
section
variable {P:Program}{w:World}{H H':Hp}{h h':Heap}{a:Addr}{o:HO}
theorem Bn.lt(x:Bn P w H h a o):a < h.objs.size:=by
 cases o with
 | lst xs=>obtain⟨_,_,_,_,e⟩:=x;exact Yam e
 | tup xs=>obtain⟨_,_,_,p⟩:=x;exact p.lt
 | dK kvs=>obtain⟨_,_,_,_,o,_,_,e,_⟩:=x;exact Yam e
 | dT kvs=>obtain⟨_,_,_,_,o,_,_,e,_⟩:=x;exact Yam e
 | set S n=>obtain⟨o,_,_,_,e,_⟩:=x;exact Yam e
 | ins C dx fs=>obtain⟨_,_,_,e,_⟩:=x;exact Yam e
 | own y=>obtain⟨_,e⟩:=x;exact Yam e
 | xd fs=>obtain⟨_,⟨_,_,_,e,_⟩,_⟩:=x;exact Yam e
 | rng lo hi=>obtain⟨_,_,_,e⟩:=x;exact Yam e
 | frz ob u=>obtain⟨e,_⟩:=x;exact Yam e
 | tbl ps=>exact Yam (show h.get? a=some _ from x)
 | met f y=>exact Yam (show h.get? a=some _ from x)
 | ext φ=>obtain⟨_,⟨_,e⟩,_⟩:=x;exact Yam e
 | dd xs=>obtain⟨_,_,_,e,_⟩:=x;exact Yam e
theorem Paired.mapP{α β:Type}{F G:α->β->Prop}:∀{l₁:List α} {l₂:List β},Paired F l₁ l₂->(∀a b,F a b->G a b)->Paired G l₁ l₂
 | _,_,.nil,_=>.nil
 | _,_,.cons r t,f=>.cons (f _ _ r) (Paired.mapP t f)
theorem Bn.stay(x:Bn P w H h a o)(k:∀b u,(b=a\/H b=some (.own a))->h.get? b=some u->h'.get? b=some u)
  (ho:∀b,H b=some (.own a)->H' b=some (.own a)) (ht:∀b xs,H b=some (.tup xs)->H' b=some (.tup xs)):Bn P w H' h' a o:=by
 induction o with
 | lst xs=>obtain⟨z,ae,n,r,e⟩:=x;exact⟨z,ae,n,r,k _ _ (.inl rfl) e⟩
 | tup xs=>obtain⟨z,ae,r,ob,e,c⟩:=x;exact⟨z,ae,r,ob,k _ _ (.inl rfl) e,c⟩
 | dK kvs=>obtain⟨z,y,vs,r,ob,es,ep,e,c⟩:=x;exact⟨z,y,vs,r,ob,es,ep,k _ _ (.inl rfl) e,c⟩
 | dT kvs =>
  obtain⟨z,y,xs,r,ob,es,ep,e,c⟩:=x
  exact⟨z,y,xs,Paired.mapP r λp q z=>⟨z.1,ht _ _ z.2.1,z.2.2⟩,ob,es,ep,k _ _ (.inl rfl) e,c⟩
 | set S n=>obtain⟨ob,es,ep,t,e,c⟩:=x;exact⟨ob,es,ep,t,k _ _ (.inl rfl) e,c⟩
 | ins C dx fs =>
  obtain⟨d,z,ne,e,mA,⟨od,es,ep,e2,c⟩,r⟩:=x
  exact⟨ho _ d,z,ne,k _ _ (.inl rfl) e,mA,⟨od,es,ep,k _ _ (.inr d) e2,c⟩,r⟩
 | own y=>obtain⟨ob,e⟩:=x;exact⟨ob,k _ _ (.inl rfl) e⟩
 | xd fs=>obtain⟨mA,⟨od,es,ep,e,c⟩,r⟩:=x;exact⟨mA,⟨od,es,ep,k _ _ (.inl rfl) e,c⟩,r⟩
 | rng lo hi=>obtain⟨t,u,v,e⟩:=x;exact⟨t,u,v,k _ _ (.inl rfl) e⟩
 | frz ob u ih=>obtain⟨e,q⟩:=x;exact⟨k _ _ (.inl rfl) e,ih q⟩
 | tbl ps =>
  have e:h.get? a=some { cls:=.none,data:=.fields ps }:=x
  show h'.get? a=some { cls:=.none,data:=.fields ps }
  exact k a _ (.inl rfl) e
 | met f y =>
  have e:h.get? a=some (PySem.W.methodObj (.ref f) (.ref y)):=x
  show h'.get? a=some (PySem.W.methodObj (.ref f) (.ref y))
  exact k a _ (.inl rfl) e
 | ext φ=>obtain⟨p,⟨o,e⟩,st⟩:=x;exact⟨st _ _ p λo q=>k _ _ (.inl rfl) q,⟨o,k _ _ (.inl rfl) e⟩,st⟩
 | dd xs=>obtain⟨o,es,ep,e,c⟩:=x;exact⟨o,es,ep,k _ _ (.inl rfl) e,c⟩
theorem HOk.lt(x:HOk P w H h)(e:H a=some o):a < h.objs.size:=(x a o e).lt
theorem HOk.fresh(x:HOk P w H h)(e:h.objs.size<=a):H a=none:=by
 cases q:H a with
 | none=>rfl
 | some u=>exact absurd (Yau (x.lt q) e) (Ycc _)
theorem HOk.kept(x:HOk P w H h)(k:∀b u,h.get? b=some u->h'.get? b=some u):HOk P w H h':=λa o e =>
 (x a o e).stay (λb u _ q=>k b u q) (λ_ q=>q) λ_ _ q=>q
theorem HOk.laid(x:HOk P w H h)(k:∀b u,h.get? b=some u->h'.get? b=some u)(hp:h.objs.size<=a)(new:Bn P w (upd H a o) h' a o):HOk P w (upd H a o) h':=λb u e=>by
 have hn:=x.fresh hp
 by_cases hb:b=a
 ·subst hb;rw [Bc]at e;cases e;exact new
 ·rw [Az hb]at e
  exact(x b u e).stay (λc v _ q=>k c v q) (λc q=>by rw [Az (Bz q hn)];exact q) λc xs q=>by rw [Az (Bz q hn)];exact q
end
def Rd(H:Hp)(a:Addr)(u:HO):Prop:=H a=some u\/∃o,H a=some (.frz o u)
theorem Rd.ok{P:Program}{w:World}{H:Hp}{h:Heap}{a:Addr}{u:HO}(r:Rd H a u)(x:HOk P w H h):Bn P w H h a u:=by
 rcases r with r | ⟨o,r⟩
 ·exact x a u r
 ·obtain⟨_,q⟩:=x a _ r
  exact q
def Mut:Option HO->Prop
 | some (.lst _)=>True
 | some (.dK _)=>True
 | some (.dT _)=>True
 | some (.set _ _)=>True
 | some (.ins _ _ _)=>True
 | some (.ext _)=>True
 | some (.dd _)=>True
 | _=>False
section
variable {P:Program}{w:World}{H:Hp}{h h':Heap}{x e:Addr}{o':HO}
theorem HOk.write(ok:HOk P w H h)(mu:Mut (H x))(he:e=x\/H e=some (.own x))(k:∀b u,b≠e->h.get? b=some u->h'.get? b=some u)(md:∃u,h'.get? e=some u)
  (new:Bn P w (upd H x o') h' x o'):HOk P w (upd H x o') h':=λb u q=>by
 have ni:∀c y,H c=some (.own y)->c≠x:=λc y r z=>by subst z;rw [r]at mu;exact mu
 have wm:∀c xs,H c=some (.tup xs)->c≠x:=λc xs r z=>by subst z;rw [r]at mu;exact mu
 by_cases hb:b=x
 ·subst hb;rw [Bc]at q;cases q;exact new
 ·rw [Az hb]at q
  by_cases fh:b=e
  ·have q':H b=some (.own x):=by
    rcases he with z | z
    ·exact absurd (fh.trans z) hb
    ·rw [fh];exact z
   rw [q]at q';cases q'
   obtain⟨v,hv⟩:=md
   exact⟨v,by rw [fh];exact hv⟩
  ·refine(ok b u q).stay (λc v hc r=>k c v ?_ r) (λc r=>by rw [Az (ni c b r)];exact r) λc xs r=>by rw [Az (wm c xs r)];exact r
   rcases hc with rfl | hc
   ·exact fh
   ·rintro rfl
    rcases he with z | z
    ·exact ni c b hc z
    ·rw [hc]at z;cases z;exact hb rfl
end
structure Un(fs ex:List Addr)(H H':Hp)(h h':Heap):Prop where
 keep:∀b o,h.get? b=some o->H b=none->b∉fs->b∉ex->h'.get? b=some o
 slot:∀b o,h.get? b=some o->H b=none->b∈fs->b∉ex->∃sl,h'.get? b=some { o with slots:=sl }
 free:∀b o,h.get? b=some o->H b=none->b∉ex->H' b=none
 there:∀b o,h.get? b=some o->b∉ex->∃o',h'.get? b=some o'
 tups:∀b xs,H b=some (.tup xs)->H' b=some (.tup xs)
 frzs:∀b o u,H b=some (.frz o u)->H' b=some (.frz o u)
 tbls:∀b ps,H b=some (.tbl ps)->∃more,H' b=some (.tbl (ps++more))
section
variable {fs fs' ex ex':List Addr}{H H1 H2:Hp}{h h1 h2 h':Heap}{a x e:Addr}{o:HO}
theorem Un.any(u:Un fs ex H H1 h h1){b:Addr}{ob:Obj}(q:h.get? b=some ob)(n:H b=none)(hx:b∉ex):∃sl,h1.get? b=some { ob with slots:=sl }:=by
 by_cases hb:b∈fs
 ·exact u.slot b ob q n hb hx
 ·exact⟨ob.slots,u.keep b ob q n hb hx⟩
theorem Un.kept(k:∀b u,h.get? b=some u->h'.get? b=some u):Un fs ex H H h h' :=
 ⟨λb ob q _ _ _=>k b ob q,λb ob q _ _ _=>⟨ob.slots,k b ob q⟩,λ_ _ _ n _=>n,λb ob q _=>⟨ob,k b ob q⟩,λ_ _ q=>q,λ_ _ _ q=>q,λ_ ps q=>⟨#[],by rw [q];simp⟩⟩
theorem Un.refl:Un fs ex H H h h:=Un.kept λ_ _ q=>q
theorem Un.laid(k:∀b u,h.get? b=some u->h'.get? b=some u)(hp:h.objs.size<=a)(hn:H a=none):Un fs ex H (upd H a o) h h' where
 keep:=λb u q _ _ _=>k b u q
 slot:=λb u q _ _ _=>⟨u.slots,k b u q⟩
 free:=λb u q n _=>by rw [Az (Ya6 (Yau (Yam q) hp))];exact n
 there:=λb u q _=>⟨u,k b u q⟩
 tups:=λb xs q=>by rw [Az (Bz q hn)];exact q
 frzs:=λb u xs q=>by rw [Az (Bz q hn)];exact q
 tbls:=λb ps q=>⟨#[],by rw [Az (Bz q hn),q];simp⟩
theorem Un.write(mu:Mut (H x))(he:e=x\/H e=some (.own x))(k:∀b u,b≠e->h.get? b=some u->h'.get? b=some u)(md:∃u,h'.get? e=some u):Un fs ex H (upd H x o) h h':=by
 have hx:∀b,H b=none->b≠x:=λb n z=>by subst z;rw [n]at mu;exact mu
 have hb:∀b,H b=none->b≠e:=λb n z=>by
  subst z
  rcases he with r | r
  ·exact hx b n r
  ·rw [n]at r;cases r
 have hm:∀b u,H b=some u->¬Mut (some u)->b≠x:=λb u q nm z=>by subst z;rw [q]at mu;exact nm mu
 refine⟨λb u q n _ _=>k b u (hb b n) q,λb u q n _ _=>⟨u.slots,k b u (hb b n) q⟩,λb u q n _=>by rw [Az (hx b n)];exact n,λb u q _=>?_,
  λb xs q=>by rw [Az (hm b _ q λz=>z)];exact q,λb u xs q=>by rw [Az (hm b _ q λz=>z)];exact q,λb ps q=>⟨#[],by rw [Az (hm b _ q λz=>z),q];simp⟩⟩
 by_cases fh:b=e
 ·subst fh;exact md
 ·exact⟨u,k b u fh q⟩
end
def trk(h:Heap)(H:Hp):List Addr:=(List.range h.objs.size).filter λa=>(H a).isSome
def Lk(h:Heap)(H:Hp):Heap:=PySem.W.hideAll h (trk h H)
theorem Qo(h:Heap)(H:Hp):(Lk h H).objs.size=h.objs.size:=PySem.W.hideAll_size _ _
theorem Sf{h:Heap}{H:Hp}{b:Addr}{o:Obj}(e:h.get? b=some o)(n:H b=none):(Lk h H).get? b=some o :=
 PySem.W.hideAll_get _ e λhm=>by
  have q:(H b).isSome=true:=(List.mem_filter.mp hm).2
  rw [n]at q;simp at q
theorem Wr{h:Heap}{H:Hp}{b:Addr}{o:Obj}(e:(Lk h H).get? b=some o):h.get? b=some o/\H b=none:=by
 have e':h.get? b=some o:=PySem.W.of_hideAll (trk h H) e
 refine⟨e',?_⟩
 cases q:H b with
 | none=>rfl
 | some x =>
  have hm:b∈trk h H:=List.mem_filter.mpr ⟨Yc9.mpr (Yam e'),by simp [q]⟩
  have z:(Lk h H).get? b=none:=PySem.W.hideAll_none (trk h H) hm
  rw [z]at e;cases e
def Ws(g h:Heap)(L:Addr):List (Addr×Obj):=(List.range h.objs.size).filterMap λa=>if a=L\/(g.get? a).isSome=true then none else(h.get? a).map λo=>(a,o)
def rest(g h:Heap)(L d:Addr):List (Addr×Obj):=(Ws g h L).filter λp=>decide (p.1≠d)
structure Mod(K:PySem.W.Frag)(mg:Str->Option Value)(base:Heap):Prop where
 kin:K.In base
 glob:base.Ns mainGlobals mg
 blt:∃mb,base.Ns builtinsNs mb/\∀x:Str,x ≠ "__name__" -> mb x=bootBuiltins x
 nolimit:base.NoLimit
structure Cx where
 prog:Program
 w:World
 K:PySem.W.Frag
 mg:Str->Option Value
 base:Heap
 A:Around
 N:List Str
 s₀:Shared
 H₀:Hp
 env:Env
 outer:List Env
 stack:List Env
 ex:List Addr
 fn:Str->Bool
 calm:Bool
 pn:List (Addr×Obj)
 xe:Value->Shared->Prop
def frs(l:List Env):List Addr:=l.filterMap (·.frame)
abbrev Cx.fs(X:Cx):List Addr:=frs X.outer
def Vis(sc:Scope)(x:Str):Prop:=sc.names.lookup x=some .local\/sc.names.lookup x=some .cell\/sc.names.lookup x=some .free
def Loc(sc:Scope)(x:Str):Prop:=sc.names.lookup x=some .local\/sc.names.lookup x=some .cell
def Look(env:Env)(h:Heap)(m:Str->Option Value)(x:Str)(u:Value):Prop :=
 (env.kindOf x=some .local/\m x=some u)\/((env.kindOf x=some .cell\/env.kindOf x=some .free)/\∃c,env.cells.lookup x=some c/\h.IsCell c (some u))
structure Cx.Ok(X:Cx):Prop where
 mod:Mod X.K X.mg X.base
 kind:X.env.scope.kind=.function
 glob:X.env.globals=mainGlobals
 blt:X.env.builtins=builtinsNs
 above:X.s₀.heap.objs.size<=X.env.locals
 inj:∀x y c,X.env.cells.lookup x=some c->X.env.cells.lookup y=some c->x=y
 has:∀x,(X.env.kindOf x=some .cell\/X.env.kindOf x=some .free)->∃c,X.env.cells.lookup x=some c
 cab:∀x c,X.fn x=true->X.env.cells.lookup x=some c->X.s₀.heap.objs.size<=c
 hd:X.calm=true->X.A.handled=none
 frames:X.A.frames=some X.stack
 stk:X.stack=X.outer\/(X.stack=X.env :: X.outer/\X.env.frame=some X.env.locals)
 exf:∀b∈X.ex,b≠X.env.locals/\∀x c,X.env.cells.lookup x=some c->c≠b
 bs:∀b o,X.base.get? b=some o->X.s₀.heap.get? b=some o/\X.H₀ b=none
 bsz:X.base.objs.size<=X.s₀.heap.objs.size
 noex:∀b o,X.base.get? b=some o->b∉X.ex
 exfs:∀b∈X.ex,b∉X.fs
 funs:X.s₀.heap.FunFrames X.base X.outer
 frf:∀b∈X.fs,X.H₀ b=none
structure Inv(X:Cx)(aa:List (Addr×Obj))(σ:List (Option V))(H:Hp)(s:Shared):Prop where
 ok:X.Ok
 os:s.os=X.s₀.os
 bare:AllBare s.gens
 base:Un X.fs X.ex X.H₀ H X.s₀.heap s.heap
 loc:∃m,s.heap.Ns X.env.locals m/\∀(i:Nat) (x:Str) (v:V),X.N[i]?=some x->σ[i]?=some (some v)->Vis X.env.scope x->∃u,Bh v u/\Look X.env s.heap m x u
 cell:∀x c,X.env.cells.lookup x=some c->∃v,s.heap.IsCell c v
 free:H X.env.locals=none
 freeC:∀x c,X.env.cells.lookup x=some c->H c=none
 pin:∀p∈X.pn++aa,s.heap.get? p.1=some p.2/\H p.1=none/\p.1≠X.env.locals/\p.1∉X.fs/\∀v,p.2.data≠.cell v
 hok:HOk X.prog X.w H s.heap
 len:σ.length=X.N.length
section
variable {X:Cx}{aa:List (Addr×Obj)}{σ:List (Option V)}{H H':Hp}{s:Shared}{h':Heap}
theorem Cx.Ok.nofr(ok:X.Ok){b:Addr}{o:Obj}(e:X.base.get? b=some o):b∉X.fs:=λhb=>by
 have:=(ok.funs.mem hb).1
 rw [e]at this;cases this
theorem Inv.bs(I:Inv X aa σ H s):∀b o,X.base.get? b=some o->s.heap.get? b=some o/\H b=none:=λb o e =>
 ⟨I.base.keep b o (I.ok.bs b o e).1 (I.ok.bs b o e).2 (I.ok.nofr e) (I.ok.noex b o e),I.base.free b o (I.ok.bs b o e).1 (I.ok.bs b o e).2 (I.ok.noex b o e)⟩
theorem Inv.bk(I:Inv X aa σ H s):∀b o,X.base.get? b=some o->s.heap.get? b=some o:=λb o e=>(I.bs b o e).1
theorem Inv.mod(I:Inv X aa σ H s):Mod X.K X.mg X.base:=I.ok.mod
theorem Inv.kIn(I:Inv X aa σ H s):X.K.In s.heap:=I.ok.mod.kin.keeps I.bk
theorem Inv.lt(I:Inv X aa σ H s):X.env.locals < s.heap.objs.size:=let⟨_,hn,_⟩:=I.loc;hn.lt
theorem Inv.sz(I:Inv X aa σ H s):X.s₀.heap.objs.size<=s.heap.objs.size:=Yap I.ok.above (Yc0 I.lt)
theorem Inv.nofs(I:Inv X aa σ H s){a:Addr}(h:s.heap.objs.size<=a):a∉X.fs:=λhb=>by
 obtain⟨_,o,ho,_⟩:=I.ok.funs.mem hb
 exact absurd (Yau (Yam ho) (Yap I.sz h)) (Ycc _)
theorem Inv.cne(I:Inv X aa σ H s):∀x c,X.env.cells.lookup x=some c->c≠X.env.locals:=λx c e z=>by
 obtain⟨v,o,ho,hd⟩:=I.cell x c e
 obtain⟨m,⟨o',es,ep,ck,hd',_⟩,_⟩:=I.loc
 rw [z,ck]at ho;cases ho;rw [hd']at hd;cases hd
theorem Inv.funs(I:Inv X aa σ H s):s.heap.FunFrames X.base X.outer:=by
 have all:∀(l:List Env),(∀b∈frs l,b∈X.fs)->X.s₀.heap.FunFrames X.base l->s.heap.FunFrames X.base l:=by
  intro l
  induction l with
  | nil=>intro _ _;trivial
  | cons env r ih =>
   intro hs hl
   obtain⟨hk,⟨L,o,hf,hn,ho,hd⟩,hr⟩:=hl
   have hL:L∈X.fs:=hs L (by unfold frs;rw [List.filterMap_cons,hf];exact Yao)
   obtain⟨sl,e⟩:=I.base.slot L o ho (I.ok.frf L hL) hL λz=>I.ok.exfs L z hL
   exact⟨hk,⟨L,_,hf,hn,e,hd⟩,ih (λb hb=>hs b (by unfold frs;rw [List.filterMap_cons,hf];exact Yae _ hb)) hr⟩
 exact all X.outer (λ_ hb=>hb) I.ok.funs
theorem Inv.stack(I:Inv X aa σ H s):s.heap.FunFrames X.base X.stack:=by
 rcases I.ok.stk with e | ⟨e,hf⟩
 ·rw [e];exact I.funs
 ·rw [e]
  obtain⟨m,hn,_⟩:=I.loc
  refine .cons (by rw [I.ok.kind];decide) hf hn ?_ I.funs
  exact Heap.get?_none_of_le (Yap I.ok.bsz I.ok.above)
theorem Inv.stkSub(I:Inv X aa σ H s):∀b∈frs X.stack,b∈X.env.locals :: X.fs:=λb hb=>by
 rcases I.ok.stk with e | ⟨e,hf⟩
 ·rw [e]at hb;exact Yae _ hb
 ·rw [e]at hb
  unfold frs at hb
  rw [List.filterMap_cons,hf]at hb
  exact hb
theorem Inv.stkFree(I:Inv X aa σ H s):∀b∈frs X.stack,H b=none:=λb hb=>by
 rcases Ybb.mp (I.stkSub b hb) with e | hb
 ·rw [e];exact I.free
 ·obtain⟨_,o,ho,_⟩:=I.ok.funs.mem hb
  exact I.base.free b o ho (I.ok.frf b hb) λz=>I.ok.exfs b z hb
theorem Inv.step{g':Array GenState}{t':Nat}{d':Drawn}{ch:List Addr}(I:Inv X aa σ H s)
  (fy:∀b∈ch,(b∈X.ex\/X.s₀.heap.objs.size<=b)/\b≠X.env.locals/\(∀x c,X.env.cells.lookup x=some c->c≠b)/\∀p∈X.pn++aa,p.1≠b)
  (keep:∀b o,b≠X.env.locals->b∉X.fs->b∉ch->s.heap.get? b=some o->H b=none->h'.get? b=some o)
  (slot:∀b o,b≠X.env.locals->b∈X.fs->b∉ch->s.heap.get? b=some o->H b=none->∃sl,h'.get? b=some { o with slots:=sl }) (free:∀b o,b∉ch->s.heap.get? b=some o->H b=none->H' b=none)
  (there:∀b o,b∉ch->s.heap.get? b=some o->∃o',h'.get? b=some o')
  (tups:∀b xs,H b=some (.tup xs)->H' b=some (.tup xs)) (frzs:∀b o u,H b=some (.frz o u)->H' b=some (.frz o u)) (tbls:∀b ps,H b=some (.tbl ps)->∃more,H' b=some (.tbl (ps++more)))
  (ns:∀m,s.heap.Ns X.env.locals m->h'.Ns X.env.locals m) (hok:HOk X.prog X.w H' h') (hg:AllBare g') :
  Inv X aa σ H' { s with heap:=h',gens:=g',drawn:=d',toks:=t' }:=by
 have neL:∀b o,X.s₀.heap.get? b=some o->b≠X.env.locals:=λb o e=>Ya6 (Yau (Yam e) I.ok.above)
 have uw:∀b o,X.s₀.heap.get? b=some o->b∉X.ex->b∉ch:=λb o e hx hb=>by
  rcases(fy b hb).1 with z | z
  ·exact hx z
  ·exact absurd (Yau (Yam e) z) (Ycc _)
 have ju:∀x c,X.env.cells.lookup x=some c->∀v,s.heap.IsCell c v->h'.IsCell c v:=λx c e v ⟨o,ho,hd⟩=>by
  have tm:c∉ch:=λz=>(fy c z).2.2.1 x c e rfl
  by_cases hc:c∈X.fs
  ·obtain⟨sl,q⟩:=slot c o (I.cne x c e) hc tm ho (I.freeC x c e)
   exact⟨_,q,hd⟩
  ·exact⟨o,keep c o (I.cne x c e) hc tm ho (I.freeC x c e),hd⟩
 refine⟨I.ok,I.os,hg,⟨λb o e n hb hx=>?_,λb o e n hb hx=>?_,λb o e n hx=>?_,λb o e hx=>?_,λb xs e=>tups b xs (I.base.tups b xs e),λb o xs e=>frzs b o xs (I.base.frzs b o xs e),λb ps e=>?_⟩,?_,λx c e=>?_,?_,λx c e=>?_,λp hp=>?_,hok,I.len⟩
 ·exact keep b o (neL b o e) hb (uw b o e hx) (I.base.keep b o e n hb hx) (I.base.free b o e n hx)
 ·obtain⟨sl,e1⟩:=I.base.slot b o e n hb hx
  obtain⟨sl',e2⟩:=slot b _ (neL b o e) hb (uw b o e hx) e1 (I.base.free b o e n hx)
  exact⟨sl',e2⟩
 ·obtain⟨o',e1⟩:=I.base.there b o e hx
  exact free b o' (uw b o e hx) e1 (I.base.free b o e n hx)
 ·obtain⟨o',e1⟩:=I.base.there b o e hx
  exact there b o' (uw b o e hx) e1
 ·obtain⟨m1,e1⟩:=I.base.tbls b ps e
  obtain⟨m2,e2⟩:=tbls b _ e1
  exact⟨m1++m2,by rw [e2,Array.append_assoc]⟩
 ·obtain⟨m,hn,hl⟩:=I.loc
  refine⟨m,ns m hn,λi x v e1 e2 e3=>?_⟩
  obtain⟨u,r,l⟩:=hl i x v e1 e2 e3
  refine⟨u,r,?_⟩
  rcases l with l | ⟨k,c,e,z⟩
  ·exact .inl l
  ·exact .inr ⟨k,c,e,ju x c e _ z⟩
 ·obtain⟨v,z⟩:=I.cell x c e
  exact⟨v,ju x c e v z⟩
 ·obtain⟨m,⟨o,_,_,ho,_⟩,_⟩:=I.loc
  exact free _ o (λz=>(fy _ z).2.1 rfl) ho I.free
 ·obtain⟨v,o,ho,hd⟩:=I.cell x c e
  exact free c o (λz=>(fy c z).2.2.1 x c e rfl) ho (I.freeC x c e)
 ·obtain⟨e,n,ne,nf,d⟩:=I.pin p hp
  have tm:p.1∉ch:=λz=>(fy p.1 z).2.2.2 p hp rfl
  exact⟨keep p.1 p.2 ne nf tm e n,free p.1 p.2 tm e n,ne,nf,d⟩
theorem Inv.un{t':Nat}(I:Inv X aa σ H s)(u:Un X.fs [] H H' s.heap h')(hok:HOk X.prog X.w H' h'):Inv X aa σ H' { s with heap:=h',toks:=t' }:=by
 obtain⟨m,⟨o,es,ep,ho,r⟩,_⟩:=id I.loc
 obtain⟨sl,hL⟩:=u.any ho I.free (by simp)
 exact I.step (g':=s.gens) (d':=s.drawn) (ch:=[]) (λ_ z=>nomatch z) (λb o _ hb _ e n=>u.keep b o e n hb (by simp)) (λb o _ hb _ e n=>u.slot b o e n hb (by simp)) (λb o _ e n=>u.free b o e n (by simp)) (λb o _ e=>u.there b o e (by simp)) u.tups u.frzs u.tbls (λm' hm=>by
  obtain⟨o',es',ep',ck,r'⟩:=hm
  rw [ho]at ck;cases ck
  exact⟨_,es',ep',hL,r'⟩) hok I.bare
theorem Inv.call{g':Array GenState}{t':Nat}{d':Drawn}{ch:List Addr}(I:Inv X aa σ H s)(u:Un (frs X.stack) ch H H' s.heap h')(hok:HOk X.prog X.w H' h')(hg:AllBare g')
  (fy:∀b∈ch,(b∈X.ex\/X.s₀.heap.objs.size<=b)/\b≠X.env.locals/\(∀x c,X.env.cells.lookup x=some c->c≠b)/\∀p∈X.pn++aa,p.1≠b) :
  Inv X aa σ H' { s with heap:=h',gens:=g',drawn:=d',toks:=t' }:=by
 obtain⟨m,⟨o,es,ep,ho,r⟩,_⟩:=id I.loc
 obtain⟨sl,hL⟩:=u.any ho I.free λz=>(fy _ z).2.1 rfl
 exact I.step (ch:=ch) fy (λb o hL hb hc e n=>u.keep b o e n (λz=>(Ybb.mp (I.stkSub b z)).elim hL hb) hc) (λb o _ _ hc e n=>u.any e n hc) (λb o hc e n=>u.free b o e n hc) (λb o hc e=>u.there b o e hc) u.tups u.frzs u.tbls (λm' hm=>by
  obtain⟨o',es',ep',ck,r'⟩:=hm
  rw [ho]at ck;cases ck
  exact⟨_,es',ep',hL,r'⟩) hok hg
theorem Inv.turned{t':Nat}{it:Addr}(I:Inv X aa σ H s)(k:∀b o,b≠it->s.heap.get? b=some o->h'.get? b=some o)(hn:H it=none)(hL:it≠X.env.locals)
  (h1:it∈X.ex\/X.s₀.heap.objs.size<=it) (h2:∀x c,X.env.cells.lookup x=some c->c≠it) (h3:∀p∈X.pn++aa,p.1≠it):Inv X aa σ H { s with heap:=h',toks:=t' }:=by
 have qe:∀b u,H b=some u->b≠it:=λb u e z=>by rw [z,hn]at e;cases e
 refine I.step (g':=s.gens) (d':=s.drawn) (ch:=[it]) (λb hb=>?_) (λb o _ _ hc e _=>k b o (λz=>hc (by simp [z])) e) (λb o _ _ hc e _=>⟨o.slots,k b o (λz=>hc (by simp [z])) e⟩) (λ_ _ _ _ n=>n)
  (λb o hc e=>⟨o,k b o (λz=>hc (by simp [z])) e⟩) (λ_ _ e=>e) (λ_ _ _ e=>e) (λb ps e=>⟨#[],by rw [e];simp⟩) (λm hm=>?_) (λb u e=>?_) I.bare
 ·have e:b=it:=by simpa using hb
  subst e
  exact⟨h1,hL,h2,h3⟩
 ·obtain⟨o,es,ep,ho,r⟩:=hm
  exact⟨o,es,ep,k _ o (Ydc hL) ho,r⟩
 ·refine(I.hok b u e).stay (λc v hc q=>k c v ?_ q) (λ_ q=>q) λ_ _ q=>q
  rcases hc with z | z
  ·rw [z];exact qe b u e
  ·exact qe c _ z
theorem Inv.tok(I:Inv X aa σ H s)(t:Nat):Inv X aa σ H { s with toks:=t }:=I.un (h':=s.heap) (t':=t) Un.refl I.hok
theorem Inv.kept{t':Nat}(I:Inv X aa σ H s)(k:∀b u,s.heap.get? b=some u->h'.get? b=some u):Inv X aa σ H { s with heap:=h',toks:=t' }:=I.un (Un.kept k) (I.hok.kept k)
theorem Inv.laid{a:Addr}{o:HO}{t':Nat}(I:Inv X aa σ H s)(k:∀b u,s.heap.get? b=some u->h'.get? b=some u)(hp:s.heap.objs.size<=a)(new:Bn X.prog X.w (upd H a o) h' a o) :
  Inv X aa σ (upd H a o) { s with heap:=h',toks:=t' }:=I.un (Un.laid k hp (I.hok.fresh hp)) (I.hok.laid k hp new)
theorem Inv.write{x e:Addr}{o:HO}{t':Nat}(I:Inv X aa σ H s)(mu:Mut (H x))(he:e=x\/H e=some (.own x))(k:∀b u,b≠e->s.heap.get? b=some u->h'.get? b=some u)(md:∃u,h'.get? e=some u)
  (new:Bn X.prog X.w (upd H x o) h' x o):Inv X aa σ (upd H x o) { s with heap:=h',toks:=t' }:=I.un (Un.write mu he k md) (I.hok.write mu he k md new)
theorem Inv.pins_of{fc:List (Addr×Obj)}(I:Inv X aa σ H s)(h:∀p∈fc,s.heap.get? p.1=some p.2/\H p.1=none/\p.1≠X.env.locals/\p.1∉X.fs/\∀v,p.2.data≠.cell v):Inv X fc σ H s :=
 ⟨I.ok,I.os,I.bare,I.base,I.loc,I.cell,I.free,I.freeC,λp hp=>(Ya5.mp hp).elim (λz=>I.pin p (Yc7 _ z)) (h p),I.hok,I.len⟩
theorem Ik{N:List Str}(hN:N.Nodup){i j:Nat}{x:Str}(a:N[i]?=some x)(b:N[j]?=some x):i=j:=by
 obtain⟨h1,e1⟩:=List.getElem?_eq_some_iff.mp a
 obtain⟨h2,e2⟩:=List.getElem?_eq_some_iff.mp b
 exact(List.getElem_inj hN).mp (e1.trans e2.symm)
theorem Kh{M:Model}{A:Around}{E:Value->Shared->Prop}{i:Nat}{x:Str}{v:V}{u:Value}{Q:Unit->Shared->Prop}(I:Inv X aa σ H s)(hN:X.N.Nodup)(hi:X.N[i]?=some x)(hx:Loc X.env.scope x)(r:Bh v u)
  (h:∀s',Inv X aa (σ.set i (some v)) H s'->(∃a,Heap.SameBut a s.heap s'.heap/\(a=X.env.locals\/X.env.cells.lookup x=some a))->Q () s') (hf:X.fn x=true\/X.env.scope.names.lookup x=some .local:=by first | exact .inl rfl | exact .inr rfl | assumption):wpAny M A (storeName X.env x u) Q E s:=by
 obtain⟨m,hn,hl⟩:=id I.loc
 have j9:(X.env.scope.kind==.class || (X.env.scope.kind==.module && X.env.locals != X.env.globals))=false:=by rw [I.ok.kind];rfl
 have hiσ:i < σ.length:=by rw [I.len];exact(List.getElem?_eq_some_iff.mp hi).1
 have cne:=I.cne
 have gj:∀{a:Addr} {h':Heap},(∃o,s.heap.get? a=some o/\H a=none)->Heap.SameBut a s.heap h'->HOk X.prog X.w H h':=λ{a h'} ha hs b ob e=>by
  obtain⟨_,_,hfree⟩:=ha
  refine(I.hok b ob e).stay (λc w' hc q=>(hs.2 c ?_).trans q) (λ_ q=>q) λ_ _ q=>q
  rintro rfl
  rcases hc with rfl | hc
  ·rw [hfree]at e;cases e
  ·rw [hfree]at hc;cases hc
 rcases hx with hk | hk
 ·refine wpAny_storeName_local hk hn (λh' ky hs=>?_) j9
  obtain⟨oL,_,_,hoL,_⟩:=id hn
  refine h _ ⟨I.ok,I.os,I.bare,⟨λb o e n hb hx=>?_,λb o e n hb hx=>?_,I.base.free,λb o e hx=>?_,I.base.tups,I.base.frzs,I.base.tbls⟩,⟨_,ky,λj y v' e1 e2 e3=>?_⟩,λy c e=>?_,I.free,I.freeC,λp hp=>?_,gj ⟨oL,hoL,I.free⟩ hs,by simpa using I.len⟩ ⟨_,hs,.inl rfl⟩
  ·exact(hs.2 b (Ya6 (Yau (Yam e) I.ok.above))).trans (I.base.keep b o e n hb hx)
  ·obtain⟨sl,e1⟩:=I.base.slot b o e n hb hx
   exact⟨sl,(hs.2 b (Ya6 (Yau (Yam e) I.ok.above))).trans e1⟩
  ·obtain⟨o',e1⟩:=I.base.there b o e hx
   exact⟨o',(hs.2 b (Ya6 (Yau (Yam e) I.ok.above))).trans e1⟩
  ·by_cases hj:j=i
   ·subst hj
    rw [hi]at e1;cases e1
    rw [List.getElem?_set_self hiσ]at e2
    cases e2
    exact⟨u,r,.inl ⟨hk,by simp⟩⟩
   ·rw [List.getElem?_set_ne (Ydc hj)]at e2
    obtain⟨u',r',q⟩:=hl j y v' e1 e2 e3
    refine⟨u',r',?_⟩
    rcases q with⟨k,e⟩ | ⟨k,c,e,z⟩
    ·refine .inl ⟨k,?_⟩
     have:y≠x:=λe=>hj (Ik hN e1 (e ▸ hi))
     simp [this,e]
    ·exact .inr ⟨k,c,e,z.sameBut hs (cne y c e)⟩
  ·obtain⟨w',z⟩:=I.cell y c e
   exact⟨w',z.sameBut hs (cne y c e)⟩
  ·obtain⟨e,n,ne,nf,d⟩:=I.pin p hp
   exact⟨(hs.2 p.1 ne).trans e,n,ne,nf,d⟩
 ·have xg:X.fn x=true:=by
   rcases hf with z | z
   ·exact z
   ·rw [z]at hk;cases hk
  obtain⟨c,hc⟩:=I.ok.has x (.inl hk)
  obtain⟨w',z⟩:=I.cell x c hc
  refine wpAny_storeName_cell I.ok.kind hk hc z (λh' c9 hs=>?_)
  obtain⟨oc,hoc,hocd⟩:=id z
  refine h { s with heap:=h' } ⟨I.ok,I.os,I.bare,⟨λb o e n hb hx=>?_,λb o e n hb hx=>?_,I.base.free,λb o e hx=>?_,I.base.tups,I.base.frzs,I.base.tbls⟩,⟨m,hn.sameBut hs (Ydc (cne x c hc)),λj y v' e1 e2 e3=>?_⟩,λy c' e=>?_,I.free,I.freeC,λp hp=>?_,gj ⟨oc,hoc,I.freeC x c hc⟩ hs,by simpa using I.len⟩ ⟨c,hs,.inr hc⟩
  ·exact(hs.2 b (Ya6 (Yau (Yam e) (I.ok.cab x c xg hc)))).trans (I.base.keep b o e n hb hx)
  ·obtain⟨sl,e1⟩:=I.base.slot b o e n hb hx
   exact⟨sl,(hs.2 b (Ya6 (Yau (Yam e) (I.ok.cab x c xg hc)))).trans e1⟩
  ·obtain⟨o',e1⟩:=I.base.there b o e hx
   exact⟨o',(hs.2 b (Ya6 (Yau (Yam e) (I.ok.cab x c xg hc)))).trans e1⟩
  ·by_cases hj:j=i
   ·subst hj
    rw [hi]at e1;cases e1
    rw [List.getElem?_set_self hiσ]at e2
    cases e2
    exact⟨u,r,.inr ⟨.inl hk,c,hc,c9⟩⟩
   ·rw [List.getElem?_set_ne (Ydc hj)]at e2
    obtain⟨u',r',q⟩:=hl j y v' e1 e2 e3
    refine⟨u',r',?_⟩
    rcases q with q | ⟨k,c',e,z'⟩
    ·exact .inl q
    ·refine .inr ⟨k,c',e,z'.sameBut hs ?_⟩
     rintro rfl
     exact hj (Ik hN e1 (I.ok.inj _ _ _ e hc ▸ hi))
  ·by_cases hcc:c'=c
   ·subst hcc;exact⟨_,c9⟩
   ·obtain⟨w2,z2⟩:=I.cell y c' e
    exact⟨w2,z2.sameBut hs hcc⟩
  ·obtain⟨e,n,ne,nf,d⟩:=I.pin p hp
   refine⟨(hs.2 p.1 ?_).trans e,n,ne,nf,d⟩
   intro q
   rw [q,hoc]at e
   have q':oc=p.2:=Yas e
   exact d w' (by rw [<- q'];exact hocd)
theorem Da{M:Model}{A:Around}{E:Value->Shared->Prop}{i:Nat}{x:Str}{v:V}{u:Value}{Q:Unit->Shared->Prop}(I:Inv X aa σ H s)(hN:X.N.Nodup)(hi:X.N[i]?=some x)(hx:Loc X.env.scope x)(r:Bh v u)
  (h:∀s',Inv X aa (σ.set i (some v)) H s'->Q () s') (hf:X.fn x=true\/X.env.scope.names.lookup x=some .local:=by first | exact .inl rfl | exact .inr rfl | assumption):wpAny M A (storeName X.env x u) Q E s :=
 Kh I hN hi hx r (λs' I' _=>h s' I') hf
theorem Inv.call'{s':Shared}{ch:List Addr}(I:Inv X aa σ H s)(ho:s'.os=s.os)(u:Un (frs X.stack) ch H H' s.heap s'.heap)(hok:HOk X.prog X.w H' s'.heap)(hg:AllBare s'.gens)
  (fy:∀b∈ch,(b∈X.ex\/X.s₀.heap.objs.size<=b)/\b≠X.env.locals/\(∀x c,X.env.cells.lookup x=some c->c≠b)/\∀p∈X.pn++aa,p.1≠b):Inv X aa σ H' s':=by
 obtain⟨h',g',d',t',o'⟩:=s'
 have e:o'=s.os:=ho
 subst e
 exact I.call (g':=g') (t':=t') (d':=d') u hok hg fy
end
abbrev XK:=Value->Option Addr->Hp->Prop
abbrev St:=List (Option V)
abbrev VK:=V->Hp->Prop
abbrev TE:=St->Hp->VK->Prop
abbrev TT:=St->Hp->(Bool->Hp->Prop)->Prop
abbrev TA:=St->Hp->(List V->Hp->Prop)->Prop
structure Ends where
 nx:St->Hp->Prop
 rt:VK
 bk:St->Hp->Prop:=λ_ _=>False
 ct:St->Hp->Prop:=λ_ _=>False
abbrev TS:=Ends->St->Hp->Prop
def EP(X:Cx)(aa:List (Addr×Obj))(σ:St)(Q:VK)(u:Value)(s':Shared):Prop:=∃v H',Inv X aa σ H' s'/\Bh v u/\Q v H'
def TP(X:Cx)(aa:List (Addr×Obj))(σ:St)(Q:Bool->Hp->Prop)(b:Bool)(s':Shared):Prop:=∃H',Inv X aa σ H' s'/\Q b H'
def AP(X:Cx)(aa:List (Addr×Obj))(σ:St)(Q:List V->Hp->Prop)(us:List Value)(s':Shared):Prop:=∃vs H',Inv X aa σ H' s'/\Vals vs us/\Q vs H'
def SP(X:Cx)(aa:List (Addr×Obj))(D:Ends)(f:Flow)(s':Shared):Prop :=
 match f with
 | .next=>∃ σ' H',Inv X aa σ' H' s'/\D.nx σ' H'
 | .brk=>∃ σ' H',Inv X aa σ' H' s'/\D.bk σ' H'
 | .cont=>∃ σ' H',Inv X aa σ' H' s'/\D.ct σ' H'
 | .ret u=>∃v σ' H',Inv X aa σ' H' s'/\Bh v u/\D.rt v H'
def PE(X:Cx)(e:Expr)(t:TE):Prop :=
 ∀(aa:List (Addr×Obj)) (s:Shared) (σ:St) (H:Hp) (Q:VK),Inv X aa σ H s->t σ H Q->wpAny (model X.prog X.w) X.A (eval e X.env) (EP X aa σ Q) X.xe s
def PT(X:Cx)(e:Expr)(t:TT):Prop :=
 ∀(aa:List (Addr×Obj)) (s:Shared) (σ:St) (H:Hp) (Q:Bool->Hp->Prop),Inv X aa σ H s->t σ H Q->wpAny (model X.prog X.w) X.A (isTrue e X.env (eval e X.env)) (TP X aa σ Q) X.xe s
def PW(X:Cx)(e:Expr)(t:TT):Prop :=
 ∀(df:Sem Value) (aa:List (Addr×Obj)) (s:Shared) (σ:St) (H:Hp) (Q:Bool->Hp->Prop),Inv X aa σ H s->t σ H Q->wpAny (model X.prog X.w) X.A (isTrue e X.env df) (TP X aa σ Q) X.xe s
theorem PW.pt{X:Cx}{e:Expr}{t:TT}(h:PW X e t):PT X e t:=h _
def PA(X:Cx)(es:List Expr)(t:TA):Prop :=
 ∀(pos:Pos) (aa:List (Addr×Obj)) (s:Shared) (σ:St) (H:Hp) (Q:List V->Hp->Prop),Inv X aa σ H s->t σ H Q->wpAny (model X.prog X.w) X.A (spliced (backTo pos (starEach es X.env))) (AP X aa σ Q) X.xe s
def PS(X:Cx)(st:Stmt)(t:TS):Prop :=
 ∀(aa:List (Addr×Obj)) (s:Shared) (σ:St) (H:Hp) (D:Ends),Inv X aa σ H s->t D σ H->wpAny (model X.prog X.w) X.A (exec st X.env) (SP X aa D) X.xe s
def PSs(X:Cx)(st:List Stmt)(t:TS):Prop :=
 ∀(aa:List (Addr×Obj)) (s:Shared) (σ:St) (H:Hp) (D:Ends),Inv X aa σ H s->t D σ H->wpAny (model X.prog X.w) X.A (execs st X.env) (SP X aa D) X.xe s
theorem thn{α:Type}{t:Sem α}{Q Q':α->Shared->Prop}{M:Model}{A:Around}{E:Value->Shared->Prop}{s:Shared}(h:wpAny M A t Q E s)(hQ:∀a s,Q a s->Q' a s):wpAny M A t Q' E s:=Yby h hQ λ_ _ x=>x
section
variable {X:Cx}
def Qah(i:Nat):TE:=fun σ H Q=>∃v,σ[i]?=some (some v)/\Q v H
def tC(v:V):TE:=λ_ H Q=>Q v H
theorem Sg{i:Nat}{x:Str}{pos:Pos}(hN:X.N[i]?=some x)(hv:Vis X.env.scope x)(hd:(x==("__debug__" : Str))=false:=by decide) (d9:(x==("__classdict__" : Str))=false:=by decide):PE X (.Name x pos) (Qah i):=by
 intro aa s σ H Q I h
 obtain⟨v,e,h⟩:=h
 obtain⟨m,hn,hl⟩:=I.loc
 obtain⟨u,r,l⟩:=hl i x v hN e hv
 have fin:EP X aa σ Q u s:=⟨v,H,I,r,h⟩
 rcases l with⟨hk,hm⟩ | ⟨hk,c,hc,hcell⟩
 ·exact wpAny_Name (wpAny_loadName_local I.ok.kind hk hn hm fin) hd
 ·rcases hk with hk | hk
  ·exact wpAny_Name (wpAny_loadName_cell I.ok.kind hk hc hcell fin) hd
  ·exact wpAny_Name (wpAny_loadName_free I.ok.kind hk hc hcell fin d9) hd
theorem Qai{i j pos}:PE X (.Constant (.int i) j pos) (tC (.int i)):=λ_ _ _ H _ I h=>wpAny_Constant_int ⟨.int i,H,I.tok _,⟨_,rfl⟩,h⟩
theorem Qdz{b j pos}:PE X (.Constant (.bool b) j pos) (tC (.bl b)):=λ_ _ _ H _ I h=>Constant_bool ⟨.bl b,H,I,rfl,h⟩
theorem Qaj{j pos}:PE X (.Constant .none j pos) (tC .non):=λ_ _ _ H _ I h=>Constant_none ⟨.non,H,I,rfl,h⟩
theorem Si{x j pos}:PE X (.Constant (.str x) j pos) (tC (.str x)):=λ_ _ _ H _ I h=>Calls.Constant_str ⟨.str x,H,I.tok _,⟨_,rfl⟩,h⟩
def Gl(X:Cx)(x:Str):Prop:=X.env.kindOf x=some .globalImplicit
theorem Gs{E:Value->Shared->Prop}{aa:List (Addr×Obj)}{s:Shared}{σ:St}{H:Hp}{x:Str}{u:Value}{pos:Pos}{Q:Value->Shared->Prop}(I:Inv X aa σ H s)(hg:Gl X x)(hm:X.mg x=some u)(h:Q u s)
  (hd:(x==("__debug__" : Str))=false:=by decide):wpAny (model X.prog X.w) X.A (eval (.Name x pos) X.env) Q E s :=
 Calls.Name_function_global I.ok.kind hg (Calls.loadGlobal_global (by rw [I.ok.glob];exact I.mod.glob.keeps I.bk) hm h) hd
theorem De{E:Value->Shared->Prop}{aa:List (Addr×Obj)}{s:Shared}{σ:St}{H:Hp}{x:Str}{u:Value}{pos:Pos}{Q:Value->Shared->Prop}(I:Inv X aa σ H s)(hg:Gl X x)(hm:X.mg x=none)(hv:bootBuiltins x=some u)(h:Q u s)
  (hn:x ≠ "__name__" := by decide) (hd:(x==("__debug__" : Str))=false:=by decide):wpAny (model X.prog X.w) X.A (eval (.Name x pos) X.env) Q E s:=by
 obtain⟨mb,h1,h2⟩:=I.mod.blt
 exact Calls.Name_function_global I.ok.kind hg (Calls.loadGlobal_builtin (by rw [I.ok.glob];exact I.mod.glob.keeps I.bk) hm (by rw [I.ok.blt];exact h1.keeps I.bk) ((h2 x hn).trans hv) h) hd
theorem Ll{x:Str}{v:V}{u:Value}{pos:Pos}(hg:Gl X x)(hm:X.mg x=some u)(r:Bh v u)(hd:(x==("__debug__" : Str))=false:=by decide):PE X (.Name x pos) (tC v) :=
 λ_ _ _ H _ I h=>Gs I hg hm ⟨v,H,I,r,h⟩ hd
variable {a b:Expr}{ta tb:TE}{pos:Pos}
def PC(X:Cx)(op:CmpOp)(a b:Expr)(t:TE):Prop :=
 ∀(aa:List (Addr×Obj)) (s:Shared) (σ:St) (H:Hp) (Q:VK),Inv X aa σ H s->t σ H Q ->
  wpAny (model X.prog X.w) X.A (eval a X.env) (λv s₁=>wpAny (model X.prog X.w) X.A (eval b X.env) (λu s₂=>wpAny (model X.prog X.w) X.A (compareOp op v u) (EP X aa σ Q) X.xe s₂) X.xe s₁) X.xe s
def tB(t:TE):TT:=fun σ H Q=>t σ H λx H1=>∃c,x=.bl c/\Q c H1
theorem Qak{op:CmpOp}{t:TE}(h:PC X op a b t)(h1:behindInMarks op b=false:=by first | exact nobehind _ (by decide) (by decide) | rfl):PE X (.Compare a [op] [b] pos) t:=λaa s σ H Q I hw=>wpAny_Compare1 (h aa s σ H Q I hw) h1
theorem Sj{op:CmpOp}{t:TE}(h:PC X op a b t)(h1:behindInMarks op b=false:=by first | exact nobehind _ (by decide) (by decide) | rfl):PT X (.Compare a [op] [b] pos) (tB t):=by
 intro aa s σ H Q I hw
 refine wpAny_isTrue_Compare1 (thn (h aa s σ H _ I hw) λv s1 h1=>thn h1 λu s2 h2=>thn h2 λc s3 nn=>Cd nn λx H1 I1 r1 q1=>?_) h1
 obtain⟨d,rfl,q⟩:=q1
 cases r1
 exact Yb6 ⟨H1,I1,q⟩
theorem Qal{e:Expr}{t:TE}(h:PE X e t)(he:∀df,isTrue e X.env df=(do let v <- df;standAt e.pos;holding [v] (truthy v)):=by intro _;rfl):PT X e (tB t):=by
 intro aa s σ H Q I hw
 refine isTrue_plain (thn (h aa s σ H _ I hw) λv s1 m5=>Cd m5 λx H1 I1 r1 q1=>?_) (he _)
 obtain⟨d,rfl,q⟩:=q1
 cases r1
 exact Yb6 ⟨H1,I1,q⟩
variable {tA jg:TT}{rest:List Expr}
def Qhw(t u:TT):TT:=fun σ H Q=>t σ H λc H1=>if c=true then u σ H1 Q else Q false H1
def tOr(t u:TT):TT:=fun σ H Q=>t σ H λc H1=>if c=true then Q true H1 else u σ H1 Q
def Qhx(t:TT):TT:=fun σ H Q=>t σ H λc H1=>Q (!c) H1
theorem Wt(ha:PT X a tA):PW X (.BoolOp .And [a] pos) tA:=by
 intro wh aa s σ H Q I h
 refine isTrue_and (thn (ha aa s σ H Q I h) λc s1 e=>?_)
 cases c with
 | true=>exact isTrue_and_nil e
 | false=>exact e
theorem Qam(ha:PT X a tA):PW X (.BoolOp .Or [a] pos) tA:=by
 intro wh aa s σ H Q I h
 refine isTrue_or (thn (ha aa s σ H Q I h) λc s1 e=>?_)
 cases c with
 | false=>exact isTrue_or_nil e
 | true=>exact e
theorem Qan(ha:PT X a tA)(hb:PW X (.BoolOp .And (b :: rest) pos) jg):PW X (.BoolOp .And (a :: b :: rest) pos) (Qhw tA jg):=by
 intro wh aa s σ H Q I h
 refine isTrue_and (thn (ha aa s σ H _ I h) λc s1 ⟨H1,I1,q1⟩=>?_)
 cases c with
 | true=>exact hb wh aa s1 σ H1 Q I1 q1
 | false=>exact⟨H1,I1,q1⟩
theorem Qd0(ha:PT X a tA)(hb:PW X (.BoolOp .Or (b :: rest) pos) jg):PW X (.BoolOp .Or (a :: b :: rest) pos) (tOr tA jg):=by
 intro wh aa s σ H Q I h
 refine isTrue_or (thn (ha aa s σ H _ I h) λc s1 ⟨H1,I1,q1⟩=>?_)
 cases c with
 | true=>exact⟨H1,I1,q1⟩
 | false=>exact hb wh aa s1 σ H1 Q I1 q1
theorem Qao(ha:PT X a tA):PT X (.UnaryOp .Not a pos) (Qhx tA):=by
 intro aa s σ H Q I h
 exact isTrue_not (ha aa s σ H (λc H1=>Q (!c) H1) I h)
def Qd1(ta tb:TE):TE:=fun σ H Q=>ta σ H λx H1=>∃c,x=.bl c/\if c=true then tb σ H1 Q else Q (.bl false) H1
theorem Qap{op}{t:TE}(h:PE X a t):PE X (.BoolOp op [a] pos) t:=λaa s σ H Q I hw=>BoolOp_one (h aa s σ H Q I hw)
theorem Qaq(ha:PE X a ta)(hb:PE X (.BoolOp .And (b :: rest) pos) tb):PE X (.BoolOp .And (a :: b :: rest) pos) (Qd1 ta tb):=by
 intro aa s σ H Q I h
 refine BoolOp_and (thn (ha aa s σ H _ I h) λv s1 t0=>Cd t0 λx H1 I1 r1 q1=>?_)
 obtain⟨c,rfl,q1⟩:=q1
 cases r1
 refine Yb6 ?_
 cases c with
 | true=>exact hb aa s1 σ H1 Q I1 q1
 | false=>exact⟨.bl false,H1,I1,rfl,q1⟩
end
def Ei(K:PySem.W.Frag)(H:Hp)(a:Addr)(xs:List V):Prop :=
 Rd H a (.lst xs) \/
  ∃(o:Obj) (ae:Array Value) (n:Nat),K.lookup a=some o/\o.cls=.type "list" /\ o.dict=none/\o.data=.seq ae n/\ae.size<=sizeLine/\Vals xs ae.toList
def Hm(K:PySem.W.Frag)(H:Hp)(a:Addr)(xs:List V):Prop :=
 Rd H a (.tup xs) \/
  ∃(o:Obj) (ae:Array Value) (n:Nat),K.lookup a=some o/\o.cls=.type "tuple" /\ o.data=.seq ae n/\ae.size<=sizeLine/\Vals xs ae.toList
def Qhy:Value->Option V
 | .none=>some .non
 | .bool b=>some (.bl b)
 | .int i _=>some (.int i)
 | .str x _=>some (.str x)
 | .bytes b _=>some (.byt b)
 | .float b _=>some (.flt b)
 | .ref a=>some (.ref a)
 | .type n=>some (.ty n)
 | _=>none
theorem Bh.abs{x:V}{u:Value}(r:Bh x u):Qhy u=some x:=by
 cases x with
 | non=>cases r;rfl
 | bl _=>cases r;rfl
 | int _=>obtain⟨t,rfl⟩:=r;rfl
 | str _=>obtain⟨t,rfl⟩:=r;rfl
 | byt _=>obtain⟨t,rfl⟩:=r;rfl
 | flt _=>obtain⟨t,rfl⟩:=r;rfl
 | ref _=>cases r;rfl
 | ty _=>cases r;rfl
theorem Bh.inj{x y:V}{u:Value}(r:Bh x u)(q:Bh y u):x=y:=Yas (r.abs.symm.trans q.abs)
theorem Vals.inj:∀{xs ys:List V} {us:List Value},Vals xs us->Vals ys us->xs=ys
 | _,_,_,.nil,.nil=>rfl
 | _,_,_,.cons r t,.cons r' t'=>by rw [r.inj r',Vals.inj t t']
section
variable {X:Cx}{aa:List (Addr×Obj)}{σ:St}{H:Hp}{s:Shared}{a:Addr}{xs ys:List V}
theorem Ei.of{K:PySem.W.Frag}(h:H a=some (.lst xs)):Ei K H a xs:=.inl (.inl h)
theorem Hm.of{K:PySem.W.Frag}(h:H a=some (.tup xs)):Hm K H a xs:=.inl (.inl h)
theorem Inv.list(I:Inv X aa σ H s)(h:Ei X.K H a xs):∃ae:List Value,Vals xs ae/\PlainL s.heap a ae.toArray/\xs.length<=sizeLine:=by
 rcases h with h | ⟨o,ae,n,hk,hc,hd,hs,hz,r⟩
 ·obtain⟨z,ae,n,r,e⟩:=h.ok I.hok
  exact⟨ae,r,⟨_,n,e,rfl,rfl,rfl⟩,z⟩
 ·refine⟨ae.toList,r,⟨o,n,I.kIn a o hk,hc,hd,by simpa using hs⟩,?_⟩
  have e:=r.length
  simp only [Array.length_toList]at e
  omega
theorem Inv.tuple(I:Inv X aa σ H s)(h:Hm X.K H a xs):∃ae:List Value,Vals xs ae/\IsTup s.heap a ae.toArray/\xs.length<=sizeLine:=by
 rcases h with h | ⟨o,ae,n,hk,hc,hs,hz,r⟩
 ·obtain⟨z,ae,r,p⟩:=h.ok I.hok
  exact⟨ae,r,p,z⟩
 ·refine⟨ae.toList,r,⟨o,I.kIn a o hk,hc,n,by simpa using hs⟩,?_⟩
  have e:=r.length
  simp only [Array.length_toList]at e
  omega
theorem Inv.list_inj(I:Inv X aa σ H s)(h:Ei X.K H a xs)(h':Ei X.K H a ys):xs=ys:=by
 obtain⟨ae,r,⟨o,n,e,_,_,d⟩,_⟩:=I.list h
 obtain⟨its',r',⟨o',n',e',_,_,d'⟩,_⟩:=I.list h'
 rw [e]at e';cases e'
 rw [d]at d'
 injection d' with d1 _
 have:ae=its':=by simpa using Ybo Array.toList d1
 subst this
 exact r.inj r'
theorem Inv.tuple_inj(I:Inv X aa σ H s)(h:Hm X.K H a xs)(h':Hm X.K H a ys):xs=ys:=by
 obtain⟨ae,r,⟨o,e,_,n,d⟩,_⟩:=I.tuple h
 obtain⟨its',r',⟨o',e',_,n',d'⟩,_⟩:=I.tuple h'
 rw [e]at e';cases e'
 rw [d]at d'
 injection d' with d1 _
 have:ae=its':=by simpa using Ybo Array.toList d1
 subst this
 exact r.inj r'
end
abbrev Cx.wish(X:Cx)(E:Value->Shared->Prop):Cx:={ X with xe:=E }
abbrev Cx.nox(X:Cx):Cx:=X.wish λ_ _=>False
theorem Cx.Ok.wish{X:Cx}(ok:X.Ok)(E:Value->Shared->Prop):(X.wish E).Ok :=
 ⟨ok.mod,ok.kind,ok.glob,ok.blt,ok.above,ok.inj,ok.has,ok.cab,ok.hd,ok.frames,ok.stk,ok.exf,ok.bs,ok.bsz,ok.noex,ok.exfs,ok.funs,ok.frf⟩
theorem Cx.Ok.unwish{X:Cx}{E:Value->Shared->Prop}(ok:(X.wish E).Ok):X.Ok :=
 ⟨ok.mod,ok.kind,ok.glob,ok.blt,ok.above,ok.inj,ok.has,ok.cab,ok.hd,ok.frames,ok.stk,ok.exf,ok.bs,ok.bsz,ok.noex,ok.exfs,ok.funs,ok.frf⟩
section
variable {X:Cx}{aa:List (Addr×Obj)}{σ:St}{H:Hp}{s:Shared}{E:Value->Shared->Prop}
theorem Inv.wish(I:Inv X aa σ H s)(E:Value->Shared->Prop):Inv (X.wish E) aa σ H s:=⟨I.ok.wish E,I.os,I.bare,I.base,I.loc,I.cell,I.free,I.freeC,I.pin,I.hok,I.len⟩
theorem Inv.unwish(I:Inv (X.wish E) aa σ H s):Inv X aa σ H s:=⟨I.ok.unwish,I.os,I.bare,I.base,I.loc,I.cell,I.free,I.freeC,I.pin,I.hok,I.len⟩
theorem SP.unwish{D:Ends}{f:Flow}{s':Shared}(h:SP (X.wish E) aa D f s'):SP X aa D f s':=by
 cases f with
 | next=>obtain⟨σ',H',I,q⟩:=h;exact⟨σ',H',I.unwish,q⟩
 | brk=>obtain⟨σ',H',I,q⟩:=h;exact⟨σ',H',I.unwish,q⟩
 | cont=>obtain⟨σ',H',I,q⟩:=h;exact⟨σ',H',I.unwish,q⟩
 | ret u=>obtain⟨v,σ',H',I,r,q⟩:=h;exact⟨v,σ',H',I.unwish,r,q⟩
theorem PSs.nox{st:List Stmt}{t:TS}(h:PSs X.nox st t):PSs X st t:=λaa s σ H D I hw =>
 Yby (h aa s σ H D (I.wish _) hw) (λ_ _ q=>q.unwish) λ_ _ z=>False.elim z
end
section
variable {X:Cx}{st:Stmt}{rest:List Stmt}{t u:TS}{e:Expr}{te:TE}{pos:Pos}
def Qd2:TS:=λD σ H=>D.nx σ H
def Qhz(t u:TS):TS:=λD σ H=>t { D with nx:=u D } σ H
theorem Wu:PSs X [] Qd2:=λ_ _ σ H _ I h=>Ydg ⟨σ,H,I,h⟩
theorem Mr(h1:PS X st t)(h2:PSs X rest u):PSs X (st :: rest) (Qhz t u):=by
 intro aa s σ H D I h
 refine wpAny_execs_cons (thn (h1 aa s σ H { D with nx:=u D } I h) λf s1 q=>?_)
 cases f with
 | next =>
  obtain⟨σ',H',I',q⟩:=q
  exact h2 aa s1 σ' H' D I' q
 | ret v=>exact q
 | brk=>exact q
 | cont=>exact q
theorem Lm(h1:PS X st t):PSs X [st] t:=by
 intro aa s σ H D I h
 refine wpAny_execs_cons (thn (h1 aa s σ H D I h) λf s1 q=>?_)
 cases f with
 | next=>exact Ydg q
 | ret v=>exact q
 | brk=>exact q
 | cont=>exact q
def Qar:TS:=λD σ H=>D.bk σ H
theorem Sk:PS X (.Break pos) Qar:=λ_ _ σ H _ I h=>wpAny_Break ⟨σ,H,I,h⟩
theorem Inv.quiet{aa:List (Addr×Obj)}{σ:St}{H:Hp}{s:Shared}(I:Inv X aa σ H s):interactive X.env=false:=by simp [interactive,I.ok.kind]
def Qd3(te:TE):TS:=λD σ H=>te σ H λ_ H1=>D.nx σ H1
theorem Wv(he:PE X e te)(hs:swapsWith e none pos.line X.env=pure false:=by rfl):PS X (.Expr e pos) (Qd3 te):=by
 intro aa s σ H D I h
 exact wpAny_Expr_any (thn (he aa s σ H _ I h) λv s1 qc=>Cd qc λx H1 I1 r1 q1=>⟨σ,H1,I1,q1⟩) I.quiet hs
def Qh0(te:TE):TS:=λD σ H=>te σ H D.rt
theorem Qas(he:PE X e te):PS X (.Return (some e) pos) (Qh0 te):=by
 intro aa s σ H D I h
 exact wpAny_Return_some (thn (he aa s σ H _ I h) λv s1 sr=>Cd sr λx H1 I1 r1 q1=>⟨x,σ,H1,I1,r1,q1⟩)
def Qh1(c:TT)(t u:TS):TS:=λD σ H=>c σ H λb H1=>if b=true then t D σ H1 else u D σ H1
theorem Qd4{c:Expr}{a b:List Stmt}{tc:TT}(hc:PT X c tc)(ha:PSs X a t)(hb:PSs X b u):PS X (.If c a b pos) (Qh1 tc t u):=by
 intro aa s σ H D I h
 refine wpAny_If (thn (hc aa s σ H _ I h) λd s1 ⟨H1,I1,q1⟩=>?_)
 cases d with
 | true=>exact ha aa s1 σ H1 D I1 q1
 | false=>exact hb aa s1 σ H1 D I1 q1
end
abbrev TG:=V->St->Hp->(St->Hp->Prop)->Prop
abbrev TGs:=List V->St->Hp->(St->Hp->Prop)->Prop
def PG(X:Cx)(cw:Expr)(t:TG):Prop :=
 ∀(aa:List (Addr×Obj)) (s:Shared) (σ:St) (H:Hp) (v:V) (u:Value) (Q:St->Hp->Prop),Inv X aa σ H s->Bh v u->t v σ H Q ->
  wpAny (model X.prog X.w) X.A (assign cw X.env u) (λ_ s'=>∃ σ' H',Inv X aa σ' H' s'/\Q σ' H') X.xe s
def PGs(X:Cx)(ts:List Expr)(t:TGs):Prop :=
 ∀(aa:List (Addr×Obj)) (s:Shared) (σ:St) (H:Hp) (vs:List V) (us:List Value) (Q:St->Hp->Prop),Inv X aa σ H s->Vals vs us->t vs σ H Q ->
  wpAny (model X.prog X.w) X.A (assignInOrder ((assignEach ts X.env).map (·.2)) us) (λ_ s'=>∃ σ' H',Inv X aa σ' H' s'/\Q σ' H') X.xe s
abbrev TSet:=V->V->V->Hp->(Hp->Prop)->Prop
def PSet(X:Cx)(t:TSet):Prop :=
 ∀(aa:List (Addr×Obj)) (s:Shared) (σ:St) (H:Hp) (o i v:V) (ov iv u:Value) (Q:Hp->Prop),Inv X aa σ H s->Bh o ov->Bh i iv->Bh v u->t o i v H Q ->
  wpAny (model X.prog X.w) X.A (setItem ov iv u) (λ_ s'=>∃H',Inv X aa σ H' s'/\Q H') X.xe s
section
variable {X:Cx}{pos:Pos}
def Sl(i:Nat):TG:=λv σ H Q=>Q (σ.set i (some v)) H
theorem Ww{i:Nat}{x:Str}(hN:X.N.Nodup)(hi:X.N[i]?=some x)(hx:Loc X.env.scope x)(hf:X.fn x=true\/X.env.scope.names.lookup x=some .local:=by first | exact .inl rfl | exact .inr rfl | assumption):PG X (.Name x pos) (Sl i):=by
 intro aa s σ H v u Q I r h
 exact wpAny_assign_Name (Da I hN hi hx r (λs' I'=>⟨_,H,I',h⟩) hf)
def Qh2:TGs:=λvs σ H Q=>vs=[]/\Q σ H
def Qd5(t:TG)(u:TGs):TGs:=λvs σ H Q=>∃v r,vs=v :: r/\t v σ H fun σ' H'=>u r σ' H' Q
theorem Wx:PGs X [] Qh2:=by
 intro aa s σ H vs us Q I r h
 obtain⟨e,h⟩:=h
 subst e
 cases r
 exact assignInOrder_nil ⟨σ,H,I,h⟩
theorem Sm{e:Expr}{es:List Expr}{t:TG}{u:TGs}(h1:PG X e t)(h2:PGs X es u)
  (hs:(assignEach (e :: es) X.env).map (·.2)=assign e X.env :: (assignEach es X.env).map (·.2):=by rfl):PGs X (e :: es) (Qd5 t u):=by
 intro aa s σ H vs us Q I r h
 obtain⟨v,vr,e1,h⟩:=h
 subst e1
 cases r with
 | cons r rr =>
  rw [hs]
  refine Ych (thn (h1 aa s σ H _ _ _ I r h) λ_ s1 uk=>?_)
  obtain⟨σ1,H1,I1,q1⟩:=uk
  exact h2 aa s1 σ1 H1 _ _ Q I1 rr q1
def Qh3(K:PySem.W.Frag)(n:Nat)(t:TGs):TG:=λv σ H Q=>∃a xs,v=.ref a/\Hm K H a xs/\xs.length=n/\t xs σ H Q
theorem Sn{es:List Expr}{k:Nat}{t:TGs}{n:Nat}(hc:X.calm=true)(h:PGs X es t)
  (hn:(assignEach es X.env).length=n:=by rfl) (bg:(assignEach es X.env).findIdx? (·.1)=none:=by rfl):PG X (.Tuple es k pos) (Qh3 X.K n t):=by
 intro aa s σ H v u Q I r hw
 obtain⟨a,xs,e1,hq,hl,hw⟩:=hw
 subst e1
 cases r
 obtain⟨ae,rv,ht,hz⟩:=I.tuple hq
 refine assign_Tuple_tuple (I.ok.hd hc) ht (by simp [hn,<- hl,rv.length]) bg λh' hx=>?_
 have I1:Inv X aa σ H { s with heap:=h' }:=I.kept (t':=s.toks) λb o e=>hx b o (Ya6 (Yam e)) e
 exact h aa _ σ H xs _ Q I1 (by simpa using rv) hw
def Qh4(to ti:TE)(t:TSet):TG:=λv σ H Q=>to σ H λo H1=>ti σ H1 λi H2=>t o i v H2 λH3=>Q σ H3
theorem Qat{o i:Expr}{to ti:TE}{t:TSet}(ho:PE X o to)(hi:PE X i ti)(hs:PSet X t)
  (ha:∀v,assign (.Subscript o i pos) X.env v=(do
   let ov <- holding [v] (eval o X.env)
   let iv <- holding [v,ov] (eval i X.env)
   standAt pos
   holding [v,ov,iv] (setItem ov iv v)
   release [v,ov,iv] []):=by intro _;rfl):PG X (.Subscript o i pos) (Qh4 to ti t):=by
 intro aa s σ H v u Q I r h
 rw [ha]
 refine Yab (Yb8 (thn (ho aa s σ H _ I h) λov s1 t4=>Cd t4 λx H1 I1 r1 q1=>?_))
 refine Yab (Yb8 (thn (hi aa s1 σ H1 _ I1 q1) λiv s2 t7=>Cd t7 λy H2 I2 r2 q2=>?_))
 refine Yab (Yc6 (Yab (Yb8 (thn (hs aa s2 σ H2 x y v ov iv u _ I2 r1 r2 r q2) λ_ s3 ⟨H3,I3,q3⟩=>?_))))
 exact wpAny_release ⟨σ,H3,I3,q3⟩
def Wy(te:TE)(g:TG):TS:=λD σ H=>te σ H λx H1=>g x σ H1 D.nx
theorem So{tg e:Expr}{te:TE}{g:TG}(he:PE X e te)(hg:PG X tg g)(hs:swapsWithSole [tg] e pos.line X.env=pure false:=by rfl)(hw:swappedStores [tg] e X.env=pure none:=by rfl)
  (h1:(assignEach [tg] X.env).map (·.2)=[assign tg X.env]:=by rfl):PS X (.Assign [tg] e pos) (Wy te g):=by
 intro aa s σ H D I h
 refine wpAny_Assign_stores (thn (he aa s σ H _ I h) λv s1 tw=>Cd tw λx H1 I1 r1 q1=>?_) hs hw
 rw [h1]
 exact thn (hg aa s1 σ H1 x v _ I1 r1 q1) λ_ s2 q=>q
theorem Qau{i:Nat}{x:Str}{e:Expr}{te:TE}{bu:Pos}(hN:X.N.Nodup)(hi:X.N[i]?=some x)(hx:Loc X.env.scope x)(he:PE X e te)(hs:swapsWith e (some (.Name x bu)) pos.line X.env=pure false:=by rfl)(hf:X.fn x=true\/X.env.scope.names.lookup x=some .local:=by first | exact .inl rfl | exact .inr rfl | assumption) :
  PS X (.Assign [.Name x bu] e pos) (Wy te (Sl i)):=by
 intro aa s σ H D I h
 refine wpAny_Assign_Name (thn (he aa s σ H _ I h) λv s1 pj=>Cd pj λy H1 I1 r1 q1=>?_) hs
 exact Da I1 hN hi hx r1 (λs2 I2=>⟨_,H1,I2,q1⟩) hf
def Qh5(i j:Nat)(ta:TA):TS:=λD σ H=>ta σ H λvs H1=>∃v w,vs=[v,w]/\D.nx ((σ.set i (some v)).set j (some w)) H1
theorem Qav{i j:Nat}{x y:Str}{a b:Expr}{ta:TA}{px py pt:Pos}{kt k2 d5}(hc:X.calm=true)(hN:X.N.Nodup)(hi:X.N[i]?=some x)(hj:X.N[j]?=some y)(jk:i≠j)
  (hx:X.env.scope.names.lookup x=some .local) (hy:X.env.scope.names.lookup y=some .local) (ha:PA X [a,b] ta)
  (hw:swappedStores [.Tuple [.Name x px,.Name y py] kt pt] (.Tuple [a,b] k2 d5) X.env=pure (some [x,y]))
  (hs:swapsWithSole [.Tuple [.Name x px,.Name y py] kt pt] (.Tuple [a,b] k2 d5) pos.line X.env=pure false:=by rfl) :
  PS X (.Assign [.Tuple [.Name x px,.Name y py] kt pt] (.Tuple [a,b] k2 d5) pos) (Qh5 i j ta):=by
 intro aa s σ H D I h
 rw [exec_Assign_arm]
 refine Yab (Yc6 ?_)
 rw [hs]
 refine Yab (Yad ?_)
 rw [Yar (by decide)]
 refine Yab (Tuple_ (thn (ha _ aa s σ H _ I h) λus s1 t5=>Cd t5 λvs H1 I1 r1 q1=>?_))
 obtain⟨v,w,e1,q1⟩:=q1
 subst e1
 obtain⟨u1,u2,rfl,rv,cu⟩:∃u1 u2,us=[u1,u2]/\Bh v u1/\Bh w u2:=by
  cases r1 with
  | cons p q =>
   cases q with
   | cons p' q' =>
    cases q'
    exact⟨_,_,rfl,p,p'⟩
 refine Ybv ?_ (by show 2<=sizeLine;decide)
 have I2:Inv X aa σ H1 { s1 with heap:=s1.heap.push { cls:=.type "tuple",data:=.seq [u1,u2].toArray } }:=I1.kept (t':=s1.toks) λb o e=>Heap.get?_push_of_some _ e
 rw [hw]
 refine Yab (Yad ?_)
 show wpAny (model X.prog X.w) X.A (do rule "assign.swapped-stores";let items <- unpackItems (.ref s1.heap.objs.size) 2 none;assignInOrder [λv=>bindName X.env y v,λv=>bindName X.env x v] items.reverse;pure Flow.next) _ _ _
 refine Yab (wpAny_rule (Yab (unpackItems_tuple (items:=#[u1,u2]) (I.ok.hd hc) (IsTup.new s1.heap _) λh' ig=>?_)))
 have I3:=I2.kept (h':=h') (t':=s1.toks) λb o e=>ig b o (Ya6 (Yam e)) e
 show wpAny _ _ (assignInOrder [λv=>bindName X.env y v,λv=>bindName X.env x v] [u2,u1] >>= λ_=>pure Flow.next) _ _ _
 refine Yab (Ych (Yd0 (Da I3 hN hj (.inl hy) cu (λs2 I4=>?_) (.inr hy))))
 refine Ych (Yd0 (Da I4 hN hi (.inl hx) rv (λs3 I5=>assignInOrder_nil (Yad ?_)) (.inr hx)))
 rw [List.set_comm _ _ (Ydc jk)]at I5
 exact⟨_,H1,I5,q1⟩
end
section
variable {X:Cx}{pos:Pos}
def Qaw(c:TT)(tb:TS):TS:=λD σ H=>∃W:Nat->St->Hp->Prop,(∃m,W m σ H)/\∀m σ H,W m σ H ->
 c σ H λb H1=>if b=true then ∃N:St->Hp->Prop,(∀ σ' H',N σ' H'->∃m',m' < m/\W m' σ' H')/\tb { D with nx:=N,ct:=N,bk:=D.nx } σ H1 else D.nx σ H1
theorem Sq{c:Expr}{body:List Stmt}{tc:TT}{tb:TS}(hp:PassesOwn (model X.prog X.w) X.A X.env X.xe)(hc:PT X c tc)(hb:PSs X body tb):PS X (.While c body [] pos) (Qaw tc tb):=by
 intro aa s σ H D I h
 obtain⟨W,⟨m0,w0⟩,turn⟩:=h
 refine wpAny_While (codeAny_whileLoop (λn s'=>∃ σ' H',Inv X aa σ' H' s'/\W n σ' H') ?_ m0 ⟨σ,H,I,w0⟩)
 rintro n s1 ⟨σ1,H1,I1,w1⟩
 refine Ycj hp (thn (hc aa s1 σ1 H1 _ I1 (turn n σ1 H1 w1)) λb s2 ⟨H2,I2,q2⟩=>?_)
 cases b with
 | true =>
  obtain⟨N,hN,q2⟩:=q2
  rw [Yaw rfl]
  refine Ycj hp (thn (hb aa s2 σ1 H2 _ I2 q2) λf s3 q3=>?_)
  cases f with
  | next =>
   obtain⟨σ3,H3,I3,n3⟩:=q3
   obtain⟨m',hm,w3⟩:=hN σ3 H3 n3
   exact⟨m',hm,σ3,H3,I3,w3⟩
  | cont =>
   obtain⟨σ3,H3,I3,n3⟩:=q3
   obtain⟨m',hm,w3⟩:=hN σ3 H3 n3
   exact⟨m',hm,σ3,H3,I3,w3⟩
  | brk=>exact q3
  | ret v=>exact q3
 | false =>
  rw [Yar Yak]
  exact Ydg ⟨σ1,H2,I2,q2⟩
end
structure It where
 go:Nat->Hp->Prop
 yld:Nat->Hp->V->Hp->Prop
 stop:Nat->Hp->Prop
def Gd(X:Cx)(aa:List (Addr×Obj))(H:Hp)(b:Addr):Prop :=
 H b=none/\b≠X.env.locals/\b∉X.fs/\(b∈X.ex\/X.s₀.heap.objs.size<=b)/\(∀x c,X.env.cells.lookup x=some c->c≠b)/\∀p∈X.pn++aa,p.1≠b
theorem Inv.fpOk{X:Cx}{aa:List (Addr×Obj)}{σ:St}{H H':Hp}{s:Shared}{b:Addr}(I:Inv X aa σ H s)(hb:s.heap.objs.size<=b)(hn:H' b=none):Gd X aa H' b:=by
 refine⟨hn,Yeh (Yau I.lt hb),I.nofs hb,.inr (Yap I.sz hb),λx c e z=>?_,λp hp z=>?_⟩
 ·obtain⟨v,q⟩:=I.cell x c e
  exact absurd (Yau q.lt (by rw [z];exact hb)) (Ycc _)
 ·exact absurd (Yau (Yam (I.pin p hp).1) (by rw [z];exact hb)) (Ycc _)
structure Turn(P:Program)(w:World)(K:PySem.W.Frag)(tg:Expr)(J:It)(fp:List Addr)(it:Addr)(tn:Nat->Heap->Prop):Prop where
 mem:it∈fp
 obj:∀i h,tn i h->∀b∈fp,∃o,h.get? b=some o/\∀v,o.data≠.cell v
 keep:∀i h h',tn i h->(∀b∈fp,∀o,h.get? b=some o->h'.get? b=some o)->tn i h'
 item:∀(X:Cx),X.prog=P->X.w=w->X.K=K->X.calm=true->∀(i:Nat) (aa:List (Addr×Obj)) (s:Shared) (σ:St) (H:Hp) (E:Value->Shared->Prop),Inv X aa σ H s->(∀b∈fp,Gd X aa H b)->tn i s.heap->J.go i H ->
  wpAny (model P w) X.A (pyNext (.ref it)) (λr s1=>∃u,r=some u /\
   wpAny (model P w) X.A (letOwnedTupleGo tg (.ref it) u) (λ_ s2=>∃x H',Inv X aa σ H' s2/\Bh x u/\J.yld i H x H'/\tn (i+1) s2.heap/\∀b∈fp,H' b=none) E s1) E s
 done:∀(X:Cx),X.prog=P->X.w=w->X.K=K->X.calm=true->∀(i:Nat) (aa:List (Addr×Obj)) (s:Shared) (σ:St) (H:Hp) (E:Value->Shared->Prop),Inv X aa σ H s->(∀b∈fp,Gd X aa H b)->tn i s.heap->J.stop i H ->
  wpAny (model P w) X.A (pyNext (.ref it)) (λr s1=>r=none/\Inv X aa σ H s1) E s
 self:∀(A:Around) (i:Nat) (s:Shared) (Q:Value->Shared->Prop) (E:Value->Shared->Prop),tn i s.heap->Q (.ref it) s->wpAny (model P w) A (pyIter (.ref it)) Q E s
abbrev TI:=St->Hp->(It->Hp->Prop)->Prop
def PIE(X:Cx)(aa:List (Addr×Obj))(σ:St)(tg:Expr)(R:It->Hp->Prop)(u5:Value)(s2:Shared):Prop :=
 ∃(it:Addr) (fp:List Addr) (tn:Nat->Heap->Prop) (J:It) (H':Hp),u5=.ref it/\Inv X aa σ H' s2/\Turn X.prog X.w X.K tg J fp it tn/\tn 0 s2.heap/\(∀b∈fp,Gd X aa H' b)/\R J H'
def PI(X:Cx)(tg ar:Expr)(wi:TI):Prop :=
 ∀(aa:List (Addr×Obj)) (s:Shared) (σ:St) (H:Hp) (R:It->Hp->Prop),Inv X aa σ H s->wi σ H R ->
  wpAny (model X.prog X.w) X.A (eval ar X.env) (λv s1=>wpAny (model X.prog X.w) X.A (pyIter v) (PIE X aa σ tg R) X.xe s1) X.xe s
theorem O5{M:Model}{A:Around}{E:Value->Shared->Prop}{s:Shared}{tg:Expr}{it:Addr}{u:Value}{o:Obj}{n:String}{vs:Array Value}{Q:Unit->Shared->Prop}(ho:s.heap.get? it=some o)(hc:o.cls=.type n)(hd:o.data=.fields vs)
  (hn:["enumerate","zip","dict_itemiterator","dict_reverseitemiterator","odict_iterator","itertools.zip_longest","itertools.pairwise"].contains n=false) (hQ:Q () s):wpAny M A (letOwnedTupleGo tg (.ref it) u) Q E s:=by
 unfold letOwnedTupleGo
 cases tg <;> first
  | exact Yad hQ
  | (cases u <;> first
    | exact Yad hQ
    | (refine Yab (wpAny_load ho ?_)
       rw [hc, hd]
       show wpAny M A (if (["enumerate", "zip", "dict_itemiterator", "dict_reverseitemiterator", "odict_iterator", "itertools.zip_longest", "itertools.pairwise"].contains n && vs[0]? == some (rawInt _)) = true then _ else _) Q E s
       rw [Yar (by intro h; rw [hn, Yat] at h; cases h)]
       exact Yad hQ))
def Itl(K:PySem.W.Frag)(a:Addr):It :=
 ⟨λi H=>∃xs x,Ei K H a xs/\xs[i]?=some x,λi H x H'=>H'=H/\∀xs,Ei K H a xs->xs[i]?=some x,λi H=>∃xs,Ei K H a xs/\xs.length<=i⟩
def Itt(K:PySem.W.Frag)(a:Addr):It :=
 ⟨λi H=>∃xs x,Hm K H a xs/\xs[i]?=some x,λi H x H'=>H'=H/\∀xs,Hm K H a xs->xs[i]?=some x,λi H=>∃xs,Hm K H a xs/\xs.length<=i⟩
def Itr(lo:Int)(n:Nat):It:=⟨λi _=>i < n,λi H x H'=>H'=H/\x=.int (lo+i),λi _=>n<=i⟩
theorem Qp{P:Program}{w:World}{K:PySem.W.Frag}{tg:Expr}(a it:Addr):Turn P w K tg (Itl K a) [it] it (λi h=>h.IsListIter it a i) where
 mem:=by simp
 obj:=λi h st b hb=>by
  have e:b=it:=by simpa using hb
  subst e
  obtain⟨o,e,c,d⟩:=st
  exact⟨o,e,λv z=>by rw [d]at z;cases z⟩
 keep:=λi h h' st k=>st.at λo e=>k it (by simp) o e
 item:=by
  intro X hP hw hK hc i aa s σ H E I hf st hg
  subst hP hw hK
  obtain⟨xs,x,hq,hx⟩:=hg
  obtain⟨ae,rv,p,hz⟩:=I.list hq
  obtain⟨u,hu,ru⟩:=rv.get hx
  obtain⟨f0,f1,f2,f3,f4,f5⟩:=hf it (by simp)
  refine wpAny_pyNext_list_item st p.isList (x:=u) (by simpa using hu) λh' ic sb=>?_
  have I1:Inv X aa σ H { s with heap:=h' }:=I.turned (t':=s.toks) (λb o hb e=>(sb.2 b hb).trans e) f0 f1 f3 f4 f5
  obtain⟨o,e,c,d⟩:=id ic
  exact⟨u,rfl,O5 (s:={ s with heap:=h' }) e c d (by decide) ⟨x,H,I1,ru,⟨rfl,λys hy=>by rw [I.list_inj hy hq];exact hx⟩,ic,λb hb=>(hf b hb).1⟩⟩
 done:=by
  intro X hP hw hK hc i aa s σ H E I hf st hg
  subst hP hw hK
  obtain⟨xs,hq,hx⟩:=hg
  obtain⟨ae,rv,p,hz⟩:=I.list hq
  obtain⟨f0,f1,f2,f3,f4,f5⟩:=hf it (by simp)
  have hl:=rv.length
  exact wpAny_pyNext_list_end (I.ok.hd hc) st p.isList (by simp;omega) λh' eb=>⟨rfl,I.turned (t':=s.toks) (λb o hb e=>eb b o hb e) f0 f1 f3 f4 f5⟩
 self:=λ_ _ _ _ _ st h=>wpAny_pyIter_listiter st h
theorem Nt{P:Program}{w:World}{K:PySem.W.Frag}{tg:Expr}(a it:Addr):Turn P w K tg (Itt K a) [it] it (λi h=>h.IsTupleIter it a i) where
 mem:=by simp
 obj:=λi h st b hb=>by
  have e:b=it:=by simpa using hb
  subst e
  obtain⟨o,e,c,d⟩:=st
  exact⟨o,e,λv z=>by rw [d]at z;cases z⟩
 keep:=λi h h' st k=>st.at λo e=>k it (by simp) o e
 item:=by
  intro X hP hw hK hc i aa s σ H E I hf st hg
  subst hP hw hK
  obtain⟨xs,x,hq,hx⟩:=hg
  obtain⟨ae,rv,p,hz⟩:=I.tuple hq
  obtain⟨u,hu,ru⟩:=rv.get hx
  obtain⟨f0,f1,f2,f3,f4,f5⟩:=hf it (by simp)
  refine wpAny_pyNext_tuple_item st (show s.heap.IsTuple a ae.toArray from p) (x:=u) (by simpa using hu) λh' ic sb=>?_
  have I1:Inv X aa σ H { s with heap:=h' }:=I.turned (t':=s.toks) (λb o hb e=>(sb.2 b hb).trans e) f0 f1 f3 f4 f5
  obtain⟨o,e,c,d⟩:=id ic
  exact⟨u,rfl,O5 (s:={ s with heap:=h' }) e c d (by decide) ⟨x,H,I1,ru,⟨rfl,λys hy=>by rw [I.tuple_inj hy hq];exact hx⟩,ic,λb hb=>(hf b hb).1⟩⟩
 done:=by
  intro X hP hw hK hc i aa s σ H E I hf st hg
  subst hP hw hK
  obtain⟨xs,hq,hx⟩:=hg
  obtain⟨ae,rv,p,hz⟩:=I.tuple hq
  obtain⟨f0,f1,f2,f3,f4,f5⟩:=hf it (by simp)
  have hl:=rv.length
  exact wpAny_pyNext_tuple_end (I.ok.hd hc) st (show s.heap.IsTuple a ae.toArray from p) (by simp;omega) λh' eb=>⟨rfl,I.turned (t':=s.toks) (λb o hb e=>eb b o hb e) f0 f1 f3 f4 f5⟩
 self:=λ_ _ _ _ _ st h=>wpAny_pyIter_tupleiter st h
theorem Nu{P:Program}{w:World}{K:PySem.W.Frag}{tg:Expr}(it:Addr)(lo:Int)(n:Nat):Turn P w K tg (Itr lo n) [it] it (λi h=>IsRangeIter h it (lo+(i:Nat) * 1) ((n:Int) - (i:Nat)) 1) where
 mem:=by simp
 obj:=λi h st b hb=>by
  have e:b=it:=by simpa using hb
  subst e
  exact⟨_,st,λv z=>by
   have z':Data.fields _=Data.cell v:=z
   cases z'⟩
 keep:=λi h h' st k=>k it (by simp) _ st
 item:=by
  intro X hP hw hK hc i aa s σ H E I hf st hg
  subst hP hw hK
  obtain⟨f0,f1,f2,f3,f4,f5⟩:=hf it (by simp)
  have W:=Walks.range (prog:=X.prog) (w:=X.w) (I.ok.hd hc) it lo 1 n
  refine W.item i s _ _ hg st λv h' tk hv ic kk=>?_
  obtain⟨t,rfl⟩:=hv
  have I1:Inv X aa σ H { s with heap:=h',toks:=tk }:=I.turned (λb o hb e=>kk b o (by simpa using hb) e) f0 f1 f3 f4 f5
  refine⟨_,rfl,O5 (s:={ s with heap:=h',toks:=tk }) (n := "range_iterator") ic rfl rfl (by decide) ⟨.int (lo+i),H,I1,⟨t,?_⟩,⟨rfl,rfl⟩,ic,λb hb=>(hf b hb).1⟩⟩
  rw [Int.mul_one]
 done:=by
  intro X hP hw hK hc i aa s σ H E I hf st hg
  subst hP hw hK
  obtain⟨f0,f1,f2,f3,f4,f5⟩:=hf it (by simp)
  exact wpAny_pyNext_range_end (I.ok.hd hc) st (by have:n<=i:=hg;omega) λh' eb=>⟨rfl,I.turned (t':=s.toks) (λb o hb e=>eb b o hb e) f0 f1 f3 f4 f5⟩
 self:=λ_ _ _ _ _ st h=>wpAny_pyIter_rangeiter st h
section
variable {X:Cx}{tg:Expr}
theorem Sr{aa:List (Addr×Obj)}{σ:St}{H:Hp}{s:Shared}{R:It->Hp->Prop}{E:Value->Shared->Prop}{lo hi:Int}{t u v:Tok}{tk:Nat}(I:Inv X aa σ H s)(h1:-(2 ^ 62)<=lo)(h2:lo < 2 ^ 62)(h3:-(2 ^ 62)<=hi)(h4:hi < 2 ^ 62)
  (q:R (Itr lo (hi - lo).toNat) H):wpAny (model X.prog X.w) X.A (pyIter (.ref s.heap.objs.size)) (PIE X aa σ tg R) E { s with heap:=s.heap.push { cls:=.type "range",data:=.fields #[.int lo t,.int hi u,.int 1 v] },toks:=tk }:=by
 refine wpAny_pyIter_range (IsRange.new ..) (small_one h1 h2 h3 h4) ?_
 have I1:Inv X aa σ H { s with heap:=s.heap.push { cls:=.type "range",data:=.fields #[.int lo t,.int hi u,.int 1 v] },toks:=tk }:=I.kept λb o e=>Heap.get?_push_of_some _ e
 refine⟨(s.heap.push { cls:=.type "range",data:=.fields #[.int lo t,.int hi u,.int 1 v] }).objs.size,[(s.heap.push { cls:=.type "range",data:=.fields #[.int lo t,.int hi u,.int 1 v] }).objs.size],_,_,H,rfl,
  I1.kept (t':=tk) λb o e=>Heap.get?_push_of_some _ e,Nu _ lo (hi - lo).toNat,?_,λb hb=>?_,q⟩
 ·have e1:lo+((0:Nat):Int) * 1=lo:=by simp
  have e2:(((hi - lo).toNat:Nat):Int) - ((0:Nat):Int)=Builtin.Range.rangeSize lo hi 1:=by rw [rangeSize_one];split <;> omega
  show IsRangeIter _ _ (lo+((0:Nat):Int) * 1) ((((hi - lo).toNat:Nat):Int) - ((0:Nat):Int)) 1
  rw [e1,e2]
  exact Heap.get?_push_size _ rfl
 ·have e:b=(s.heap.push { cls:=.type "range",data:=.fields #[.int lo t,.int hi u,.int 1 v] }).objs.size:=by simpa using hb
  subst e
  exact I1.fpOk (Yag _) (I1.hok.fresh (Yag _))
def Qd6(ta:TA):TI:=fun σ H R=>ta σ H λvs H1=>∃j:Int,vs=[.int j]/\-(2 ^ 62)<=j/\j < 2 ^ 62/\R (Itr 0 j.toNat) H1
theorem Qq{a:Expr}{ta:TA}{p pos:Pos}(hg:Gl X "range") (hm:X.mg "range" = none) (ha:PA X [a] ta) (hs:starEach [a] X.env=[(false,eval a X.env)]:=by rfl):PI X tg (.Call (.Name "range" p) [a] [] pos) (Qd6 ta):=by
 intro aa s σ H R I h
 refine Call_ (De I hg hm boot_range (Yb2 (thn (ha pos aa s σ H _ I h) λus s1 ua=>Cd ua λvs H1 I1 r1 q1=>?_) hs rfl))
 obtain⟨j,e,q1,q2,q⟩:=q1
 subst e
 cases r1 with
 | cons r rr =>
  cases rr
  obtain⟨t,rfl⟩:=r
  exact call_range_1 (Sr I1 (by omega) (by omega) q1 q2 (by simpa using q))
def Qh6(wi:TI)(g:TG)(tb:TS):TS:=λD σ H=>wi σ H λJ H1=>∃W:Nat->Nat->St->Hp->Prop,(∃m,W 0 m σ H1)/\∀i m σ H,W i m σ H ->
 (J.stop i H/\D.nx σ H)\/(J.go i H/\∃N:St->Hp->Prop,(∀ σ' H',N σ' H'->∃m',m' < m/\W (i+1) m' σ' H')/\∀x H',J.yld i H x H'->g x σ H' fun σ2 H2=>tb { D with nx:=N,ct:=N,bk:=D.nx } σ2 H2)
def Il(fp:List Addr)(h:Heap):List (Addr×Obj):=fp.filterMap λb=>(h.get? b).map λo=>(b,o)
theorem Ej{fp:List Addr}{h:Heap}{b:Addr}{o:Obj}(hb:b∈fp)(e:h.get? b=some o):(b,o)∈Il fp h:=List.mem_filterMap.mpr ⟨b,hb,by rw [e];rfl⟩
theorem Qr{fp:List Addr}{h:Heap}{p:Addr×Obj}(hp:p∈Il fp h):p.1∈fp/\h.get? p.1=some p.2:=by
 obtain⟨b,hb,e⟩:=List.mem_filterMap.mp hp
 cases q:h.get? b with
 | none=>rw [q]at e;cases e
 | some o =>
  rw [q]at e
  have e':(b,o)=p:=Yas e
  subst e'
  exact⟨hb,q⟩
theorem Inv.pinned{aa:List (Addr×Obj)}{σ:St}{H:Hp}{s:Shared}{fp:List Addr}(I:Inv X aa σ H s)(hf:∀b∈fp,Gd X aa H b)(ho:∀b∈fp,∃o,s.heap.get? b=some o/\∀v,o.data≠.cell v):Inv X (aa++Il fp s.heap) σ H s :=
 I.pins_of λp hp=>(Ya5.mp hp).elim (λz=>I.pin p (Ybf _ z)) λz=>by
  obtain⟨hb,e⟩:=Qr z
  obtain⟨f0,f1,f2,_⟩:=hf p.1 hb
  obtain⟨o,e',d⟩:=ho p.1 hb
  rw [e]at e';cases e'
  exact⟨e,f0,f1,f2,d⟩
theorem Inv.unpinned{aa pl:List (Addr×Obj)}{σ:St}{H:Hp}{s:Shared}(I:Inv X (aa++pl) σ H s):Inv X aa σ H s:=I.pins_of λp hp=>I.pin p (Ybf _ (Yc7 _ hp))
theorem Qax{ar:Expr}{body:List Stmt}{wi:TI}{g:TG}{tb:TS}{pos:Pos}(hp:PassesOwn (model X.prog X.w) X.A X.env X.xe)(hc:X.calm=true)(hi:PI X tg ar wi)(hg:PG X tg g)(hb:PSs X body tb)
  (hs:∀x,foldedSetIterable ar X.env x=pure x:=by intro _;rfl):PS X (.For tg ar body [] pos) (Qh6 wi g tb):=by
 intro aa s σ H D I h
 refine wpAny_For (thn (hi aa s σ H _ I h) λv s1 h1=>thn h1 λu5 s2 h2=>?_) hs
 obtain⟨it,fp,tn,J,H2,e,I2,T,st2,f2,W,⟨m0,w0⟩,turn⟩:=h2
 subst e
 have fx:∀{H':Hp},(∀b∈fp,H' b=none)->∀b∈fp,Gd X aa H' b:=λhn b hb=>⟨hn b hb,(f2 b hb).2⟩
 refine codeAny_forLoop_any (λn s'=>∃i σ' H',Inv X aa σ' H' s'/\tn i s'.heap/\(∀b∈fp,H' b=none)/\W i n σ' H') ?_ m0 ⟨0,σ,H2,I2,st2,λb hb=>(f2 b hb).1,w0⟩
 rintro n s3 ⟨i,σ3,H3,I3,st3,fr3,w3⟩
 rcases turn i n σ3 H3 w3 with⟨stop,qn⟩ | ⟨go,N,hN,step⟩
 ·refine Ycj hp (thn (T.done X rfl rfl rfl hc i aa s3 σ3 H3 X.xe I3 (fx fr3) st3 stop) λr s4 ⟨hr,I4⟩=>?_)
  subst hr
  exact Ydg ⟨σ3,H3,I4,qn⟩
 ·refine Ycj hp (thn (T.item X rfl rfl rfl hc i aa s3 σ3 H3 X.xe I3 (fx fr3) st3 go) λr s4 ⟨u,hr,h4⟩=>?_)
  subst hr
  refine Ycj hp (thn h4 λ_ s5 uj=>?_)
  obtain⟨x,H5,I5,r5,y5,st5,fr5⟩:=uj
  have I5':=I5.pinned (fx fr5) (T.obj _ _ st5)
  refine Ycj hp (thn (hg _ s5 σ3 H5 x u _ I5' r5 (step x H5 y5)) λ_ s6 qj=>?_)
  obtain⟨σ6,H6,I6,q6⟩:=qj
  refine Ycj hp (thn (hb _ s6 σ6 H6 _ I6 q6) λf s7 q7=>?_)
  have again:∀{σ7:St} {H7:Hp},Inv X (aa++Il fp s5.heap) σ7 H7 s7->N σ7 H7->∃m,m < n/\∃i σ' H',Inv X aa σ' H' s7/\tn i s7.heap/\(∀b∈fp,H' b=none)/\W i m σ' H':=λ{σ7 H7} I7 n7=>by
   obtain⟨m',hm,w7⟩:=hN σ7 H7 n7
   refine⟨m',hm,i+1,σ7,H7,I7.unpinned,T.keep _ _ _ st5 λb hb o e=>(I7.pin (b,o) (Ybf _ (Ybf _ (Ej hb e)))).1,λb hb=>?_,w7⟩
   obtain⟨o,e,d⟩:=T.obj _ _ st5 b hb
   exact(I7.pin (b,o) (Ybf _ (Ybf _ (Ej hb e)))).2.1
  cases f with
  | next=>obtain⟨σ7,H7,I7,n7⟩:=q7;exact again I7 n7
  | cont=>obtain⟨σ7,H7,I7,n7⟩:=q7;exact again I7 n7
  | brk=>obtain⟨σ7,H7,I7,q7⟩:=q7;exact⟨σ7,H7,I7.unpinned,q7⟩
  | ret v=>obtain⟨x7,σ7,H7,I7,r7,q7⟩:=q7;exact⟨x7,σ7,H7,I7.unpinned,r7,q7⟩
end
abbrev R2:=V->V->Hp->VK->Prop
def Gq(X:Cx)(f:Value->Value->Sem Value)(r:R2):Prop :=
 ∀(aa:List (Addr×Obj)) (s:Shared) (σ:St) (H:Hp) (x y:V) (v u:Value) (Q:VK),Inv X aa σ H s->Bh x v->Bh y u->r x y H Q ->
  wpAny (model X.prog X.w) X.A (f v u) (EP X aa σ Q) X.xe s
def UnR(X:Cx)(f:Value->Sem Value)(r:V->Hp->VK->Prop):Prop :=
 ∀(aa:List (Addr×Obj)) (s:Shared) (σ:St) (H:Hp) (x:V) (v:Value) (Q:VK),Inv X aa σ H s->Bh x v->r x H Q ->
  wpAny (model X.prog X.w) X.A (f v) (EP X aa σ Q) X.xe s
def Ec(X:Cx)(f:Value)(r:List V->Hp->VK->Prop):Prop :=
 ∀(aa:List (Addr×Obj)) (s:Shared) (σ:St) (H:Hp) (xs:List V) (us:List Value) (Q:VK),Inv X aa σ H s->Vals xs us->r xs H Q ->
  wpAny (model X.prog X.w) X.A (call f us) (EP X aa σ Q) X.xe s
def tOp(r:R2)(ta tb:TE):TE:=fun σ H Q=>ta σ H λx H1=>tb σ H1 λy H2=>r x y H2 Q
def tUn(r:V->Hp->VK->Prop)(ta:TE):TE:=fun σ H Q=>ta σ H λx H1=>r x H1 Q
def rI(C:Int->Int->Prop)(g:Int->Int->V):R2:=λx y H Q=>∃i j,x=.int i/\y=.int j/\C i j/\Q (g i j) H
def Wz(g:Int->Int->V):R2:=λx y H Q=>∃i j,x=.int i/\y=.int j/\Q (g i j) H
def rU(g:Int->V):V->Hp->VK->Prop:=λx H Q=>∃i,x=.int i/\Q (g i) H
section
variable {X:Cx}{a b c:Expr}{ta tb tc:TE}{pos:Pos}
theorem Qay(ha:PE X a ta)(hb:PE X b tb){aa:List (Addr×Obj)}{s:Shared}{σ:St}{H:Hp}{R:V->V->Hp->Prop}(I:Inv X aa σ H s)
  (h:ta σ H λx H1=>tb σ H1 λy H2=>R x y H2) {Q:Value->Shared->Prop} {f:Value->Value->Sem Value}
  (hf:∀v u s2 x y H2,Inv X aa σ H2 s2->Bh x v->Bh y u->R x y H2->wpAny (model X.prog X.w) X.A (f v u) Q X.xe s2) :
  wpAny (model X.prog X.w) X.A (eval a X.env) (λv s₁=>wpAny (model X.prog X.w) X.A (eval b X.env) (λu s₂=>wpAny (model X.prog X.w) X.A (f v u) Q X.xe s₂) X.xe s₁) X.xe s:=by
 refine thn (ha aa s σ H _ I h) λv s1 si=>Cd si λx H1 I1 r1 q1=>?_
 refine thn (hb aa s1 σ H1 _ I1 q1) λu s2 qt=>Cd qt λy H2 I2 r2 q2=>?_
 exact hf v u s2 x y H2 I2 r1 r2 q2
theorem Qd8{op:Operator}{r:R2}(ho:Gq X (binaryOp op) r)(ha:PE X a ta)(hb:PE X b tb):PE X (.BinOp a op b pos) (tOp r ta tb):=by
 intro aa s σ H Q I h
 exact wpAny_BinOp (Qay ha hb I h λv u s2 x y H2 I2 rx ry q=>ho aa s2 σ H2 x y v u Q I2 rx ry q)
theorem Qd9{op:UnaryOp}{r:V->Hp->VK->Prop}(ho:UnR X (unaryOp op) r)(ha:PE X a ta):PE X (.UnaryOp op a pos) (tUn r ta):=by
 intro aa s σ H Q I h
 exact UnaryOp_ (thn (ha aa s σ H _ I h) λv s1 m9=>Cd m9 λx H1 I1 r1 q1=>ho aa s1 σ H1 x v Q I1 r1 q1)
theorem opI{f:Value->Value->Sem Value}{C:Int->Int->Prop}{g:Int->Int->Int}
  (rule:∀(i j:Int) (t u:Tok) (s:Shared) (Q:Value->Shared->Prop) (E:Value->Shared->Prop),C i j->Q (.int (g i j) s.toks) { s with toks:=s.toks+1 }->wpAny (model X.prog X.w) X.A (f (.int i t) (.int j u)) Q E s) :
  Gq X f (rI C λi j=>.int (g i j)):=by
 intro aa s σ H x y v u Q I rx ry h
 obtain⟨i,j,rfl,rfl,hc,q⟩:=h
 obtain⟨t,rfl⟩:=rx
 obtain⟨t',rfl⟩:=ry
 exact rule i j t t' s _ _ hc ⟨.int (g i j),H,I.tok _,⟨_,rfl⟩,q⟩
theorem Qea{f:Value->Value->Sem Value}{g:Int->Int->Int}
  (rule:∀(i j:Int) (t u:Tok) (s:Shared) (Q:Value->Shared->Prop) (E:Value->Shared->Prop),Q (.int (g i j) s.toks) { s with toks:=s.toks+1 }->wpAny (model X.prog X.w) X.A (f (.int i t) (.int j u)) Q E s) :
  Gq X f (Wz λi j=>.int (g i j)):=by
 intro aa s σ H x y v u Q I rx ry h
 obtain⟨i,j,rfl,rfl,q⟩:=h
 obtain⟨t,rfl⟩:=rx
 obtain⟨t',rfl⟩:=ry
 exact rule i j t t' s _ _ ⟨.int (g i j),H,I.tok _,⟨_,rfl⟩,q⟩
theorem W0{f:Value->Value->Sem Value}{g:Int->Int->Bool}
  (rule:∀(i j:Int) (t u:Tok) (s:Shared) (Q:Value->Shared->Prop) (E:Value->Shared->Prop),Q (.bool (g i j)) s->wpAny (model X.prog X.w) X.A (f (.int i t) (.int j u)) Q E s) :
  Gq X f (Wz λi j=>.bl (g i j)):=by
 intro aa s σ H x y v u Q I rx ry h
 obtain⟨i,j,rfl,rfl,q⟩:=h
 obtain⟨t,rfl⟩:=rx
 obtain⟨t',rfl⟩:=ry
 exact rule i j t t' s _ _ ⟨.bl (g i j),H,I,rfl,q⟩
def CDiv(i j:Int):Prop:=0 < j/\j < 1073741824
def CPow(i j:Int):Prop:=0<=j/\j<=1000000/\i.natAbs < 2 ^ 64
def CMul(i j:Int):Prop:=(-(2 ^ 64) < i/\i < 2 ^ 64)\/(-(2 ^ 64) < j/\j < 2 ^ 64)
theorem CMul.ok{i j:Int}(h:CMul i j):IntMulOk i j:=by
 rcases h with⟨h1,h2⟩ | ⟨h1,h2⟩
 ·exact .of_left (intBits_le_64 h1 h2)
 ·exact .of_right (intBits_le_64 h1 h2)
theorem Qaz:Gq X (binaryOp .Add) (Wz λi j=>.int (i+j)):=Qea λ_ _ _ _ _ _ _ q=>add_int q
theorem Qa0:Gq X (binaryOp .Sub) (Wz λi j=>.int (i - j)):=Qea λ_ _ _ _ _ _ _ q=>sub_int q
theorem Qa1:Gq X (binaryOp .Mult) (rI CMul λi j=>.int (i * j)):=opI λ_ _ _ _ _ _ _ hc q=>mul_int q hc.ok
theorem W1:Gq X (binaryOp .FloorDiv) (rI CDiv λi j=>.int (i / j)):=opI λi j _ _ _ _ _ hc q=>by
 have h1:(0:Int) < j:=hc.1
 have h2:j < 1073741824:=hc.2
 exact floordiv_int (by omega) (by rw [Int.fdiv_eq_ediv_of_nonneg i (by omega)];exact q) (.inl (PyProof.noPylong_small (by omega)))
theorem Qa2:Gq X (binaryOp .Mod) (rI (λ_ j=>0 < j) λi j=>.int (i % j)):=opI λi j _ _ _ _ _ hc q=>by
 have h1:(0:Int) < j:=hc
 exact mod_int' (by omega) (by rw [Int.fmod_eq_emod_of_nonneg i (by omega)];exact q)
theorem Qa3:Gq X (binaryOp .Pow) (rI CPow λi j=>.int (i ^ j.toNat)):=opI λ_ _ _ _ _ _ _ hc q=>pow_int_small hc.1 hc.2.1 hc.2.2 q
theorem unI{f:Value->Sem Value}{g:Int->Int}
  (rule:∀(i:Int) (t:Tok) (s:Shared) (Q:Value->Shared->Prop) (E:Value->Shared->Prop),Q (.int (g i) s.toks) { s with toks:=s.toks+1 }->wpAny (model X.prog X.w) X.A (f (.int i t)) Q E s) :
  UnR X f (rU λi=>.int (g i)):=by
 intro aa s σ H x v Q I rx h
 obtain⟨i,rfl,q⟩:=h
 obtain⟨t,rfl⟩:=rx
 exact rule i t s _ _ ⟨.int (g i),H,I.tok _,⟨_,rfl⟩,q⟩
theorem Qa4:UnR X (unaryOp .USub) (rU λi=>.int (-i)):=unI λ_ _ _ _ _ q=>neg_int q
end
section
variable {X:Cx}{a b c:Expr}{ta tb tc:TE}{pos:Pos}
theorem Ln{aa:List (Addr×Obj)}{σ:St}{H:Hp}{s:Shared}{Q:VK}{k k':Bool}(I:Inv X aa σ H s)(q:Q (.bl k) H)(e:k=k'):EP X aa σ Q (.bool k') s:=by
 subst e
 exact⟨.bl k,H,I,rfl,q⟩
theorem Qeb:Gq X (compareOp .Lt) (Wz λi j=>.bl (decide (i < j))):=W0 λ_ _ _ _ _ _ _ q=>lt_int q
theorem Qec:Gq X (compareOp .LtE) (Wz λi j=>.bl (decide (i<=j))):=W0 λ_ _ _ _ _ _ _ q=>le_int q
theorem Qed:Gq X (compareOp .Gt) (Wz λi j=>.bl (decide (j < i))):=W0 λ_ _ _ _ _ _ _ q=>gt_int q
theorem Qee:Gq X (compareOp .GtE) (Wz λi j=>.bl (decide (j<=i))):=W0 λ_ _ _ _ _ _ _ q=>ge_int q
theorem Qs:Gq X (compareOp .In) (λx y H Q=>∃i j,x=.str i/\y=.str j/\Q (.bl (!(Builtin.Str.occurrences j i 0 j.length 1).isEmpty)) H):=by
 intro aa s σ H x y v u Q I rx ry h
 obtain⟨i,j,rfl,rfl,q⟩:=h
 obtain⟨t,rfl⟩:=rx
 obtain⟨t',rfl⟩:=ry
 exact in_str (Ln I q rfl)
theorem Ss:Gq X (compareOp .Is) (λx y H Q=>y=.non/\Q (.bl (decide (x=.non))) H):=by
 intro aa s σ H x y v u Q I rx ry h
 obtain⟨rfl,q⟩:=h
 cases ry
 refine is_none_gen (Ln I q ?_)
 cases x <;> first
  | (cases rx;rfl)
  | (obtain⟨t,rfl⟩:=rx;rfl)
theorem nomark(b:Expr){op:CmpOp}(h:op≠.In:=by decide)(h2:op≠.NotIn:=by decide):behindInMarks op b=false:=by
 have e1:(op==CmpOp.In)=false:=by cases op <;> first | rfl | exact absurd rfl h
 have e2:(op==CmpOp.NotIn)=false:=by cases op <;> first | rfl | exact absurd rfl h2
 cases b <;> simp [behindInMarks,e1,e2]
theorem W4{op:CmpOp}{r:R2}(ho:Gq X (compareOp op) r)(ha:PE X a ta)(hb:PE X b tb)(hm:behindInMarks op b=false):PE X (.Compare a [op] [b] pos) (tOp r ta tb):=by
 intro aa s σ H Q I h
 exact wpAny_Compare1 (Qay ha hb I h λv u s2 x y H2 I2 rx ry q=>ho aa s2 σ H2 x y v u Q I2 rx ry q) hm
def Su(t:TE):TT:=fun σ H Q=>t σ H λx H'=>∃k,x=.bl k/\Q k H'
theorem W5{op:CmpOp}{r:R2}(ho:Gq X (compareOp op) r)(ha:PE X a ta)(hb:PE X b tb)(hm:behindInMarks op b=false):PT X (.Compare a [op] [b] pos) (Su (tOp r ta tb)):=by
 intro aa s σ H Q I h
 refine wpAny_isTrue_Compare1 (thn (ha aa s σ H _ I h) λv s1 ql=>Cd ql λx H1 I1 r1 q1=>thn (hb aa s1 σ H1 _ I1 q1) λu s2 tz=>Cd tz λy H2 I2 r2 q2 =>
  thn (ho aa s2 σ H2 x y v u _ I2 r1 r2 q2) λc s3 ⟨z,H3,I3,r3,k,e,q3⟩=>?_) hm
 subst e
 cases r3
 exact Yb6 ⟨H3,I3,q3⟩
def Nv(r r':R2)(ta tb tc:TE):TE:=fun σ H Q=>ta σ H λx H1=>tb σ H1 λy H2=>r x y H2 λz H3=>∃k,z=.bl k /\
 (if k=true then tc σ H3 λw' H4=>r' y w' H4 Q else Q (.bl false) H3)
theorem Sv{op fv:CmpOp}{r r':R2}(ho:Gq X (compareOp op) r)(ck:Gq X (compareOp fv) r')(ha:PE X a ta)(hb:PE X b tb)(hc:PE X c tc)
  (hm:lastMarks [op,fv] [b,c]=false:=by with_unfolding_all rfl):PE X (.Compare a [op,fv] [b,c] pos) (Nv r r' ta tb tc):=by
 intro aa s σ H Q I h
 refine Compare_chain (thn (ha aa s σ H _ I h) λv s1 qi=>Cd qi λx H1 I1 r1 q1=>chain_link (thn (hb aa s1 σ H1 _ I1 q1) λu s2 qo=>Cd qo λy H2 I2 r2 q2 =>
  thn (ho aa s2 σ H2 x y v u _ I2 r1 r2 q2) λd s3 ⟨z,H3,I3,r3,k,e,q3⟩=>?_)) hm
 subst e
 cases r3
 refine Yb6 ?_
 cases k with
 | false=>exact ite_ff ⟨.bl false,H3,I3,rfl,q3⟩
 | true=>exact ite_tt (chain_last (thn (hc aa s3 σ H3 _ I3 q3) λw' s4 sy=>Cd sy λz' H4 I4 r4 q4=>ck aa s4 σ H4 y z' u w' Q I4 r2 r4 q4))
theorem Sw{op fv:CmpOp}{r r':R2}(ho:Gq X (compareOp op) r)(ck:Gq X (compareOp fv) r')(ha:PE X a ta)(hb:PE X b tb)(hc:PE X c tc)
  (hm:lastMarks [op,fv] [b,c]=false:=by with_unfolding_all rfl):PT X (.Compare a [op,fv] [b,c] pos) (Su (Nv r r' ta tb tc)):=by
 intro aa s σ H Q I h
 refine isTrue_chain (thn (ha aa s σ H _ I h) λv s1 ul=>Cd ul λx H1 I1 r1 q1=>test_link (thn (hb aa s1 σ H1 _ I1 q1) λu s2 rh=>Cd rh λy H2 I2 r2 q2 =>
  thn (ho aa s2 σ H2 x y v u _ I2 r1 r2 q2) λd s3 ⟨z,H3,I3,r3,k,e,q3⟩=>?_)) hm
 subst e
 cases r3
 refine Yb6 ?_
 cases k with
 | false =>
  obtain⟨k',e',q'⟩:=q3
  cases e'
  exact ite_ff ⟨H3,I3,q'⟩
 | true =>
  refine ite_tt (test_last (thn (hc aa s3 σ H3 _ I3 q3) λw' s4 pk=>Cd pk λz' H4 I4 r4 q4=>thn (ck aa s4 σ H4 y z' u w' _ I4 r2 r4 q4) λd' s5 oj=>?_))
  obtain⟨z2,H5,I5,r5,k2,e2,q5⟩:=oj
  subst e2
  cases r5
  exact Yb6 ⟨H5,I5,q5⟩
theorem G9:(sizeLine:Nat) < 2 ^ 63:=by rw [sizeLine_eq];decide
theorem Nw:Gq X (binaryOp .Add) (λx y H Q=>∃i j,x=.str i/\y=.str j/\i.length+j.length<=sizeLine/\Q (.str (i++j)) H):=by
 intro aa s σ H x y v u Q I rx ry h
 obtain⟨i,j,rfl,rfl,hz,q⟩:=h
 obtain⟨t,rfl⟩:=rx
 obtain⟨t',rfl⟩:=ry
 exact add_str (λt' tk=>⟨.str (i++j),H,I.tok _,⟨_,rfl⟩,q⟩) hz
theorem Dp{x:V}{us:List Value}(r:Vals [x] us):∃u,us=[u]/\Bh x u:=by
 cases r with
 | cons r1 r2=>cases r2;exact⟨_,rfl,r1⟩
theorem Qef{x y:V}{us:List Value}(r:Vals [x,y] us):∃u w',us=[u,w']/\Bh x u/\Bh y w':=by
 cases r with
 | cons r1 r2 =>
  cases r2 with
  | cons r3 r4=>cases r4;exact⟨_,_,rfl,r1,r3⟩
theorem Qt(hc:X.calm=true):Ec X (.builtin "max") (λxs H Q=>∃i j,xs=[.int i,.int j]/\Q (.int (if j > i then j else i)) H):=by
 intro aa s σ H xs us Q I r h
 obtain⟨i,j,rfl,q⟩:=h
 obtain⟨u,w',rfl,⟨t,rfl⟩,⟨t',rfl⟩⟩:=Qef r
 refine max_two_ints (I.ok.hd hc) λh' tk k=>⟨_,H,I.kept k,?_,q⟩
 by_cases hj:j > i
 ·rw [Yaw hj,Yaw hj];exact⟨_,rfl⟩
 ·rw [Yar hj,Yar hj];exact⟨_,rfl⟩
theorem Ki:Ec X (.type "int") (λxs H Q=>(∃i,xs=[.int i]/\Q (.int i) H)\/∃k,xs=[.bl k]/\Q (.int (if k then 1 else 0)) H):=by
 intro aa s σ H xs us Q I r h
 rcases h with⟨i,rfl,q⟩ | ⟨k,rfl,q⟩
 ·obtain⟨u,rfl,t,rfl⟩:=Dp r
  exact call_int_int ⟨.int i,H,I,⟨_,rfl⟩,q⟩
 ·obtain⟨u,rfl,r1⟩:=Dp r
  cases r1
  exact call_int_bool ⟨.int (if k then 1 else 0),H,I.tok _,⟨_,rfl⟩,q⟩
end
theorem Kj{h:Heap}{dx:Addr}{mA:Str->Option Value}(n:h.Ns1 dx mA):∃od,h.get? dx=some od/\∀name,PySem.W.lookIn name od=some (mA name):=by
 obtain⟨o,es,ep,ho,hd,hk,_,hm⟩:=n
 refine⟨o,ho,λname=>?_⟩
 have e:=hm name
 unfold nsFind findBy at e
 rw [<- Array.find?_toList]at e
 unfold PySem.W.lookIn
 rw [hd]
 dsimp only
 split
 ·rename_i y q
  rw [q]at e
  exact Ybo some e
 ·rename_i q
  rw [q]at e
  have a:es.toList.any (·.refKey)=false:=by
   rw [List.any_eq_false]
   intro y hy
   obtain⟨z,t,kc⟩:=hk y (Array.mem_toList_iff.mp hy)
   simp [DictEntry.refKey,kc]
  have a':¬es.toList.any (·.refKey)=true:=by rw [a];exact Yak
  rw [Yar a']
  exact Ybo some e
section
variable {prog:Program}{w:World}{A:Around}{E:Value->Shared->Prop}{s:Shared}{K:PySem.W.Frag}{x dx C f:Addr}{mA:Str->Option Value}{name:Str}{v:Value}
end
theorem Fs.some_of{v:V}{o:Option Value}(r:Fs (some v) o):∃u,o=some u/\Bh v u:=by
 cases o with
 | none=>exact(show False from r).elim
 | some u=>exact⟨u,rfl,r⟩
theorem Qu{v:V}{u:Value}(r:Bh v u):PySem.W.handedIn u=true:=by
 cases v with
 | non=>cases (show u=Value.none from r);rfl
 | bl b=>cases (show u=Value.bool b from r);rfl
 | int i=>obtain⟨t,e⟩:=(show ∃t,u=Value.int i t from r);cases e;rfl
 | str x=>obtain⟨t,e⟩:=(show ∃t,u=Value.str x t from r);cases e;rfl
 | byt b=>obtain⟨t,e⟩:=(show ∃t,u=Value.bytes b t from r);cases e;rfl
 | flt b=>obtain⟨t,e⟩:=(show ∃t,u=Value.float b t from r);cases e;rfl
 | ref a=>cases (show u=Value.ref a from r);rfl
 | ty n=>cases (show u=Value.type n from r);rfl
section
variable {P:Program}{w:World}{H H':Hp}{h h':Heap}{a C dx:Addr}{fs fs':List (Str×V)}
end
def Ha(K:PySem.W.Frag)(C:Addr)(f:Str):Prop:=PySem.W.findIn K (.ref C) f=some none
section
variable {X:Cx}{aa:List (Addr×Obj)}{σ:St}{H:Hp}{s:Shared}{a C dx:Addr}{fs:List (Str×V)}{f:Str}{v:V}{A:Around}{E:Value->Shared->Prop}
theorem W6{prog:Program}{w:World}{env:Env}{e:Expr}{f:Str}{pos:Pos}{s:Shared}{Q:Value->Shared->Prop}(hb:attributeBase e f env (eval e env)=eval e env)
  (h:wpAny (model prog w) A (eval e env) (λo s₁=>wpAny (model prog w) A (getAttr o f true) Q E s₁) E s):wpAny (model prog w) A (eval (.Attribute e f pos) env) Q E s :=
 Attribute_any_ h (by rw [arm_eval_Attribute,hb])
end
section
variable {X:Cx}{o e value:Expr}{f:Str}{pos bu kj:Pos}{ta tv:TE}
end
section
variable {X:Cx}{aa:List (Addr×Obj)}{σ:St}{H:Hp}{s:Shared}{A:Around}{E:Value->Shared->Prop}{Q:Value->Shared->Prop}{c:Value}{b:Bool}
end
structure Room(k:Nat)(A:Around):Prop where
 hd:A.handled=none
 dp:A.depth+3 * k+5 < recursionLimit
 un:A.units+16 * k+200 < cLine
 gd:A.guards=some []
theorem Room.mono{j k:Nat}{A:Around}(r:Room k A)(h:j<=k):Room j A:=⟨r.hd,by have:=r.dp;omega,by have:=r.un;omega,r.gd⟩
theorem Room.deeper{k:Nat}{A:Around}(r:Room (k+1) A)(env:Env):Room k (A.deeper env) :=
 ⟨r.hd,by have:=r.dp;show A.depth+1+3 * k+5 < _;omega,by have:=r.un;show A.units+3+16 * k+200 < _;omega,r.gd⟩
theorem Nx{A:Around}{C:Addr}{us:List Value}{kw:List (Str×Value)}:(A.under (.builtin "type.__call__" ⟨.ref C :: us,kw⟩)).depth=A.depth+1:=by
 first | rfl | simp [Around.under,Code.weight,Code.isCreation,Code.isGuard,Code.isCaller,Code.frames,Code.isFrame,guardIds]
theorem Ny{A:Around}{C:Addr}{us:List Value}{kw:List (Str×Value)}:(A.under (.builtin "type.__call__" ⟨.ref C :: us,kw⟩)).units=A.units+1:=by
 first | rfl | simp [Around.under,Code.cUnits,Code.frames,Code.isFrame]
theorem Room.make{k:Nat}{A:Around}(r:Room (k+1) A)(C:Addr)(us:List Value)(kw:List (Str×Value)):Room k (A.under (.builtin "type.__call__" ⟨.ref C :: us,kw⟩)) :=
 ⟨r.hd,by have:=r.dp;rw [Nx];omega,by have:=r.un;rw [Ny];omega,r.gd⟩
theorem Room.depth{k:Nat}{A:Around}(r:Room k A):A.depth < recursionLimit:=by have:=r.dp;omega
theorem Room.units{k:Nat}{A:Around}(r:Room k A):A.units+64 < cLine:=by have:=r.un;omega
def Qh8:TA:=λ_ H Q=>Q [] H
def Qeg(ta:TE)(tr:TA):TA:=fun σ H Q=>ta σ H λx H1=>tr σ H1 λxs H2=>Q (x :: xs) H2
section
variable {X:Cx}{e:Expr}{es:List Expr}{te:TE}{t:TA}{pos:Pos}
theorem Nz:PA X [] Qh8:=λ_ _ _ _ H Q I h=>Yb7 ⟨[],H,I,.nil,h⟩
theorem Lo(ha:PE X e te)(hr:PA X es t)(hs:starEach (e :: es) X.env=(false,eval e X.env) :: starEach es X.env:=by rfl):PA X (e :: es) (Qeg te t):=by
 intro pos aa s σ H Q I h
 rw [hs]
 show wpAny _ _ (spliced ((false,eval e X.env) :: backTo pos (starEach es X.env))) _ _ s
 refine Ybl (thn (ha aa s σ H _ I h) λu s1 m3=>Cd m3 λx H1 I1 r1 q1=>?_)
 exact thn (hr pos aa s1 σ H1 _ I1 q1) λus s2 og=>Cd og λxs H2 I2 r2 q2=>⟨x :: xs,H2,I2,.cons r1 r2,q2⟩
def Qh9(t:TA):TE:=fun σ H Q=>t σ H λxs H1=>xs.length<=sizeLine/\∀p,H1 p=none->Q (.ref p) (upd H1 p (.tup xs))
def Qia(t:TA):TE:=fun σ H Q=>t σ H λxs H1=>xs.length<=sizeLine/\∀p,H1 p=none->Q (.ref p) (upd H1 p (.lst xs))
theorem N0{x1}(h:PA X es t):PE X (.Tuple es x1 pos) (Qh9 t):=by
 intro aa s σ H Q I hq
 refine wpAny_Tuple_spliced (thn (h pos aa s σ H _ I hq) λus s1 ⟨xs,H1,I1,r,z,q⟩=>⟨by rw [<- r.length];exact z,?_⟩)
 have hf:H1 s1.heap.objs.size=none:=I1.hok.fresh (Yag _)
 refine⟨.ref s1.heap.objs.size,upd H1 s1.heap.objs.size (.tup xs),I1.laid (t':=s1.toks) (λb u e=>Heap.get?_push_of_some _ e) (Yag _) ?_,rfl,q _ hf⟩
 exact⟨z,us,r,⟨_,Heap.get?_push_size _ rfl,rfl,_,rfl⟩⟩
theorem Qa5(h:PA X es t):PE X (.List es pos) (Qia t):=by
 intro aa s σ H Q I hq
 refine wpAny_List_spliced (thn (h pos aa s σ H _ I hq) λus s1 ⟨xs,H1,I1,r,z,q⟩=>⟨by rw [<- r.length];exact z,?_⟩)
 have hf:H1 s1.heap.objs.size=none:=I1.hok.fresh (Yag _)
 refine⟨.ref s1.heap.objs.size,upd H1 s1.heap.objs.size (.lst xs),I1.laid (t':=s1.toks) (λb u e=>Heap.get?_push_of_some _ e) (Yag _) ?_,rfl,q _ hf⟩
 exact⟨z,us,0,r,Heap.get?_push_size _ rfl⟩
end
abbrev Sp:=List V->Hp->VK->XK->Prop
abbrev CXT:=List Env->Hp->Shared->XK->Value->Shared->Prop
structure Env0(P:Program)(w:World)(K:PySem.W.Frag)(mg:Str->Option Value)(base:Heap)(A:Around)(outer:List Env)(s:Shared)(H:Hp):Prop where
 frames:A.frames=some outer
 mod:Mod K mg base
 bs:∀b o,base.get? b=some o->s.heap.get? b=some o/\H b=none
 bsz:base.objs.size<=s.heap.objs.size
 funs:s.heap.FunFrames base outer
 frf:∀b∈frs outer,H b=none
 hok:HOk P w H s.heap
 bare:AllBare s.gens
def CE(outer:List Env)(P:Program)(w:World)(H:Hp)(s:Shared)(Q:VK)(u:Value)(s':Shared):Prop :=
 ∃v H',s'.os=s.os/\AllBare s'.gens/\Un (frs outer) [] H H' s.heap s'.heap/\HOk P w H' s'.heap/\Bh v u/\Q v H'
def CR(CX:CXT)(outer:List Env)(P:Program)(w:World)(H:Hp)(s:Shared)(Q:VK)(E:XK)(r:Result)(s':Shared):Prop :=
 match r with
 | .ok (.ret u)=>CE outer P w H s Q u s'
 | .ok _=>False
 | .error e=>CX outer H s E e s'
structure FnOk(P:Program)(w:World)(K:PySem.W.Frag)(mg:Str->Option Value)(base:Heap)(CX:CXT)(k:Nat)(f:Addr)(fd:FuncData)(ps:List Str)(sp:Sp):Prop where
 len:∀vs H Q E,sp vs H Q E->vs.length=ps.length
 run:∀(A:Around) (outer:List Env) (s:Shared) (H:Hp) (args:Args) (us:List Value) (vs:List V) (Q:VK) (E:XK),Room k A->Env0 P w K mg base A outer s H->BindsTo s fd args (ps.zip us)->Vals vs us->sp vs H Q E ->
  codeAny (model P w) A (.call (.ref f) args) (CR CX outer P w H s Q E) s
theorem FnOk.mono{P:Program}{w:World}{K:PySem.W.Frag}{mg:Str->Option Value}{base:Heap}{CX:CXT}{j k:Nat}{f:Addr}{fd:FuncData}{ps:List Str}{sp:Sp}(F:FnOk P w K mg base CX j f fd ps sp)(h:j<=k) :
  FnOk P w K mg base CX k f fd ps sp:=⟨F.len,λA outer s H args us vs Q E hr=>F.run A outer s H args us vs Q E (hr.mono h)⟩
theorem FnOk.imp{P:Program}{w:World}{K:PySem.W.Frag}{mg:Str->Option Value}{base:Heap}{CX:CXT}{k:Nat}{f:Addr}{fd:FuncData}{ps:List Str}{sp sp':Sp}(F:FnOk P w K mg base CX k f fd ps sp)
  (h:∀vs H Q E,sp' vs H Q E->sp vs H Q E):FnOk P w K mg base CX k f fd ps sp' :=
 ⟨λvs H Q E q=>F.len vs H Q E (h _ _ _ _ q),λA outer s H args us vs Q E hr he hb hv hs=>F.run A outer s H args us vs Q E hr he hb hv (h _ _ _ _ hs)⟩
theorem Env0.make{P:Program}{w:World}{K:PySem.W.Frag}{mg:Str->Option Value}{base:Heap}{A:Around}{outer:List Env}{s:Shared}{H:Hp}(e:Env0 P w K mg base A outer s H)(C:Addr)(us:List Value)(kw:List (Str×Value)) :
  Env0 P w K mg base (A.under (.builtin "type.__call__" ⟨.ref C :: us,kw⟩)) outer s H:=⟨by first | exact e.frames | (simpa [Around.under,Code.envs,Code.isFrame,pushEnvs] using e.frames),e.mod,e.bs,e.bsz,e.funs,e.frf,e.hok,e.bare⟩
section
variable {X:Cx}{aa:List (Addr×Obj)}{σ:St}{H:Hp}{s s':Shared}
theorem Inv.env0(I:Inv X aa σ H s):Env0 X.prog X.w X.K X.mg X.base X.A X.stack s H :=
 ⟨I.ok.frames,I.ok.mod,I.bs,Yap I.ok.bsz I.sz,I.stack,I.stkFree,I.hok,I.bare⟩
theorem Inv.after{Q:VK}{u:Value}(I:Inv X aa σ H s)(h:CE X.stack X.prog X.w H s Q u s'):EP X aa σ Q u s':=by
 obtain⟨v,H',os,bare,un,hok,r,q⟩:=h
 obtain⟨hh,g,d,t,os'⟩:=s'
 obtain rfl:os'=s.os:=os
 exact⟨v,H',I.call (h':=hh) (g':=g) (d':=d) (t':=t) (ch:=[]) un hok bare (λb z=>absurd z (by simp)),r,q⟩
end
def Qeh(sp:Sp)(jr:List V)(E:XK)(t:TA):TE:=fun σ H Q=>t σ H λvs H1=>sp (vs++jr) H1 Q E
def Binds(K:PySem.W.Frag)(fd:FuncData)(ps:List Str)(ds:List Value):Prop :=
 ∀(s:Shared) (us:List Value),K.In s.heap->(us++ds).length=ps.length->BindsTo s fd ⟨us,[]⟩ (ps.zip (us++ds))
theorem Binds.all{K:PySem.W.Frag}{fd:FuncData}{ps:List Str}(h:∀us:List Value,us.length=ps.length->bindArgs fd ⟨us,[]⟩=pure (ps.zip us)):Binds K fd ps []:=λs us _ hl=>by
 rw [Ybi]at hl ⊢
 exact .of_eq (h us hl)
def Passes(CX:CXT)(X:Cx)(E:XK):Prop:=∀(aa:List (Addr×Obj)) (σ:St) (H:Hp) (s:Shared) (e:Value) (s':Shared),Inv X aa σ H s->CX X.stack H s E e s'->X.xe e s'
section
variable {X:Cx}{CX:CXT}{k:Nat}{f C:Addr}{fd:FuncData}{ps:List Str}{sp:Sp}{jr:List V}{ds:List Value}{E:XK}{x m:Str}{p pos bh:Pos}{e o:Expr}{es:List Expr}{ta:TE}{t:TA}
theorem Qa6{aa:List (Addr×Obj)}{σ:St}{H:Hp}{s:Shared}{Q:VK}{us:List Value}{vs:List V}(F:FnOk X.prog X.w X.K X.mg X.base CX k f fd ps sp)(hr:Room k X.A)(hb:Binds X.K fd ps ds)(hd:Vals jr ds)(hx:Passes CX X E)
  (I:Inv X aa σ H s) (r:Vals vs us) (h:sp (vs++jr) H Q E):wpAny (model X.prog X.w) X.A (call (.ref f) us) (EP X aa σ Q) X.xe s:=by
 have r2:Vals (vs++jr) (us++ds):=r.append hd
 have hl:(us++ds).length=ps.length:=by rw [<- r2.length];exact F.len _ _ _ _ h
 refine wpAny_call (Yei (F.run X.A X.stack s H ⟨us,[]⟩ (us++ds) (vs++jr) Q E hr I.env0 (hb s us I.kIn hl) r2 h) λr s' hq=>?_)
 cases r with
 | error e=>exact hx aa σ H s e s' I hq
 | ok fl =>
  cases fl with
  | ret u=>exact I.after hq
  | next=>exact False.elim hq
  | brk=>exact False.elim hq
  | cont=>exact False.elim hq
theorem O6(F:FnOk X.prog X.w X.K X.mg X.base CX k f fd ps sp)(hr:Room k X.A)(hg:Gl X x)(hm:X.mg x=some (.ref f))(hk:PySem.W.keepIn X.K (.ref f)=true)(hb:Binds X.K fd ps ds)(hd:Vals jr ds)(hx:Passes CX X E)
  (ha:PA X (e :: es) t) (hdb:(x==("__debug__" : Str))=false:=by decide) (he:starEach (e :: es) X.env=(false,eval e X.env) :: starEach es X.env:=by rfl) (hpl:(backTo pos (starEach es X.env)).any (·.1)=false:=by rfl) :
  PE X (.Call (.Name x p) (e :: es) [] pos) (Qeh sp jr E t):=by
 intro aa s σ H Q I h
 refine Ybq (Gs I hg hm ?_ hdb)
 refine PySem.W.callWith_K (h₀:=X.base) I.ok.mod.kin hk (thn (ha pos aa s σ H _ I h) λus s1 m8=>Cd m8 λvs H1 I1 r q=>⟨I1.kIn,?_⟩) he hpl
 exact Qa6 F hr hb hd hx I1 r q
end
section
variable {X:Cx}{CX:CXT}{k:Nat}{f C:Addr}{fd:FuncData}{ps ks:List Str}{sp:Sp}{E:XK}{x m:Str}{p pos bh zbm:Pos}{e o:Expr}{es:List Expr}{kws:List Keyword}{te ta:TE}{t tk:TA}{nm:Option Str}
variable {g:List Value->List Value->List Value}{gV:List V->List V->List V}
end
structure FnScope(N P:List Str)(sc:Scope):Prop where
 kind:sc.kind=.function
 co:sc.isCoroutine=false
 gen:sc.isGenerator=false
 nd:N.Nodup
 pre:N.take P.length=P
 par:∀x∈P,sc.names.lookup x=some .local\/sc.names.lookup x=some .cell
 nofree:∀y∈sc.names,y.2≠.free
theorem Kk{kindOf:Str->Option NameKind}{x:Str}:∀{binds:List (Str×Value)} {m:Str->Option Value},(∀v,(x,v)∉binds)->bindL kindOf binds m x=m x
 | [],_,_=>rfl
 | (n,v) :: r,m,h=>by
  unfold bindL
  rw [Kk λw hw=>h w (Yae _ hw)]
  split
  ·have:x≠n:=by rintro rfl;exact h v Yao
   simp [this]
  ·rfl
theorem Kl{kindOf:Str->Option NameKind}{x:Str}:∀{binds:List (Str×Value)} {m:Str->Option Value},(∀v,(x,v)∉binds)->bindC kindOf binds m x=m x
 | [],_,_=>rfl
 | (n,v) :: r,m,h=>by
  unfold bindC
  rw [Kl λw hw=>h w (Yae _ hw)]
  split
  ·rfl
  ·have:x≠n:=by rintro rfl;exact h v Yao
   simp [this]
theorem Km{kindOf:Str->Option NameKind}{x:Str}{v:Value}:∀{P:List Str} {vs:List Value} {i:Nat} {m:Str->Option Value},P.Nodup->P[i]?=some x->vs[i]?=some v->kindOf x=some .local ->
  bindL kindOf (P.zip vs) m x=some v
 | [],_,_,_,_,h,_,_=>by simp at h
 | _ :: _,[],_,_,_,_,h,_=>by simp at h
 | p :: P,w :: vs,0,m,nd,h1,h2,hk=>by
  simp at h1 h2;subst h1;subst h2
  show bindL kindOf ((p,w) :: P.zip vs) m p=_
  unfold bindL
  rw [Kk λv hv=>(Ydh.mp nd).1 (List.of_mem_zip hv).1,Yaw hk]
  simp
 | p :: P,w :: vs,i+1,m,nd,h1,h2,hk=>by
  show bindL kindOf ((p,w) :: P.zip vs) m x=_
  unfold bindL
  exact Km (i:=i) (Ydh.mp nd).2 (by simpa using h1) (by simpa using h2) hk
theorem Kn{kindOf:Str->Option NameKind}{x:Str}{v:Value}:∀{P:List Str} {vs:List Value} {i:Nat} {m:Str->Option Value},P.Nodup->P[i]?=some x->vs[i]?=some v->kindOf x≠some .local ->
  bindC kindOf (P.zip vs) m x=some v
 | [],_,_,_,_,h,_,_=>by simp at h
 | _ :: _,[],_,_,_,_,h,_=>by simp at h
 | p :: P,w :: vs,0,m,nd,h1,h2,hk=>by
  simp at h1 h2;subst h1;subst h2
  show bindC kindOf ((p,w) :: P.zip vs) m p=_
  unfold bindC
  rw [Kl λv hv=>(Ydh.mp nd).1 (List.of_mem_zip hv).1,Yar hk]
  simp
 | p :: P,w :: vs,i+1,m,nd,h1,h2,hk=>by
  show bindC kindOf ((p,w) :: P.zip vs) m x=_
  unfold bindC
  exact Kn (i:=i) (Ydh.mp nd).2 (by simpa using h1) (by simpa using h2) hk
def start(N:List Str)(vs:List V):St:=vs.map some++List.replicate (N.length - vs.length) none
def Ht(CX:CXT)(P:Program)(w:World)(K:PySem.W.Frag)(mg:Str->Option Value)(base:Heap)(N:List Str)(qual:Str)(scope:Scope)(f:Addr)(cd:Value)(A:Around)(outer:List Env)(s:Shared)(H:Hp)(E:XK):Cx where
 prog:=P
 w:=w
 K:=K
 mg:=mg
 base:=base
 A:=A.deeper (envOfC qual scope s.heap.objs.size f cd)
 N:=N
 s₀:=s
 H₀:=H
 env:=envOfC qual scope s.heap.objs.size f cd
 outer:=outer
 stack:=envOfC qual scope s.heap.objs.size f cd :: outer
 ex:=[]
 calm:=true
 fn:=λ_=>true
 pn:=[]
 xe:=λe s'=>wpAny (model P w) (A.deeper (envOfC qual scope s.heap.objs.size f cd)) («leaving» (envOfC qual scope s.heap.objs.size f cd) e) (λ_ u7=>CX outer H s E e u7) (λe' u7=>CX outer H s E e' u7) s'
theorem Ms{sc:Scope}{n:Nat}{x:Str}(h:sc.names.lookup x=some .cell):∃c,(cellsFrom n sc.names []).lookup x=some c:=by
 have q:=PySem.W.cellsFrom_some sc.names n [] (.inl h)
 exact Option.isSome_iff_exists.mp q
theorem Qv{CX:CXT}{P:Program}{w:World}{K:PySem.W.Frag}{mg:Str->Option Value}{base:Heap}{N ps:List Str}{qual:Str}{scope:Scope}{f:Addr}{cd:Value}{A:Around}{outer:List Env}{s s1:Shared}{H:Hp}{E:XK}{us:List Value}{vs:List V}
  (S:FnScope N ps scope) (hd:A.handled=none) (e0:Env0 P w K mg base A outer s H) (hl:vs.length=ps.length) (r:Vals vs us)
  (x:InCallC s s.heap.objs.size (bindL (envOfC qual scope s.heap.objs.size f cd).kindOf (ps.zip us) λ_=>none) (cellsFrom (s.heap.objs.size+1) scope.names []) (bindC (envOfC qual scope s.heap.objs.size f cd).kindOf (ps.zip us) λ_=>none) s1) :
  Inv (Ht CX P w K mg base N qual scope f cd A outer s H E) [] (start N vs) H s1:=by
 have hpl:ps.length<=N.length:=by have:=Ybo List.length S.pre;rw [Ybd]at this;omega
 obtain⟨h1,tk,rfl,hk⟩:=x.done
 have t9:∀b:Addr,b∉(Ht CX P w K mg base N qual scope f cd A outer s H E).ex:=λb z=>absurd (show b∈([]:List Addr) from z) (by simp)
 refine⟨⟨e0.mod,S.kind,rfl,rfl,Yag _,λy z c h1 h2=>?_,λy hy=>?_,λy c _ h=>?_,λ_=>hd,Around.frames_deeper e0.frames,.inr ⟨rfl,rfl⟩,λb z=>absurd z (t9 b),e0.bs,e0.bsz,λb _ _=>t9 b,λb z=>absurd z (t9 b),e0.funs,e0.frf⟩,
  rfl,e0.bare,Un.kept hk,⟨_,x.toInCall.ns,λi y v h1 h2 h3=>?_⟩,λy c h=>⟨_,x.cell y c h⟩,e0.hok.fresh (Yag _),λy c h=>?_,λp hp=>absurd (show p∈([]:List (Addr×Obj)) from hp) (by simp),e0.hok.kept hk,?_⟩
 ·exact name_of_addr x.apart (Ycm h1) (Ycm h2)
 ·have hy:scope.names.lookup y=some .cell\/scope.names.lookup y=some .free:=hy
  rcases hy with hy | hy
  ·exact Ms hy
  ·exact absurd rfl (S.nofree _ (Ycm hy))
 ·exact Yc0 (x.above y c (Ycm h))
 ·have hi:i < vs.length:=by
   unfold start at h2
   by_cases hi:i < vs.length
   ·exact hi
   ·rw [List.getElem?_append_right (by simpa using hi)]at h2
    rw [List.getElem?_replicate]at h2
    split at h2 <;> cases h2
  have ha:vs[i]?=some v:=by
   unfold start at h2
   rw [List.getElem?_append_left (by simpa using hi),List.getElem?_map]at h2
   cases e:vs[i]? with
   | none=>rw [e]at h2;cases h2
   | some a=>rw [e]at h2;cases h2;rfl
  obtain⟨u,hu,rv⟩:=r.get ha
  have hp:ps[i]?=some y:=by
   rw [<- S.pre,List.getElem?_take_of_lt (by omega)];exact h1
  have ndP:ps.Nodup:=by rw [<- S.pre];exact S.nd.sublist (List.take_sublist _ _)
  refine⟨u,rv,?_⟩
  rcases S.par y (Ya9 hp) with k | k
  ·exact .inl ⟨k,Km ndP hp hu k⟩
  ·obtain⟨c,e⟩:=Ms (n:=s.heap.objs.size+1) k
   refine .inr ⟨.inl k,c,e,?_⟩
   have q:=x.cell y c e
   rw [Kn ndP hp hu (by show scope.names.lookup y≠_;rw [k];decide)]at q
   exact q
 ·exact e0.hok.fresh (Yc0 (x.above y c (Ycm h)))
 ·unfold start
  show _=N.length
  rw [Yai,Yaa,List.length_replicate]
  omega
theorem Yy{CX:CXT}{P:Program}{w:World}{K:PySem.W.Frag}{mg:Str->Option Value}{base:Heap}{k:Nat}{f:Addr}{name qual:Str}{params:Arguments}{body:List Stmt}{scope:Scope}{dV kV d7 pm aw ct oc:Value}{an od:Option Addr}
  {jf:Array (Option Value)} {N ps:List Str} {sp:Sp} (lk:K.lookup f=some ⟨oc,od,.func (PySem.W.fnOf name qual params body scope dV kV d7 pm an aw ct),jf⟩) (d9:PySem.W.codeIn K aw qual=true) (S:FnScope N ps scope)
  (len:∀vs H Q E,sp vs H Q E->vs.length=ps.length)
  (cq:∀(A:Around) (outer:List Env) (s:Shared) (H:Hp) (vs:List V) (Q:VK) (E:XK),Room k (A.deeper (envOfC qual scope s.heap.objs.size f aw))->sp vs H Q E ->
   ∃t,PSs (Ht CX P w K mg base N qual scope f aw A outer s H E) body t/\t { nx:=λ_ H'=>Q .non H',rt:=Q } (start N vs) H) :
  FnOk P w K mg base CX (k+1) f (PySem.W.fnOf name qual params body scope dV kV d7 pm an aw ct) ps sp:=by
 refine⟨len,λA outer s H args us vs Q E hr e0 hb r gl=>?_⟩
 have hl:=len _ _ _ _ gl
 have KX:K.In s.heap:=e0.mod.kin.keeps λb o e=>(e0.bs b o e).1
 have lim:s.heap.NoLimit:=e0.mod.nolimit.keeps λb o e=>(e0.bs b o e).1
 have ms:∀y∈ps.zip us,scope.names.lookup y.1=some .local\/(scope.names.lookup y.1=some .cell/\((cellsFrom (s.heap.objs.size+1) scope.names []).lookup y.1).isSome=true):=λ⟨n,v⟩ hy=>by
  rcases S.par n (List.of_mem_zip hy).1 with q | q
  ·exact .inl q
  ·exact .inr ⟨q,PySem.W.cellsFrom_some _ _ _ (.inl q)⟩
 refine codeAny_call_function hr.depth (KX _ _ lk) rfl S.co S.gen rfl (PySem.W.codeRec_of KX d9) (hb _ _ _ _ ?_)
 refine wpAny_newFunctionEnv_cells S.kind ms λenv he s1 x=>?_
 subst he
 refine⟨lim.keeps x.toInCall.keep,codeAny_func ?_⟩
 obtain⟨t,ht,hq⟩:=cq A outer s H vs Q E (hr.deeper _) gl
 have I:Inv (Ht CX P w K mg base N qual scope f aw A outer s H E) [] (start N vs) H s1:=Qv S hr.hd e0 hl r x
 refine Yby (ht [] s1 (start N vs) H _ I hq) (λfl s' hs=>?_) λe s' hs=>hs
 have fin:∀{σ':St} {H':Hp} {v:V} {u:Value},Inv (Ht CX P w K mg base N qual scope f aw A outer s H E) [] σ' H' s'->Bh v u->Q v H'->CE outer P w H s Q u s' :=
  λ{σ' H' v u} J rv q=>⟨v,H',J.os,J.bare,J.base,J.hok,rv,q⟩
 cases fl with
 | ret u =>
  obtain⟨v,σ',H',J,rv,q⟩:=hs
  exact fin J rv q
 | next =>
  obtain⟨σ',H',J,q⟩:=hs
  exact fin (v:=V.non) (u:=Value.none) J rfl q
 | brk =>
  obtain⟨_,_,_,q⟩:=hs
  exact False.elim q
 | cont =>
  obtain⟨_,_,_,q⟩:=hs
  exact False.elim q
section
variable {X:Cx}{x:Str}{p pos:Pos}{e:Expr}{es:List Expr}{t:TA}{id T:String}{r:List V->Hp->VK->Prop}
def tCB(r:List V->Hp->VK->Prop)(t:TA):TE:=fun σ H Q=>t σ H λvs H1=>r vs H1 Q
theorem Sx(hc:Ec X (.builtin id) r)(hg:Gl X x)(hm:X.mg x=none)(hv:bootBuiltins x=some (.builtin id))(ha:PA X (e :: es) t)(hn:x ≠ "__name__" := by decide) (hdb:(x==("__debug__" : Str))=false:=by decide)
  (he:starEach (e :: es) X.env=(false,eval e X.env) :: starEach es X.env:=by rfl) (hpl:(backTo pos (starEach es X.env)).any (·.1)=false:=by rfl):PE X (.Call (.Name x p) (e :: es) [] pos) (tCB r t):=by
 intro aa s σ H Q I h
 refine Ybq (De I hg hm hv ?_ hn hdb)
 exact Yb1 (thn (ha pos aa s σ H _ I h) λus s1 sj=>Cd sj λvs H1 I1 r1 q1=>hc aa s1 σ H1 vs us Q I1 r1 q1) he hpl
theorem Ko(hc:Ec X (.type T) r)(hg:Gl X x)(hm:X.mg x=none)(hv:bootBuiltins x=some (.type T))(ha:PA X (e :: es) t)(hn:x ≠ "__name__" := by decide) (hdb:(x==("__debug__" : Str))=false:=by decide)
  (he:starEach (e :: es) X.env=(false,eval e X.env) :: starEach es X.env:=by rfl) (hpl:(backTo pos (starEach es X.env)).any (·.1)=false:=by rfl):PE X (.Call (.Name x p) (e :: es) [] pos) (tCB r t):=by
 intro aa s σ H Q I h
 refine Ybq (De I hg hm hv ?_ hn hdb)
 exact Yb2 (thn (ha pos aa s σ H _ I h) λus s1 pi=>Cd pi λvs H1 I1 r1 q1=>hc aa s1 σ H1 vs us Q I1 r1 q1) he hpl
end
end L2
namespace HT
open PySem PyProof.Rows
section
open PySem.SeqAt
open PySem.AutoSeq1 (wpAny_loadPart')
open PySem.MeetsSeq PySem.MeetsSeq2 PySem.MeetsSeq3
end
section
variable {prog:Program}{w:World}{A:Around}{E:Value->Shared->Prop}{s:Shared}
theorem cat_tup{t b:Addr}{vs ws:List Value}{Q:Value->Shared->Prop}(ht:IsTup s.heap t vs.toArray)(hb:IsTup s.heap b ws.toArray)(hv:vs≠[])
  (h1:ws=[]->Q (.ref t) s) (h2:ws≠[]->Q (.ref s.heap.objs.size) { s with heap:=s.heap.push { cls:=.type "tuple",data:=.seq (vs++ws).toArray } })
  (hsz:vs.length+ws.length<=sizeLine):wpAny (model prog w) A (binaryOp .Add (.ref t) (.ref b)) Q E s:=by
 obtain⟨⟨cls,dd,data,sl⟩,ho,hc,n,hd⟩:=id ht
 obtain⟨⟨cls2,dd2,data2,li⟩,ho2,hc2,n2,dj⟩:=id hb
 simp only at hc hd hc2 dj
 subst hc hd hc2 dj
 have e:vs.toArray++ws.toArray=(vs++ws).toArray:=by simp
 by_cases hw:ws=[]
 ·exact concat_meets ⟨_,ho,rfl⟩ ⟨_,ho2,rfl⟩ noFill_tuple_add seq_tuple_add Ydq Ydi (Yde _ _)
   (tuple_addW1 t b vs.toArray ws.toArray n n2 dd dd2 sl li (by simpa using hv) (by simp [hw])) ⟨ho,ho2,h1 hw⟩
 ·refine concat_meets ⟨_,ho,rfl⟩ ⟨_,ho2,rfl⟩ noFill_tuple_add seq_tuple_add Ydq Ydi (Yde _ _)
   (tuple_addW2 t b vs.toArray ws.toArray n n2 dd dd2 sl li (by simpa using hv) (by simpa using hw) (by rw [Yal,Yal];exact hsz)) ⟨ho,ho2,?_⟩
  rw [e]
  exact h2 hw
def sIx(n d:Nat):Option Int->Nat
 | none=>d
 | some v=>if v < 0 then(v+(n:Int)).toNat else min v.toNat n
theorem sIx_none(n d:Nat):sIx n d none=d:=rfl
theorem sIx_nat(n d k:Nat):sIx n d (some (k:Int))=min k n:=by
 show(if(k:Int) < 0 then((k:Int)+(n:Int)).toNat else min (k:Int).toNat n)=min k n
 rw [Yar (by omega),Int.toNat_natCast]
theorem Qa7(n d:Nat)(hd:d<=n)(o:Option Int):sIx n d o<=n:=by
 cases o with
 | none=>exact hd
 | some v =>
  show(if v < 0 then(v+(n:Int)).toNat else min v.toNat n)<=n
  by_cases hv:v < 0
  ·rw [Yaw hv];omega
  ·rw [Yar hv];exact Nat.min_le_right _ _
theorem O7(v:Int)(n d:Nat):(if v < 0 then max (v+(n:Int)) 0 else min v (n:Int))=((sIx n d (some v):Nat):Int):=by
 show(if v < 0 then max (v+(n:Int)) 0 else min v (n:Int))=(((if v < 0 then(v+(n:Int)).toNat else min v.toNat n):Nat):Int)
 by_cases hv:v < 0
 ·simp only [if_pos hv];omega
 ·simp only [if_neg hv];omega
theorem N1(lo hi:Option Int)(n:Nat):Builtin.Slice.sliceAdjust lo hi 1 (n:Int)=(((sIx n 0 lo:Nat):Int),((sIx n n hi:Nat):Int)):=by
 have h1:¬((1:Int) < 0):=by omega
 unfold Builtin.Slice.sliceAdjust
 simp only [h1,if_false]
 refine Prod.ext ?_ ?_
 ·cases lo with
  | none=>rfl
  | some v=>exact O7 v n 0
 ·cases hi with
  | none=>rfl
  | some v=>exact O7 v n n
theorem N3(i j:Nat):Builtin.Slice.slicePlaces (i:Int) (j:Int) 1=j - i:=by
 unfold Builtin.Slice.slicePlaces
 have h1:(1:Int) > 0:=by omega
 simp only [h1,if_true,Int.ediv_one]
 split <;> omega
theorem Im{v:Value}{o:Option Int}{Q:Option Int->Shared->Prop}(p:IsPart v o)(h:Q o s):wpAny (model prog w) A (Builtin.Slice.slicePartIndex v) Q E s:=by
 cases p with
 | none=>exact slicePart_none h
 | int i t=>exact slicePart_int h
theorem Ed{sl:Addr}{vl vu:Value}{lo hi:Option Int}{n:Nat}{Q:Int×Int×Nat->Shared->Prop}(hs:s.heap.IsSliceOf sl vl vu .none)(pl:IsPart vl lo)(pu:IsPart vu hi)
  (h:Q (((sIx n 0 lo:Nat):Int),1,sIx n n hi - sIx n 0 lo) s):wpAny (model prog w) A (Builtin.Slice.sliceApplied (.ref sl) (pure (n:Int))) Q E s:=by
 obtain⟨os,hos,js,hds⟩:=id hs
 unfold Builtin.Slice.sliceApplied Builtin.Slice.sliceFields
 refine Yab (Yab (Ybz hos hds (x:=vl) rfl (Yab (Ybz hos hds (x:=vu) rfl (Yab (Ybz hos hds (x:=.none) rfl (Yad ?_)))))))
 refine Yab (slicePart_none ?_)
 show wpAny _ _ (if((1:Int)==0)=true then _ else _) _ _ s
 rw [Yar (by decide)]
 refine Yab (Im pl (Yab (Im pu (Yab (Yad ?_)))))
 show wpAny _ _ (match Builtin.Slice.sliceAdjust lo hi 1 (n:Int) with | (lo,hi)=>pure (lo,(1:Int),Builtin.Slice.slicePlaces lo hi 1)) _ _ s
 rw [N1 lo hi n]
 show wpAny _ _ (pure (((sIx n 0 lo:Nat):Int),(1:Int),Builtin.Slice.slicePlaces ((sIx n 0 lo:Nat):Int) ((sIx n n hi:Nat):Int) 1)) _ _ s
 rw [N3]
 exact Yad h
theorem Sy(xs:Array Value)(i k:Nat):((List.range k).filterMap λ(m:Nat)=>xs[((i:Int)+(m:Int) * 1).toNat]?).toArray=((xs.toList.drop i).take k).toArray:=by
 have e:(λ(m:Nat)=>xs[((i:Int)+(m:Int) * 1).toNat]?)=λm=>xs[i+m]?:=by
  funext m
  have:((i:Int)+(m:Int) * 1).toNat=i+m:=by omega
  rw [this]
 rw [e]
 have:=pick_run xs i k
 rw [List.filterMap_map]at this
 have e2:((λx=>xs[x]?) ∘ λx=>i+x)=λm=>xs[i+m]?:=rfl
 rw [e2]at this
 rw [this]
theorem getItem_tuple_cut{t sl:Addr}{items:Array Value}{vl vu:Value}{lo hi:Option Int}{Q:Value->Shared->Prop}(ht:IsTup s.heap t items)(hs:s.heap.IsSliceOf sl vl vu .none)(pl:IsPart vl lo)(pu:IsPart vu hi)
  (hw:¬(sIx items.size 0 lo=0/\sIx items.size items.size hi=items.size))
  (h:Q (.ref s.heap.objs.size) { s with heap:=s.heap.push { cls:=.type "tuple",data:=.seq ((items.toList.drop (sIx items.size 0 lo)).take (sIx items.size items.size hi - sIx items.size 0 lo)).toArray } })
  (hsz:items.size<=sizeLine):wpAny (model prog w) A (getItem (.ref t) (.ref sl)) Q E s:=by
 have gf:sizeOk (.seq ((items.toList.drop (sIx items.size 0 lo)).take (sIx items.size items.size hi - sIx items.size 0 lo)).toArray):=by
  show((items.toList.drop (sIx items.size 0 lo)).take (sIx items.size items.size hi - sIx items.size 0 lo)).toArray.size<=sizeLine
  rw [Yal,Ybd,Ybj,Ydd]
  omega
 have hj:sIx items.size items.size hi<=items.size:=Qa7 _ _ (Yag _) hi
 obtain⟨os,hos,js,hds⟩:=id hs
 have hTs:s.TypeIs (.ref sl) "slice" := ⟨os,hos,js⟩
 unfold getItem
 try with_reducible refine Yb8 ?_
 first | refine Yab (Yad ?_) | skip
 refine Yab (wpAny_sequenceKey ht.typeIs (by decide) ?_)
 refine Yab (wpAny_callSpecial?_slot (name:=Str.ofString "__getitem__") ht.typeIs Ybp
  (Yd5 Ybp ht.typeIs entry_tuple_getitem ?_ (args_tuple_getitem _ _)))
 show wpAny _ _ (Builtin.Tuple.tupleItemsOf (.ref t) >>= _) _ _ s
 refine Yab (tupleItemsOf_ ht ?_)
 refine Yab (Yej hTs ?_)
 rw [Yaw (by decide)]
 refine Yab (Ed hs pl pu ?_)
 have hno:¬((((sIx items.size 0 lo:Nat):Int)==0 && (1:Int)==1 && (sIx items.size items.size hi - sIx items.size 0 lo)==items.size)=true):=by
  intro q
  rw [Ya2,Ya2]at q
  have q1:((sIx items.size 0 lo:Nat):Int)=0:=eq_of_beq q.1.1
  have q2:sIx items.size items.size hi - sIx items.size 0 lo=items.size:=eq_of_beq q.2
  exact hw ⟨by omega,by omega⟩
 show wpAny _ _ (if(((sIx items.size 0 lo:Nat):Int)==0 && (1:Int)==1 && (sIx items.size items.size hi - sIx items.size 0 lo)==items.size)=true then _ else _) _ _ s
 rw [Yar hno,Sy]
 first
  | exact Yab (m:=Builtin.Tuple.tupleExact _) (Ybv (Yad ⟨_,rfl,Yad h⟩) gf)
  | exact Yab (m:=Builtin.Tuple.tupleExact _) (Ybv (Yab (Yad (Yad ⟨_,rfl,Yad h⟩))) gf)
  | exact Yab (Yab (m:=Builtin.Tuple.tupleExact _) (Ybv (Yad (Yad ⟨_,rfl,Yad h⟩)) gf))
  | exact Yab (Yab (m:=Builtin.Tuple.tupleExact _) (Ybv (Yad ⟨_,rfl,Yad h⟩) gf))
end
end HT
namespace L2
open PySem PySem.Spec PyProof.Rows
abbrev TO:=St->Hp->(Option Int->Hp->Prop)->Prop
def PO(X:Cx)(e:Option Expr)(t:TO):Prop :=
 ∀(aa:List (Addr×Obj)) (s:Shared) (σ:St) (H:Hp) (Q:Option Int->Hp->Prop),Inv X aa σ H s->t σ H Q ->
  wpAny (model X.prog X.w) X.A (evalPart e X.env) (λu s'=>∃o H',Inv X aa σ H' s'/\IsPart u o/\Q o H') X.xe s
def W7:TO:=λ_ H Q=>Q none H
def Qei(t:TE):TO:=fun σ H Q=>t σ H λx H1=>∃i,x=.int i/\Q (some i) H1
section
variable {X:Cx}{e:Expr}{te:TE}{lo hi:Option Expr}{tl th:TO}{pos p2:Pos}
theorem W8:PO X none W7:=by
 intro aa s σ H Q I h
 rw [evalPart_none]
 exact Yad ⟨none,H,I,.none,h⟩
theorem W9(h:PE X e te):PO X (some e) (Qei te):=by
 intro aa s σ H Q I hw
 rw [evalPart_some]
 refine thn (h aa s σ H _ I hw) λu s1 uc=>Cd uc λx H1 I1 r1 q1=>?_
 obtain⟨i,rfl,q⟩:=q1
 obtain⟨t,rfl⟩:=r1
 exact⟨some i,H1,I1,.int i t,q⟩
def SlR(X:Cx)(r:V->Option Int->Option Int->Hp->VK->Prop):Prop :=
 ∀(aa:List (Addr×Obj)) (s:Shared) (σ:St) (H:Hp) (x:V) (v vl vu:Value) (lo hi:Option Int) (sl:Addr) (Q:VK),Inv X aa σ H s->Bh x v->s.heap.IsSliceOf sl vl vu .none->IsPart vl lo->IsPart vu hi->r x lo hi H Q ->
  ∃T id,typeLookup (.type T) "__getitem__" = pure (some (.builtin id))/\s.TypeIs v T/\wpAny (model X.prog X.w) X.A (getItem v (.ref sl)) (EP X aa σ Q) X.xe s
def tSl(r:V->Option Int->Option Int->Hp->VK->Prop)(te:TE)(tl th:TO):TE:=fun σ H Q=>te σ H λx H1=>tl σ H1 λl H2=>th σ H2 λu H3=>r x l u H3 Q
theorem Sz{r:V->Option Int->Option Int->Hp->VK->Prop}(hr:SlR X r)(he:PE X e te)(hl:PO X lo tl)(hu:PO X hi th):PE X (.Subscript e (.Slice lo hi none p2) pos) (tSl r te tl th):=by
 intro aa s σ H Q I h
 refine Subscript_ (thn (he aa s σ H _ I h) λv s1 tq=>Cd tq λx H1 I1 r1 q1=>?_)
 refine wpAny_Slice (thn (hl aa s1 σ H1 _ I1 q1) λvl s2 qy=>Cd qy λl H2 I2 pl q2=>thn (hu aa s2 σ H2 _ I2 q2) λvu s3 ue=>Cd ue λu H3 I3 pu q3=>?_)
 rw [evalPart_none]
 refine Yad ?_
 have I4:Inv X aa σ H3 { s3 with heap:=s3.heap.push { cls:=.type "slice",data:=.fields #[vl,vu,.none] } }:=I3.kept (t':=s3.toks) λb ob q=>Heap.get?_push_of_some _ q
 obtain⟨T,id,hT,ht,hg⟩:=hr aa { s3 with heap:=s3.heap.push { cls:=.type "slice",data:=.fields #[vl,vu,.none] } } σ H3 x v vl vu l u s3.heap.objs.size Q I4 r1 (Heap.IsSliceOf.new ..) pl pu q3
 show wpAny (model X.prog X.w) X.A (subscriptTail e (.Slice lo hi none p2) v (.ref s3.heap.objs.size)) (EP X aa σ Q) X.xe { s3 with heap:=s3.heap.push { cls:=.type "slice",data:=.fields #[vl,vu,.none] } }
 exact tail_any (ops:=[.ref s3.heap.objs.size,v]) ht hT hg (by with_unfolding_all rfl)
def J6(xs:List V)(lo hi:Option Int):List V:=(xs.drop (HT.sIx xs.length 0 lo)).take (HT.sIx xs.length xs.length hi - HT.sIx xs.length 0 lo)
theorem Hn(xs:List V)(lo hi:Option Int):(J6 xs lo hi).length<=xs.length:=by
 unfold J6
 rw [Ybd,Ybj]
 omega
def Qic(K:PySem.W.Frag):V->Option Int->Option Int->Hp->VK->Prop:=λx lo hi H Q=>∃a xs,x=.ref a/\Hm K H a xs /\
 ¬(HT.sIx xs.length 0 lo=0/\HT.sIx xs.length xs.length hi=xs.length)/\∀p,H p=none->Q (.ref p) (upd H p (.tup (J6 xs lo hi)))
theorem Qa8:SlR X (Qic X.K):=by
 intro aa s σ H x v vl vu lo hi sl Q I rx hs pl pu h
 obtain⟨a,xs,rfl,hx,hw,q⟩:=h
 cases rx
 obtain⟨ae,r,ht,hz⟩:=I.tuple hx
 have am:ae.toArray.size=xs.length:=by rw [Yal];exact r.length.symm
 refine⟨"tuple",_,Ybp.lookup,ht.typeIs,?_⟩
 refine HT.getItem_tuple_cut ht hs pl pu (by rw [am];exact hw) ?_ (by rw [am];exact hz)
 rw [am]
 refine⟨.ref s.heap.objs.size,_,I.laid (t':=s.toks) (o:=.tup (J6 xs lo hi)) (λb ob q=>Heap.get?_push_of_some _ q) (Yag _) ?_,rfl,q _ (I.hok.fresh (Yag _))⟩
 exact⟨Yap (Hn xs lo hi) hz,_,(r.drop (HT.sIx xs.length 0 lo)).take (HT.sIx xs.length xs.length hi - HT.sIx xs.length 0 lo),IsTup.new _ _⟩
theorem Vals.nil_iff{xs:List V}{us:List Value}(r:Vals xs us):us=[]↔xs=[]:=by
 cases r with
 | nil=>simp
 | cons _ _=>simp
end
def ixN(n:Nat)(i:Int):Option Nat:=if 0<=i then(if i < n then some i.toNat else none) else if -(n:Int)<=i then some (i+n).toNat else none
def atI{α:Type}(xs:List α)(i:Int):Option α:=(ixN xs.length i).bind λj=>xs[j]?
theorem O8{n:Nat}{i:Int}{j:Nat}(h:ixN n i=some j):seqIndex? i n=some j/\j < n/\-(n:Int)<=i/\i < n:=by
 unfold ixN at h
 by_cases h0:0<=i
 ·rw [Yaw h0]at h
  by_cases h1:i < n
  ·rw [Yaw h1]at h
   have e:i.toNat=j:=Yas h
   exact⟨by rw [seqIndex_of h0 h1,e],by omega,by omega,h1⟩
  ·rw [Yar h1]at h;cases h
 ·rw [Yar h0]at h
  by_cases h1:-(n:Int)<=i
  ·rw [Yaw h1]at h
   have e:(i+n).toNat=j:=Yas h
   exact⟨by rw [seqIndex_neg (by omega) h1,e],by omega,h1,by omega⟩
  ·rw [Yar h1]at h;cases h
theorem Lp{α:Type}{xs:List α}{i:Int}{v:α}(h:atI xs i=some v):∃j,seqIndex? i xs.length=some j/\xs[j]?=some v/\j < xs.length/\-(xs.length:Int)<=i/\i < xs.length:=by
 unfold atI at h
 cases e:ixN xs.length i with
 | none=>rw [e]at h;cases h
 | some j =>
  rw [e]at h
  obtain⟨h1,h2,h3,h4⟩:=O8 e
  exact⟨j,h1,h,h2,h3,h4⟩
theorem Ao{α:Type}{xs:List α}{j:Nat}{v:α}(h:xs[j]?=some v):atI xs (j:Int)=some v:=by
 have hj:j < xs.length:=(List.getElem?_eq_some_iff.mp h).1
 have e:ixN xs.length (j:Int)=some j:=by
  unfold ixN
  rw [Yaw (by omega),Yaw (by omega)];simp
 unfold atI;rw [e];exact h
def O9(b:Expr):Prop:=∀o i,subscripted b false o i=operate [o,i] (getItem o i)
def IxR(X:Cx)(r:R2):Prop :=
 ∀(value slice:Expr) (aa:List (Addr×Obj)) (s:Shared) (σ:St) (H:Hp) (x y:V) (v u:Value) (Q:VK),Inv X aa σ H s->Bh x v->Bh y u->r x y H Q ->
  subscripted slice false v u=operate [v,u] (getItem v u)->wpAny (model X.prog X.w) X.A (subscriptTail value slice v u) (EP X aa σ Q) X.xe s
def MtR(X:Cx)(id:String)(r:V->List V->Hp->VK->Prop):Prop :=
 ∀(aa:List (Addr×Obj)) (s:Shared) (σ:St) (H:Hp) (x:V) (xs:List V) (v:Value) (us:List Value) (Q:VK),Inv X aa σ H s->Bh x v->Vals xs us->r x xs H Q ->
  wpAny (model X.prog X.w) X.A (call (.builtin id) (v :: us)) (EP X aa σ Q) X.xe s
section
variable {X:Cx}{a b:Expr}{ta tb:TE}{pos:Pos}
theorem Qel{r:R2}(hr:IxR X r)(ha:PE X a ta)(hb:PE X b tb)(hs:O9 b):PE X (.Subscript a b pos) (tOp r ta tb):=by
 intro aa s σ H Q I h
 exact Subscript_ (Qay ha hb I h λv u s2 x y H2 I2 rx ry q=>hr a b aa s2 σ H2 x y v u Q I2 rx ry q (hs _ _))
def Qid(K:PySem.W.Frag):R2:=λx y H Q=>∃p xs i v,x=.ref p/\y=.int i/\Ei K H p xs/\atI xs i=some v/\Q v H
def Qie(K:PySem.W.Frag):R2:=λx y H Q=>∃p xs i v,x=.ref p/\y=.int i/\Hm K H p xs/\atI xs i=some v/\Q v H
def Qif:R2:=λx y H Q=>∃z i c,x=.str z/\y=.int i/\z.length<=sizeLine/\atI z.cps.toList i=some c/\Q (.str ⟨#[c]⟩) H
theorem Pa:IxR X (Qid X.K):=by
 intro value slice aa s σ H x y v u Q I rx ry h hs
 obtain⟨p,xs,i,z,rfl,rfl,hq,he,q⟩:=h
 cases rx
 obtain⟨t,rfl⟩:=ry
 obtain⟨ae,r,pl,hz⟩:=I.list hq
 obtain⟨j,h1,h2,h3,h4,h5⟩:=Lp he
 obtain⟨w,ew,cu⟩:=r.get h2
 have hl:=r.length
 have hn:=G9
 have fin:EP X aa σ Q w s:=⟨z,H,I,cu,q⟩
 by_cases h0:0<=i
 ·have hj:i.toNat=j:=by
   rw [seqIndex_of h0 h5]at h1
   exact Yas h1
  exact item_listR pl.isList h0 (by omega) (by rw [hj];simpa using ew) fin hs
 ·have hj:(i+(ae.toArray.size:Int)).toNat=j:=by
   rw [seqIndex_neg (by omega) h4]at h1
   rw [Yal,<- hl]
   exact Yas h1
  exact subscriptTail_builtinR (x:=w) pl.isList.typeIs slot_list_getitem.lookup
   (wpAny_getItem_list_neg (Q:=λr s'=>r=w/\EP X aa σ Q r s') pl.isList (by omega) (by rw [Yal] <;> omega) (by omega) (by rw [hj];simpa using ew) ⟨rfl,fin⟩) hs
theorem Qba:IxR X (Qie X.K):=by
 intro value slice aa s σ H x y v u Q I rx ry h hs
 obtain⟨p,xs,i,z,rfl,rfl,hq,he,q⟩:=h
 cases rx
 obtain⟨t,rfl⟩:=ry
 obtain⟨ae,r,pl,hz⟩:=I.tuple hq
 obtain⟨j,h1,h2,h3,h4,h5⟩:=Lp he
 obtain⟨w,ew,cu⟩:=r.get h2
 have hl:=r.length
 have hn:=G9
 have fin:EP X aa σ Q w s:=⟨z,H,I,cu,q⟩
 exact subscriptTail_builtinR (x:=w) pl.typeIs slot_tuple_getitem.lookup
  (getItem_tuple (j:=j) (Q:=λr s'=>r=w/\EP X aa σ Q r s') pl (by omega) (by omega) (by rw [Yal,<- hl];exact h1) (by simpa using ew) ⟨rfl,fin⟩) hs
theorem Qbb:IxR X Qif:=by
 intro value slice aa s σ H x y v u Q I rx ry h hs
 obtain⟨z,i,c,rfl,rfl,hz,he,q⟩:=h
 obtain⟨t,rfl⟩:=rx
 obtain⟨t',rfl⟩:=ry
 obtain⟨j,h1,h2,h3,h4,h5⟩:=Lp he
 have hl:z.cps.toList.length=z.length:=by simp [Str.length]
 rw [hl]at h1 h4 h5
 have hn:=G9
 exact tail_any (Yel s z t) slot_str_getitem.lookup (getItem_str (c:=c) (by
  have e1:decide (i < -(2 ^ 63:Int))=false:=Yah (by omega)
  have e2:decide (i>=2 ^ 63)=false:=Yah (by omega)
  rw [e1,e2,Bool.or_false]) (by rw [h1];simpa using h2) ⟨.str ⟨#[c]⟩,H,I.tok _,⟨_,rfl⟩,q⟩) hs
theorem N4(ae:List Value)(n j:Nat)(u:Value):Obj.mapSeq (·.setIfInBounds j u) { cls:=.type "list",data:=.seq ae.toArray n }={ cls:=.type "list",data:=.seq (ae.set j u).toArray n }:=by
 simp [Obj.mapSeq]
theorem Inv.lst{aa:List (Addr×Obj)}{σ:St}{H:Hp}{s:Shared}{p:Addr}{xs:List V}(I:Inv X aa σ H s)(h:H p=some (.lst xs)) :
  ∃(ae:List Value) (n:Nat),Vals xs ae/\s.heap.get? p=some { cls:=.type "list",data:=.seq ae.toArray n }/\xs.length<=sizeLine:=by
 obtain⟨z,ae,n,r,e⟩:=I.hok p _ h
 exact⟨ae,n,r,e,z⟩
theorem Inv.lstUpd{aa:List (Addr×Obj)}{σ:St}{H:Hp}{s:Shared}{p:Addr}{xs ys:List V}{ae its':List Value}{n n':Nat}{f:Obj->Obj}(I:Inv X aa σ H s)(h:H p=some (.lst xs))
  (ho:s.heap.get? p=some { cls:=.type "list",data:=.seq ae.toArray n }) (hf:f { cls:=.type "list",data:=.seq ae.toArray n }={ cls:=.type "list",data:=.seq its'.toArray n' }) (r:Vals ys its') (hz:ys.length<=sizeLine) (t:Nat) :
  Inv X aa σ (upd H p (.lst ys)) { s with heap:=s.heap.update p f,toks:=t }:=by
 have e:(s.heap.update p f).get? p=some { cls:=.type "list",data:=.seq its'.toArray n' }:=by
  rw [Heap.get?_update_self f ho (by rw [hf] <;> rfl),hf]
 refine I.write (x:=p) (e:=p) (by rw [h];trivial) (.inl rfl) (λb u hb q=>(Heap.get?_update_other _ _ (Ydc hb)).trans q) ⟨_,e⟩ ?_
 exact⟨hz,its',n',r,e⟩
def Qem:V->V->V->Hp->(Hp->Prop)->Prop:=λo i v H Q=>∃p xs k j,o=.ref p/\i=.int k/\H p=some (.lst xs)/\ixN xs.length k=some j/\Q (upd H p (.lst (xs.set j v)))
theorem Ta:PSet X Qem:=by
 intro aa s σ H o i v ov iv u Q I ro ri rv h
 obtain⟨p,xs,k,j,rfl,rfl,hp,hj,q⟩:=h
 cases ro
 obtain⟨t,rfl⟩:=ri
 obtain⟨ae,n,r,ho,hz⟩:=I.lst hp
 obtain⟨h1,h2,h3,h4⟩:=O8 hj
 have hl:=r.length
 have hn:=G9
 have I':Inv X aa σ (upd H p (.lst (xs.set j v))) { s with heap:=s.heap.update p (Obj.mapSeq (·.setIfInBounds j u)) } :=
  I.lstUpd hp ho (N4 ae n j u) (r.set rv j) (by rw [List.length_set];exact hz) s.toks
 by_cases h0:0<=k
 ·have hk:k.toNat=j:=by
   rw [seqIndex_of h0 h4]at h1
   exact Yas h1
  exact PySem.W.ki_setAt ho h0 (by omega) (by rw [Yal,<- hl];exact h4) (by rw [hk];exact⟨_,I',q⟩)
 ·have hk:(k+(ae.toArray.size:Int)).toNat=j:=by
   rw [seqIndex_neg (by omega) h3]at h1
   rw [Yal,<- hl]
   exact Yas h1
  exact PySem.W.ki_setBack ho (by omega) (by rw [Yal,<- hl];exact h3) (by omega) (by rw [hk];exact⟨_,I',q⟩)
theorem Lq(lo hi:Option Int)(n:Nat):(sliceBounds lo hi none n).1=((HT.sIx n 0 lo:Nat):Int)/\(sliceBounds lo hi none n).2.1=((HT.sIx n n hi:Nat):Int)/\(sliceBounds lo hi none n).2.2=1:=by
 refine⟨?_,?_,rfl⟩
 ·cases lo with
  | none=>simp [sliceBounds,HT.sIx]
  | some i =>
   simp only [sliceBounds,HT.sIx,Option.getD_none,show(1:Int) > 0 by decide,if_true]
   by_cases h:i < 0
   ·simp only [h,if_true] <;> omega
   ·simp only [h,if_false] <;> omega
 ·cases hi with
  | none=>simp [sliceBounds,HT.sIx]
  | some i =>
   simp only [sliceBounds,HT.sIx,Option.getD_none,show(1:Int) > 0 by decide,if_true]
   by_cases h:i < 0
   ·simp only [h,if_true] <;> omega
   ·simp only [h,if_false] <;> omega
theorem J7(ae:List Value)(lo hi:Option Int):slicePick ae.toArray lo hi none=((ae.drop (HT.sIx ae.length 0 lo)).take (HT.sIx ae.length ae.length hi - HT.sIx ae.length 0 lo)).toArray:=by
 obtain⟨h1,h2,h3⟩:=Lq lo hi ae.toArray.size
 unfold slicePick
 rw [h1,h2,h3]
 simp only [sliceRange_one,pick_run,List.size_toArray] <;> rfl
def Qig(K:PySem.W.Frag):V->Option Int->Option Int->Hp->VK->Prop:=λx lo hi H Q=>∃a xs,x=.ref a/\Ei K H a xs/\∀p,H p=none->Q (.ref p) (upd H p (.lst (J6 xs lo hi)))
theorem Xa:SlR X (Qig X.K):=by
 intro aa s σ H x v vl vu lo hi sl Q I rx hs pl pu h
 obtain⟨a,xs,rfl,hx,q⟩:=h
 cases rx
 obtain⟨ae,r,ht,hz⟩:=I.list hx
 have am:=r.length
 refine⟨"list",_,slot_list_getitem.lookup,ht.isList.typeIs,?_⟩
 refine wpAny_getItem_list_slice ht.isList hs pl pu .none (by simp) ?_ (by rw [Yal] <;> omega)
 rw [J7,<- am]
 refine⟨.ref s.heap.objs.size,_,I.laid (t':=s.toks) (o:=.lst (J6 xs lo hi)) (λb ob q=>Heap.get?_push_of_some _ q) (Yag _) ?_,rfl,q _ (I.hok.fresh (Yag _))⟩
 exact⟨Yap (Hn xs lo hi) hz,_,0,(r.drop (HT.sIx xs.length 0 lo)).take (HT.sIx xs.length xs.length hi - HT.sIx xs.length 0 lo),Heap.get?_push_size _ rfl⟩
theorem Lr:Gq X (compareOp .NotIn) (λx y H Q=>∃i j,x=.str i/\y=.str j/\Q (.bl (!(!(Builtin.Str.occurrences j i 0 j.length 1).isEmpty))) H):=by
 intro aa s σ H x y v u Q I rx ry h
 obtain⟨i,j,rfl,rfl,q⟩:=h
 obtain⟨t,rfl⟩:=rx
 obtain⟨t',rfl⟩:=ry
 exact notIn_str ⟨.bl _,H,I,rfl,q⟩
theorem Ek:Ec X (.builtin "len") (λxs H Q=>∃p ys,xs=[.ref p]/\(Ei X.K H p ys\/Hm X.K H p ys)/\Q (.int ys.length) H):=by
 intro aa s σ H xs us Q I r h
 obtain⟨p,ys,rfl,hq,q⟩:=h
 obtain⟨u,rfl,rx⟩:=Dp r
 cases rx
 have hn:=G9
 rcases hq with hq | hq
 ·obtain⟨ae,r',pl,hz⟩:=I.list hq
  have am:=r'.length
  exact Calls.call_len_list pl.isList (by simp only [List.size_toArray] <;> omega) ⟨.int ys.length,H,I.tok _,⟨s.toks+1,by rw [Yal,am]⟩,q⟩
 ·obtain⟨ae,r',pl,hz⟩:=I.tuple hq
  have am:=r'.length
  exact len_tuple pl (by simp only [List.size_toArray] <;> omega) ⟨.int ys.length,H,I.tok _,⟨s.toks+1,by rw [Yal,am]⟩,q⟩
theorem Lu:Ec X (.builtin "len") (λxs H Q=>∃z,xs=[.str z]/\z.length<=sizeLine/\Q (.int z.length) H):=by
 intro aa s σ H xs us Q I r h
 obtain⟨z,rfl,hz,q⟩:=h
 obtain⟨u,rfl,t,rfl⟩:=Dp r
 have hn:=G9
 exact len_str (by omega) ⟨.int z.length,H,I.tok _,⟨_,rfl⟩,q⟩
theorem Lv:Ec X (.type "list") (λxs H Q=>∃p ys,xs=[.ref p]/\(Ei X.K H p ys\/Hm X.K H p ys)/\∀l,H l=none->Q (.ref l) (upd H l (.lst ys))):=by
 intro aa s σ H xs us Q I r h
 obtain⟨p,ys,rfl,hq,q⟩:=h
 obtain⟨u,rfl,rx⟩:=Dp r
 cases rx
 have fin:∀(ae:List Value),Vals ys ae->ys.length<=sizeLine->∀(h':Heap) (c':Nat),(∀b o',s.heap.get? b=some o'->h'.get? b=some o') ->
   h'.get? s.heap.objs.size=some { cls:=.type "list",dict:=none,data:=.seq ae.toArray c',slots:=#[] }->EP X aa σ Q (.ref s.heap.objs.size) { s with heap:=h' }:=λae r' hz h' c' kp e =>
  ⟨.ref s.heap.objs.size,_,I.laid (t':=s.toks) kp (Yag _) (show Bn X.prog X.w _ h' _ (.lst ys) from⟨hz,ae,c',r',e⟩),rfl,q _ (I.hok.fresh (Yag _))⟩
 rcases hq with hq | hq
 ·obtain⟨ae,r',pl,hz⟩:=I.list hq
  have am:=r'.length
  obtain⟨o,ho,hc,n,hd⟩:=pl.isList
  exact call_list_seq p (.inl rfl) ho hc hd (λh' c' kp e=>fin ae r' hz h' c' kp e) (by simp only [List.size_toArray] <;> omega)
 ·obtain⟨ae,r',pl,hz⟩:=I.tuple hq
  have am:=r'.length
  obtain⟨o,ho,hc,n,hd⟩:=pl
  exact call_list_seq p (.inr rfl) ho hc hd (λh' c' kp e=>fin ae r' hz h' c' kp e) (by simp only [List.size_toArray] <;> omega)
theorem Fy:Ec X (.type "tuple") (λxs H Q=>∃p ys,xs=[.ref p]/\((Ei X.K H p ys/\∀l,H l=none->Q (.ref l) (upd H l (.tup ys)))\/(Hm X.K H p ys/\Q (.ref p) H))):=by
 intro aa s σ H xs us Q I r h
 obtain⟨p,ys,rfl,h⟩:=h
 obtain⟨u,rfl,rx⟩:=Dp r
 cases rx
 rcases h with⟨hq,q⟩ | ⟨hq,q⟩
 ·obtain⟨ae,r',pl,hz⟩:=I.list hq
  have am:=r'.length
  refine call_tuple_list pl.isList (λh' kp=>?_) (by simp only [List.size_toArray] <;> omega)
  have I1:Inv X aa σ H { s with heap:=h' }:=I.kept (t':=s.toks) kp
  have I2:Inv X aa σ (upd H h'.objs.size (.tup ys)) { s with heap:=h'.push { cls:=.type "tuple",data:=.seq ae.toArray } } :=
   I1.laid (t':=s.toks) (λb o e=>Heap.get?_push_of_some _ e) (Yag _) (show Bn X.prog X.w _ _ _ (.tup ys) from⟨hz,ae,r',IsTup.new _ _⟩)
  exact⟨.ref h'.objs.size,_,I2,rfl,q _ (I1.hok.fresh (Yag _))⟩
 ·obtain⟨ae,r',pl,hz⟩:=I.tuple hq
  exact call_tuple_same pl ⟨.ref p,H,I,rfl,q⟩
def tyV(K:PySem.W.Frag)(T:String)(x:V)(H:Hp):Prop:=match x with
 | .str _=>T = "str"
 | .int _=>T = "int"
 | .ref p=>(T = "list" /\ ∃xs,Ei K H p xs)\/(T = "tuple" /\ ∃o,K.lookup p=some o/\o.cls=.type "tuple" /\ o.dict=none) \/
   (T = "dict" /\ ((∃kvs,H p=some (.dK kvs))\/∃kvs,H p=some (.dT kvs)))\/(T = "set" /\ ∃S n,H p=some (.set S n))
 | _=>False
theorem Tb{aa:List (Addr×Obj)}{σ:St}{H:Hp}{s:Shared}{T:String}{x:V}{v:Value}(I:Inv X aa σ H s)(r:Bh x v)(ty:tyV X.K T x H) :
  s.TypeIs v T/\∀a,v=.ref a->∃ob,s.heap.get? a=some ob/\ob.dict=none:=by
 cases x with
 | str z =>
  obtain⟨t,rfl⟩:=r
  cases (show T = "str" from ty)
  exact⟨Yel s z t,λ_ e=>nomatch e⟩
 | int i =>
  obtain⟨t,rfl⟩:=r
  cases (show T = "int" from ty)
  exact⟨typeIs_int s i t,λ_ e=>nomatch e⟩
 | ref p =>
  cases r
  rcases ty with⟨rfl,xs,hq⟩ | ⟨rfl,o,hk,hc,hd⟩ | ⟨rfl,hk⟩ | ⟨rfl,S,n,hk⟩
  ·obtain⟨ae,_,pl,_⟩:=I.list hq
   refine⟨pl.isList.typeIs,λa e=>?_⟩
   cases e
   obtain⟨o,n,e,c,hd,_⟩:=pl
   exact⟨o,e,hd⟩
  ·refine⟨⟨o,I.kIn p o hk,hc⟩,λa e=>?_⟩
   cases e
   exact⟨o,I.kIn _ o hk,hd⟩
  ·have z:∃o,s.heap.get? p=some o/\o.ExactDict:=by
    rcases hk with⟨kvs,hk⟩ | ⟨kvs,hk⟩
    ·obtain⟨_,_,_,_,o,_,_,e,ex,_⟩:=I.hok p _ hk
     exact⟨o,e,ex⟩
    ·obtain⟨_,_,_,_,o,_,_,e,ex,_⟩:=I.hok p _ hk
     exact⟨o,e,ex⟩
   obtain⟨o,e,ex⟩:=z
   refine⟨⟨o,e,ex.1⟩,λa e2=>?_⟩
   cases e2
   exact⟨o,e,ex.2.1⟩
  ·obtain⟨o,_,_,_,e,ex,_⟩:=I.hok p _ hk
   refine⟨⟨o,e,ex.1⟩,λa e2=>?_⟩
   cases e2
   exact⟨o,e,ex.2.1⟩
 | _=>exact False.elim ty
def Qih(K:PySem.W.Frag)(T:String)(r:V->List V->Hp->VK->Prop)(to:TE):TE:=fun σ H Q=>to σ H λx H1=>tyV K T x H1/\r x [] H1 Q
def tBM(K:PySem.W.Frag)(T:String)(r:V->List V->Hp->VK->Prop)(to:TE)(t:TA):TE:=fun σ H Q=>to σ H λx H1=>tyV K T x H1/\t σ H1 λxs H2=>r x xs H2 Q
variable {o e:Expr}{es:List Expr}{to:TE}{t:TA}{name:Str}{bh aq:Pos}{T id:String}{r:V->List V->Hp->VK->Prop}
theorem Tc(pa:PlainAttrs T)(slot:Slot T name id)(jc:typeOf (.builtin id)=pure (.type "method_descriptor")) (hm:MtR X id r) (ho:PE X o to)
  (bq:attributeBase o name X.env (eval o X.env)=eval o X.env:=by rfl) (bt:(bh.endLine==aq.line)=true:=by rfl):PE X (.Call (.Attribute o name bh) [] [] aq) (Qih X.K T r to):=by
 intro aa s σ H Q I h
 refine wpAny_Call_method0_late bq bt (thn (ho aa s σ H _ I h) λv s1 po=>?_)
 obtain⟨x,H1,I1,r1,ty,q1⟩:=po
 obtain⟨h1,h2⟩:=Tb I1 r1 ty
 exact⟨T,id,pa,slot,jc,h1,h2,Calls.callWith_builtin rfl (PySem.evalArgs_none (hm aa s1 σ H1 x [] v [] Q I1 r1 .nil q1))⟩
theorem Td(pa:PlainAttrs T)(slot:Slot T name id)(jc:typeOf (.builtin id)=pure (.type "method_descriptor")) (hm:MtR X id r) (ho:PE X o to) (ha:PA X (e :: es) t)
  (bq:attributeBase o name X.env (eval o X.env)=eval o X.env:=by rfl)
  (fu:((backTo aq (starEach (e :: es) X.env)).all (λx=>!x.1) && (backToKw aq (keywordEach [] X.env)).all (λx=>x.1.isSome)
   && decide ((e :: es).length+([]:List Keyword).length+(if([]:List Keyword).isEmpty then 0 else 1) < 30))=true:=by rfl)
  (bt:(bh.endLine==aq.line)=true:=by rfl) (hs:starEach (e :: es) X.env=(false,eval e X.env) :: starEach es X.env:=by rfl) (cm:(backTo aq (starEach es X.env)).any (·.1)=false:=by rfl) :
  PE X (.Call (.Attribute o name bh) (e :: es) [] aq) (tBM X.K T r to t):=by
 intro aa s σ H Q I h
 refine wpAny_Call_method_late bq fu bt rfl (thn (ho aa s σ H _ I h) λv s1 sk=>?_)
 obtain⟨x,H1,I1,r1,ty,q1⟩:=sk
 obtain⟨h1,h2⟩:=Tb I1 r1 ty
 refine⟨T,id,pa,slot,jc,h1,h2,?_⟩
 have hA:=ha aq aa s1 σ H1 _ I1 q1
 rw [hs]at hA ⊢
 refine Calls.callWith_builtin (by show(false || (backTo aq (starEach es X.env)).any (·.1))=false;rw [cm] <;> rfl) (Calls.evalArgs_plain ?_)
 exact thn hA λus s2 qg=>Cd qg λvs H2 I2 r2 q2=>hm aa s2 σ H2 x vs v us Q I2 r1 r2 q2
end
def MtM(X:Cx)(id:String)(r:V->List V->Hp->VK->Prop):Prop :=
 ∀(aa:List (Addr×Obj)) (s:Shared) (σ:St) (H:Hp) (x:V) (xs:List V) (v:Value) (us:List Value) (Q:VK),Inv X aa σ H s->Bh x v->Vals xs us->r x xs H Q ->
  wpAny (model X.prog X.w) X.A (call (.builtin id) (v :: us)) (EP X aa σ Q) X.xe s
theorem Vals.one:∀{x:V} {us:List Value},Vals [x] us->∃u,us=[u]/\Bh x u
 | _,_,.cons r .nil=>⟨_,rfl,r⟩
theorem Vals.zero:∀{us:List Value},Vals [] us->us=[]
 | _,.nil=>rfl
theorem Vals.dropLast{xs:List V}{us:List Value}(h:Vals xs us):Vals xs.dropLast us.dropLast:=by
 induction h with
 | nil=>exact .nil
 | cons r t ih =>
  cases t with
  | nil=>exact .nil
  | cons q t'=>exact .cons r ih
theorem Vals.reverse{xs:List V}{us:List Value}(h:Vals xs us):Vals xs.reverse us.reverse:=by
 induction h with
 | nil=>exact .nil
 | cons r t ih=>rw [Ydt,Ydt];exact Vals.append ih (.cons r .nil)
theorem N5{α:Type}(l:List α):l.eraseIdx (l.length - 1)=l.dropLast:=by
 induction l with
 | nil=>rfl
 | cons a r ih =>
  cases r with
  | nil=>rfl
  | cons b r =>
   have e:(a :: b :: r).length - 1=((b :: r).length - 1)+1:=by
    have h1:(a :: b :: r).length=r.length+2:=rfl
    have h2:(b :: r).length=r.length+1:=rfl
    omega
   rw [e,List.eraseIdx_cons_succ,ih]
   all_goals rfl
section
variable {X:Cx}{aa:List (Addr×Obj)}{σ:St}{H:Hp}{s:Shared}{l b:Addr}{xs ys zs:List V}
theorem Inv.lset{ae its':List Value}{n:Nat}{f:Array Value->Array Value}{t':Nat}(I:Inv X aa σ H s)(hH:H l=some (.lst xs))
  (e:s.heap.get? l=some { cls:=.type "list",data:=.seq ae.toArray n }) (hf:f ae.toArray=its'.toArray) (hv:Vals ys its') (hz:ys.length<=sizeLine) :
  Inv X aa σ (upd H l (.lst ys)) { s with heap:=s.heap.update l (Obj.mapSeq f),toks:=t' }:=by
 have q:=PySem.IsL.update e f
 rw [hf]at q
 refine I.write (x:=l) (e:=l) (by rw [hH];exact trivial) (.inl rfl) (λb' u hb hu=>(Heap.get?_update_other s.heap (Obj.mapSeq f) (Ydc hb)).trans hu) ⟨_,q⟩ ?_
 exact⟨hz,its',_,hv,q⟩
theorem Inv.lnew{ae:List Value}{t':Nat}(I:Inv X aa σ H s)(hv:Vals ys ae)(hz:ys.length<=sizeLine) :
  Inv X aa σ (upd H s.heap.objs.size (.lst ys)) { s with heap:=s.heap.push { cls:=.type "list",data:=.seq ae.toArray },toks:=t' } :=
 I.laid (λ_ _ q=>Heap.get?_push_of_some _ q) (Yag _) ⟨hz,ae,0,hv,Heap.get?_push_size _ rfl⟩
theorem Inv.fresh(I:Inv X aa σ H s):H s.heap.objs.size=none:=I.hok.fresh (Yag _)
theorem Inv.lstM(I:Inv X aa σ H s)(hH:H l=some (.lst xs)):xs.length<=sizeLine/\∃(ae:List Value) (n:Nat),Vals xs ae/\xs.length=ae.length/\s.heap.get? l=some { cls:=.type "list",data:=.seq ae.toArray n }:=by
 obtain⟨z,ae,n,r,e⟩:=I.hok l _ hH
 exact⟨z,ae,n,r,r.length,e⟩
theorem Te{n:Nat}(h:n<=sizeLine):Builtin.List.listTooLong n=false:=by
 unfold Builtin.List.listTooLong
 exact Yah (by omega)
end
section
variable {X:Cx}
def Xb:V->List V->Hp->VK->Prop:=λx vs H Q=>∃l xs y,x=.ref l/\vs=[y]/\H l=some (.lst xs)/\xs.length < sizeLine/\Q .non (upd H l (.lst (xs++[y])))
theorem Kq:MtM X "list.append" Xb:=by
 intro aa s σ H x vs v us Q I rx rv h
 obtain⟨l,xs,y,rfl,rfl,hH,hz,q⟩:=h
 cases rx
 obtain⟨u,rfl,ru⟩:=rv.one
 obtain⟨z,ae,n,r,hl,e⟩:=I.lstM hH
 refine Ydu F.slot_list_append ⟨_,e,rfl⟩ F.entry_list_append (F.args_list_append_2 _ _) (PySem.list_append l ae.toArray n u (by rw [Yal];omega)) ⟨e,?_⟩
 refine⟨.non,_,I.lset (its':=ae++[u]) hH e (by simp) (r.append (.cons ru .nil)) ?_,rfl,q⟩
 rw [Yai,List.length_singleton]
 omega
def Xc:V->List V->Hp->VK->Prop:=λx vs H Q=>∃l b xs zs,x=.ref l/\vs=[.ref b]/\H l=some (.lst xs)/\H b=some (.lst zs)/\xs.length+zs.length<=sizeLine/\Q .non (upd H l (.lst (xs++zs)))
theorem Qw:MtM X "list.extend" Xc:=by
 intro aa s σ H x vs v us Q I rx rv h
 obtain⟨l,b,xs,zs,rfl,rfl,hH,hB,hz,q⟩:=h
 cases rx
 obtain⟨u,rfl,ru⟩:=rv.one
 cases ru
 obtain⟨z,ae,n,r,hl,e⟩:=I.lstM hH
 obtain⟨z2,its2,n2,r2,ft,e2⟩:=I.lstM hB
 have hsz:ae.toArray.size+its2.toArray.size<=sizeLine:=by rw [Yal,Yal];omega
 have oy:¬(!ae.toArray.isEmpty && Builtin.List.listTooLong (ae.toArray.size+its2.toArray.size))=true:=by
  rw [Te hsz,Yaq]
  exact Yak
 refine Ydu F.slot_list_extend ⟨_,e,rfl⟩ F.entry_list_extend (F.args_list_extend_2 _ _)
  (AutoSeq1.list_extend_list_list_0 l ae.toArray n b its2.toArray n2 oy (by rw [Yal];omega) (by omega)) ⟨e,e2,?_⟩
 refine⟨.non,_,I.lset (its':=ae++its2) hH e (by simp) (r.append r2) ?_,rfl,q⟩
 rw [Yai]
 omega
def Qij:V->List V->Hp->VK->Prop:=λx vs H Q=>∃l xs y,x=.ref l/\vs=[]/\H l=some (.lst xs)/\xs[xs.length - 1]?=some y/\Q y (upd H l (.lst xs.dropLast))
theorem Qbc:MtM X "list.pop" Qij:=by
 intro aa s σ H x vs v us Q I rx rv h
 obtain⟨l,xs,y,rfl,rfl,hH,hy,q⟩:=h
 cases rx
 have ng:=rv.zero
 subst ng
 obtain⟨z,ae,n,r,hl,e⟩:=I.lstM hH
 obtain⟨u,hu,ru⟩:=r.get hy
 have hy':ae.toArray[ae.toArray.size - 1]?=some u:=by
  show ae.toArray[ae.length - 1]?=some u
  rw [<- Array.getElem?_toList,<- hl]
  exact hu
 refine Ydu F.slot_list_pop ⟨_,e,rfl⟩ F.entry_list_pop (F.args_list_pop_1 _) (MeetsSeq.list_pop_last l ae.toArray n u hy' (by rw [Yal];omega)) ⟨e,?_⟩
 refine⟨y,_,I.lset (its':=ae.dropLast) hH e ?_ r.dropLast ?_,ru,q⟩
 ·show ae.toArray.eraseIdxIfInBounds (ae.toArray.size - 1)=ae.dropLast.toArray
  rw [Yal,List.eraseIdxIfInBounds_toArray,N5]
 ·rw [List.length_dropLast]
  omega
def Qik:R2:=λx y H Q=>∃l b xs zs,x=.ref l/\y=.ref b/\H l=some (.lst xs)/\H b=some (.lst zs)/\xs.length+zs.length<=sizeLine/\∀p,H p=none->Q (.ref p) (upd H p (.lst (xs++zs)))
theorem Qbd:Gq X (binaryOp .Add) Qik:=by
 intro aa s σ H x y v u Q I rx ry h
 obtain⟨l,b,xs,zs,rfl,rfl,hH,hB,hz,q⟩:=h
 cases rx
 cases ry
 obtain⟨z,ae,n,r,hl,e⟩:=I.lstM hH
 obtain⟨z2,its2,n2,r2,ft,e2⟩:=I.lstM hB
 refine PySem.P.add_list e e2 ?_ (by rw [Yal,Yal];omega)
 have ea:ae.toArray++its2.toArray=(ae++its2).toArray:=by simp
 rw [ea]
 exact⟨.ref _,_,I.lnew (t':=s.toks) (r.append r2) (by rw [Yai];omega),rfl,q _ I.fresh⟩
end
section
variable {prog:Program}{w:World}{A:Around}{E:Value->Shared->Prop}{s:Shared}
end
section
variable {X:Cx}
end
section
variable {κ:Type} [DecidableEq κ]
def Gu(kvs:List (κ×V))(k:κ):Option V:=(kvs.find? λkv=>decide (kv.1=k)).map (·.2)
def D8(kvs:List (κ×V))(k:κ)(v:V):List (κ×V) :=
 if(kvs.any λkv=>decide (kv.1=k))=true then kvs.map (λkv=>if kv.1=k then(kv.1,v) else kv) else kvs++[(k,v)]
theorem Io{p:κ×V}{r:List (κ×V)}{k:κ}(e:p.1=k):Gu (p :: r) k=some p.2:=by simp [Gu,List.find?_cons,e]
theorem Ip{p:κ×V}{r:List (κ×V)}{k:κ}(e:¬p.1=k):Gu (p :: r) k=Gu r k:=by simp [Gu,List.find?_cons,e]
theorem Mu(k:κ):∀kvs:List (κ×V),(kvs.any λkv=>decide (kv.1=k))=(Gu kvs k).isSome
 | []=>rfl
 | p :: r=>by
  rw [Ycn]
  by_cases e:p.1=k
  ·simp only [Io e,decide_eq_true e,Bool.true_or,Option.isSome_some]
  ·rw [Ip e,Yah e,Bool.false_or];exact Mu k r
theorem E6(kvs:List (κ×V))(k:κ)(v:V):(D8 kvs k v).length<=kvs.length+1:=by
 unfold D8
 split
 ·rw [Yaa];omega
 ·rw [Yai,Yba,Yck];omega
theorem Fs.isSome_eq{o:Option V}{u:Option Value}(r:Fs o u):o.isSome=u.isSome:=by
 cases o with
 | none=>cases u with
  | none=>rfl
  | some _=>exact(show False from r).elim
 | some _=>cases u with
  | none=>exact(show False from r).elim
  | some _=>rfl
theorem KV.val{kvs:List (κ×V)}{vs:List (κ×Value)}(r:KV kvs vs)(k:κ):Fs (Gu kvs k) (valueAt vs k):=by
 unfold KV at r
 induction r with
 | nil=>exact True.intro
 | @cons p q ps qs h t ih =>
  obtain⟨h1,h2⟩:=h
  by_cases e:p.1=k
  ·have e':q.1=k:=h1.symm.trans e
   have b:valueAt (q :: qs) k=some q.2:=by simp [valueAt,List.find?_cons,e']
   rw [Io e,b];exact h2
  ·have e':¬q.1=k:=λz=>e (h1.trans z)
   have b:valueAt (q :: qs) k=valueAt qs k:=by simp [valueAt,List.find?_cons,e']
   rw [Ip e,b];exact ih
theorem KV.any{kvs:List (κ×V)}{vs:List (κ×Value)}(r:KV kvs vs)(k:κ):(kvs.any λkv=>decide (kv.1=k))=vs.any λkv=>decide (kv.1=k):=by
 unfold KV at r
 induction r with
 | nil=>rfl
 | cons h t ih=>rw [Ycn,Ycn,ih,h.1]
theorem KV.repl{kvs:List (κ×V)}{vs:List (κ×Value)}(r:KV kvs vs)(k:κ){y:V}{u:Value}(ry:Bh y u) :
  KV (kvs.map λkv=>if kv.1=k then(kv.1,y) else kv) (vs.map λkv=>if kv.1=k then(kv.1,u) else kv):=by
 unfold KV at r ⊢
 induction r with
 | nil=>exact .nil
 | @cons p q ps qs h t ih =>
  rw [Ya7,Ya7]
  refine .cons ?_ ih
  obtain⟨h1,h2⟩:=h
  by_cases e:p.1=k
  ·rw [Yaw e,Yaw (h1.symm.trans e)];exact⟨h1,ry⟩
  ·rw [Yar e,Yar (λz=>e (h1.trans z))];exact⟨h1,h2⟩
theorem KV.put{kvs:List (κ×V)}{vs:List (κ×Value)}(r:KV kvs vs)(k:κ){y:V}{u:Value}(ry:Bh y u):KV (D8 kvs k y) (stored vs k u):=by
 unfold D8 stored
 rw [r.any k]
 by_cases e:(vs.any λkv=>decide (kv.1=k))=true
 ·rw [Yaw e,Yaw e];exact r.repl k ry
 ·rw [Yar e,Yar e];exact Paired.snoc r ⟨rfl,ry⟩
theorem KV.keys{kvs:List (κ×V)}{vs:List (κ×Value)}(r:KV kvs vs):kvs.map (·.1)=vs.map (·.1):=by
 unfold KV at r
 induction r with
 | nil=>rfl
 | cons h t ih=>rw [Ya7,Ya7,ih,h.1]
theorem KV.length{kvs:List (κ×V)}{vs:List (κ×Value)}(r:KV kvs vs):kvs.length=vs.length:=Yc5 r
end
theorem Kr{P:Program}{w:World}{k:Key}{u:Value}(r:Bh (kV k) u):(B2 P w).is k u=true:=by
 cases k with
 | inl i=>obtain⟨t,e⟩:=(show ∃t,u=Value.int i t from r);subst e;exact Mo P w i t
 | inr x=>obtain⟨t,e⟩:=(show ∃t,u=Value.str x t from r);subst e;exact Mp P w x t
theorem Ks{P:Program}{w:World}:∀{ks:List Key} {us:List Value},Vals (ks.map kV) us->ItemsAre (B2 P w) ks us
 | [],_,r=>by rw [Yc1]at r;cases r;exact .nil
 | k :: ks,_,r=>by
  rw [Ya7]at r
  cases r with
  | cons h t=>exact .cons (Kr h) (Ks t)
abbrev KT(H:Hp):List (List Key×V)->List (List Key×Addr×Value)->Prop:=Paired λp q=>p.1=q.1/\H q.2.1=some (.tup (p.1.map kV))/\Bh p.2 q.2.2
theorem KT.val{H:Hp}{kvs:List (List Key×V)}{xs:List (List Key×Addr×Value)}(r:KT H kvs xs)(k:List Key):Fs (Gu kvs k) ((atKey xs k).map (·.2)):=by
 induction r with
 | nil=>exact True.intro
 | @cons p q ps qs h t ih =>
  obtain⟨h1,_,h2⟩:=h
  by_cases e:p.1=k
  ·have e':q.1=k:=h1.symm.trans e
   have b:atKey (q :: qs) k=some q.2:=by simp [atKey,List.find?_cons,e']
   rw [Io e,b];exact h2
  ·have e':¬q.1=k:=λz=>e (h1.trans z)
   have b:atKey (q :: qs) k=atKey qs k:=by simp [atKey,List.find?_cons,e']
   rw [Ip e,b];exact ih
theorem KT.repl{H:Hp}{kvs:List (List Key×V)}{xs:List (List Key×Addr×Value)}(r:KT H kvs xs)(k:List Key){y:V}{u:Value}(ry:Bh y u) :
  KT H (kvs.map λkv=>if kv.1=k then(kv.1,y) else kv) (xs.map (putAt k u)):=by
 induction r with
 | nil=>exact .nil
 | @cons p q ps qs h t ih =>
  rw [Ya7,Ya7]
  refine .cons ?_ ih
  obtain⟨h1,h2,h3⟩:=h
  unfold putAt
  by_cases e:p.1=k
  ·rw [Yaw e,Yaw (h1.symm.trans e)];exact⟨h1,h2,ry⟩
  ·rw [Yar e,Yar (λz=>e (h1.trans z))];exact⟨h1,h2,h3⟩
theorem KT.put{H:Hp}{kvs:List (List Key×V)}{xs:List (List Key×Addr×Value)}(r:KT H kvs xs)(k:List Key){b:Addr}{y:V}{u:Value}(hb:H b=some (.tup (k.map kV)))(ry:Bh y u) :
  KT H (D8 kvs k y) (storedH xs k b u):=by
 have e:(kvs.any λkv=>decide (kv.1=k))=(atKey xs k).isSome:=by
  rw [Mu,(r.val k).isSome_eq,Option.isSome_map]
 unfold D8 storedH
 rw [e]
 by_cases q:(atKey xs k).isSome=true
 ·rw [Yaw q,Yaw q];exact r.repl k ry
 ·rw [Yar q,Yar q];exact Paired.snoc r ⟨rfl,hb,ry⟩
theorem KT.keeps{H H':Hp}{kvs:List (List Key×V)}{xs:List (List Key×Addr×Value)}(r:KT H kvs xs)(ht:∀b ys,H b=some (.tup ys)->H' b=some (.tup ys)):KT H' kvs xs :=
 Paired.mapP r λ_ _ z=>⟨z.1,ht _ _ z.2.1,z.2.2⟩
section
variable {P:Program}{w:World}{H:Hp}{h:Heap}{a:Addr}
theorem Yz{u:HO}(ok:HOk P w H h)(e:Rd H a u):Bn P w H h a u:=e.ok ok
theorem Ku{kvs:List (Key×V)}(ok:HOk P w H h)(e:Rd H a (.dK kvs)):kvs.length<=sizeLine/\(a==sysModules)=false/\∃vs,KV kvs vs/\h.DictOf (B2 P w) a vs :=
 show Bn P w H h a (.dK kvs) from Yz ok e
theorem Mv{kvs:List (Key×V)}(ok:HOk P w H h)(e:H a=some (.dK kvs)):kvs.length<=sizeLine/\(a==sysModules)=false/\∃vs,KV kvs vs/\h.DictOf (B2 P w) a vs:=Ku ok (.inl e)
theorem Iq{ks:List Key}(ok:HOk P w H h)(e:H a=some (.tup (ks.map kV))):(tupleKind (B2 P w)).is h ks a:=by
 obtain⟨_,ae,r,o,h1,h2,n,h3⟩:=(show Bn P w H h a (.tup (ks.map kV)) from ok a _ e)
 exact⟨o,ae.toArray,n,h1,h2,h3,by simpa using Ks r⟩
theorem Mw{kvs:List (List Key×V)}(ok:HOk P w H h)(e:Rd H a (.dT kvs)):kvs.length<=sizeLine/\(a==sysModules)=false /\
  ∃xs,KT H kvs xs/\h.DictOfH (tupleKind (B2 P w)) a xs:=by
 obtain⟨z,y,xs,r,o,es,ep,h1,h2,h3,h4,h5⟩:=(show Bn P w H h a (.dT kvs) from Yz ok e)
 refine⟨z,y,xs,r,o,es,ep,h1,h2,h3,h4,λx hx=>?_,h5⟩
 have all:∀{l:List (List Key×V)} {m:List (List Key×Addr×Value)},KT H l m->∀x∈m,(tupleKind (B2 P w)).is h x.1 x.2.1:=by
  intro l m q
  induction q with
  | nil=>intro x hx;exact nomatch hx
  | @cons p q ps qs hq t ih =>
   intro x hx
   rcases Ybb.mp hx with e | hx
   ·subst e
    exact Iq ok (by rw [<- hq.1];exact hq.2.1)
   ·exact ih x hx
 exact all r x hx
theorem Qen{kvs:List (List Key×V)}(ok:HOk P w H h)(e:H a=some (.dT kvs)):kvs.length<=sizeLine/\(a==sysModules)=false /\
  ∃xs,KT H kvs xs/\h.DictOfH (tupleKind (B2 P w)) a xs:=Mw ok (.inl e)
end
def DGet(H:Hp)(a:Addr)(y:V)(r:Option V):Prop :=
 (∃kvs k,Rd H a (.dK kvs)/\y=kV k/\r=Gu kvs k)\/∃kvs k b,Rd H a (.dT kvs)/\y=.ref b/\H b=some (.tup (k.map kV))/\r=Gu kvs k
def DPut(H:Hp)(a:Addr)(y v:V)(H':Hp):Prop :=
 (∃kvs k,H a=some (.dK kvs)/\y=kV k/\kvs.length < sizeLine/\H'=upd H a (.dK (D8 kvs k v))) \/
 ∃kvs k b,H a=some (.dT kvs)/\y=.ref b/\H b=some (.tup (k.map kV))/\kvs.length < sizeLine/\H'=upd H a (.dT (D8 kvs k v))
theorem DGet.k{H:Hp}{a:Addr}{kvs:List (Key×V)}{k:Key}(e:H a=some (.dK kvs)):DGet H a (kV k) (Gu kvs k):=.inl ⟨kvs,k,.inl e,rfl,rfl⟩
theorem DGet.t{H:Hp}{a b:Addr}{kvs:List (List Key×V)}{k:List Key}(e:H a=some (.dT kvs))(eb:H b=some (.tup (k.map kV))):DGet H a (.ref b) (Gu kvs k):=.inr ⟨kvs,k,b,.inl e,rfl,eb,rfl⟩
theorem DPut.k{H:Hp}{a:Addr}{kvs:List (Key×V)}{k:Key}{v:V}(e:H a=some (.dK kvs))(hl:kvs.length < sizeLine):DPut H a (kV k) v (upd H a (.dK (D8 kvs k v))):=.inl ⟨kvs,k,e,rfl,hl,rfl⟩
theorem DPut.t{H:Hp}{a b:Addr}{kvs:List (List Key×V)}{k:List Key}{v:V}(e:H a=some (.dT kvs))(eb:H b=some (.tup (k.map kV)))(hl:kvs.length < sizeLine) :
  DPut H a (.ref b) v (upd H a (.dT (D8 kvs k v))):=.inr ⟨kvs,k,b,e,rfl,eb,hl,rfl⟩
section
variable {X:Cx}{aa:List (Addr×Obj)}{σ:St}{H:Hp}{s:Shared}{a:Addr}{y v:V}{u r:Value}{o:Option V}{A:Around}{E:Value->Shared->Prop}
theorem Inv.big(I:Inv X aa σ H s):sysModules < s.heap.objs.size:=by
 have h:mainGlobals < s.heap.objs.size:=(I.mod.glob.keeps I.bk).lt
 exact Nat.lt_trans (by decide) h
theorem Qx{Q:Value->Shared->Prop}(hu:A.units+1 < cLine)(I:Inv X aa σ H s)(g:DGet H a y (some v))(ry:Bh y u)(h:∀w' s',Inv X aa σ H s'->Bh v w'->Q w' s') :
  wpAny (model X.prog X.w) A (getItem (.ref a) u) Q E s:=by
 rcases g with⟨kvs,k,e,ey,l⟩ | ⟨kvs,k,b,e,ey,eb,l⟩
 ·subst ey
  obtain⟨z,hd,vs,rel,dd⟩:=Ku I.hok e
  obtain⟨w',hw,cu⟩:=Fs.some_of (v:=v) (o:=valueAt vs k) (by rw [l];exact rel.val k)
  exact wpAny_getItem_of (Kr ry) dd.mapOf hw (h w' _ (I.tok _) cu)
 ·subst ey
  cases (show u=Value.ref b from ry)
  obtain⟨z,hd,xs,rel,dd⟩:=Mw I.hok e
  obtain⟨w',hw,cu⟩:=Fs.some_of (v:=v) (o:=(atKey xs k).map (·.2)) (by rw [l];exact rel.val k)
  obtain⟨p,hp,av⟩:=Yax.mp hw
  refine wpAny_getItem_heap (Ydj hu) (Iq I.hok eb) dd hp ?_
  rw [av]
  exact h w' _ (I.tok _) cu
theorem Qil{Q:Value->Shared->Prop}(hu:A.units+1 < cLine)(I:Inv X aa σ H s)(g:DGet H a y o)(ry:Bh y u)(h:∀s',Inv X aa σ H s'->Q (.bool o.isSome) s') :
  wpAny (model X.prog X.w) A (compareOp .In u (.ref a)) Q E s:=by
 rcases g with⟨kvs,k,e,ey,l⟩ | ⟨kvs,k,b,e,ey,eb,l⟩
 ·subst ey
  obtain⟨z,hd,vs,rel,dd⟩:=Ku I.hok e
  refine wpAny_in_of (Kr ry) hd dd.mapOf ?_
  rw [<- (rel.val k).isSome_eq,<- l]
  exact h _ (I.tok _)
 ·subst ey
  cases (show u=Value.ref b from ry)
  obtain⟨z,hd,xs,rel,dd⟩:=Mw I.hok e
  refine wpAny_in_heap (Ydj hu) (Iq I.hok eb) hd dd ?_
  have q:=(rel.val k).isSome_eq
  rw [Option.isSome_map]at q
  rw [<- q,<- l]
  exact h _ (I.tok _)
theorem Xd{Q:Value->Shared->Prop}(hu:A.units+1 < cLine)(I:Inv X aa σ H s)(g:DGet H a y o)(ry:Bh y u)(h:∀s',Inv X aa σ H s'->Q (.bool (!o.isSome)) s') :
  wpAny (model X.prog X.w) A (compareOp .NotIn u (.ref a)) Q E s:=by
 rcases g with⟨kvs,k,e,ey,l⟩ | ⟨kvs,k,b,e,ey,eb,l⟩
 ·subst ey
  obtain⟨z,hd,vs,rel,dd⟩:=Ku I.hok e
  refine wpAny_notIn_of (Kr ry) hd dd.mapOf ?_
  rw [<- (rel.val k).isSome_eq,<- l]
  exact h _ (I.tok _)
 ·subst ey
  cases (show u=Value.ref b from ry)
  obtain⟨z,hd,xs,rel,dd⟩:=Mw I.hok e
  refine wpAny_notIn_heap (Ydj hu) (Iq I.hok eb) hd dd ?_
  have q:=(rel.val k).isSome_eq
  rw [Option.isSome_map]at q
  rw [<- q,<- l]
  exact h _ (I.tok _)
theorem Lw{h':Heap}{t':Nat}{ob:HO}(I:Inv X aa σ H s)(mu:Mut (H a))(hs:Heap.SameBut a s.heap h')(he:∃q,h'.get? a=some q)(new:Bn X.prog X.w (upd H a ob) h' a ob) :
  Inv X aa σ (upd H a ob) { s with heap:=h',toks:=t' } :=
 I.write (x:=a) (e:=a) mu (.inl rfl) (λb q hb z=>(hs.2 b hb).trans z) he new
theorem Tf{P:Program}{w:World}{H':Hp}{h':Heap}{kvs:List (Key×V)}{vs:List (Key×Value)}(z:kvs.length<=sizeLine)(hd:(a==sysModules)=false)(rel:KV kvs vs)(dd:h'.DictOf (B2 P w) a vs) :
  Bn P w H' h' a (.dK kvs):=⟨z,hd,vs,rel,dd⟩
theorem Qz{H':Hp}{Q:Unit->Shared->Prop}(hu:A.units+1 < cLine)(I:Inv X aa σ H s)(g:DPut H a y v H')(ry:Bh y u)(rv:Bh v r)(h:∀s',Inv X aa σ H' s'->Q () s') :
  wpAny (model X.prog X.w) A (setItem (.ref a) u r) Q E s:=by
 rcases g with⟨kvs,k,e,ey,l,eH⟩ | ⟨kvs,k,b,e,ey,eb,l,eH⟩
 ·subst ey eH
  obtain⟨z,hd,vs,rel,dd⟩:=Mv I.hok e
  have hz:vs.length<=sizeLine:=by rw [<- rel.length];exact z
  have hl:(D8 kvs k v).length<=sizeLine:=by have:=E6 kvs k v;omega
  refine wpAny_setItem_pairs (hsz:=hz) (Kr ry) dd λh' j4 hs=>h _ ?_
  have he:∃q,h'.get? a=some q:=let⟨q,_,_,hq,_⟩:=j4;⟨q,hq⟩
  exact Lw I (by rw [e];exact True.intro) hs he (Tf hl hd (rel.put k rv) j4)
 ·subst ey eH
  cases (show u=Value.ref b from ry)
  obtain⟨z,hd,xs,rel,dd⟩:=Qen I.hok e
  have hz:xs.length<=sizeLine:=by rw [<- Yc5 rel];exact z
  have hl:(D8 kvs k v).length<=sizeLine:=by have:=E6 kvs k v;omega
  refine wpAny_setItem_heap (hsz:=hz) (Ydj hu) (Iq I.hok eb) dd λh' j4 hs=>h _ ?_
  obtain⟨q,es,ep,hq,h2,h3,h4,_,h5⟩:=j4
  refine Lw I (by rw [e];exact True.intro) hs ⟨q,hq⟩ ⟨hl,hd,_,(rel.put k eb rv).keeps λc ys ec=>?_,q,es,ep,hq,h2,h3,h4,h5⟩
  rw [Az (Mq ec e (λz=>nomatch z))]
  exact ec
end
section
variable {X:Cx}{aa:List (Addr×Obj)}{σ:St}{H:Hp}{s:Shared}{a:Addr}{kvs:List (Key×V)}{k:Key}{u:Value}{A:Around}{E:Value->Shared->Prop}
theorem Qeo{Q:Value->Shared->Prop}(I:Inv X aa σ H s)(e:Rd H a (.dK kvs))(h:∀t s',Inv X aa σ H s'->Q (.int kvs.length t) s'):wpAny (model X.prog X.w) A (call (.builtin "len") [.ref a]) Q E s:=by
 obtain⟨z,hd,vs,rel,dd⟩:=Ku I.hok e
 refine call_len_dict hd dd (by rw [<- rel.length];rw [sizeLine_eq]at z;omega) ?_
 rw [<- rel.length]
 exact h _ _ (I.tok _)
end
def Qbe(i:Expr):Prop:=∀ov iv,subscripted i false ov iv=operate [ov,iv] (getItem ov iv)
theorem Xe{prog:Program}{w:World}{A:Around}{E:Value->Shared->Prop}{s:Shared}{env:Env}{value slice:Expr}{pos:Pos}{T id:String}{Q:Value->Shared->Prop}
  (hl:typeLookup (.type T) "__getitem__" = pure (some (.builtin id))) (hs:Qbe slice)
  (h:wpAny (model prog w) A (eval value env) (λo s₁=>wpAny (model prog w) A (eval slice env) (λi s₂=>s₂.TypeIs o T/\wpAny (model prog w) A (getItem o i) Q E s₂) E s₁) E s) :
  wpAny (model prog w) A (eval (.Subscript value slice pos) env) Q E s:=by
 refine Subscript_ (Yby h (λo s₁ h₁=>Yby h₁ (λi s₂ h₂=>?_) λ_ _ x=>x) λ_ _ x=>x)
 obtain⟨hT,h₂⟩:=h₂
 unfold subscriptTail
 refine Yab ?_
 rw [getitemInPython_of_ne hT.not_modules]
 refine Yab (wpAny_specialOf hT hl ?_)
 have fin:wpAny (model prog w) A (subscripted slice false o i) (λr s₃=>wpAny (model prog w) A (letTemporaryGo value o r >>= λ_=>pure r) Q E s₃) E s₂:=by
  rw [hs o i]
  exact wpAny_operating (Yby h₂ (λr s₃ h₃=>Yab (wpAny_letTemporaryGo (Yad h₃))) λ_ _ x=>x)
 first
  | exact Yad (Yab fin)
  | exact Yab (Yad (Yab fin))
  | exact Yab fin
theorem Mx{X:Cx}{aa:List (Addr×Obj)}{σ:St}{H:Hp}{s:Shared}{a:Addr}{y:V}{o:Option V}(I:Inv X aa σ H s)(g:DGet H a y o):s.TypeIs (.ref a) "dict" := by
 rcases g with⟨kvs,k,e,_,_⟩ | ⟨kvs,k,b,e,_,_,_⟩
 ·obtain⟨_,_,vs,_,dd⟩:=Ku I.hok e
  exact dd.typeIs
 ·obtain⟨_,_,xs,_,dd⟩:=Mw I.hok e
  exact dd.typeIs
def Qep(td ty:TE):TE:=fun σ H Q=>td σ H λx H1=>ty σ H1 λy H2=>∃a v,x=.ref a/\DGet H2 a y (some v)/\Q v H2
def Qeq(ty td:TE):TE:=fun σ H Q=>ty σ H λy H1=>td σ H1 λx H2=>∃a o,x=.ref a/\DGet H2 a y o/\Q (.bl o.isSome) H2
def Pb(ty td:TE):TE:=fun σ H Q=>ty σ H λy H1=>td σ H1 λx H2=>∃a o,x=.ref a/\DGet H2 a y o/\Q (.bl (!o.isSome)) H2
def Qer(td ty tv:TE):TS:=λD σ H=>tv σ H λv H1=>td σ H1 λx H2=>ty σ H2 λy H3=>∃a H4,x=.ref a/\DPut H3 a y v H4/\D.nx σ H4
section
variable {X:Cx}{o i e value:Expr}{pos bu kj:Pos}{td ty tv:TE}
theorem Xf(hu:X.A.units+1 < cLine)(ho:PE X o td)(hi:PE X i ty)(hs:Qbe i):PE X (.Subscript o i pos) (Qep td ty):=by
 intro aa s σ H Q I h
 refine Xe PySem.F.slot_dict_getitem.lookup hs (thn (ho aa s σ H _ I h) λu s1 mq=>Cd mq λx H1 I1 rx q1=>thn (hi aa s1 σ H1 _ I1 q1) λiv s2 um=>?_)
 obtain⟨y,H2,I2,ry,a,v,ex,g,q2⟩:=um
 subst ex
 obtain rfl:u=Value.ref a:=rx
 exact⟨Mx I2 g,Qx hu I2 g ry λw' s3 I3 cu=>⟨v,H2,I3,cu,q2⟩⟩
theorem Tg(hu:X.A.units+1 < cLine)(hi:PE X i ty)(ho:PE X o td):PC X .In i o (Qeq ty td):=by
 intro aa s σ H Q I h
 refine thn (hi aa s σ H _ I h) λiv s1 qu=>Cd qu λy H1 I1 ry q1=>thn (ho aa s1 σ H1 _ I1 q1) λu s2 ub=>?_
 obtain⟨x,H2,I2,rx,a,ov,ex,g,q2⟩:=ub
 subst ex
 obtain rfl:u=Value.ref a:=rx
 exact Qil hu I2 g ry λs3 I3=>⟨.bl ov.isSome,H2,I3,rfl,q2⟩
theorem Q0(hu:X.A.units+1 < cLine)(hi:PE X i ty)(ho:PE X o td):PC X .NotIn i o (Pb ty td):=by
 intro aa s σ H Q I h
 refine thn (hi aa s σ H _ I h) λiv s1 ui=>Cd ui λy H1 I1 ry q1=>thn (ho aa s1 σ H1 _ I1 q1) λu s2 sm=>?_
 obtain⟨x,H2,I2,rx,a,ov,ex,g,q2⟩:=sm
 subst ex
 obtain rfl:u=Value.ref a:=rx
 exact Xd hu I2 g ry λs3 I3=>⟨.bl (!ov.isSome),H2,I3,rfl,q2⟩
theorem Xg(hu:X.A.units+1 < cLine)(ho:PE X o td)(hi:PE X i ty)(hv:PE X value tv)(hs:swapsWith value (some (.Subscript o i bu)) pos.line X.env=pure false) :
  PS X (.Assign [.Subscript o i bu] value pos) (Qer td ty tv):=by
 intro aa s σ H D I h
 refine wpAny_Assign_Subscript (thn (hv aa s σ H _ I h) λr s1 qv=>Cd qv λv H1 I1 rv q1=>thn (ho aa s1 σ H1 _ I1 q1) λu s2 pb=>Cd pb λx H2 I2 rx q2=>thn (hi aa s2 σ H2 _ I2 q2) λiv s3 qp=>?_) hs
 obtain⟨y,H3,I3,ry,a,H4,ex,g,q3⟩:=qp
 subst ex
 obtain rfl:u=Value.ref a:=rx
 exact Qz hu I3 g ry rv λs4 I4=>⟨σ,H4,I4,q3⟩
end
theorem My{P:Program}{w:World}{H:Hp}(h:Heap)(hb:sysModules < h.objs.size):Bn P w H (h.push { cls:=.type "dict",data:=.dict #[] }) h.objs.size (.dK []) :=
 ⟨Yb0 _,Ycl.mpr (Ydc (Ya6 hb)),[],.nil,Heap.DictOf.new h⟩
def Qbf:TE:=λ_ H Q=>∀p,H p=none->Q (.ref p) (upd H p (.dK []))
section
variable {X:Cx}{pos:Pos}
theorem Th:PE X (.Dict [] [] pos) Qbf:=λaa s σ H Q I h =>
 wpAny_Dict_empty ⟨.ref s.heap.objs.size,_,I.laid (a:=s.heap.objs.size) (o:=.dK []) (t':=s.toks) (λ_ _ q=>Heap.get?_push_of_some _ q) (Yag _) (My s.heap I.big),rfl,h _ (I.hok.fresh (Yag _))⟩
end
def Lx:List (TE×TE)->St->Hp->(List (V×V)->Hp->Prop)->Prop
 | [],_,H,Q=>Q [] H
 | (tk,tv) :: r,σ,H,Q=>tk σ H λx H1=>tv σ H1 λy H2=>Lx r σ H2 λps H3=>Q ((x,y) :: ps) H3
abbrev VV:List (V×V)->List (Value×Value)->Prop:=Paired λp q=>Bh p.1 q.1/\Bh p.2 q.2
def PPs(X:Cx)(pos:Pos)(keys:List (Option Expr))(bf:List Expr)(ja:List (TE×TE)):Prop :=
 ∀(aa:List (Addr×Obj)) (s:Shared) (σ:St) (H:Hp) (Q:List (V×V)->Hp->Prop),Inv X aa σ H s->Lx ja σ H Q ->
  wpAny (model X.prog X.w) X.A (evalPairs (pairTrees keys bf X.env pos)) (λvs s'=>∃ps H',Inv X aa σ H' s'/\VV ps vs/\Q ps H') X.xe s
theorem Xh{X:Cx}{pos:Pos}:PPs X pos [] [] []:=λaa s σ H Q I h=>pairTrees_nil_walk ⟨[],H,I,.nil,h⟩
theorem Ti{X:Cx}{pos:Pos}{k v:Expr}{ks:List (Option Expr)}{vs:List Expr}{tk tv:TE}{ja:List (TE×TE)}(hk:PE X k tk)(hv:PE X v tv)(hr:PPs X pos ks vs ja) :
  PPs X pos (some k :: ks) (v :: vs) ((tk,tv) :: ja):=λaa s σ H Q I h =>
 pairTrees_cons_walk (thn (hk aa s σ H _ I h) λu s1 nt=>Cd nt λx H1 I1 rx q1=>thn (hv aa s1 σ H1 _ I1 q1) λw2 s2 ot=>Cd ot λy H2 I2 ry q2 =>
  thn (hr aa s2 σ H2 _ I2 q2) λws s3 mi=>Cd mi λps H3 I3 rel q3=>⟨(x,y) :: ps,H3,I3,.cons ⟨rx,ry⟩ rel,q3⟩)
def Ge(kvs more:List (Key×V)):List (Key×V):=more.foldl (λah kv=>D8 ah kv.1 kv.2) kvs
theorem KV.merge:∀{more:List (Key×V)} {rs:List (Key×Value)} {kvs:List (Key×V)} {vs:List (Key×Value)},KV more rs->KV kvs vs->KV (Ge kvs more) (merged vs rs):=by
 intro more rs kvs vs r
 unfold KV at r
 induction r generalizing kvs vs with
 | nil=>intro q;exact q
 | @cons p q ps qs h t ih =>
  intro r0
  have e:KV (D8 kvs p.1 p.2) (stored vs q.1 q.2):=by
   have:=r0.put p.1 h.2
   rw [<- h.1];exact this
  exact ih e
theorem Fz:∀(more kvs:List (Key×V)),(Ge kvs more).length<=kvs.length+more.length
 | [],kvs=>by show kvs.length<=kvs.length+0;omega
 | p :: r,kvs=>by
  have h1:=Fz r (D8 kvs p.1 p.2)
  have h2:=E6 kvs p.1 p.2
  show(Ge (D8 kvs p.1 p.2) r).length<=_
  rw [Yba];omega
theorem Ir{P:Program}{w:World}:∀{kvs:List (Key×V)} {ws:List (Value×Value)},VV (kvs.map λkv=>(kV kv.1,kv.2)) ws->∃rs,Carries (B2 P w) ws rs/\KV kvs rs
 | [],_,r=>by rw [Yc1]at r;cases r;exact⟨[],True.intro,.nil⟩
 | p :: kvs,_,r=>by
  rw [Ya7]at r
  cases r with
  | @cons a b as bs h t =>
   obtain⟨rs,c,q⟩:=Ir (P:=P) (w:=w) t
   obtain⟨b1,b2⟩:=b
   exact⟨(p.1,b2) :: rs,⟨Kr h.1,rfl,c⟩,.cons ⟨rfl,h.2⟩ q⟩
def Qes(ja:List (TE×TE)):TE:=fun σ H Q=>∀p,H p=none->Lx ja σ (upd H p (.dK [])) λps H2=>H2 p=some (.dK [])/\∃kvs:List (Key×V),ps=kvs.map (λkv=>(kV kv.1,kv.2))/\kvs.length<=15/\Q (.ref p) (upd H2 p (.dK (Ge [] kvs)))
theorem Xi{X:Cx}{pos:Pos}{keys:List (Option Expr)}{bf:List Expr}{ja:List (TE×TE)}(h:PPs X pos keys bf ja)(il:keys.all (·.isSome)=true)(hl:keys.length=bf.length)(h0:keys≠[])
  (zm:keys.length<=15):PE X (.Dict keys bf pos) (Qes ja):=by
 intro aa s σ H Q I q
 have hn:=I.hok.fresh (Yag s.heap.objs.size)
 have I1:=I.laid (a:=s.heap.objs.size) (o:=.dK []) (h':=s.heap.push { cls:=.type "dict",data:=.dict #[] }) (t':=s.toks) (λ_ _ q=>Heap.get?_push_of_some _ q) (Yag _) (My s.heap I.big)
 refine wpAny_Dict_walk (knd:=B2 X.prog X.w) il hl h0 zm (thn (h aa _ σ _ _ I1 (q _ hn)) λws s2 tf=>?_)
 obtain⟨ps,H2,I2,rel,e,kvs,ep,lk,q2⟩:=tf
 subst ep
 obtain⟨rs,c,rk⟩:=Ir (P:=X.prog) (w:=X.w) rel
 obtain⟨z,hd,vs0,r0,dd⟩:=Mv I2.hok e
 cases r0
 refine⟨rs,c,dd,λh' j4 hs=>⟨.ref s.heap.objs.size,_,?_,rfl,q2⟩⟩
 have hz:(Ge [] kvs).length<=sizeLine:=by
  have h1:=Fz kvs []
  rw [Yck]at h1
  rw [sizeLine_eq];omega
 have he:∃q,h'.get? s.heap.objs.size=some q:=let⟨q,_,_,hq,_⟩:=j4;⟨q,hq⟩
 exact Lw I2 (by rw [e];exact True.intro) hs he (Tf hz hd (rk.merge .nil) j4)
section
variable {X:Cx}{aa:List (Addr×Obj)}{σ:St}{H:Hp}{s:Shared}{a:Addr}{y d:V}{u r:Value}{o:Option V}{A:Around}{E:Value->Shared->Prop}
end
section
variable {X:Cx}{o e f:Expr}{bh aq:Pos}{td ty tx:TE}
end
section
variable {X:Cx}{aa:List (Addr×Obj)}{σ:St}{H:Hp}{s:Shared}{a:Addr}{kvs:List (Key×V)}{A:Around}{E:Value->Shared->Prop}
end
section
variable {X:Cx}{aa:List (Addr×Obj)}{σ:St}{H:Hp}{s:Shared}{a:Addr}{y:V}{u:Value}{A:Around}{E:Value->Shared->Prop}
end
end L2
namespace Att
open PySem PySem.W PySem.Calls PyProof.Rows
theorem Hu{P:Params}{h:Heap}:∀(ns:List Int) (vs:List Value),WellAll P h vs (ns.map WData.int)->IntsAre vs ns:=by
 intro ns
 induction ns with
 | nil =>
  intro vs w
  rw [Yc1]at w
  cases w
  exact .nil
 | cons n ns ih =>
  intro vs w
  rw [Ya7]at w
  cases w with
  | cons a b =>
   cases a
   exact .cons _ _ (ih _ b)
theorem Q9{l:OpenLaw}{n:Nat}(hn:l.most=some n){P:Params}{h:Heap}{args:List WData}{ie:List Value}
  (jm:l.row.toRowW.claim.pre args=true) (hwl:WellAll P h ie args) :
  ∃a vs ns,ie=[Value.ref a]/\args=[WData.list (ns.map WData.int)]/\h.get? a=some { cls:=.type "list",data:=.seq vs.toArray }/\IntsAre vs ns/\ns.length<=n:=by
 have hsh:WShape.hasAll [] args [.list .int]=true:=(pre_splitW jm).1
 have hc:l.pre.holds [] { args:=args }=true:=(pre_splitW jm).2
 obtain⟨d,r,rfl,h1,h2⟩:=hasAllW_cons hsh
 obtain rfl:=hasAllW_nil h2
 obtain⟨xs,rfl,h3⟩:=hasW_list h1
 obtain⟨ns,rfl⟩:=items_int h3
 have am:ns.length<=n:=by
  unfold OpenLaw.pre at hc
  have h4:(WTm.not (.lt (.lit (.int (n:Int))) (.len (.arg 0)))).holds [] { args:=[.list (ns.map .int)] }=true:=by
   have h4:=(holds_andW hc).1
   rw [hn]at h4
   exact h4
  have h5:=condW_of h4 (w_not (w_lt w_lit (w_len_list (w_arg rfl))))
  rw [Yaa]at h5
  refine Nat.le_of_not_lt λq=>?_
  have q':(n:Int) < ((ns.length:Nat):Int):=by omega
  first
   | (rw [Yaj q']at h5;exact absurd h5 (by decide))
   | (simp at h5;omega)
 cases hwl with
 | cons w1 w2 =>
  cases w2
  cases w1 with
  | list ho il=>exact⟨_,_,ns,rfl,rfl,ho,Hu ns _ il,am⟩
theorem Ra(l:OpenLaw)(args:List WData):l.row.toRowW.claim.post args (.bool true) args=true :=
 postW_of (r:=l.row.toRowW) (X:=(true==true))
  (show WShape.has [] (.bool true) .bool=true by first | rfl | decide | simp [WShape.has,WShape.arms,WShape.armsAll])
  (show(WTm.eq .res (.lit (.bool true))).value [] { args:=args,res:=some (.bool true),after:=args }=some (.bool (true==true)) from w_eq_bool (w_res rfl) w_lit) rfl
theorem attach_call{l:OpenLaw}{n:Nat}{q:Program}{dy:List Str}{XP:(Str->Option Value)->Heap->Prop}{YP:World->Heap->Prop}{d:DefRec}
  (hn:l.most=some n) (mn:d.params.defaults=[])
  (call:∀(w:World) (s₀ s₁:Shared) (mg mb:Str->Option Value) (fa:Addr) (o:Obj) (pm cd d7:Value) (a:Addr) (vs:List Value) (ns:List Int),
   Ground q dy [] XP w s₀ mg mb s₁.heap->YP w s₁.heap ->
   s₁.heap.get? fa=some o->o.data=.func (docDef d.name d.params d.body d.scope pm cd d7)->s₁.heap.CodeRec cd d.name->mg d.name=some (.ref fa) ->
   s₁.heap.get? a=some { cls:=.type "list",data:=.seq vs.toArray }->IntsAre vs ns->ns.length<=n->s₁.gens=#[] ->
   codeAny (model l.prog w) callerA (.call (.ref fa) ⟨[.ref a],[]⟩) (λr s'=>r=.ok (.ret (.bool true))/\OldK s₁.heap s'.heap/\s'.os=s₁.os/\AllBare s'.gens) s₁) :
  WalkO q dy XP YP l.row.toRowW d [] (λf vs=>PySem.call f vs):=by
 intro w s₀ s₁ mg mb G Y fa o pm cd d7 dV kV ho hd d9 hD hmg hg args ie as jm hlay hrd hwl va
 obtain rfl:dV=.none:=Dflts.none hD mn
 obtain rfl:kV=.none:=Dflts.noKw hD
 obtain⟨a,vs,ns,rfl,rfl,hobj,hints,am⟩:=Q9 hn jm hwl
 refine enter_call (Yei (call w s₀ s₁ mg mb fa o pm cd d7 a vs ns G Y ho (fd_plain hd) d9 hmg hobj hints am hg) λr s' hq=>?_)
 obtain⟨rfl,h2,h3,h4⟩:=hq
 exact⟨.inl ⟨.bool true,.bool true,[],rfl,λ_=>rfl,.bool true,Ra l _,λ_=>⟨List.Pairwise.nil,λ_ hm=>(nomatch hm)⟩⟩,h2,h3,h4⟩
section
variable {prog:Program}{w:World}{A:Around}{E:Value->Shared->Prop}{s:Shared}{K:Frag}
end
end Att
namespace L2
open PySem PySem.Spec PyProof.Rows
theorem Kv:∀{vs:List Value} {ns:List Int},IntsAre vs ns->Vals (ns.map V.int) vs
 | _,_,.nil=>.nil
 | _,_,.cons n t h=>.cons ⟨t,rfl⟩ (Kv h)
def Only(H:Hp):Prop:=∀b,H b=none\/∃o xs,H b=some (.frz o (.lst xs))
theorem Tj{P:Program}{w:World}{K:PySem.W.Frag}{mg mb:Str->Option Value}{CX:CXT}{k:Nat}{fa a:Addr}{fd:FuncData}{x:Str}{sp:Sp}{s₁:Shared}{vs:List Value}{ns:List Int}
  (KX:K.In s₁.heap) (et:s₁.heap.Ns mainGlobals mg) (hb:s₁.heap.Ns builtinsNs mb) (hbb:∀x:Str,x ≠ "__name__" -> mb x=bootBuiltins x) (wb:s₁.heap.NoLimit) (hg:s₁.gens=#[])
  (ha:s₁.heap.get? a=some { cls:=.type "list",data:=.seq vs.toArray }) (hi:IntsAre vs ns) (hl:ns.length<=sizeLine) (hr:Room k callerA)
  (F:∀base:Heap,K.In base->base.Ns mainGlobals mg->FnOk P w K mg base CX k fa fd [x] sp) (rg:∀(s:Shared) (u:Value),BindsTo s fd ⟨[u],[]⟩ [(x,u)])
  (gl:∀H:Hp,Only H->Ei K H a (ns.map V.int)->sp [.ref a] H (λv _=>v=.bl true) λ_ _ _=>False)
  (zc:∀H e s',CX [] H s₁ (λ_ _ _=>False) e s'->False) :
  codeAny (model P w) callerA (.call (.ref fa) ⟨[.ref a],[]⟩) (λr s'=>r=.ok (.ret (.bool true))/\OldK s₁.heap s'.heap/\s'.os=s₁.os/\AllBare s'.gens) s₁:=by
 have rv:=Kv hi
 have xb:=hi.length
 have ai:∀H:Hp,Only H->Ei K H a (ns.map V.int)->HOk P w H s₁.heap->(∀b,H b≠none->b=a)->(H a≠none->K.lookup a=none) ->
   codeAny (model P w) callerA (.call (.ref fa) ⟨[.ref a],[]⟩) (λr s'=>r=.ok (.ret (.bool true))/\OldK s₁.heap s'.heap/\s'.os=s₁.os/\AllBare s'.gens) s₁:=by
  intro H hO hS hok hA hK
  have gi:∀{b:Addr} {o:Obj},s₁.heap.get? b=some o->H b=none->(Lk s₁.heap H).get? b=some o:=λe n=>Sf e n
  have t9:∀{b:Addr} {o:Obj} {es:Array DictEntry} {ep:Nat},s₁.heap.get? b=some o->o.data=.dict es ep->H b=none:=λ{b o es ep} e d=>by
   cases q:H b with
   | none=>rfl
   | some u =>
    have e':b=a:=hA b (by rw [q];simp)
    subst e'
    rw [ha]at e;cases e
    have d':Data.seq vs.toArray _=Data.dict es ep:=d
    cases d'
  have u8:∀{b:Addr} {m:Str->Option Value},s₁.heap.Ns b m->(Lk s₁.heap H).Ns b m:=λ{b m} ⟨o,es,ep,e,d,r⟩=>⟨o,es,ep,gi e (t9 e d),d,r⟩
  have hKb:K.In (Lk s₁.heap H):=λb o e=>gi (KX b o e) (by
   cases q:H b with
   | none=>rfl
   | some u =>
    have e':b=a:=hA b (by rw [q];simp)
    subst e'
    rw [hK (by rw [q];simp)]at e;cases e)
  have hM:Mod K mg (Lk s₁.heap H):=⟨hKb,u8 et,⟨mb,u8 hb,hbb⟩,let⟨mc,h1,h2⟩:=wb;⟨mc,u8 h1,h2⟩⟩
  have e0:Env0 P w K mg (Lk s₁.heap H) callerA [] s₁ H:=⟨rfl,hM,λb o e=>Wr e,Nat.le_of_eq (Qo _ _),trivial,λb hb=>absurd (show b∈([]:List Addr) from hb) (by simp),hok,.of_eq hg⟩
  refine Yei ((F _ hKb (u8 et)).run callerA [] s₁ H ⟨[.ref a],[]⟩ [.ref a] [.ref a] _ _ hr e0 (rg s₁ (.ref a)) (.cons rfl .nil) (gl H hO hS)) λr s' h=>?_
  cases r with
  | error e=>exact(zc H e s' h).elim
  | ok fl =>
   cases fl with
   | next=>exact False.elim h
   | brk=>exact False.elim h
   | cont=>exact False.elim h
   | ret u =>
    obtain⟨v,H',os,bare,un,hok',r',q⟩:=h
    have q':v=.bl true:=q
    subst q'
    obtain rfl:u=Value.bool true:=r'
    refine⟨rfl,OldK.of_keep λb o e=>?_,os,bare⟩
    cases q:H b with
    | none=>exact un.keep b o e q (by intro z;exact absurd (show b∈([]:List Addr) from z) (by simp)) (by simp)
    | some u =>
     rcases hO b with z | ⟨ob,xs,z⟩
     ·rw [q]at z;cases z
     ·have z2:=un.frzs b ob _ z
      obtain⟨e1,_⟩:=hok b _ z
      obtain⟨e2,_⟩:=hok' b _ z2
      rw [e]at e1;cases e1
      exact e2
 cases hk:K.lookup a with
 | some o =>
  have e:=KX a o hk
  rw [ha]at e
  cases e
  refine ai (λ_=>none) (λ_=>.inl rfl) (.inr ⟨_,vs.toArray,_,hk,rfl,rfl,rfl,by rw [Yal,xb];exact hl,by simpa using rv⟩) (λb u z=>by have z':(none:Option HO)=some u:=z;cases z') (λb z=>absurd rfl z) λz=>absurd rfl z
 | none =>
  refine ai (λb=>if b=a then some (.frz { cls:=.type "list",data:=.seq vs.toArray } (.lst (ns.map V.int))) else none) (λb=>?_) (.inl (.inr ⟨{ cls:=.type "list",data:=.seq vs.toArray },Yaw rfl⟩)) (λb u z=>?_) (λb z=>?_) λ_=>hk
  ·by_cases hb:b=a
   ·exact .inr ⟨_,_,Yaw hb⟩
   ·exact .inl (Yar hb)
  ·by_cases hb:b=a
   ·have z':=(Yaw hb).symm.trans z
    cases z'
    subst hb
    exact⟨ha,by rw [Yaa];exact hl,vs,_,rv,ha⟩
   ·have z':=(Yar hb).symm.trans z
    cases z'
  ·by_cases hb:b=a
   ·exact hb
   ·exact absurd (Yar hb) z
theorem walk_of{l:PySem.W.OpenLaw}{n k:Nat}{q:Program}{dy:List Str}{XP:(Str->Option Value)->Heap->Prop}{YP:World->Heap->Prop}{d:DefRec}{K:Params->PySem.W.Frag}{CX:World->CXT}{sp:World->Sp}{x:Str}
  (hn:l.most=some n) (iq:n<=sizeLine) (mn:d.params.defaults=[]) (hr:Room k callerA)
  (hY:∀(w:World) (h:Heap),YP w h->(K w.params).In h)
  (F:∀(w:World) (mg:Str->Option Value) (fa:Addr) (h:Heap),(K w.params).In h->h.Ns mainGlobals mg->mg d.name=some (.ref fa) ->
   ∃fd:FuncData,(∀(s:Shared) (u:Value),BindsTo s fd ⟨[u],[]⟩ [(x,u)]) /\
    ∀base:Heap,(K w.params).In base->base.Ns mainGlobals mg->FnOk l.prog w (K w.params) mg base (CX w) k fa fd [x] (sp w))
  (gl:∀(w:World) (H:Hp) (a:Addr) (ns:List Int),ns.length<=n->Only H->Ei (K w.params) H a (ns.map V.int)->sp w [.ref a] H (λv _=>v=.bl true) λ_ _ _=>False)
  (zc:∀(w:World) (H:Hp) (s:Shared) (e:Value) (s':Shared),CX w [] H s (λ_ _ _=>False) e s'->False) :
  PySem.W.WalkO q dy XP YP l.row.toRowW d [] (λf vs=>PySem.call f vs):=by
 refine Att.attach_call hn mn λw s₀ s₁ mg mb fa o pm cd d7 a vs ns G Y ho hd d9 hmg hobj hints am hg=>?_
 have KX:=hY w _ Y
 obtain⟨fd,hb,hF⟩:=F w mg fa _ KX G.T.g hmg
 exact Tj KX G.T.g G.T.b G.T.builtins G.T.nolimit hg hobj hints (Yap am iq) hr hF hb (λH hO hS=>gl w H a ns am hO hS) λH e s'=>zc w H s₁ e s'
def Bi(s:Stmt):Arguments:=match s with
 | .FunctionDef _ a _ _ _ _ _ _ _ _=>a
 | _=>{ posonlyargs:=[],args:=[],vararg:=none,kwonlyargs:=[],kw_defaults:=[],kwarg:=none,defaults:=[] }
def Bb(s:Stmt):List Stmt:=match s with
 | .FunctionDef _ _ b _ _ _ _ _ _ _=>b
 | _=>[]
def Ai(s:Stmt):Scope:=match s with
 | .FunctionDef _ _ _ _ _ _ sc _ _ _=>sc
 | _=>{ kind:=.function,names:=[],isGenerator:=false,isCoroutine:=false }
abbrev Fh:CXT:=λ_ _ _ _ _ _=>False
abbrev E0:XK:=λ_ _ _=>False
theorem Y0{X:Cx}:Passes Fh X E0:=λ_ _ _ _ _ _ _ h=>h.elim
structure Fun(K:PySem.W.Frag)(x qual:Str)(st:Stmt)(f:Addr)(fd:FuncData):Prop where
 ex:∃(oc:Value) (od:Option Addr) (kV d7 pm:Value) (an:Option Addr) (aw ct:Value) (jf:Array (Option Value)),
  fd=PySem.W.fnOf x qual (Bi st) (Bb st) (Ai st) .none kV d7 pm an aw ct/\K.lookup f=some ⟨oc,od,.func fd,jf⟩/\PySem.W.codeIn K aw qual=true
 kp:PySem.W.keepIn K (.ref f)=true
section
variable {P:Program}{w:World}{K:PySem.W.Frag}{mg:Str->Option Value}{base:Heap}
theorem Fun.ok{x qual:Str}{st:Stmt}{f:Addr}{fd:FuncData}{N ps:List Str}{k:Nat}{sp:Sp}(F:Fun K x qual st f fd)(S:FnScope N ps (Ai st))(len:∀vs H Q E,sp vs H Q E->vs.length=ps.length)
  (cq:∀(aw:Value) (A:Around) (outer:List Env) (s:Shared) (H:Hp) (vs:List V) (Q:VK) (E:XK),Room k (A.deeper (envOfC qual (Ai st) s.heap.objs.size f aw))->sp vs H Q E ->
   ∃t,PSs (Ht Fh P w K mg base N qual (Ai st) f aw A outer s H E).nox (Bb st) t/\t { nx:=λ_ H'=>Q .non H',rt:=Q } (start N vs) H):FnOk P w K mg base Fh (k+1) f fd ps sp:=by
 obtain⟨oc,od,kV,d7,pm,an,aw,ct,jf,rfl,lk,d9⟩:=F.ex
 refine Yy lk d9 S len λA outer s H vs Q E hr gl=>?_
 obtain⟨t,h,q⟩:=cq aw A outer s H vs Q E hr gl
 exact⟨t,h.nox,q⟩
theorem Fun.binds{x qual:Str}{st:Stmt}{f:Addr}{fd:FuncData}{ps:List Str}(F:Fun K x qual st f fd)
  (h:∀(kV d7 pm:Value) (an:Option Addr) (aw ct:Value) (us:List Value),us.length=ps.length->bindArgs (PySem.W.fnOf x qual (Bi st) (Bb st) (Ai st) .none kV d7 pm an aw ct) ⟨us,[]⟩=pure (ps.zip us)):Binds K fd ps []:=by
 obtain⟨oc,od,kV,d7,pm,an,aw,ct,jf,rfl,lk,d9⟩:=F.ex
 exact .all (h kV d7 pm an aw ct)
theorem B4{x qual:Str}{st:Stmt}{f:Addr}{oc:Value}{od an:Option Addr}{jf:Array (Option Value)}{kV d7 pm aw ct:Value}(l:K.lookup f=some ⟨oc,od,.func (PySem.W.fnOf x qual (Bi st) (Bb st) (Ai st) .none kV d7 pm an aw ct),jf⟩)
  (c:PySem.W.codeIn K aw qual=true) (k:PySem.W.keepIn K (.ref f)=true):Fun K x qual st f (PySem.W.fnOf x qual (Bi st) (Bb st) (Ai st) .none kV d7 pm an aw ct):=⟨⟨oc,od,kV,d7,pm,an,aw,ct,jf,rfl,l,c⟩,k⟩
end
theorem Co{A:Around}{k:Nat}(hr:Room k A):A.units+1 < cLine:=Ycz (Nat.add_le_add_left (by decide:1<=64) _) hr.units
theorem Bt{n:Nat}(h:n<=1000):n < sizeLine:=Ycz h (by decide)
section
variable {X:Cx}
theorem pv(i:Nat){x:Str}{pos:Pos}(hN:X.N[i]?=some x:=by rfl)(hv:Vis X.env.scope x:=by first | exact Or.inl rfl | exact Or.inr (Or.inl rfl) | exact Or.inr (Or.inr rfl))(hd:(x==("__debug__" : Str))=false:=by decide)
  (d9:(x==("__classdict__" : Str))=false:=by decide):PE X (.Name x pos) (Qah i):=Sg hN hv hd d9
theorem Rb:Ec X (.builtin "len") (λxs H Q=>∃a kvs,xs=[V.ref a]/\H a=some (.dK kvs)/\Q (.int kvs.length) H):=by
 intro aa s σ H xs us Q I r h
 obtain⟨a,kvs,rfl,ha,q⟩:=h
 obtain⟨u,rfl,ru⟩:=Dp r
 cases ru
 exact Qeo I (.inl ha) λt s' I'=>⟨.int kvs.length,H,I',⟨t,rfl⟩,q⟩
end
def Same(H H':Hp):Prop:=∀b o,H b=some o->H' b=some o
section
variable {κ:Type} [DecidableEq κ]
end
end L2
set_option maxHeartbeats 4000000
namespace L2
open PySem
def E7(cells:List (Str×Addr)):List (Str×NameKind)->List (Str×Addr)->List (Str×Addr)
 | [],ah=>ah
 | (n,k) :: r,ah=>if k=NameKind.free then E7 cells r ((n,(cells.lookup n).getD 0) :: ah) else E7 cells r ah
theorem F0{scope:Scope}{env:Env}(h:∀x∈scope.names,x.2=.free->∃c,env.cells.lookup x.1=some c) :
  closureFor scope env=pure (E7 env.cells scope.names []):=by
 have fi:∀(names:List (Str×NameKind)) (ah:List (Str×Addr)),(∀x∈names,x.2=.free->∃c,env.cells.lookup x.1=some c) ->
   (do
     let mut cs:=ah
     for (name,kind) in names do
      if kind==.free then cs:=(name,<- cellOf env name) :: cs
     return cs:Sem (List (Str×Addr)))=pure (E7 env.cells names ah):=by
  intro names
  induction names with
  | nil=>intro ah _;rfl
  | cons x r ih =>
   intro ah h
   obtain⟨n,k⟩:=x
   have hr:∀y∈r,y.2=.free->∃c,env.cells.lookup y.1=some c:=λy hy=>h y (Yae _ hy)
   by_cases hk:k=.free
   ·subst hk
    obtain⟨c,hc⟩:=h (n,.free) Yao rfl
    have e:cellOf env n=pure c:=by unfold cellOf;rw [hc]
    have q:=ih ((n,c) :: ah) hr
    simp only [List.forIn_cons,beq_self_eq_true,if_true,e]
    unfold E7
    rw [Yaw rfl,hc]
    exact q
   ·have hb:(k==NameKind.free)=false:=by simpa using hk
    have q:=ih ah hr
    simp only [List.forIn_cons,hb,Bool.false_eq_true,if_false]
    unfold E7
    rw [Yar hk]
    exact q
 exact fi scope.names [] h
theorem Iu{cells:List (Str×Addr)}:∀{names:List (Str×NameKind)} {ah:List (Str×Addr)},
  (∀x∈names,x.2=.free->∃c,cells.lookup x.1=some c)->(∀x c,ah.lookup x=some c->cells.lookup x=some c) ->
  ∀x c,(E7 cells names ah).lookup x=some c->cells.lookup x=some c
 | [],_,_,h,x,c,e=>h x c e
 | (n,k) :: r,ah,hf,h,x,c,e=>by
  unfold E7 at e
  have hr:∀y∈r,y.2=.free->∃c,cells.lookup y.1=some c:=λy hy=>hf y (Yae _ hy)
  by_cases hk:k=.free
  ·rw [Yaw hk]at e
   refine Iu hr (λy d q=>?_) x c e
   obtain⟨c',c9⟩:=hf (n,k) Yao hk
   have c9:cells.lookup n=some c':=c9
   rw [Yd6]at q
   cases hy:y==n with
   | true =>
    rw [hy,c9]at q
    have e1:y=n:=by simpa using hy
    rw [e1,c9]
    exact q
   | false=>rw [hy]at q;exact h y d q
  ·rw [Yar hk]at e
   exact Iu hr h x c e
theorem Gf{cells:List (Str×Addr)}{x:Str}:∀{names:List (Str×NameKind)} {ah:List (Str×Addr)},
  (∃c,ah.lookup x=some c)->∃c,(E7 cells names ah).lookup x=some c
 | [],_,h=>h
 | (n,k) :: r,ah,⟨c,h⟩=>by
  unfold E7
  split
  ·refine Gf ?_
   rw [Yd6]
   cases x==n with
   | true=>exact⟨_,rfl⟩
   | false=>exact⟨c,h⟩
  ·exact Gf ⟨c,h⟩
theorem Gv{cells:List (Str×Addr)}{x:Str}:∀{names:List (Str×NameKind)} {ah:List (Str×Addr)},
  (x,NameKind.free)∈names->∃c,(E7 cells names ah).lookup x=some c
 | (n,k) :: r,ah,h=>by
  unfold E7
  rcases Ybb.mp h with e | e
  ·cases e
   rw [Yaw rfl]
   refine Gf ?_
   rw [Yd6,beq_self_eq_true]
   exact⟨_,rfl⟩
  ·split
   ·exact Gv e
   ·exact Gv e
end L2
namespace PySem
open Sem (wp)
section
variable {prog:Program}{w:World}{A:Around}{E:Value->Shared->Prop}{R:Result->Shared->Prop}{s:Shared}
theorem Mz{d6 cw ar:Expr}{dc:List Expr}{scope:Scope}{pos:Pos}{it ah:Value}{env:Env}(I:Nat->Shared->Prop)
  (turn:∀n s,I n s->wpAny (model prog w) A (pyNext it) (λr s₁=>match r with
   | none=>R (.ok .next) s₁
   | some v=>wpAny (model prog w) A (letOwnedTupleGo cw it v) (λ_ s₁'=>wpAny (model prog w) A (assign cw env v) (λ_ s₂ =>
     wpAny (model prog w) A (forIn dc true λc r=>if r=true then do let ok <- isTrue c env (eval c env);pure (ForInStep.yield ok) else pure (ForInStep.yield r)) (λok s₃ =>
      if ok=true then wpAny (model prog w) A (eval d6 env) (λx s₄ =>
       wpAny (model prog w) A (call (.builtin "list.append") [ah,x]) (λ_ s₅=>∃m,m < n/\I m s₅) (λ_ _=>False) s₄) (λ_ _=>False) s₃
      else ∃m,m < n/\I m s₃) (λ_ _=>False) s₂) (λ_ _=>False) s₁') (λ_ _=>False) s₁) (λ_ _=>False) s)
  (n:Nat) (h:I n s) :
  codeAny (model prog w) A (.compLoop (.ListComp d6 [⟨cw,ar,dc,0⟩] scope pos) 0 it ah env) R s:=by
 refine codeAny_loop rfl I (λn s hI=>?_) n h
 show wpAny _ A ((compTurn (.ListComp d6 [⟨cw,ar,dc,0⟩] scope pos) 0 it ah env).onRaise (λx=>do noteFrame x env;theTreesLotGoes x)) _ _ s
 refine wpAny_noted ?_
 rw [compTurn_list]
 refine Yab (Yc6 (Yab (Yby (turn n s hI) (λr s₁ h₁=>?_) λ_ _ h'=>h'.elim)))
 cases r with
 | none=>exact Yad h₁
 | some v =>
  refine Yab (Yby h₁ (λ_ s₁' h₁'=>?_) λ_ _ h'=>h'.elim)
  refine Yab (Yby h₁' (λ_ s₂ h₂=>Yab (Yby h₂ (λok s₃ h₃=>?_) λ_ _ h'=>h'.elim)) λ_ _ h'=>h'.elim)
  cases ok with
  | false=>exact Yad ⟨rfl,h₃⟩
  | true =>
   exact Yab (Yab (Yby h₃ (λx s₄ h₄=>Yab (Yby h₄ (λ_ s₅ h₅=>Yad (Yad ⟨rfl,h₅⟩)) λ_ _ h'=>h'.elim)) λ_ _ h'=>h'.elim))
end
end PySem
namespace L2
open PySem PySem.Spec PyProof.Rows
def M0(mp:List (Option Nat))(σ:St):St:=mp.map λo=>match o with | some i=>(σ[i]?).join | none=>none
def Xj(pn:List (Str×NameKind))(x:Str):Bool:=decide (pn.lookup x=some .cell) || decide (pn.lookup x=some .free)
def Tk(N:List Str)(pn cn:List (Str×NameKind))(N':List Str)(mp:List (Option Nat)):Bool :=
 decide (N'.length=mp.length) && decide N'.Nodup &&
 (List.range N'.length).all (λk=>match mp[k]?,N'[k]? with
  | some (some i),some x=>decide (N[i]?=some x) && Xj pn x && decide ((x,NameKind.free)∈cn) && decide (cn.lookup x=some .free)
  | _,_=>true) &&
 cn.all (λp=>decide (p.2≠.cell)) && cn.all (λp=>decide (p.2≠.free) || Xj pn p.1) && cn.all (λp=>decide (p.2≠.local) || decide (cn.lookup p.1=some .local))
structure CompOk(N:List Str)(pn cn:List (Str×NameKind))(N':List Str)(mp:List (Option Nat)):Prop where
 len:N'.length=mp.length
 nd:N'.Nodup
 map:∀(k i:Nat) (x:Str),mp[k]?=some (some i)->N'[k]?=some x->N[i]?=some x/\(pn.lookup x=some .cell\/pn.lookup x=some .free)/\(x,NameKind.free)∈cn/\cn.lookup x=some .free
 nocell:∀p∈cn,p.2≠.cell
 free:∀p∈cn,p.2=.free->(pn.lookup p.1=some .cell\/pn.lookup p.1=some .free)
 loc:∀p∈cn,p.2=.local->cn.lookup p.1=some .local
theorem M1{pn:List (Str×NameKind)}{x:Str}(h:Xj pn x=true):pn.lookup x=some .cell\/pn.lookup x=some .free:=by
 unfold Xj at h
 rcases(Ydk _ _).mp h with h | h
 ·exact .inl (Yaf h)
 ·exact .inr (Yaf h)
theorem Bk{N:List Str}{pn cn:List (Str×NameKind)}{N':List Str}{mp:List (Option Nat)}(h:Tk N pn cn N' mp=true):CompOk N pn cn N' mp:=by
 unfold Tk at h
 obtain⟨h,h6⟩:=(Ya2 _ _).mp h
 obtain⟨h,h5⟩:=(Ya2 _ _).mp h
 obtain⟨h,h4⟩:=(Ya2 _ _).mp h
 obtain⟨h,h3⟩:=(Ya2 _ _).mp h
 obtain⟨h1,h2⟩:=(Ya2 _ _).mp h
 refine⟨Yaf h1,Yaf h2,λk i x e1 e2=>?_,λp hp=>Yaf (Ybs.mp h4 p hp),λp hp e=>?_,λp hp e=>?_⟩
 ·have hk:k < N'.length:=(List.getElem?_eq_some_iff.mp e2).1
  have q:=Ybs.mp h3 k (Yc9.mpr hk)
  simp only [e1,e2]at q
  obtain⟨q,q4⟩:=(Ya2 _ _).mp q
  obtain⟨q,q3⟩:=(Ya2 _ _).mp q
  obtain⟨q1,q2⟩:=(Ya2 _ _).mp q
  exact⟨Yaf q1,M1 q2,Yaf q3,Yaf q4⟩
 ·rcases(Ydk _ _).mp (Ybs.mp h5 p hp) with z | z
  ·exact absurd e (Yaf z)
  ·exact M1 z
 ·rcases(Ydk _ _).mp (Ybs.mp h6 p hp) with z | z
  ·exact absurd e (Yaf z)
  ·exact Yaf z
theorem Ly{env:Env}:∀{names:List (Str×NameKind)} {x:Str},names.lookup x=some .free ->
  (names.map λ(n,k)=>if(k==NameKind.free && env.scope.kind==.function && env.kindOf n==some .cell) then(n,NameKind.cell) else(n,k)).lookup x=some .cell \/
  (names.map λ(n,k)=>if(k==NameKind.free && env.scope.kind==.function && env.kindOf n==some .cell) then(n,NameKind.cell) else(n,k)).lookup x=some .free
 | [],_,h=>by simp at h
 | (n,k) :: r,x,h=>by
  have ih:=@Ly env r x
  rw [Ya7]
  cases hx:x==n with
  | true =>
   simp only [List.lookup_cons,hx]at h
   cases h
   by_cases hc:(NameKind.free==NameKind.free && env.scope.kind==.function && env.kindOf n==some .cell)=true
   ·refine .inl ?_
    simp only [hc,if_true,List.lookup_cons,hx]
   ·refine .inr ?_
    simp only [if_neg hc,List.lookup_cons,hx]
  | false =>
   simp only [List.lookup_cons,hx]at h
   by_cases hc:(k==NameKind.free && env.scope.kind==.function && env.kindOf n==some .cell)=true
   ·simp only [hc,if_true,List.lookup_cons,hx];exact ih h
   ·simp only [if_neg hc,List.lookup_cons,hx];exact ih h
theorem Lz{env:Env}:∀{names:List (Str×NameKind)} {x:Str},(∀p∈names,p.2≠.cell) ->
  ((names.map λ(n,k)=>if(k==NameKind.free && env.scope.kind==.function && env.kindOf n==some .cell) then(n,NameKind.cell) else(n,k)).lookup x=some .cell \/
  (names.map λ(n,k)=>if(k==NameKind.free && env.scope.kind==.function && env.kindOf n==some .cell) then(n,NameKind.cell) else(n,k)).lookup x=some .free)->(x,NameKind.free)∈names
 | [],_,_,h=>by simp at h
 | (n,k) :: r,x,hn,h=>by
  have ih:=@Lz env r x λp hp=>hn p (Yae _ hp)
  rw [Ya7]at h
  cases hx:x==n with
  | true =>
   have e:x=n:=by simpa using hx
   subst e
   have hk:=hn (x,k) Yao
   by_cases hc:(k==NameKind.free && env.scope.kind==.function && env.kindOf x==some .cell)=true
   ·have:k=.free:=by
     simp only [Bool.and_eq_true]at hc
     simpa using hc.1.1
    rw [this];exact Yao
   ·simp only [if_neg hc,List.lookup_cons,hx]at h
    rcases h with h | h
    ·exact absurd (Yas h) hk
    ·rw [Yas h];exact Yao
  | false =>
   by_cases hc:(k==NameKind.free && env.scope.kind==.function && env.kindOf n==some .cell)=true
   ·simp only [hc,if_true,List.lookup_cons,hx]at h;exact Yae _ (ih h)
   ·simp only [if_neg hc,List.lookup_cons,hx]at h;exact Yae _ (ih h)
end L2
namespace PySem
open Sem (wp)
section
variable {prog:Program}{w:World}{A:Around}{E:Value->Shared->Prop}{R:Result->Shared->Prop}{s:Shared}
variable {I:Addr}{fp wr:List Addr}{G:Array GenState->Array GenState->Prop}{n:Nat}{P:Nat->Value->Prop}{St:Nat->Shared->Prop}
theorem L3:typeLookup (.type "list_reverseiterator") "__len__" = pure none:=by rw [typeLookup_type,builtinLookup_eq_fast];kernel_rfl
theorem M2:typeLookup (.type "list_reverseiterator") "__length_hint__" = pure (some (.builtin "list_reverseiterator.__length_hint__")):=by rw [typeLookup_type,builtinLookup_eq_fast];kernel_rfl
set_option maxRecDepth 100000 in
theorem J8(W:WalksS prog w A.in1 I fp wr G n P St)(hT:∀i s,St i s->s.TypeIs (.ref I) "list_reverseiterator") (S:Addr) (res:Value) (bg:St 0 s) (kd:S∉fp) (hI:I∈fp)
  {c:Nat} (hS:s.heap.get? S=some { cls:=.type "list",dict:=none,data:=.seq #[] c,slots:=#[] })
  (hR:∀s' be c',Moved (S :: wr) G s s'->s'.heap.get? S=some { cls:=.type "list",dict:=none,data:=.seq be c',slots:=#[] }->ItemsOf P be n->R (.ok (.ret res)) s') (hn:n<=sizeLine:=by size_fits) :
  wpAny (model prog w) A.in1 (Builtin.List.listExtendWith (.ref S) (.ref I) res)
   (λfin s'=>match fin with | .done f=>R (.ok f) s' | .again c'=>c'.quiet=true/\codeAny (model prog w) A c' R s') (λe s'=>R (.error e) s') s:=by
 have hSI:S≠I:=λe=>kd (e ▸ hI)
 have h1:Builtin.List.listSameRef (.ref S) (.ref I)=false:=by simp [Builtin.List.listSameRef,hSI]
 unfold Builtin.List.listExtendWith
 refine Yab (Yej (hT 0 _ bg) ?_)
 rw [Yar (by rw [h1];decide)]
 refine Yab (W.self 0 _ _ _ bg ?_)
 refine Yab (Yb8 ?_)
 unfold Builtin.List.listLengthHint
 refine Yab (wpAny_specialOf (hT 0 _ bg) L3 ?_)
 show wpAny _ A.in1 (specialOf (Value.ref I) (Str.ofString "__length_hint__") >>= _) _ _ _
 refine Yab (wpAny_specialOf (hT 0 _ bg) M2 ?_)
 generalize hid:("list_reverseiterator.__length_hint__" : String)=id0
 wp_delta
 rw [show splitId id0=some ("list_reverseiterator","__length_hint__") from by subst hid;decide +kernel]
 subst hid
 refine Yab (wpAny_isInstance (b:=true) (hT 0 _ bg) (by rw [isSubtype_type];kernel_rfl) ?_)
 refine Yad ?_
 rw [Yar (by decide)]
 exact Yad ⟨plainId_quiet F.plain_extend_loop _,codeAny_extend_loopS W hn _ kd _ n 0 _ _ _ rfl (Yb0 _) bg hS (ItemsOf.nil P) λs' be c' hm qf cv=>hR s' be c' hm qf cv⟩
set_option maxRecDepth 100000 in
theorem Hb(W:WalksS prog w A.in1 I fp wr G n P St)(hT:∀i s,St i s->s.TypeIs (.ref I) "list_reverseiterator") (S:Addr) (bg:St 0 s) (kd:S∉fp) (hI:I∈fp)
  (hS:s.heap.get? S=some { cls:=.type "list",data:=.seq #[] })
  (hR:∀s' be c',Moved (S :: wr) G s s'->s'.heap.get? S=some { cls:=.type "list",dict:=none,data:=.seq be c',slots:=#[] }->ItemsOf P be n->R (.ok (.ret .none)) s') (hn:n<=sizeLine:=by size_fits) :
  wpAny (model prog w) A.in1 (Builtin.«list.__init__» ⟨[.ref S,.ref I],[]⟩)
   (λfin s'=>match fin with | .done f=>R (.ok f) s' | .again c'=>c'.quiet=true/\codeAny (model prog w) A c' R s') (λe s'=>R (.error e) s') s:=by
 show wpAny _ A.in1 (do let dv <- Builtin.List.listItems (.ref S);Builtin.List.listUpdate (.ref S) (λ_=>#[]);letGo dv.toList.reverse;Builtin.List.listExtendWith (.ref S) (.ref I) .none) _ _ s
 refine Yab ?_
 unfold Builtin.List.listItems
 refine Yab (wpAny_seqItems hS rfl (Yad ?_))
 show wpAny _ A.in1 (updateSeq S (λ_=>#[]) >>= λ_=>letGo (#[]:Array Value).toList.reverse >>= λ_=>Builtin.List.listExtendWith (.ref S) (.ref I) .none) _ _ s
 refine Yab (wpAny_updateSeq hS rfl ?_)
 have hS₂:=Heap.get?_update_self (Obj.mapSeq (λ_=>(#[]:Array Value))) hS rfl
 have dm:∀b o,b≠S->s.heap.get? b=some o->(s.heap.update S (Obj.mapSeq (λ_=>(#[]:Array Value)))).get? b=some o :=
  λb o hb e=>(Heap.get?_update_other _ _ (Ydc hb)).trans e
 refine Yab (wpAny_letGo ?_)
 refine J8 (hn:=hn) W hT S .none (W.frame 0 s _ s.toks bg (Yag _) λb hb o e=>dm b o (λh=>kd (h ▸ hb)) e) kd hI hS₂ λs' be c' hm qf cv=>?_
 exact hR s' be c' (Moved.trans W.gtrans ((Moved.refl W.grefl).then_heap (Yag _) λb o hb e=>dm b o (λh=>hb (h ▸ Yao)) e) hm) qf cv
theorem Hc{Q:Value->Shared->Prop}(W:WalksS prog w A.in1.in1 I fp wr G n P St)(hT:∀i s,St i s->s.TypeIs (.ref I) "list_reverseiterator") (bg:St 0 s) (hfp:∀b∈fp,b < s.heap.objs.size) (hI:I∈fp)
  (hQ:∀s' be c',Moved (s.heap.objs.size :: wr) G { s with heap:=s.heap.push { cls:=.type "list",data:=.seq #[] } } s' ->
   s'.heap.get? s.heap.objs.size=some { cls:=.type "list",dict:=none,data:=.seq be c',slots:=#[] }->ItemsOf P be n->Q (.ref s.heap.objs.size) s') (hn:n<=sizeLine:=by size_fits) :
  wpAny (model prog w) A (call (.type "list") [.ref I]) Q E s:=by
 have kd:s.heap.objs.size∉fp:=λhm=>Ycc _ (hfp _ hm)
 refine callType_codes (Q₁:=λobj s₁=>obj=.ref s.heap.objs.size/\s₁={ s with heap:=s.heap.push { cls:=.type "list",data:=.seq #[] } }) F.called_list (F.typeCall_list_1 _) F.entry_list_init
  (code_list_new _ ⟨rfl,rfl⟩) λobj s₁ h₁=>?_
 obtain⟨rfl,rfl⟩:=h₁
 have hS:(s.heap.push { cls:=.type "list",data:=.seq #[] }).get? s.heap.objs.size=some { cls:=.type "list",data:=.seq #[] }:=Heap.get?_push_size _ rfl
 refine⟨⟨_,hS,rfl⟩,F.args_list_init_2 _ _,Hb (hn:=hn) W hT _ (W.frame 0 s _ s.toks bg (Yag _) λb _ o e=>Heap.get?_push_of_some _ e) kd hI hS λs' be c' hm qf cv=>?_⟩
 exact⟨rfl,hQ s' be c' hm qf cv⟩
end
end PySem
namespace L2
open PySem PySem.Spec PyProof.Rows
def B0(X:Cx)(N':List Str)(scope:Scope)(C:Addr)(s:Shared)(H:Hp)(fp:List Addr):Cx :=
 { X with N:=N',s₀:=s,H₀:=H,env:=compEnvC scope (E7 X.env.cells scope.names []) C X.env,outer:=X.stack,stack:=X.stack,ex:=fp,fn:=λ_=>false,pn:=[],xe:=λ_ _=>False }
def PIfs(X:Cx)(dc:List Expr)(t:TT):Prop :=
 ∀(aa:List (Addr×Obj)) (s:Shared) (σ:St) (H:Hp) (Q:Bool->Hp->Prop),Inv X aa σ H s->t σ H Q ->
  wpAny (model X.prog X.w) X.A (forIn dc true λc r=>if r=true then do let ok <- isTrue c X.env (eval c X.env);pure (ForInStep.yield ok) else pure (ForInStep.yield r)) (TP X aa σ Q) X.xe s
def Qim:TT:=λ_ H Q=>Q true H
theorem Tl{X:Cx}:PIfs X [] Qim:=λ_ _ _ H _ I h=>wpAny_tests_nil ⟨H,I,h⟩
theorem Tm{X:Cx}{c:Expr}{t:TT}(h:PT X c t):PIfs X [c] t:=λaa s σ H Q I hw=>wpAny_tests_one (h aa s σ H Q I hw)
def Tn(p:Addr)(J:It)(g:TG)(tst:TT)(te:TE)(Q:Hp->Prop)(σ:St)(H:Hp):Prop :=
 ∃W:Nat->Nat->List V->St->Hp->Prop,(∃m,W 0 m [] σ H)/\∀i m ah σ' H',W i m ah σ' H' ->
  (J.stop i H'/\Q H')\/(J.go i H'/\∃N:List V->St->Hp->Prop,(∀ah σ H,N ah σ H->∃m',m' < m/\W (i+1) m' ah σ H)/\∀x H2,J.yld i H' x H2->g x σ' H2 fun σ3 H3=>tst σ3 H3 λb H4 =>
   if b=true then te σ3 H4 λv H5=>∃ac,H5 p=some (.lst ac)/\ac.length < sizeLine/\N (ac++[v]) σ3 (upd H5 p (.lst (ac++[v])))
   else N ah σ3 H4)
def To(mp:List (Option Nat))(wi:TI)(g:TG)(tst:TT)(te:TE):TE:=fun σ H Q=>wi σ H λJ H1=>∀p,H1 p=none ->
 Tn p J g tst te (λH'=>Q (.ref p) H') (M0 mp σ) (upd H1 p (.lst []))
section
variable {X:Cx}{N':List Str}{mp:List (Option Nat)}{d6 tg ar:Expr}{dc:List Expr}{scope:Scope}{pos:Pos}{wi:TI}{g:TG}{tst:TT}{te:TE}
theorem Inv.comp0{aa:List (Addr×Obj)}{σ:St}{H:Hp}{s:Shared}{fp:List Addr}{tn:Heap->Prop}{h₁:Heap}{tk:Nat}{C:Addr}(ok:CompOk X.N X.env.scope.names scope.names N' mp)(hk:scope.kind=.function)
  (I:Inv X aa σ H s) (hf:∀b∈fp,Gd X aa H b) (uu:∀b∈fp,∃o,s.heap.get? b=some o) (hC:C=s.heap.objs.size+1)
  (et:∃m,h₁.Ns C m) (keep:∀b o,s.heap.get? b=some o->h₁.get? b=some o) (cv:∃n,h₁.get? s.heap.objs.size=some { cls:=.type "list",data:=.seq #[] n }) :
  Inv (B0 X N' scope C s H fp) [] (M0 mp σ) (upd H s.heap.objs.size (.lst [])) { s with heap:=h₁,toks:=tk }:=by
 subst hC
 have cr:∀x∈scope.names,x.2=.free->∃c,X.env.cells.lookup x.1=some c:=λx hx e=>I.ok.has x.1 (ok.free x hx e)
 have sub:∀x c,(E7 X.env.cells scope.names []).lookup x=some c->X.env.cells.lookup x=some c:=Iu cr (λx c e=>by simp at e)
 have db:∀b∈fp,b < s.heap.objs.size:=λb hb=>let⟨_,e⟩:=uu b hb;Yam e
 have hnC:H (s.heap.objs.size+1)=none:=I.hok.fresh (Ydv _)
 have vh:H s.heap.objs.size=none:=I.hok.fresh (Yag _)
 have kh:∀b∈fp,b∉frs X.stack:=λb hb z=>by
  obtain⟨_,f1,f2,_⟩:=hf b hb
  rcases Ybb.mp (I.stkSub b z) with e | e
  ·exact f1 e
  ·exact f2 e
 refine⟨⟨I.ok.mod,hk,I.ok.glob,I.ok.blt,Ydv _,λx y c e1 e2=>I.ok.inj x y c (sub x c e1) (sub y c e2),λx e=>?_,λx c e=>(nomatch e),I.ok.hd,I.ok.frames,.inl rfl,λb hb=>⟨?_,λx c e=>?_⟩,I.bs,Yap I.ok.bsz I.sz,λb o e hb=>?_,kh,I.stack,I.stkFree⟩,
  rfl,I.bare,Un.laid keep (Yag _) vh,?_,λx c e=>?_,?_,λx c e=>?_,λp hp=>(nomatch hp),I.hok.laid keep (Yag _) ?_,?_⟩
 ·exact Gv (Lz ok.nocell e)
 ·exact Ya6 (Nat.lt_succ_of_lt (db b hb))
 ·exact(hf b hb).2.2.2.2.1 x c (sub x c e)
 ·rcases(hf b hb).2.2.2.1 with z | z
  ·exact I.ok.noex b o e z
  ·exact absurd (Yau (Yam e) (Yap I.ok.bsz z)) (Ycc _)
 ·obtain⟨m,hm⟩:=et
  refine⟨m,hm,λi x v e1 e2 e3=>?_⟩
  have jx:(M0 mp σ)[i]?=some (some v):=e2
  unfold M0 at jx
  rw [List.getElem?_map]at jx
  cases hmp:mp[i]? with
  | none=>rw [hmp]at jx;cases jx
  | some o =>
   rw [hmp]at jx
   cases o with
   | none=>cases jx
   | some j =>
    have e4:σ[j]?=some (some v):=by
     have q:(σ[j]?).join=some v:=Yas jx
     cases hj:σ[j]? with
     | none=>rw [hj]at q;cases q
     | some y=>rw [hj]at q;exact Ybo some q
    obtain⟨a1,a2,a3,a4⟩:=ok.map i j x hmp e1
    obtain⟨m0,hn0,jq⟩:=I.loc
    obtain⟨u,r,l⟩:=jq j x v a1 e4 (a2.elim (λz=>.inr (.inl z)) λz=>.inr (.inr z))
    refine⟨u,r,.inr ⟨?_,?_⟩⟩
    ·exact Ly a4
    ·rcases l with⟨l1,_⟩ | ⟨_,c,l2,l3⟩
     ·have l1:X.env.scope.names.lookup x=some .local:=l1
      rcases a2 with a2 | a2 <;> rw [a2]at l1 <;> cases l1
     ·obtain⟨c',c9⟩:∃c',(E7 X.env.cells scope.names []).lookup x=some c':=Gv a3
      have:c'=c:=Yas ((sub x c' c9).symm.trans l2)
      subst this
      exact⟨c',c9,l3.keeps keep⟩
 ·obtain⟨v,z⟩:=I.cell x c (sub x c e)
  exact⟨v,z.keeps keep⟩
 ·show upd H s.heap.objs.size (.lst []) (s.heap.objs.size+1)=none
  rw [Az (Nat.succ_ne_self _)];exact hnC
 ·obtain⟨v,z⟩:=I.cell x c (sub x c e)
  show upd H s.heap.objs.size (.lst []) c=none
  rw [Az (Ya6 z.lt)];exact I.freeC x c (sub x c e)
 ·obtain⟨n,e⟩:=cv
  exact⟨Yb0 _,[],n,.nil,e⟩
 ·show(M0 mp σ).length=N'.length
  unfold M0
  rw [Yaa,ok.len]
theorem M3{aa:List (Addr×Obj)}{σ:St}{H:Hp}{s:Shared}{it:Addr}{fp:List Addr}{tn:Nat->Heap->Prop}{J:It}{Q:Addr->Hp->Prop}{E:Value->Shared->Prop}{RR:Value->Addr->Result->Shared->Prop}
  (ok:CompOk X.N X.env.scope.names scope.names N' mp) (hk:scope.kind=.function) (hc:X.calm=true) (I:Inv X aa σ H s) (T:Turn X.prog X.w X.K tg J fp it tn) (st:tn 0 s.heap) (hf:∀b∈fp,Gd X aa H b)
  (hg:∀C s H fp,PG (B0 X N' scope C s H fp) tg g) (ht:∀C s H fp,PIfs (B0 X N' scope C s H fp) dc tst) (he:∀C s H fp,PE (B0 X N' scope C s H fp) d6 te)
  (h:∀p,H p=none->Tn p J g tst te (Q p) (M0 mp σ) (upd H p (.lst [])))
  (hRR:∀C s' H',Inv X aa σ H' s'->(∃m,s'.heap.Ns C m)->H' C=none->X.s₀.heap.objs.size<=C->C≠X.env.locals->(∀x c,X.env.cells.lookup x=some c->c≠C)->(∀q∈X.pn++aa,q.1≠C)->Q s.heap.objs.size H'->RR (.ref s.heap.objs.size) C (.ok .next) s') :
  wpAny (model X.prog X.w) X.A (newList []) (λah s₃=>wpAny (model X.prog X.w) X.A (newFunctionEnv scope X.env.globals (E7 X.env.cells scope.names []) [] X.env.qual none .none (some X.env)) (λug s₄ =>
   codeAny (model X.prog X.w) X.A (.compStart (.ListComp d6 [⟨tg,ar,dc,0⟩] scope pos) 0 (.ref it) ah { ug with scope:=relabel scope X.env }) (RR ah ug.locals) s₄) E s₃) E s:=by
 refine Ybv (wpAny_newFunctionEnv ok.nocell (by intro y hy;simp at hy) (λh₁ et₁ hsb₁=>?_) hk)
 dsimp only at et₁ hsb₁ ⊢
 generalize uv:s.heap.push { cls:=.type "list",dict:=none,data:=.seq ([]:List Value).toArray }=H2 at et₁ hsb₁ ⊢
 have hC:H2.objs.size=s.heap.objs.size+1:=by rw [<- uv,Ycu]
 have keep:∀b o,s.heap.get? b=some o->h₁.get? b=some o:=λb o e =>
  hsb₁.extBut b o (by rw [hC];exact Ya6 (Nat.lt_succ_of_lt (Yam e))) (Heap.get?_push_of_some _ (uv ▸ Heap.get?_push_of_some _ e))
 have cv:∃n,h₁.get? s.heap.objs.size=some { cls:=.type "list",data:=.seq #[] n } :=
  ⟨_,hsb₁.extBut _ _ (by rw [hC];exact Ya6 (Yd7 _)) (Heap.get?_push_of_some _ (uv ▸ Heap.get?_push_size _ rfl))⟩
 have uu:∀b∈fp,∃o,s.heap.get? b=some o:=λb hb=>let⟨o,e,_⟩:=T.obj _ _ st b hb;⟨o,e⟩
 have jn:s.heap.objs.size<=H2.objs.size:=by rw [hC];exact Ydv _
 have I0:=I.comp0 (tn:=tn 0) (C:=H2.objs.size) (tk:=s.toks+([]:List (Str×Value)).length) ok hk hf uu hC ⟨_,et₁⟩ keep cv
 have st0:tn 0 h₁:=T.keep _ _ _ st λb hb o e=>keep b o e
 obtain⟨W,⟨m0,w0⟩,turn⟩:=h _ (I.hok.fresh (Yag _))
 have kh:∀b∈fp,b∉frs X.stack:=I0.ok.exfs
 have fx:∀{H':Hp},(∀b∈fp,H' b=none)->∀b∈fp,Gd (B0 X N' scope H2.objs.size s H fp) [] H' b:=λhn b hb =>
  ⟨hn b hb,(I0.ok.exf b hb).1,kh b hb,.inl hb,(I0.ok.exf b hb).2,λq hq=>(nomatch hq)⟩
 have mw:∀s₃:Shared,s₃={ s with heap:=h₁,toks:=s.toks+([]:List (Str×Value)).length } ->
   codeAny (model X.prog X.w) X.A (.compLoop (.ListComp d6 [⟨tg,ar,dc,0⟩] scope pos) 0 (.ref it) (.ref s.heap.objs.size) (compEnvC scope (E7 X.env.cells scope.names []) H2.objs.size X.env)) (RR (.ref s.heap.objs.size) H2.objs.size) s₃:=by
  rintro s₃ rfl
  refine Mz (λn s'=>∃i ah σ' H',Inv (B0 X N' scope H2.objs.size s H fp) [] σ' H' s'/\tn i s'.heap/\(∀b∈fp,H' b=none)/\W i n ah σ' H') ?_ m0
   ⟨0,[],_,_,I0,st0,λb hb=>by rw [Az (Ya6 (let⟨_,e⟩:=uu b hb;Yam e))];exact(hf b hb).1,w0⟩
  rintro n s3 ⟨i,ah,σ3,H3,I3,st3,fr3,w3⟩
  rcases turn i n ah σ3 H3 w3 with⟨stop,qn⟩ | ⟨go,N,hN,step⟩
  ·refine thn (T.done (B0 X N' scope H2.objs.size s H fp) rfl rfl rfl hc i [] s3 σ3 H3 _ I3 (fx fr3) st3 stop) λr s4 ⟨hr,I4⟩=>?_
   subst hr
   refine hRR _ s4 H3 ?_ (let⟨m,hm,_⟩:=I4.loc;⟨m,hm⟩) I4.free (Yap I.sz jn) (Yeh (Yau I.lt jn)) (λx c e=>?_) (λq hq=>?_) qn
   ·exact I.call' I4.os I4.base I4.hok I4.bare λb hb=>let⟨_,f1,_,f3,f4,f5⟩:=hf b hb;⟨f3,f1,f4,f5⟩
   ·obtain⟨v,z⟩:=I.cell x c e
    exact Ya6 (Yau z.lt jn)
   ·exact Ya6 (Yau (Yam (I.pin q hq).1) jn)
  ·refine thn (T.item (B0 X N' scope H2.objs.size s H fp) rfl rfl rfl hc i [] s3 σ3 H3 _ I3 (fx fr3) st3 go) λr s4 ⟨u,hr,h4⟩=>?_
   subst hr
   refine thn h4 λ_ s5 mj=>?_
   obtain⟨x,H5,I5,r5,y5,st5,fr5⟩:=mj
   have I5':=I5.pinned (fx fr5) (T.obj _ _ st5)
   refine thn (hg _ _ _ _ _ s5 σ3 H5 x u _ I5' r5 (step x H5 y5)) λ_ s6 qk=>?_
   obtain⟨σ6,H6,I6,q6⟩:=qk
   refine thn (ht _ _ _ _ _ s6 σ6 H6 _ I6 q6) λb s7 ⟨H7,I7,q7⟩=>?_
   have again:∀{σ8:St} {H8:Hp} {j5:List V} {s8:Shared},Inv (B0 X N' scope H2.objs.size s H fp) ([]++Il fp s5.heap) σ8 H8 s8->(∃m',m' < n/\W (i+1) m' j5 σ8 H8) ->
     ∃m,m < n/\∃i ah σ' H',Inv (B0 X N' scope H2.objs.size s H fp) [] σ' H' s8/\tn i s8.heap/\(∀b∈fp,H' b=none)/\W i m ah σ' H':=λ{σ8 H8 j5 s8} I8 hw=>by
    obtain⟨m',hm,w8⟩:=hw
    refine⟨m',hm,i+1,j5,σ8,H8,I8.unpinned,T.keep _ _ _ st5 λb hb o e=>(I8.pin (b,o) (Ybf _ (Ybf _ (Ej hb e)))).1,λb hb=>?_,w8⟩
    obtain⟨o,e,d⟩:=T.obj _ _ st5 b hb
    exact(I8.pin (b,o) (Ybf _ (Ybf _ (Ej hb e)))).2.1
   cases b with
   | false =>
    rw [Yar Yak]
    rw [Yar Yak]at q7
    exact again I7 (hN _ _ _ q7)
   | true =>
    rw [Yaw rfl]
    rw [Yaw rfl]at q7
    refine thn (he _ _ _ _ _ s7 σ6 H7 _ I7 q7) λy s8 ph=>?_
    obtain⟨v,H8,I8,r8,ac,e8,z8,w8⟩:=ph
    refine thn (Kq (X:=B0 X N' scope H2.objs.size s H fp) _ s8 σ6 H8 (.ref s.heap.objs.size) [v] (.ref s.heap.objs.size) [y] (λ_ H9=>H9=upd H8 s.heap.objs.size (.lst (ac++[v]))) I8 rfl (.cons r8 .nil) ⟨_,ac,v,rfl,rfl,e8,z8,rfl⟩) λ_ s9 nu=>?_
    obtain⟨_,H9,I9,_,e9⟩:=nu
    subst e9
    exact again I9 (hN _ _ _ w8)
 exact codeAny_compStart_list (mw _ rfl) (T.self _ 0 _ _ _ st0 (mw _ rfl))
theorem Inv.letgo{aa:List (Addr×Obj)}{σ:St}{H:Hp}{s:Shared}{C:Addr}{h':Heap}(I:Inv X aa σ H s)(hn:H C=none)(h1:X.s₀.heap.objs.size<=C)(hL:C≠X.env.locals)(h2:∀x c,X.env.cells.lookup x=some c->c≠C)
  (h3:∀q∈X.pn++aa,q.1≠C) (hs:Heap.SameBut C s.heap h'):Inv X aa σ H { s with heap:=h' } :=
 I.turned (t':=s.toks) (λb o hb e=>(hs.2 b hb).trans e) hn hL (.inr h1) h2 h3
theorem Xk(hc:X.calm=true)(hi:PI X tg ar wi)(hg:∀C s H fp,PG (B0 X N' scope C s H fp) tg g)(ht:∀C s H fp,PIfs (B0 X N' scope C s H fp) dc tst)(he:∀C s H fp,PE (B0 X N' scope C s H fp) d6 te)
  (ok:CompOk X.N X.env.scope.names scope.names N' mp) (hk:scope.kind=.function:=by rfl) (hs:∀x,foldedSetIterable ar X.env x=pure x:=by intro _;rfl) :
  PE X (.ListComp d6 [⟨tg,ar,dc,0⟩] scope pos) (To mp wi g tst te):=by
 intro aa s σ H Q I h
 rw [eval_ListComp]
 refine wpAny_comprehension_free (use:=none) rfl hs (F0 λx hx e=>I.ok.has x.1 (ok.free x hx e)) hk ok.loc (thn (hi aa s σ H _ I h) λv s1 h1=>thn h1 λu5 s2 h2=>?_)
 obtain⟨it,fp,tn,J,H2,e,I2,T,st2,f2,hw⟩:=h2
 subst e
 refine M3 (Q:=λp H'=>Q (.ref p) H') (RR:=λah C=>compPost (model X.prog X.w) X.A X.xe none (EP X aa σ Q) ah C) ok hk hc I2 T st2 f2 hg ht he hw ?_
 intro C s' H' I' et hn h1 hL cr ka q
 obtain⟨m,hm⟩:=et
 exact⟨m,hm,λh' d0=>⟨.ref s2.heap.objs.size,H',I'.letgo hn h1 hL cr ka d0,rfl,q⟩⟩
theorem Xl{i:Nat}{y:Str}{py iu:Pos}(hc:X.calm=true)(hN:X.N.Nodup)(wz:X.N[i]?=some y)(hy:X.env.scope.names.lookup y=some .local)
  (hi:PI X tg ar wi) (hg:∀C s H fp,PG (B0 X N' scope C s H fp) tg g) (ht:∀C s H fp,PIfs (B0 X N' scope C s H fp) dc tst) (he:∀C s H fp,PE (B0 X N' scope C s H fp) d6 te)
  (ok:CompOk X.N X.env.scope.names scope.names N' mp) (hsw:swapsWith (.ListComp d6 [⟨tg,ar,dc,0⟩] scope pos) (some (.Name y py)) iu.line X.env=pure true:=by rfl)
  (hk:scope.kind=.function:=by rfl) (hs:∀x,foldedSetIterable ar X.env x=pure x:=by intro _;rfl) :
  PS X (.Assign [.Name y py] (.ListComp d6 [⟨tg,ar,dc,0⟩] scope pos) iu) (Wy (To mp wi g tst te) (Sl i)):=by
 intro aa s σ H D I h
 rw [exec_Assign_Name_used _ _ _ _ hsw]
 refine Yab (Yc6 (Yab ?_))
 show wpAny _ _ (do let _ <- comprehension (.ListComp d6 [⟨tg,ar,dc,0⟩] scope pos) scope X.env _ (newList []) false (eval ar X.env) (some (assign (.Name y py) X.env))) _ _ s
 refine Yab (Yby (wpAny_comprehension_free (use:=some (assign (.Name y py) X.env)) (Q:=λ_ s'=>SP X aa D .next s') rfl hs (F0 λx hx e=>I.ok.has x.1 (ok.free x hx e)) hk ok.loc
  (thn (hi aa s σ H _ I h) λv s1 h1=>thn h1 λu5 s2 h2=>?_)) (λ_ s' hq=>Yad (Yad hq)) λ_ _ e=>e)
 obtain⟨it,fp,tn,J,H2,e,I2,T,st2,f2,hw⟩:=h2
 subst e
 refine M3 (Q:=λp H'=>D.nx (σ.set i (some (.ref p))) H') (RR:=λah C=>compPost (model X.prog X.w) X.A X.xe (some (assign (.Name y py) X.env)) (λ_ s'=>SP X aa D .next s') ah C) ok hk hc I2 T st2 f2 hg ht he hw ?_
 intro C s' H' I' et hn h1 hL cr ka q
 obtain⟨m,hm⟩:=et
 show wpAny _ _ (assign (.Name y py) X.env (.ref s2.heap.objs.size)) _ _ s'
 refine wpAny_assign_Name (Kh I' hN wz (.inl hy) (v:=.ref s2.heap.objs.size) rfl (λu7 I'' fy=>?_) (.inr hy))
 obtain⟨a,hsb,ha⟩:=fy
 have hCa:C≠a:=by
  rcases ha with rfl | ha
  ·exact hL
  ·exact(cr _ _ ha).symm
 refine⟨m,hm.sameBut hsb hCa,λh' d0=>?_⟩
 exact⟨_,H',I''.letgo hn h1 hL cr ka d0,q⟩
end
section
variable {K:PySem.W.Frag}{a p:Addr}{xs:List V}{g:TG}{tst:TT}{te:TE}{Q:Hp->Prop}{σ:St}{H:Hp}
theorem Xm{J:It}(n:Nat)(Pv:Nat->List V->St->Hp->Prop)(h0:Pv 0 [] σ H)
  (hgo:∀i ah σ H,i < n->Pv i ah σ H->J.go i H) (gx:∀ah σ H,Pv n ah σ H->J.stop n H/\Q H)
  (hs:∀i x ah σ H H2,i < n->Pv i ah σ H->J.yld i H x H2->g x σ H2 fun σ3 H3=>tst σ3 H3 λb H4 =>
   if b=true then te σ3 H4 λv H5=>∃ac,H5 p=some (.lst ac)/\ac.length < sizeLine/\Pv (i+1) (ac++[v]) σ3 (upd H5 p (.lst (ac++[v]))) else Pv (i+1) ah σ3 H4) :
  Tn p J g tst te Q σ H:=by
 refine⟨λi m ah σ H=>m=n - i/\i<=n/\Pv i ah σ H,⟨n,by simp,Yb0 _,h0⟩,?_⟩
 rintro i m ah σ H ⟨rfl,hi,pv⟩
 by_cases db:i < n
 ·exact .inr ⟨hgo i ah σ H db pv,Pv (i+1),λah σ H q=>⟨n - (i+1),by omega,rfl,db,q⟩,λx H2 y=>hs i x ah σ H H2 db pv y⟩
 ·have e:i=n:=by omega
  subst e
  exact .inl (gx ah σ H pv)
end
section
variable {X:Cx}
theorem Rc:Gq X (compareOp .LtE) (λx y H Q=>∃i j,x=.str i/\y=.str j/\Q (.bl (!decide (j.cps.toList < i.cps.toList))) H):=by
 intro aa s σ H x y v u Q I rx ry h
 obtain⟨i,j,rfl,rfl,q⟩:=h
 obtain⟨t,rfl⟩:=rx
 obtain⟨t',rfl⟩:=ry
 exact PySem.P.le_str (Ln I q rfl)
def Qin:V->Option Int->Option Int->Hp->VK->Prop:=λx lo hi H Q=>∃z,x=.str z/\z.length<=sizeLine/\Q (.str (Txt.slice z lo hi)) H
theorem Qbg:SlR X Qin:=by
 intro aa s σ H x v vl vu lo hi sl Q I rx hs pl pu h
 obtain⟨z,rfl,hz,q⟩:=h
 obtain⟨t,rfl⟩:=rx
 refine⟨"str",_,F.slot_str_getitem.lookup,Yel _ _ _,?_⟩
 have fin:∀t' k,EP X aa σ Q (.str (Txt.slice z lo hi) t') { s with toks:=k }:=λt' k=>⟨.str _,H,I.tok _,⟨_,rfl⟩,q⟩
 cases pl with
 | none =>
  cases pu with
  | none=>exact Yco (l:=none) (u:=none) (st:=none) hs rfl (Yec ⟨Yap (Txt.slice_le z _ _) hz,fin⟩)
  | int j tj=>exact Yco (l:=none) (u:=some (j,tj)) (st:=none) hs rfl (Yec ⟨Yap (Txt.slice_le z _ _) hz,fin⟩)
 | int i ti =>
  cases pu with
  | none=>exact Yco (l:=some (i,ti)) (u:=none) (st:=none) hs rfl (Yec ⟨Yap (Txt.slice_le z _ _) hz,fin⟩)
  | int j tj=>exact Yco (l:=some (i,ti)) (u:=some (j,tj)) (st:=none) hs rfl (Yec ⟨Yap (Txt.slice_le z _ _) hz,fin⟩)
theorem Tp(hc:X.calm=true):Ec X (.builtin "all") (λxs H Q=>∃(p:Addr) (bs:List Bool),xs=[.ref p]/\Ei X.K H p (bs.map V.bl)/\Q (.bl (bs.all id)) H):=by
 intro aa s σ H xs us Q I r h
 obtain⟨p,bs,rfl,hq,q⟩:=h
 obtain⟨u,rfl,rx⟩:=Dp r
 cases rx
 obtain⟨ae,r',pl,hz⟩:=I.list hq
 have am:=r'.length
 rw [Yaa]at am
 refine call_all_walk (wpAny_pyIter_list pl.isList ?_)
 have bo:p≠s.heap.objs.size:=Ya6 (let⟨_,ho,_⟩:=pl.isList;Yam ho)
 refine⟨s.heap.objs.size,_,_,_,_,_,λi=>bs.getD i true,rfl,Walks.list (show X.A.in1.handled=none from I.ok.hd hc) s.heap.objs.size p bo ae.toArray,?_,?_,λh' tk k=>?_⟩
 ·exact⟨⟨_,Heap.get?_push_size _ rfl,rfl,rfl⟩,pl.isList.at λo e=>Heap.get?_push_of_some _ e⟩
 ·intro i v s' Q' E' hP hQ'
  have hv:ae[i]?=some v:=by simpa using hP
  have hi:i < bs.length:=by rw [am];exact(List.getElem?_eq_some_iff.mp hv).1
  obtain⟨u,hu,ru⟩:=r'.get (i:=i) (x:=V.bl bs[i]) (by simp [hi])
  rw [hv]at hu
  cases hu
  cases (show v=Value.bool bs[i] from ru)
  refine Yb6 ?_
  have e:bs.getD i true=bs[i]:=by simp [hi]
  have hQ2:Q' (bs.getD i true) s':=hQ'
  rw [e]at hQ2
  exact hQ2
 ·have e:(List.range ae.toArray.size).all (λi=>bs.getD i true)=bs.all id:=by
   rw [Yal,<- am]
   rw [Yed,Ybs,Ybs]
   constructor
   ·intro a x hx
    obtain⟨i,hi,rfl⟩:=List.mem_iff_getElem.mp hx
    have:=a i (Yc9.mpr hi)
    simpa [hi] using this
   ·intro a i hi
    have hi:=Yc9.mp hi
    have:=a bs[i] (Ybg hi)
    simpa [hi] using this
  rw [e]
  exact⟨.bl _,H,I.kept λb o e=>k b o (by
   intro hb
   have:b=s.heap.objs.size:=by simpa using hb
   exact absurd (Yam e) (by rw [this];exact Ycc _)) (Heap.get?_push_of_some _ e),rfl,q⟩
theorem N6{ys:List Str}{us:List Value}(h:Vals (ys.map V.str) us):StrsAre us ys:=by
 induction ys generalizing us with
 | nil=>cases h;exact .nil
 | cons y ys ih =>
  cases h with
  | cons r t =>
   obtain⟨tk,rfl⟩:=r
   exact .cons y tk (ih t)
theorem Xn:MtR X "str.join" (λx xs H Q=>∃z p ys,x=.str z/\xs=[.ref p]/\Ei X.K H p (ys.map V.str)/\(ys.map (·.length)).sum+ys.length * z.length<=16777216/\Q (.str (Txt.join z ys)) H):=by
 intro aa s σ H x xs v us Q I rx r h
 obtain⟨z,p,ys,rfl,rfl,hq,hz,q⟩:=h
 obtain⟨t,rfl⟩:=rx
 obtain⟨u,rfl,ru⟩:=Dp r
 cases ru
 obtain⟨ae,r',pl,_⟩:=I.list hq
 exact join_list pl.isList (N6 (by simpa using r')) hz λt' k=>⟨.str _,H,I.tok _,⟨_,rfl⟩,q⟩
def Its(x:Str):It:=⟨λi _=>i < x.cps.size,λi H v H'=>H'=H/\∃c,x.cps[i]?=some c/\v=.str ⟨#[c]⟩,λi _=>i=x.cps.size⟩
theorem Tq{P:Program}{w:World}{K:PySem.W.Frag}{tg:Expr}(it:Addr)(x:Str)(t:Tok)(n:String)(hn:n = "str_ascii_iterator" \/ n = "str_iterator") :
  Turn P w K tg (Its x) [it] it (λi h=>h.IsStrIter it n x t i) where
 mem:=by simp
 obj:=λi h st b hb=>by
  have e:b=it:=by simpa using hb
  subst e
  obtain⟨o,e,c,d⟩:=st
  exact⟨o,e,λv z=>by rw [d]at z;cases z⟩
 keep:=λi h h' st k=>let⟨o,ho,r⟩:=st;⟨o,k it (by simp) o ho,r⟩
 item:=by
  intro X hP hw hK hc i aa s σ H E I hf st hg
  subst hP hw hK
  obtain⟨f0,f1,f2,f3,f4,f5⟩:=hf it (by simp)
  have hg:i < x.cps.size:=hg
  have W:Walks X.prog X.w X.A it [it] [it] x.cps.size (SignAt x) (λi h=>h.IsStrIter it n x t i):=by
   rcases hn with rfl | rfl
   ·exact Walks.strAscii (I.ok.hd hc) it x t
   ·exact Walks.strWide (I.ok.hd hc) it x t
  refine W.item i s _ _ hg st λv h' tk hv ic kk=>?_
  obtain⟨c,u,xy,rfl⟩:=hv
  have I1:Inv X aa σ H { s with heap:=h',toks:=tk }:=I.turned (λb o hb e=>kk b o (by simpa using hb) e) f0 f1 f3 f4 f5
  obtain⟨o,e,oc,od⟩:=id ic
  refine⟨_,rfl,O5 (s:={ s with heap:=h',toks:=tk }) (n:=n) e oc od (by rcases hn with rfl | rfl <;> decide) ⟨.str ⟨#[c]⟩,H,I1,⟨u,rfl⟩,⟨rfl,c,xy,rfl⟩,ic,λb hb=>(hf b hb).1⟩⟩
 done:=by
  intro X hP hw hK hc i aa s σ H E I hf st hg
  subst hP hw hK
  obtain⟨f0,f1,f2,f3,f4,f5⟩:=hf it (by simp)
  have hg:i=x.cps.size:=hg
  subst hg
  have W:Walks X.prog X.w X.A it [it] [it] x.cps.size (SignAt x) (λi h=>h.IsStrIter it n x t i):=by
   rcases hn with rfl | rfl
   ·exact Walks.strAscii (I.ok.hd hc) it x t
   ·exact Walks.strWide (I.ok.hd hc) it x t
  exact W.done s _ _ st λh' tk kk=>⟨rfl,I.turned (t':=tk) (λb o hb e=>kk b o (by simpa using hb) e) f0 f1 f3 f4 f5⟩
 self:=λA i s Q E st h=>by
  rcases hn with rfl | rfl
  ·exact wpAny_pyIter_striter_ascii st h
  ·exact wpAny_pyIter_striter_wide st h
def Qio(tl:TE):TI:=fun σ H R=>tl σ H λx H1=>∃z,x=.str z/\R (Its z) H1
theorem Qbh{tg l:Expr}{tl:TE}(hl:PE X l tl):PI X tg l (Qio tl):=by
 intro aa s σ H R I h
 refine thn (hl aa s σ H _ I h) λv s1 ml=>?_
 obtain⟨x,H1,I1,r1,q1⟩:=ml
 obtain⟨z,e,q⟩:=q1
 subst e
 obtain⟨t,rfl⟩:=r1
 refine wpAny_pyIter_strU ?_
 refine⟨s1.heap.objs.size,[s1.heap.objs.size],_,_,H1,rfl,I1.kept (t':=s1.toks) λb o e=>Heap.get?_push_of_some _ e,Tq _ z t (strIterType z) (by unfold strIterType;split <;> simp),⟨_,Heap.get?_push_size _ rfl,rfl,rfl⟩,λb hb=>?_,q⟩
 have e:b=s1.heap.objs.size:=by simpa using hb
 subst e
 exact I1.fpOk (Yag _) (I1.hok.fresh (Yag _))
def Qet(K:PySem.W.Frag)(te:TE):TE:=fun σ H Q=>te σ H λx H1=>∃a xs,x=.ref a/\Ei K H1 a xs/\∀l,H1 l=none->Q (.ref l) (upd H1 l (.lst xs.reverse))
theorem Xo{e:Expr}{te:TE}{p p2 pos fw:Pos}(hc:X.calm=true)(hg:Gl X "list") (hm:X.mg "list" = none) (fk:Gl X "reversed") (fe:X.mg "reversed" = none) (he:PE X e te)
  (hs:starEach [.Call (.Name "reversed" p2) [e] [] fw] X.env=[(false,eval (.Call (.Name "reversed" p2) [e] [] fw) X.env)]:=by rfl) (dw:starEach [e] X.env=[(false,eval e X.env)]:=by rfl) :
  PE X (.Call (.Name "list" p) [.Call (.Name "reversed" p2) [e] [] fw] [] pos) (Qet X.K te):=by
 intro aa s σ H Q I h
 refine Ybq (De I hg hm boot_list ?_)
 refine Yb2 ?_ hs rfl
 rw [hs]
 refine Ybl ?_
 refine Ybq (De I fk fe boot_reversed ?_)
 refine Yb2 ?_ dw rfl
 rw [dw]
 refine Ybl (thn (he aa s σ H _ I h) λu s1 nv=>Yb7 ?_)
 obtain⟨v,H1,I1,r1,q1⟩:=nv
 obtain⟨a,xs,rfl,hq,q⟩:=q1
 cases r1
 obtain⟨ae,r',pl,hz⟩:=I1.list hq
 have am:=r'.length
 refine call_reversed_list pl.isList (Yb7 ?_)
 have bo:a≠s1.heap.objs.size:=Ya6 (let⟨_,ho,_⟩:=pl.isList;Yam ho)
 have hpl:(s1.heap.push (revObj a ((ae.toArray.size:Int) - 1))).IsList a ae.toArray:=pl.isList.at λo e=>Heap.get?_push_of_some _ e
 refine Hc (s:={ s1 with heap:=s1.heap.push (revObj a ((ae.toArray.size:Int) - 1)) }) (Walks.listRev (show X.A.in1.in1.handled=none from I.ok.hd hc) s1.heap.objs.size a bo ae.toArray).toS (λi s st=>st.2.1.typeIs) ?_ ?_ (by simp) (λs' be c' mv hS cv=>?_) (by rw [Yal,<- am];exact hz)
 ·refine⟨Yb0 _,⟨_,Heap.get?_push_size _ rfl,rfl,?_⟩,hpl⟩
  simp [revObj]
 ·intro b hb
  rw [Ycu]
  rcases Ybb.mp hb with rfl | hb
  ·exact Yd7 _
  ·have:b=a:=by simpa using hb
   subst this
   exact Nat.lt_succ_of_lt (let⟨_,ho,_⟩:=pl.isList;Yam ho)
 ·have hsz:(s1.heap.push (revObj a ((ae.toArray.size:Int) - 1))).objs.size=s1.heap.objs.size+1:=Ycu ..
  obtain⟨h',g',d',t',o'⟩:=s'
  have eg:g'=s1.gens:=mv.gens
  have ed:d'=s1.drawn:=mv.drawn
  have eo:o'=s1.os:=mv.os
  subst eg ed eo
  have keep:∀b o,s1.heap.get? b=some o->h'.get? b=some o:=λb o e=>by
   have hb:=Yam e
   refine mv.heap b o (λhm=>?_) (Heap.get?_push_of_some _ (Heap.get?_push_of_some _ e))
   rcases Ybb.mp hm with z | z
   ·have z:b=(s1.heap.push (revObj a ((ae.toArray.size:Int) - 1))).objs.size:=z
    rw [z,hsz]at hb
    exact absurd hb (Nat.not_lt.mpr (Ydv _))
   ·have z:b=s1.heap.objs.size:=by simpa using z
    rw [z]at hb
    exact absurd hb (Ycc _)
  have ea:be.toList=ae.reverse:=by
   refine List.ext_getElem? λj=>?_
   have zbh:be.toList.length=ae.length:=by have:=cv.1;simp at this ⊢;omega
   by_cases hj:j < ae.length
   ·have h1:be[j]?=some (be[j]'(by have:=cv.1;simp at this;omega)):=Array.getElem?_eq_getElem _
    have h2:=cv.2 j _ h1
    rw [List.getElem?_reverse hj]
    have h3:ae[ae.length - 1 - j]?=some (be[j]'(by have:=cv.1;simp at this;omega)):=by simpa using h2
    rw [h3]
    simpa using h1
   ·rw [List.getElem?_eq_none (by omega),List.getElem?_eq_none (by rw [List.length_reverse];omega)]
  refine⟨.ref (s1.heap.push (revObj a ((ae.toArray.size:Int) - 1))).objs.size,upd H1 (s1.heap.push (revObj a ((ae.toArray.size:Int) - 1))).objs.size (.lst xs.reverse),
   I1.laid (h':=h') (t':=t') keep (by omega) (show Bn X.prog X.w _ h' _ (.lst xs.reverse) from⟨by rw [List.length_reverse];exact hz,be.toList,c',by rw [ea];exact r'.reverse,by simpa using hS⟩),rfl,q _ (I1.hok.fresh (by omega))⟩
end
theorem Kw{H:Hp}{p:Addr}(h:H p=none)(o:HO):Same H (upd H p o):=λb u q=>by rw [Az (Bz q h)];exact q
section
variable {H H':Hp}{d l p:Addr}{s n:Int}{ns:List Int}{o:HO}
end
theorem seven{n:Nat}(h:n<=1000):n<=sizeLine:=Yc0 (Bt h)
end L2
namespace PySem
open Sem (wp)
open AutoSeq1 (wpAny_loadPart')
set_option maxRecDepth 100000
section
variable {prog:Program}{w:World}{A:Around}{E:Value->Shared->Prop}{s:Shared}
theorem E8{it t:Addr}{i:Nat}{items}{x:Value}{Q:Value->Shared->Prop}(cy:s.heap.IsTupleIter it t i)
  (ht:s.heap.IsTuple t items) (hx:items[i]?=some x)
  (hQ:∀h',h'.IsTupleIter it t (i+1)->Heap.SameBut it s.heap h'->Q x { s with heap:=h' }) :
  wpAny (model prog w) A (Builtin.SmallTypes.nextOf (.ref it)) Q E s:=by
 obtain⟨o,ho,hc,hd⟩:=id cy
 obtain⟨ol,hol,_,nl,d3⟩:=ht
 unfold Builtin.SmallTypes.nextOf
 refine Yab (wpAny_callSpecial?_slot (name:=Str.ofString "__next__") cy.typeIs F.slot_tuple_iterator_next
  (Yd5 F.slot_tuple_iterator_next cy.typeIs F.entry_tuple_iterator_next ?_ (F.args_tuple_iterator_next_1 _)))
 show wpAny _ _ (field (.ref it) 0 >>= _) _ _ s
 refine Yab (Ybz ho hd (x:=.ref t) rfl ?_)
 show wpAny _ _ (if(Value.ref t==Value.none)=true then _ else _) _ _ s
 rw [Yar (show ¬((Value.ref t==Value.none)=true) from Yak)]
 show wpAny _ _ (field (.ref it) 1 >>= _) _ _ s
 refine Yab (Ybz ho hd (x:=.int i 0) rfl ?_)
 show wpAny _ _ (seqItems? (.ref t) >>= _) _ _ s
 refine Yab (wpAny_seqItems hol d3 ?_)
 simp only [Int.toNat_natCast,hx]
 refine Yab (Ycv ho hd (by simp) (Yad ⟨x,rfl,Yad (hQ _ ?_ (Heap.SameBut.update ..))⟩))
 exact⟨_,Heap.get?_update_self _ ho (Yd3 (Ydl hd _)),(Obj.cls_mapFields ..).trans hc,by
  rw [Ydl hd];simp [rawInt]⟩
theorem Ft{it t:Addr}{i:Nat}{items}{Q:Value->Shared->Prop}(hh:A.handled=none)
  (cy:s.heap.IsTupleIter it t i) (ht:s.heap.IsTuple t items) (hx:items[i]?=none)
  (hE:∀h' e,Heap.ExtBut it s.heap h'->(∃o,h'.get? e=some o/\o.cls=.type "StopIteration")->E (.ref e) { s with heap:=h' }) :
  wpAny (model prog w) A (Builtin.SmallTypes.nextOf (.ref it)) Q E s:=by
 obtain⟨o,ho,hc,hd⟩:=id cy
 obtain⟨ol,hol,_,nl,d3⟩:=ht
 unfold Builtin.SmallTypes.nextOf
 refine Yab (wpAny_callSpecial?_slot (name:=Str.ofString "__next__") cy.typeIs F.slot_tuple_iterator_next
  (Yd5 F.slot_tuple_iterator_next cy.typeIs F.entry_tuple_iterator_next ?_ (F.args_tuple_iterator_next_1 _)))
 show wpAny _ _ (field (.ref it) 0 >>= _) _ _ s
 refine Yab (Ybz ho hd (x:=.ref t) rfl ?_)
 show wpAny _ _ (if(Value.ref t==Value.none)=true then _ else _) _ _ s
 rw [Yar (show ¬((Value.ref t==Value.none)=true) from Yak)]
 show wpAny _ _ (field (.ref it) 1 >>= _) _ _ s
 refine Yab (Ybz ho hd (x:=.int i 0) rfl ?_)
 show wpAny _ _ (seqItems? (.ref t) >>= _) _ _ s
 refine Yab (wpAny_seqItems hol d3 ?_)
 simp only [Int.toNat_natCast,hx]
 refine Yab (wpAny_rule (Yab (Ycv ho hd (by simp) ?_)))
 show wpAny _ _ (newExc (.type "StopIteration") [] >>= _) _ _ _
 refine Yab ?_
 simp only [newExc,newTuple]
 refine Yab (Ybv ?_ (by size_fits))
 refine Yab (m:=firstArgMember _ _) (wpAny_of_eq (a:=Value.none) (by first | rfl | (simp only [firstArgMember];rfl)) ?_)
 refine Ybv ?_ (by size_fits)
 simp only [raiseNew]
 refine Yab (wpAny_handled ?_)
 first | rw [show A.in1.handled=none from hh] | rw [hh]
 refine Yab (Yad (wpAny_throw ?_))
 exact hE _ _ (((Heap.SameBut.update ..).extBut.push _).push _) ⟨_,Heap.get?_push_size _ rfl,rfl⟩
end
theorem E9{prog:Program}{w:World}{A:Around}(hh:A.handled=none)(it l:Addr)(bo:l≠it)(items:Array Value) :
  Draws prog w A it [it,l] items.size (λi v=>items[i]?=some v) (λi h=>h.IsTupleIter it l i/\h.IsTuple l items) where
 live:=λ_ _ st=>let⟨o,ho,_⟩:=st.1;⟨o,ho⟩
 frame:=λ_ _ _ st hk=>⟨st.1.at λo e=>hk it (by simp) o e,st.2.at λo e=>hk l (by simp) o e⟩
 item:=λi s Q E hi st hQ=>by
  refine E8 st.1 st.2 (x:=items[i]) (by simp [hi]) λh' zay d0=>?_
  exact hQ _ h' s.toks (by simp [hi]) ⟨zay,st.2.extBut d0.extBut bo⟩ d0
 done:=λs Q E st hE=>Ft hh st.1 st.2 (by simp) hE
theorem Fu(l:Addr)(items:Array Value)(n:Nat)(vm:Option Addr)(sl:Array (Option Value)) :
  Meets (Builtin.«enumerate.__new__» ⟨[.type "enumerate",.ref l],[]⟩) (λ_ R s=>s.heap.get? l=some { cls:=.type "tuple",dict:=vm,data:=.seq items n,slots:=sl } /\
   R (.ok (.ret (.ref (s.heap.push { cls:=.type "tuple_iterator",data:=.fields #[.ref l,.int 0 0] }).objs.size)))
    { s with heap:=(s.heap.push { cls:=.type "tuple_iterator",data:=.fields #[.ref l,.int 0 0] }).push { cls:=.type "enumerate",data:=.fields #[.none,.bool false,.ref s.heap.objs.size,rawInt 0,.none,.none] } }) :=
 .of_wp λprog w A R s h=>by
  obtain⟨hp,g,d,tk,os⟩:=s;obtain⟨hl,h⟩:=h
  have ye:=sub_enumerate
  have hL:Heap.IsTuple (Shared.heap ⟨hp,g,d,tk,os⟩) l items:=⟨_,hl,rfl,n,rfl⟩
  wp_walk using Yc2 hl
  refine wpAny_stack_any λst=>Yad ?_
  split
  ·rename_i c _ _ _ _ _
   cases (c==Value.type "enumerate")
   ·wp_walk using Yc2 hl,Ydm hL
    exact⟨_,rfl,h⟩
   ·wp_walk using Yc2 hl,Ydm hL
    exact⟨_,rfl,h⟩
  ·wp_walk using Yc2 hl,Ydm hL
   exact⟨_,rfl,h⟩
section
variable {prog:Program}{w:World}{A:Around}{E:Value->Shared->Prop}{s:Shared}
theorem Gg{l:Addr}{items:Array Value}{Q:Value->Shared->Prop}(hL:s.heap.IsTuple l items)
  (h:∀h',IsEnum h' (s.heap.objs.size+1) s.heap.objs.size 0 .none->h'.IsTupleIter s.heap.objs.size l 0->h'.objs.size=s.heap.objs.size+2 ->
   (∀b o,s.heap.get? b=some o->h'.get? b=some o)->Q (.ref (s.heap.objs.size+1)) { s with heap:=h' }) :
  wpAny (model prog w) A (call (.type "enumerate") [.ref l]) Q E s:=by
 obtain⟨⟨c,vm,dt,sl⟩,hl,hc,n,hd⟩:=hL
 replace hc:c=.type "tuple" := hc
 replace hd:dt=.seq items n:=hd
 subst hc hd
 refine callType_new F.called_enumerate (by decide) (F.typeCall_enumerate_1 _) (F.newCall_enumerate_1 _) (λobj=>F.args_object_init_2 obj _) F.entry_enumerate_new
  (Fu l items n vm sl) ⟨hl,?_⟩
 have hz:(s.heap.push { cls:=.type "tuple_iterator",data:=.fields #[.ref l,.int 0 0] }).objs.size=s.heap.objs.size+1:=Ycu ..
 show _/\_
 rw [hz]
 have he:IsEnum ((s.heap.push { cls:=.type "tuple_iterator",data:=.fields #[.ref l,.int 0 0] }).push
   { cls:=.type "enumerate",data:=.fields #[.none,.bool false,.ref s.heap.objs.size,rawInt 0,.none,.none] }) (s.heap.objs.size+1) s.heap.objs.size 0 .none:=by
  have:=Heap.get?_push_size (s.heap.push { cls:=.type "tuple_iterator",data:=.fields #[.ref l,.int 0 0] })
   (o:={ cls:=.type "enumerate",data:=.fields #[.none,.bool false,.ref s.heap.objs.size,rawInt 0,.none,.none] }) rfl
  rw [hz]at this;exact this
 refine⟨⟨_,he,rfl⟩,h _ he ⟨_,Heap.get?_push_of_some _ (Heap.get?_push_size _ rfl),rfl,rfl⟩ (by rw [Ycu,hz]) λb o x=>Heap.get?_push_of_some _ (Heap.get?_push_of_some _ x)⟩
end
end PySem
namespace L2
open PySem PySem.Spec PyProof.Rows
def Tr(ds:List PyData)(lo hi:Option Int):List PyData:=(ds.drop (HT.sIx ds.length 0 lo)).take (HT.sIx ds.length ds.length hi - HT.sIx ds.length 0 lo)
structure OkB(cf wt:Nat)(d:PyData):Prop where
 lay:d.canLay0=true
 dp:d.depth<=cf
 wt:d.weight<=wt
 sh:d.intsShort 13=true
 sw:d.showable=true
structure OkBs(cf wt:Nat)(ds:List PyData):Prop where
 lay:PyData.canLayAll0 ds=true
 dp:PyData.depthAll ds<=cf
 wt:PyData.weightAll ds<=wt
 sh:PyData.intsShortAll 13 ds=true
 sw:PyData.showableAll ds=true
theorem OkBs.nil{cf wt:Nat}:OkBs cf wt []:=⟨rfl,by simp [PyData.depthAll],by simp [PyData.weightAll],rfl,rfl⟩
theorem OkBs.cons{cf w1 w2:Nat}{d:PyData}{ds:List PyData}(h:OkB cf w1 d)(r:OkBs cf w2 ds):OkBs cf (w1+1+w2) (d :: ds):=by
 refine⟨?_,?_,?_,?_,?_⟩
 ·simp only [PyData.canLayAll0,h.lay,r.lay,Bool.and_self]
 ·simp only [PyData.depthAll];exact Nat.max_le.mpr ⟨h.dp,r.dp⟩
 ·simp only [PyData.weightAll];have:=h.wt;have:=r.wt;omega
 ·simp only [PyData.intsShortAll,h.sh,r.sh,Bool.and_self]
 ·simp only [PyData.showableAll,h.sw,r.sw,Bool.and_self]
theorem OkBs.mono{cf wt d' w':Nat}{ds:List PyData}(h:OkBs cf wt ds)(h1:cf<=d')(h2:wt<=w'):OkBs d' w' ds:=⟨h.lay,Yap h.dp h1,Yap h.wt h2,h.sh,h.sw⟩
theorem OkB.mono{cf wt d' w':Nat}{d:PyData}(h:OkB cf wt d)(h1:cf<=d')(h2:wt<=w'):OkB d' w' d:=⟨h.lay,Yap h.dp h1,Yap h.wt h2,h.sh,h.sw⟩
theorem OkBs.cons'{cf w1 w2 w3:Nat}{d:PyData}{ds:List PyData}(h:OkB cf w1 d)(r:OkBs cf w2 ds)(e:w1+1+w2<=w3):OkBs cf w3 (d :: ds):=(OkBs.cons h r).mono (Yag _) e
theorem OkBs.all{cf w n:Nat}{ds:List PyData}(h:∀d∈ds,OkB cf w d)(hn:ds.length<=n):OkBs cf (n * (w+1)) ds:=by
 induction ds generalizing n with
 | nil=>exact OkBs.nil
 | cons d ds ih =>
  cases n with
  | zero=>simp at hn
  | succ m =>
   refine OkBs.cons' (h d Yao) (ih (n:=m) (λe he=>h e (Yae _ he)) (by simp at hn;omega)) ?_
   rw [Nat.succ_mul];omega
theorem OkBs.tup{cf w:Nat}{ds:List PyData}(h:OkBs cf w ds):OkB (cf+1) w (.tuple ds) :=
 ⟨by simp only [PyData.canLay0,h.lay],by simp only [PyData.depth];exact Nat.succ_le_succ h.dp,by simp only [PyData.weight];exact h.wt,by simp only [PyData.intsShort,h.sh],by simp only [PyData.showable,h.sw]⟩
theorem OkBs.lst{cf w:Nat}{ds:List PyData}(h:OkBs cf w ds):OkB (cf+1) w (.list ds) :=
 ⟨by simp only [PyData.canLay0,h.lay],by simp only [PyData.depth];exact Nat.succ_le_succ h.dp,by simp only [PyData.weight];exact h.wt,by simp only [PyData.intsShort,h.sh],by simp only [PyData.showable,h.sw]⟩
theorem Xp{i:Int}(h0:-1000000000<=i)(h1:i<=1000000000):OkB 0 40 (.int i):=by
 have hn:i.natAbs<=1000000000:=by omega
 have hl:i.natAbs.log2<=30:=by
  rcases Nat.eq_zero_or_pos i.natAbs with z | z
  ·rw [z];decide
  ·exact Yc0 ((Nat.log2_lt (by omega)).mpr (Ycz hn (by decide)))
 refine⟨rfl,Yag _,?_,?_,?_⟩
 ·simp only [PyData.weight];split <;> omega
 ·have:=int_text_length_le10 (a:=i) (k:=10) (by decide) (Ycz hn (by decide))
  simp only [PyData.intsShort,PyData.shown]
  refine Yaj ?_
  show(Str.ofString (toString i)).length<=13
  rw [PySem.ofString_length];omega
 ·simp only [PyData.showable];exact Yaj (by omega)
structure OkD(d:PyData):Prop where
 lay:d.layable0=true
 sh:d.intsShort 13=true
 sw:d.showable=true
theorem OkB.ok{cf w:Nat}{d:PyData}(h:OkB cf w d)(h1:cf<=64)(h2:w<=1048576):OkD d:=by
 refine⟨?_,h.sh,h.sw⟩
 show(d.canLay0 && decide (d.depth<=64) && decide (d.weight<=2 ^ 20))=true
 rw [h.lay,Yaj (Yap h.dp h1),Yaj (Yap h.wt (show w<=2 ^ 20 by simpa using h2))]
 rfl
theorem OkD.depth{d:PyData}(h:OkD d):d.depth<=64:=SeqAt.depth_of_layable h.lay
section
variable {X:Cx}{k:Nat}
noncomputable def Iw(h:Heap)(e:PyData)(u:Value):Bool:=@decide (∃d as,Reads h u d as/\d.canLay0=true/\PyData.eqv d e=true) (Classical.propDecidable _)
theorem Ts{h:Heap}{e d:PyData}{u:Value}{as:List Addr}(r:Reads h u d as)(c:d.canLay0=true):Iw h e u=PyData.eqv d e:=by
 unfold Iw
 cases q:PyData.eqv d e with
 | true=>exact @Yaj _ (Classical.propDecidable _) ⟨d,as,r,c,q⟩
 | false =>
  refine @Yah _ (Classical.propDecidable _) λsu=>?_
  obtain⟨d',as',r',_,q'⟩:=su
  rw [SeqAt.Reads.unique d d' u as as' c r r',q']at q
  cases q
theorem C1{A:Around}{s:Shared}{e:PyData}{v:Value}{bs:List Addr}(rv:Reads s.heap v e bs)(ce:e.canLay0=true)(hu:A.units+64 < cLine):∀{ds:List PyData} {us:List Value} {as:List Addr},ReadsAll s.heap us ds as ->
  PyData.canLayAll0 ds=true->PyData.depthAll ds<=64->(∀u∈us,SeqAt.EqAt A s u v (Iw s.heap e u))/\us.any (Iw s.heap e)=ds.any λd=>PyData.eqv d e
 | [],_,_,r,_,_=>by
  cases r
  exact⟨(λ_ z=>nomatch z),rfl⟩
 | d :: ds,_,_,r,c,dp=>by
  cases r with
  | cons r1 r2 =>
   simp only [PyData.canLayAll0,Bool.and_eq_true]at c
   simp only [PyData.depthAll]at dp
   obtain⟨i1,i2⟩:=C1 rv ce hu r2 c.2 (by omega)
   have e1:=Ts (e:=e) r1 c.1
   refine⟨λu hu'=>?_,?_⟩
   ·rcases Ybb.mp hu' with rfl | z
    ·rw [e1]
     exact SeqAt.eqAt_reads d e A s _ v _ _ r1 rv c.1 ce (by omega)
    ·exact i1 u z
   ·rw [Ycn,Ycn,e1,i2]
end
section
variable {X:Cx}{aa:List (Addr×Obj)}{σ:St}{H:Hp}{s:Shared}{h':Heap}
theorem Inv.turnedL{t':Nat}{fp:List Addr}(I:Inv X aa σ H s)(k:∀b o,b∉fp->s.heap.get? b=some o->h'.get? b=some o)(hf:∀b∈fp,Gd X aa H b):Inv X aa σ H { s with heap:=h',toks:=t' }:=by
 have qe:∀b u,H b=some u->b∉fp:=λb u e z=>by rw [(hf b z).1]at e;cases e
 have nL:X.env.locals∉fp:=λz=>(hf _ z).2.1 rfl
 refine I.step (g':=s.gens) (d':=s.drawn) (ch:=fp) (λb hb=>?_) (λb o _ _ hc e _=>k b o hc e) (λb o _ _ hc e _=>⟨o.slots,k b o hc e⟩) (λ_ _ _ _ n=>n)
  (λb o hc e=>⟨o,k b o hc e⟩) (λ_ _ e=>e) (λ_ _ _ e=>e) (λb ps e=>⟨#[],by rw [e];simp⟩) (λm hm=>?_) (λb u e=>?_) I.bare
 ·obtain⟨_,f1,_,f3,f4,f5⟩:=hf b hb
  exact⟨f3,f1,f4,f5⟩
 ·obtain⟨o,es,ep,ho,r⟩:=hm
  exact⟨o,es,ep,k _ o nL ho,r⟩
 ·refine(I.hok b u e).stay (λc v hc q=>k c v ?_ q) (λ_ q=>q) λ_ _ q=>q
  rcases hc with z | z
  ·rw [z];exact qe b u e
  ·exact qe c _ z
theorem Inv.track{T:Addr}{o:HO}(I:Inv X aa σ H s)(hT:Gd X aa H T)(new:Bn X.prog X.w (upd H T o) s.heap T o):Inv X aa σ (upd H T o) s:=by
 obtain⟨f0,f1,_,f3,f4,f5⟩:=hT
 have nT:∀b u,H b=some u->b≠T:=λb u e z=>by rw [z,f0]at e;cases e
 refine I.step (H':=upd H T o) (h':=s.heap) (g':=s.gens) (d':=s.drawn) (t':=s.toks) (ch:=[T]) (λb hb=>?_) (λb o _ _ _ e _=>e) (λb o _ _ _ e _=>⟨o.slots,e⟩)
  (λb u hc _ n=>by rw [Az (λz=>hc (by simp [z]))];exact n) (λb o _ e=>⟨o,e⟩) (λb xs e=>by rw [Az (nT b _ e)];exact e) (λb u v e=>by rw [Az (nT b _ e)];exact e)
  (λb ps e=>⟨#[],by rw [Az (nT b _ e),e];simp⟩) (λm hm=>hm) (λb u e=>?_) I.bare
 ·have e:b=T:=by simpa using hb
  subst e
  exact⟨f3,f1,f4,f5⟩
 ·by_cases hb:b=T
  ·subst hb
   rw [Bc]at e
   cases e
   exact new
  ·rw [Az hb]at e
   exact(I.hok b u e).stay (λ_ _ _ q=>q) (λc q=>by rw [Az (nT c _ q)];exact q) λc xs q=>by rw [Az (nT c _ q)];exact q
end
def Ien(K:PySem.W.Frag)(a:Addr):It :=
 ⟨λi H => ∃ xs x, Hm K H a xs /\ xs[i]? = some x,
  λi H v H' => ∃ T x, H T = none /\ v = .ref T /\ H' = upd H T (.tup [.int i, x]) /\ ∀ xs, Hm K H a xs -> xs[i]? = some x,
  λi H => ∃ xs, Hm K H a xs /\ xs.length = i⟩
theorem Re{P:Program}{w:World}{K:PySem.W.Frag}{fo:List Expr}{k:Nat}{pos:Pos}(a e it:Addr)(jj:e≠it) :
  Turn P w K (.Tuple fo k pos) (Ien K a) [e,it] e (λi h=>(∃dv,IsEnum h e it i dv)/\h.IsTupleIter it a i) where
 mem:=by simp
 obj:=λi h st b hb=>by
  rcases Ybb.mp hb with rfl | hb
  ·obtain⟨⟨dv,he⟩,_⟩:=st
   exact⟨_,he,λv z=>nomatch z⟩
  ·have q:b=it:=by simpa using hb
   subst q
   obtain⟨_,o,e,c,d⟩:=st
   exact⟨o,e,λv z=>by rw [d]at z;cases z⟩
 keep:=λi h h' st k=>⟨let⟨dv,he⟩:=st.1;⟨dv,k e (by simp) _ he⟩,st.2.at λo q=>k it (by simp) o q⟩
 item:=by
  intro X hP hw hK hc i aa s σ H E I hf st hg
  subst hP hw hK
  obtain⟨xs,x,hq,hx⟩:=hg
  obtain⟨ae,rv,p,hz⟩:=I.tuple hq
  obtain⟨u,hu,ru⟩:=rv.get hx
  obtain⟨⟨dv,he⟩,cy⟩:=id st
  have kn:a≠e:=by
   intro z;subst z
   obtain⟨o,ho,cr,_⟩:=p
   rw [he]at ho;cases ho
   exact absurd cr (by intro z;injection z with z;exact absurd z (by decide))
  have j0:a≠it:=by
   intro z;subst z
   obtain⟨o,ho,cr,_⟩:=p
   obtain⟨o',ck,hcl',_⟩:=cy
   rw [ho]at ck;cases ck
   rw [cr]at hcl'
   exact absurd hcl' (by intro z;injection z with z;exact absurd z (by decide))
  have W:=Ydw (prog:=X.prog) (w:=X.w) (A:=X.A) (E9 (A:=X.A.in1) (I.ok.hd hc) it a j0 ae.toArray) e jj (by simp [jj,Ne.symm kn]) (by simp)
  refine W.item i s _ _ (by rw [Yal];exact(List.getElem?_eq_some_iff.mp hu).1) ⟨⟨dv,he⟩,cy,p⟩ λT ie h' tk hv hT ht hm kk=>?_
  have apart:=W.apart i T h' hm
  refine⟨_,rfl,W.go fo k pos i T _ _ _ hm λqh io ix=>?_⟩
  obtain⟨t,x',ig,rfl⟩:=hv
  have v3:x'=u:=by
   have:ae[i]?=some x':=by simpa using ig
   rw [hu]at this;exact(Yas this).symm
  subst v3
  have I1:Inv X aa σ H { s with heap:=h',toks:=tk }:=I.turnedL kk hf
  have I2:Inv X aa σ H { s with heap:=qh,toks:=tk }:=I1.turnedL (s:={ s with heap:=h',toks:=tk }) (t':=tk) ix hf
  have fT:Gd X aa H T:=I.fpOk hT (I.hok.fresh hT)
  have kr:IsTup qh T #[.int i t,x']:=let⟨o,ho,r⟩:=ht;⟨o,ix T o apart ho,r⟩
  refine⟨.ref T,upd H T (.tup [.int i,x]),I2.track fT ⟨by show 2<=sizeLine;decide,[.int i t,x'],.cons ⟨t,rfl⟩ (.cons ru .nil),kr⟩,rfl,⟨T,x,fT.1,rfl,rfl,λys hy=>by rw [I.tuple_inj hy hq];exact hx⟩,⟨io.1,io.2.1⟩,λb hb=>?_⟩
  have mh:b≠T:=by
   rcases Ybb.mp hb with rfl | hb
   ·exact Ya6 (Yau (Yam he) hT)
   ·have q:b=it:=by simpa using hb
    subst q
    obtain⟨o,ho,_⟩:=cy
    exact Ya6 (Yau (Yam ho) hT)
  rw [Az mh]
  exact(hf b hb).1
 done:=by
  intro X hP hw hK hc i aa s σ H E I hf st hg
  subst hP hw hK
  obtain⟨xs,hq,hl⟩:=hg
  obtain⟨ae,rv,p,hz⟩:=I.tuple hq
  obtain⟨⟨dv,he⟩,cy⟩:=id st
  have kn:a≠e:=by
   intro z;subst z
   obtain⟨o,ho,cr,_⟩:=p
   rw [he]at ho;cases ho
   exact absurd cr (by intro z;injection z with z;exact absurd z (by decide))
  have j0:a≠it:=by
   intro z;subst z
   obtain⟨o,ho,cr,_⟩:=p
   obtain⟨o',ck,hcl',_⟩:=cy
   rw [ho]at ck;cases ck
   rw [cr]at hcl'
   exact absurd hcl' (by intro z;injection z with z;exact absurd z (by decide))
  have W:=Ydw (prog:=X.prog) (w:=X.w) (A:=X.A) (E9 (A:=X.A.in1) (I.ok.hd hc) it a j0 ae.toArray) e jj (by simp [jj,Ne.symm kn]) (by simp)
  have hn:ae.toArray.size=i:=by rw [Yal,<- rv.length];exact hl
  subst hn
  exact W.done s _ _ ⟨⟨dv,he⟩,cy,p⟩ λh' tk kk=>⟨rfl,I.turnedL kk hf⟩
 self:=λA i s Q E st h=>let⟨⟨_,he⟩,_⟩:=st;Ydx he h
section
variable {X:Cx}
theorem Qbi{J:It}{g:TG}{tb:TS}{D:Ends}{σ:St}{H:Hp}(n:Nat)(Pv:Nat->St->Hp->Prop)(h0:Pv 0 σ H)(hgo:∀i σ H,i < n->Pv i σ H->J.go i H)(gx:∀ σ H,Pv n σ H->J.stop n H/\D.nx σ H)
  (hs:∀i x σ H H2,i < n->Pv i σ H->J.yld i H x H2->g x σ H2 fun σ2 H3=>tb { D with nx:=Pv (i+1),ct:=Pv (i+1),bk:=D.nx } σ2 H3) :
  ∃W:Nat->Nat->St->Hp->Prop,(∃m,W 0 m σ H)/\∀i m σ H,W i m σ H ->
   (J.stop i H/\D.nx σ H)\/(J.go i H/\∃N:St->Hp->Prop,(∀ σ' H',N σ' H'->∃m',m' < m/\W (i+1) m' σ' H')/\∀x H',J.yld i H x H'->g x σ H' fun σ2 H2=>tb { D with nx:=N,ct:=N,bk:=D.nx } σ2 H2):=by
 refine⟨λi m σ H=>m=n - i/\i<=n/\Pv i σ H,⟨n,by simp,Yb0 _,h0⟩,?_⟩
 rintro i m σ H ⟨rfl,hi,p⟩
 by_cases db:i < n
 ·exact .inr ⟨hgo i σ H db p,Pv (i+1),fun σ' H' p'=>⟨n - (i+1),by omega,rfl,db,p'⟩,λx H' y=>hs i x σ H H' db p y⟩
 ·have e:i=n:=by omega
  subst e
  exact .inl (gx σ H p)
def Qeu(i j l:Nat)(ta:TA):TS:=λD σ H=>ta σ H λvs H1=>∃u v w,vs=[u,v,w]/\D.nx (((σ.set i (some u)).set j (some v)).set l (some w)) H1
theorem Xq{i j l:Nat}{x y z:Str}{a b c:Expr}{ta:TA}{px py pz pt pos:Pos}{kt k2 d5}(hc:X.calm=true)(hN:X.N.Nodup)(hi:X.N[i]?=some x)(hj:X.N[j]?=some y)(hl:X.N[l]?=some z)(jk:i≠j)(xn:i≠l)(hjl:j≠l)
  (hx:X.env.scope.names.lookup x=some .local) (hy:X.env.scope.names.lookup y=some .local) (hz:X.env.scope.names.lookup z=some .local) (ha:PA X [a,b,c] ta)
  (hw:swappedStores [.Tuple [.Name x px,.Name y py,.Name z pz] kt pt] (.Tuple [a,b,c] k2 d5) X.env=pure (some [x,y,z]))
  (hs:swapsWithSole [.Tuple [.Name x px,.Name y py,.Name z pz] kt pt] (.Tuple [a,b,c] k2 d5) pos.line X.env=pure false:=by rfl) :
  PS X (.Assign [.Tuple [.Name x px,.Name y py,.Name z pz] kt pt] (.Tuple [a,b,c] k2 d5) pos) (Qeu i j l ta):=by
 intro aa s σ H D I h
 rw [exec_Assign_arm]
 refine Yab (Yc6 ?_)
 rw [hs]
 refine Yab (Yad ?_)
 rw [Yar (by decide)]
 refine Yab (Tuple_ (thn (ha _ aa s σ H _ I h) λus s1 t6=>?_))
 obtain⟨vs,H1,I1,r1,q1⟩:=t6
 obtain⟨u,v,w,e1,q1⟩:=q1
 subst e1
 obtain⟨u1,u2,u3,rfl,ru,rv,cu⟩:∃u1 u2 u3,us=[u1,u2,u3]/\Bh u u1/\Bh v u2/\Bh w u3:=by
  cases r1 with
  | cons p q =>
   cases q with
   | cons p' q' =>
    cases q' with
    | cons p'' q'' =>
     cases q''
     exact⟨_,_,_,rfl,p,p',p''⟩
 refine Ybv ?_ (by show 3<=sizeLine;decide)
 have I2:Inv X aa σ H1 { s1 with heap:=s1.heap.push { cls:=.type "tuple",data:=.seq [u1,u2,u3].toArray } }:=I1.kept (t':=s1.toks) λb o e=>Heap.get?_push_of_some _ e
 rw [hw]
 refine Yab (Yad ?_)
 show wpAny (model X.prog X.w) X.A (do rule "assign.swapped-stores";let items <- unpackItems (.ref s1.heap.objs.size) 3 none;assignInOrder [λv=>bindName X.env z v,λv=>bindName X.env y v,λv=>bindName X.env x v] items.reverse;pure Flow.next) _ _ _
 refine Yab (wpAny_rule (Yab (unpackItems_tuple (items:=#[u1,u2,u3]) (I.ok.hd hc) (IsTup.new s1.heap _) λh' ig=>?_)))
 have I3:=I2.kept (h':=h') (t':=s1.toks) λb o e=>ig b o (Ya6 (Yam e)) e
 show wpAny _ _ (assignInOrder [λv=>bindName X.env z v,λv=>bindName X.env y v,λv=>bindName X.env x v] [u3,u2,u1] >>= λ_=>pure Flow.next) _ _ _
 refine Yab (Ych (Yd0 (Da I3 hN hl (.inl hz) cu (λs2 I4=>?_) (.inr hz))))
 refine Ych (Yd0 (Da I4 hN hj (.inl hy) rv (λs3 I5=>?_) (.inr hy)))
 refine Ych (Yd0 (Da I5 hN hi (.inl hx) ru (λs4 I6=>assignInOrder_nil (Yad ?_)) (.inr hx)))
 have e1:((σ.set l (some w)).set j (some v)).set i (some u)=((σ.set l (some w)).set i (some u)).set j (some v):=List.set_comm _ _ (Ydc jk)
 have e2:(σ.set l (some w)).set i (some u)=(σ.set i (some u)).set l (some w):=List.set_comm _ _ (Ydc xn)
 have e3:((σ.set i (some u)).set l (some w)).set j (some v)=((σ.set i (some u)).set j (some v)).set l (some w):=List.set_comm _ _ (Ydc hjl)
 rw [e1,e2,e3]at I6
 exact⟨_,H1,I6,q1⟩
theorem L4:Gq X (binaryOp .Mult) (λx y H Q=>∃z n,x=.str z/\y=.int n/\(n=0\/n=1)/\Q (.str (if n=0 then Str.empty else z)) H):=by
 intro aa s σ H x y v u Q I rx ry h
 obtain⟨z,n,rfl,rfl,hn,q⟩:=h
 obtain⟨t,rfl⟩:=rx
 obtain⟨t',rfl⟩:=ry
 rcases hn with rfl | rfl
 ·exact P.mul_str_none (by decide) (by decide) ⟨.str Str.empty,H,I.tok _,⟨_,rfl⟩,by simpa using q⟩
 ·refine P.mul_str (by decide) (λ_ z=>by simp at z) (λ_ z=>by simp at z) ?_
  rw [Yar (by decide),Yaw (by simp)]
  exact⟨.str z,H,I,⟨_,rfl⟩,by simpa using q⟩
end
theorem Same.tr{H H1 H2:Hp}(a:Same H H1)(b:Same H1 H2):Same H H2:=λc o h=>b c o (a c o h)
section
variable {X:Cx}
end
end L2
namespace HT
open PySem PySem.Spec PyProof.Rows
section
variable {prog:Program}{w:World}{A:Around}{E:Value->Shared->Prop}{s:Shared}
theorem getItem_tuple_all{t sl:Addr}{items:Array Value}{vl vu:Value}{lo hi:Option Int}{Q:Value->Shared->Prop}(ht:IsTup s.heap t items)(hs:s.heap.IsSliceOf sl vl vu .none)(pl:IsPart vl lo)(pu:IsPart vu hi)
  (hw:sIx items.size 0 lo=0/\sIx items.size items.size hi=items.size)
  (h:Q (.ref t) s):wpAny (model prog w) A (getItem (.ref t) (.ref sl)) Q E s:=by
 obtain⟨os,hos,js,hds⟩:=id hs
 have hTs:s.TypeIs (.ref sl) "slice" := ⟨os,hos,js⟩
 unfold getItem
 try with_reducible refine Yb8 ?_
 first | refine Yab (Yad ?_) | skip
 refine Yab (wpAny_sequenceKey ht.typeIs (by decide) ?_)
 refine Yab (wpAny_callSpecial?_slot (name:=Str.ofString "__getitem__") ht.typeIs Ybp
  (Yd5 Ybp ht.typeIs entry_tuple_getitem ?_ (args_tuple_getitem _ _)))
 show wpAny _ _ (Builtin.Tuple.tupleItemsOf (.ref t) >>= _) _ _ s
 refine Yab (tupleItemsOf_ ht ?_)
 refine Yab (Yej hTs ?_)
 rw [Yaw (by decide)]
 refine Yab (Ed hs pl pu ?_)
 have zax:(((sIx items.size 0 lo:Nat):Int)==0 && (1:Int)==1 && (sIx items.size items.size hi - sIx items.size 0 lo)==items.size)=true:=by
  rw [hw.1,hw.2];simp
 show wpAny _ _ (if(((sIx items.size 0 lo:Nat):Int)==0 && (1:Int)==1 && (sIx items.size items.size hi - sIx items.size 0 lo)==items.size)=true then _ else _) _ _ s
 rw [Yaw zax]
 unfold Builtin.Tuple.tupleIsExact
 refine Yab (Yab (Yej ht.typeIs (Yad ?_)))
 rw [Yaw (by decide)]
 refine Yab (wpAny_rule ?_)
 first
  | exact Yad ⟨_,rfl,Yad h⟩
  | exact Yab (Yad (Yad ⟨_,rfl,Yad h⟩))
  | exact Yab (Yad ⟨_,rfl,Yad h⟩)
end
end HT
namespace L2
open PySem PySem.Spec PyProof.Rows
section
variable {X:Cx}
theorem Tt{ds:List PyData}{lo hi:Option Int}(h:HT.sIx ds.length 0 lo=0/\HT.sIx ds.length ds.length hi=ds.length):Tr ds lo hi=ds:=by
 unfold Tr
 rw [h.1,h.2,List.drop_zero,Nat.sub_zero,Ycx (Yag _)]
end
section
variable {X:Cx}
theorem Kx:∀(l:List (Str×Tok)),Vals ((l.map (·.1)).map V.str) (strValues l)
 | []=>.nil
 | (x,t) :: l=>.cons ⟨t,rfl⟩ (Kx l)
def Qbj:V->List V->Hp->VK->Prop:=λx vs H Q=>∃z y,x=.str z/\vs=[.str y]/\(y.length==0)=false/\z.length<=1000000/\∀l,H l=none->Q (.ref l) (upd H l (.lst ((Txt.split z y).map V.str)))
theorem Ix(x:Str)(m4:List Nat)(n:Nat):(Builtin.Str.partsBetween x m4 n).length=m4.length+1:=by
 unfold Builtin.Str.partsBetween
 simp
theorem Tu:MtR X "str.split" Qbj:=by
 intro aa s σ H x xs v us Q I rx r h
 obtain⟨z,y,rfl,rfl,hy,hz,q⟩:=h
 obtain⟨t,rfl⟩:=rx
 obtain⟨u,rfl,ru⟩:=Dp r
 obtain⟨t',rfl⟩:=ru
 have hf:=I.hok.fresh (Yag s.heap.objs.size)
 have u9:z.length<=sizeLine:=Yap hz (by decide)
 have fin:∀(l:List (Str×Tok)) (tk:Nat),l.map (·.1)=Txt.split z y->l.length<=1000002->EP X aa σ Q (.ref s.heap.objs.size) { s with toks:=tk,heap:=s.heap.push { cls:=.type "list",data:=.seq (strValues l).toArray } }:=λl tk e hl=>by
  refine⟨.ref s.heap.objs.size,_,I.laid (t':=tk) (o:=.lst ((Txt.split z y).map V.str)) (λb ob q=>Heap.get?_push_of_some _ q) (Yag _) ?_,rfl,q _ hf⟩
  refine⟨by rw [<- e,Yaa,Yaa];exact Yap hl (by decide),strValues l,0,by rw [<- e];exact Kx l,Heap.get?_push_size _ rfl⟩
 cases h1:(decide (z.length < y.length) || decide (Builtin.Str.strKind z < Builtin.Str.strKind y))
 ·cases hf':(Builtin.Str.occurrences z y 0 z.length (z.length+1)).isEmpty
  ·have zbk:=StrLaws.occ_length_le z y 0 z.length (z.length+1)
   have hn:(Builtin.Str.partsBetween z (Builtin.Str.occurrences z y 0 z.length (z.length+1)) y.length).length<=1000002:=by rw [Ix];omega
   refine Ydu F.slot_str_split (Yel _ _ _) F.entry_str_split (F.args_str_split_2 _ _) (meets_str_split_sep z y t t' h1 hy hf' u9 (Yap hn (by decide))) ?_
   show EP X aa σ Q (.ref s.heap.objs.size) { s with toks:=_,heap:=s.heap.push { cls:=.type "list",data:=.seq (strsFrom s.toks (Builtin.Str.partsBetween z (Builtin.Str.occurrences z y 0 z.length (z.length+1)) y.length)).toArray } }
   rw [strsFrom_eq]
   refine fin (numbered s.toks _) _ ((numbered_texts _ _).trans ((Yar (ne_true_of_eq_false h1)).trans (Yar (ne_true_of_eq_false hf'))).symm) ?_
   have e:=Ybo List.length (numbered_texts s.toks (Builtin.Str.partsBetween z (Builtin.Str.occurrences z y 0 z.length (z.length+1)) y.length))
   rw [Yaa]at e
   rw [e];exact hn
  ·refine Ydu F.slot_str_split (Yel _ _ _) F.entry_str_split (F.args_str_split_2 _ _) (meets_str_split_not_found z y t t' h1 hy hf') ?_
   exact fin [(z,t)] s.toks ((Yar (ne_true_of_eq_false h1)).trans (Yaw hf')).symm (by show 1<=1000002;decide)
 ·refine Ydu F.slot_str_split (Yel _ _ _) F.entry_str_split (F.args_str_split_2 _ _) (meets_str_split_cannot_occur z y t t' h1) ?_
  exact fin [(z,t)] s.toks (Yaw h1).symm (by show 1<=1000002;decide)
def Iel(K:PySem.W.Frag)(a:Addr):It :=
 ⟨λi H => ∃ xs x, Ei K H a xs /\ xs[i]? = some x,
  λi H v H' => ∃ T x, H T = none /\ v = .ref T /\ H' = upd H T (.tup [.int i, x]) /\ ∀ xs, Ei K H a xs -> xs[i]? = some x,
  λi H => ∃ xs, Ei K H a xs /\ xs.length = i⟩
theorem N7{P:Program}{w:World}{K:PySem.W.Frag}{fo:List Expr}{k:Nat}{pos:Pos}(a e it:Addr)(jj:e≠it) :
  Turn P w K (.Tuple fo k pos) (Iel K a) [e,it] e (λi h=>(∃dv,IsEnum h e it i dv)/\h.IsListIter it a i) where
 mem:=by simp
 obj:=λi h st b hb=>by
  rcases Ybb.mp hb with rfl | hb
  ·obtain⟨⟨dv,he⟩,_⟩:=st
   exact⟨_,he,λv z=>nomatch z⟩
  ·have q:b=it:=by simpa using hb
   subst q
   obtain⟨_,o,e,c,d⟩:=st
   exact⟨o,e,λv z=>by rw [d]at z;cases z⟩
 keep:=λi h h' st k=>⟨let⟨dv,he⟩:=st.1;⟨dv,k e (by simp) _ he⟩,st.2.at λo q=>k it (by simp) o q⟩
 item:=by
  intro X hP hw hK hc i aa s σ H E I hf st hg
  subst hP hw hK
  obtain⟨xs,x,hq,hx⟩:=hg
  obtain⟨ae,rv,p,hz⟩:=I.list hq
  obtain⟨u,hu,ru⟩:=rv.get hx
  obtain⟨⟨dv,he⟩,cy⟩:=id st
  have kn:a≠e:=by
   intro z;subst z
   obtain⟨o,ho,cr,_⟩:=p.isList
   rw [he]at ho;cases ho
   exact absurd cr (by intro z;injection z with z;exact absurd z (by decide))
  have j0:a≠it:=by
   intro z;subst z
   obtain⟨o,ho,cr,_⟩:=p.isList
   obtain⟨o',ck,hcl',_⟩:=cy
   rw [ho]at ck;cases ck
   rw [cr]at hcl'
   exact absurd hcl' (by intro z;injection z with z;exact absurd z (by decide))
  have W:=Ydw (prog:=X.prog) (w:=X.w) (A:=X.A) (Draws.list (A:=X.A.in1) (I.ok.hd hc) it a j0 ae.toArray) e jj (by simp [jj,Ne.symm kn]) (by simp)
  refine W.item i s _ _ (by rw [Yal];exact(List.getElem?_eq_some_iff.mp hu).1) ⟨⟨dv,he⟩,cy,p.isList⟩ λT ie h' tk hv hT ht hm kk=>?_
  have apart:=W.apart i T h' hm
  refine⟨_,rfl,W.go fo k pos i T _ _ _ hm λqh io ix=>?_⟩
  obtain⟨t,x',ig,rfl⟩:=hv
  have v3:x'=u:=by
   have:ae[i]?=some x':=by simpa using ig
   rw [hu]at this;exact(Yas this).symm
  subst v3
  have I1:Inv X aa σ H { s with heap:=h',toks:=tk }:=I.turnedL kk hf
  have I2:Inv X aa σ H { s with heap:=qh,toks:=tk }:=I1.turnedL (s:={ s with heap:=h',toks:=tk }) (t':=tk) ix hf
  have fT:Gd X aa H T:=I.fpOk hT (I.hok.fresh hT)
  have kr:IsTup qh T #[.int i t,x']:=let⟨o,ho,r⟩:=ht;⟨o,ix T o apart ho,r⟩
  refine⟨.ref T,upd H T (.tup [.int i,x]),I2.track fT ⟨by show 2<=sizeLine;decide,[.int i t,x'],.cons ⟨t,rfl⟩ (.cons ru .nil),kr⟩,rfl,⟨T,x,fT.1,rfl,rfl,λys hy=>by rw [I.list_inj hy hq];exact hx⟩,⟨io.1,io.2.1⟩,λb hb=>?_⟩
  have mh:b≠T:=by
   rcases Ybb.mp hb with rfl | hb
   ·exact Ya6 (Yau (Yam he) hT)
   ·have q:b=it:=by simpa using hb
    subst q
    obtain⟨o,ho,_⟩:=cy
    exact Ya6 (Yau (Yam ho) hT)
  rw [Az mh]
  exact(hf b hb).1
 done:=by
  intro X hP hw hK hc i aa s σ H E I hf st hg
  subst hP hw hK
  obtain⟨xs,hq,hl⟩:=hg
  obtain⟨ae,rv,p,hz⟩:=I.list hq
  obtain⟨⟨dv,he⟩,cy⟩:=id st
  have kn:a≠e:=by
   intro z;subst z
   obtain⟨o,ho,cr,_⟩:=p.isList
   rw [he]at ho;cases ho
   exact absurd cr (by intro z;injection z with z;exact absurd z (by decide))
  have j0:a≠it:=by
   intro z;subst z
   obtain⟨o,ho,cr,_⟩:=p.isList
   obtain⟨o',ck,hcl',_⟩:=cy
   rw [ho]at ck;cases ck
   rw [cr]at hcl'
   exact absurd hcl' (by intro z;injection z with z;exact absurd z (by decide))
  have W:=Ydw (prog:=X.prog) (w:=X.w) (A:=X.A) (Draws.list (A:=X.A.in1) (I.ok.hd hc) it a j0 ae.toArray) e jj (by simp [jj,Ne.symm kn]) (by simp)
  have hn:ae.toArray.size=i:=by rw [Yal,<- rv.length];exact hl
  subst hn
  exact W.done s _ _ ⟨⟨dv,he⟩,cy,p.isList⟩ λh' tk kk=>⟨rfl,I.turnedL kk hf⟩
 self:=λA i s Q E st h=>let⟨⟨_,he⟩,_⟩:=st;Ydx he h
theorem Ky{P:Program}{w:World}:∀{kvs:List (Key×V)} {vs:List Value},vs.length=kvs.length->(∀(j:Nat) (v:Value),vs[j]?=some v->∃k x,kvs[j]?=some (k,x)/\(B2 P w).is k v=true)->Vals (kvs.map λp=>kV p.1) vs
 | [],[],_,_=>.nil
 | (k,x) :: kvs,v :: vs,hl,h=>by
  refine .cons ?_ (Ky (P:=P) (w:=w) (by simpa using hl) λj u e=>by simpa using h (j+1) u (by simpa using e))
  obtain⟨k',x',e,hk⟩:=h 0 v rfl
  cases e
  rcases keyIs_shape (k:=k) (v:=v) hk with⟨i,t,rfl,rfl⟩ | ⟨z,t,rfl,rfl⟩
  ·exact⟨t,rfl⟩
  ·exact⟨t,rfl⟩
theorem L5(hc:X.calm=true):Ec X (.type "list") (λxs H Q=>∃a kvs,xs=[.ref a]/\H a=some (.dK kvs)/\∀l,H l=none->Q (.ref l) (upd H l (.lst (kvs.map λp=>kV p.1)))):=by
 intro aa s σ H xs us Q I r h
 obtain⟨a,kvs,rfl,ha,q⟩:=h
 obtain⟨u,rfl,rx⟩:=Dp r
 cases rx
 obtain⟨hz,hsys,vs,rv,hd⟩:=Mv I.hok ha
 obtain⟨ep,gt⟩:=hd.dictAt
 have hl:=rv.length
 refine PySem.W.kdl_call (PySem.W.kdl_dict (ep:=ep) hsys) (I.ok.hd hc) gt (by rw [<- hl];exact hz) λh' tk ah c kk gr ik=>?_
 refine⟨.ref s.heap.objs.size,_,I.laid (t':=tk) (o:=.lst (kvs.map λp=>kV p.1)) kk (Yag _) ?_,rfl,q _ (I.hok.fresh (Yag _))⟩
 refine⟨by rw [Yaa];exact hz,ah.toList,c,?_,by simpa using gr⟩
 refine Ky (P:=X.prog) (w:=X.w) (by rw [Ydd,ik.1,hl]) λj v e=>?_
 obtain⟨k,x,e1,e2⟩:=ik.2 j v (by rw [<- Array.getElem?_toList];exact e)
 obtain⟨hj,ej⟩:=List.getElem?_eq_some_iff.mp e1
 have hj':j < kvs.length:=by omega
 refine⟨k,(kvs[j]).2,?_,e2⟩
 have hk:kvs[j].1=k:=by
  have:=Ybo (λl=>l[j]?) rv.keys
  simp only [List.getElem?_map,List.getElem?_eq_getElem hj',e1,Option.map_some]at this
  exact Yas this
 rw [List.getElem?_eq_getElem hj',<- hk]
theorem Inv.trackL{aa:List (Addr×Obj)}{σ:St}{s:Shared}:∀{as:List Addr} {kvs:List (Key×V)} {H:Hp},Inv X aa σ H s->as.length=kvs.length->as.Pairwise (· < ·)->(∀a∈as,Gd X aa H a) ->
  (∀(j:Nat) (a:Addr) (p:Key×V),as[j]?=some a->kvs[j]?=some p->∃ae,Vals [kV p.1,p.2] ae/\IsTup s.heap a ae.toArray) ->
  ∃H',Inv X aa σ H' s/\Same H H'/\(∀(j:Nat) (a:Addr) (p:Key×V),as[j]?=some a->kvs[j]?=some p->H' a=some (.tup [kV p.1,p.2]))/\∀b,b∉as->H' b=H b
 | [],_,H,I,_,_,_,_=>⟨H,I,λ_ _ e=>e,λj a p e=>by simp at e,λ_ _=>rfl⟩
 | a :: as,[],_,_,hl,_,_,_=>by simp at hl
 | a :: as,p :: kvs,H,I,hl,hp,hf,ht=>by
  obtain⟨ae,hv,hi⟩:=ht 0 a p rfl rfl
  have fa:=hf a Yao
  have I1:Inv X aa σ (upd H a (.tup [kV p.1,p.2])) s:=I.track fa ⟨by show 2<=sizeLine;decide,ae,hv,hi⟩
  have db:=(List.pairwise_cons.mp hp).1
  obtain⟨H',I',S',h1,h2⟩:=Inv.trackL (as:=as) (kvs:=kvs) I1 (by simpa using hl) (List.pairwise_cons.mp hp).2
   (λb hb=>by
    obtain⟨f0,f1⟩:=hf b (Yae _ hb)
    exact⟨by rw [Az (Yeh (db b hb))];exact f0,f1⟩)
   (λj b r e1 e2=>ht (j+1) b r (by simpa using e1) (by simpa using e2))
  have na:a∉as:=λh=>Ycc _ (db a h)
  refine⟨H',I',(Kw fa.1 _).tr S',λj b r e1 e2=>?_,λb hb=>?_⟩
  ·cases j with
   | zero =>
    simp at e1 e2
    subst e1 e2
    rw [h2 a na];exact Bc
   | succ j=>exact h1 j b r (by simpa using e1) (by simpa using e2)
  ·rw [h2 b (λh=>hb (Yae _ h)),Az (λz=>hb (by simp [z]))]
def Pc(H:Hp)(as:List Addr)(kvs:List (Key×V)):Prop:=as.length=kvs.length/\∀(j:Nat) (a:Addr) (p:Key×V),as[j]?=some a->kvs[j]?=some p->H a=some (.tup [kV p.1,p.2])
end
end L2
namespace PySem
open Sem (wp)
open AutoSeq1 (wpAny_loadPart')
set_option maxRecDepth 100000
section
variable {prog:Program}{w:World}{K:Type} [DecidableEq K]
theorem Fa(knd:KeyKind prog w K)(r d:Addr)(kvs:List (K×Value))(ep:Nat)(hn:kvs.length<=sizeLine) :
  MeetsIn prog w (Builtin.«tuple.__new__» ⟨[.type "tuple",.ref r],[]⟩) (λA R s=>A.handled=none/\s.heap.IsItemsView r d/\s.heap.DictAt knd d kvs ep /\
   ∀(h':Heap) (tk:Nat) (as:List Addr),(∀b o,s.heap.get? b=some o->h'.get? b=some o)->as.length=kvs.length->PySem.W.KdxG knd kvs s.heap.objs.size h' as ->
    R (.ok (.ret (.ref h'.objs.size))) { s with heap:=h'.push { cls:=.type "tuple",data:=.seq (as.map Value.ref).toArray },toks:=tk }) :=
 .of_wp λA R s h=>by
  obtain⟨hp,g,dr,tk,os⟩:=s;obtain⟨hh,hv,hm,h⟩:=h
  have ye:=sub_tuple_self
  have zbf:=init_tuple_lookup
  have hmh:=madeHere_tuple
  have hT:Shared.TypeIs ⟨hp,g,dr,tk,os⟩ (.ref r) "dict_items" := hv.typeIs
  obtain⟨o,ho,hc,hd⟩:=id hv
  wp_walk using Yc2 ho,Yej hT,PySem.W.kdx_collect (A:=A.in1) (knd:=knd) (kvs:=kvs) (ep:=ep) hh hv hm hn
  intro h' tk' as hk hl hG
  show wpAny _ _ (Builtin.Tuple.tupleExact (as.map Value.ref).toArray >>= λv=>ret v) _ _ _
  unfold Builtin.Tuple.tupleExact
  refine Yab (Ybv ?_ (by show(as.map Value.ref).toArray.size<=sizeLine;rw [Yal,Yaa,hl];exact hn))
  exact Yad ⟨_,rfl,h h' tk' as hk hl hG⟩
end
end PySem
namespace L2
open PySem PySem.Spec PyProof.Rows
section
variable {X:Cx}
theorem Iy{α β:Type}{F:α->β->Prop}:∀{l₁:List α} {l₂:List β} {j:Nat} {a:α},Paired F l₁ l₂->l₁[j]?=some a->∃b,l₂[j]?=some b/\F a b
 | _,_,_,_,.nil,e=>by simp at e
 | _,_,0,_,.cons r _,e=>by simp at e;subst e;exact⟨_,rfl,r⟩
 | _,_,j+1,a,.cons _ t,e=>by
  obtain⟨b,h1,h2⟩:=Iy (j:=j) (a:=a) t (by simpa using e)
  exact⟨b,by simpa using h1,h2⟩
theorem Tv:MtR X "dict.items" (λx vs H Q=>∃a kvs,x=.ref a/\vs=[]/\H a=some (.dK kvs)/\∀v,H v=none->Q (.ref v) (upd H v (.ext λh=>h.IsItemsView v a))):=by
 intro aa s σ H x xs v us Q I rx r h
 obtain⟨a,kvs,rfl,rfl,ha,q⟩:=h
 cases rx
 have ng:=Vals.zero r
 subst ng
 obtain⟨hz,hsys,vs,rv,hd⟩:=Mv I.hok ha
 refine call_meetsIn PySem.F.slot_dict_items hd.typeIs PySem.F.entry_dict_items (PySem.F.args_dict_items_1 _) (meets_dict_items (B2 X.prog X.w) a hsys) ⟨⟨vs,hd⟩,?_⟩
 refine⟨.ref s.heap.objs.size,_,I.laid (t':=s.toks) (o:=.ext λh=>h.IsItemsView s.heap.objs.size a) (λb ob q=>Heap.get?_push_of_some _ q) (Yag _) ?_,rfl,q _ (I.hok.fresh (Yag _))⟩
 exact⟨⟨_,Heap.get?_push_size _ rfl,rfl,rfl⟩,⟨_,Heap.get?_push_size _ rfl⟩,λh1 h2 ⟨o,e,r⟩ k=>⟨o,k o e,r⟩⟩
theorem Hd(hc:X.calm=true):Ec X (.type "tuple") (λxs H Q=>∃v a kvs,xs=[.ref v]/\H v=some (.ext λh=>h.IsItemsView v a)/\H a=some (.dK kvs) /\
  ∀(t:Addr) (as:List Addr) (H':Hp),Same H H'->H' t=some (.tup (as.map V.ref))->Pc H' as kvs->Q (.ref t) H'):=by
 intro aa s σ H xs us Q I r h
 obtain⟨v,a,kvs,rfl,hv,ha,q⟩:=h
 obtain⟨u,rfl,rx⟩:=Dp r
 cases rx
 obtain⟨hview,_,_⟩:=(show Bn X.prog X.w H s.heap v (.ext λh=>h.IsItemsView v a) from I.hok v _ hv)
 obtain⟨hz,hsys,vs,rv,hd⟩:=Mv I.hok ha
 obtain⟨ep,gt⟩:=hd.dictAt
 have hl:=rv.length
 refine callType_newIn F.called_tuple (by decide) (F.typeCall_tuple_1 _) (F.newCall_tuple_1 _) (λobj=>F.args_object_init_2 obj _) F.entry_tuple_new
  (Fa (B2 X.prog X.w) v a vs ep (by rw [<- hl];exact hz)) ⟨I.ok.hd hc,hview,gt,λh' tk as kk jl hG=>⟨⟨_,Heap.get?_push_size _ rfl,rfl⟩,?_⟩⟩
 have I1:Inv X aa σ H { s with heap:=h',toks:=tk }:=I.kept kk
 obtain⟨H',I2,S2,av,ho2⟩:=I1.trackL (as:=as) (kvs:=kvs) (by rw [jl,hl]) hG.rise
  (λb hb=>I.fpOk (Yc0 (hG.above b hb)) (I.hok.fresh (Yc0 (hG.above b hb))))
  (λj b p e1 e2=>by
   obtain⟨fi,k,x,e3,e4,e5⟩:=hG.pairs j b e1
   have hj:j < kvs.length:=(List.getElem?_eq_some_iff.mp e2).1
   have hk:p.1=k:=by
    have:=Ybo (λl=>l[j]?) rv.keys
    simp only [List.getElem?_map,e2,e3,Option.map_some]at this
    exact Yas this
   have hx:Bh p.2 x:=by
    obtain⟨q,e6,e7⟩:=Iy rv e2
    rw [e3]at e6
    cases e6
    exact e7.2
   have kc:Bh (kV p.1) fi:=by
    rw [hk]
    rcases keyIs_shape (k:=k) (v:=fi) e4 with⟨i,t,rfl,rfl⟩ | ⟨z,t,rfl,rfl⟩
    ·exact⟨t,rfl⟩
    ·exact⟨t,rfl⟩
   exact⟨[fi,x],.cons kc (.cons hx .nil),_,e5,rfl,_,rfl⟩)
 have I3:Inv X aa σ (upd H' h'.objs.size (.tup (as.map V.ref))) { s with heap:=h'.push { cls:=.type "tuple",data:=.seq (as.map Value.ref).toArray },toks:=tk } :=
  I2.laid (t':=tk) (λb o e=>Heap.get?_push_of_some _ e) (Yag _) (show Bn X.prog X.w _ _ _ (.tup (as.map V.ref)) from⟨by rw [Yaa,jl,<- hl];exact hz,as.map Value.ref,?_,IsTup.new _ _⟩)
 ·have gu:=I2.hok.fresh (Yag h'.objs.size)
  refine⟨.ref h'.objs.size,_,I3,rfl,q _ as _ (S2.tr (Kw gu _)) Bc ⟨by rw [jl,hl],λj b p e1 e2=>?_⟩⟩
  have:=av j b p e1 e2
  rw [Az (Bz this gu)];exact this
 ·exact refs_vals as
where
 refs_vals:∀(as:List Addr),Vals (as.map V.ref) (as.map Value.ref)
  | []=>.nil
  | a :: as=>.cons rfl (refs_vals as)
theorem D9{c:Nat}:∀{x r:List Nat},c∉x->(x++c :: r).takeWhile (·≠c)=x
 | [],r,_=>by simp
 | y :: x,r,h=>by
  have h1:y≠c:=λe=>h (by simp [e])
  rw [Ycg,List.takeWhile_cons,Yaw (by simpa using h1),D9 λz=>h (Yae _ z)]
theorem Cp{c:Nat}:∀{x r:List Nat},c∉x->(x++c :: r).dropWhile (·≠c)=c :: r
 | [],r,_=>by simp
 | y :: x,r,h=>by
  have h1:y≠c:=λe=>h (by simp [e])
  rw [Ycg,List.dropWhile_cons,Yaw (by simpa using h1),Cp λz=>h (Yae _ z)]
theorem J9{c:Nat}:∀{x:List Nat},c∉x->x.takeWhile (·≠c)=x
 | [],_=>rfl
 | y :: x,h=>by
  have h1:y≠c:=λe=>h (by simp [e])
  rw [List.takeWhile_cons,Yaw (by simpa using h1),J9 λz=>h (Yae _ z)]
theorem Ea{c:Nat}:∀{x:List Nat},c∉x->x.dropWhile (·≠c)=[]
 | [],_=>rfl
 | y :: x,h=>by
  have h1:y≠c:=λe=>h (by simp [e])
  rw [List.dropWhile_cons,Yaw (by simpa using h1),Ea λz=>h (Yae _ z)]
theorem Db(c:Nat)(x y:Str)(r:List Str):(Str.join ⟨#[c]⟩ (x :: y :: r)).cps.toList=x.cps.toList++c :: (Str.join ⟨#[c]⟩ (y :: r)).cps.toList:=by
 show((x.cps++#[c])++(Str.join ⟨#[c]⟩ (y :: r)).cps).toList=_
 simp
theorem El{a b:Str}(h:a.cps.toList=b.cps.toList):a=b:=PySem.Str.ext' (by simpa using Ybo List.toArray h)
theorem M4{c:Nat}:∀{A B:List Str},A≠[]->B≠[]->(∀p∈A,c∉p.cps.toList)->(∀p∈B,c∉p.cps.toList)->Str.join ⟨#[c]⟩ A=Str.join ⟨#[c]⟩ B->A=B
 | [],_,h,_,_,_,_=>absurd rfl h
 | _,[],_,h,_,_,_=>absurd rfl h
 | [x],[y],_,_,_,_,e=>by
  have e:x=y:=e
  rw [e]
 | [x],y :: y' :: r,_,_,hA,hB,e=>by
  have e:=Ybo (λs:Str=>s.cps.toList.dropWhile (·≠c)) e
  simp only [Db]at e
  rw [Cp (hB y (by simp))]at e
  rw [show Str.join ⟨#[c]⟩ [x]=x from rfl,Ea (hA x (by simp))]at e
  cases e
 | x :: x' :: r,[y],_,_,hA,hB,e=>by
  have e:=Ybo (λs:Str=>s.cps.toList.dropWhile (·≠c)) e
  simp only [Db]at e
  rw [Cp (hA x (by simp))]at e
  rw [show Str.join ⟨#[c]⟩ [y]=y from rfl,Ea (hB y (by simp))]at e
  cases e
 | x :: x' :: r,y :: y' :: q,_,_,hA,hB,e=>by
  have e1:=Ybo (λs:Str=>s.cps.toList.takeWhile (·≠c)) e
  have e2:=Ybo (λs:Str=>s.cps.toList.dropWhile (·≠c)) e
  simp only [Db]at e1 e2
  rw [D9 (hA x (by simp)),D9 (hB y (by simp))]at e1
  rw [Cp (hA x (by simp)),Cp (hB y (by simp))]at e2
  have e3:Str.join ⟨#[c]⟩ (x' :: r)=Str.join ⟨#[c]⟩ (y' :: q):=El (by injection e2)
  rw [El e1,M4 (A:=x' :: r) (B:=y' :: q) (by simp) (by simp) (λp hp=>hA p (Yae _ hp)) (λp hp=>hB p (Yae _ hp)) e3]
theorem Gw(x y:Str):Txt.split x y≠[]:=by
 unfold Txt.split
 split
 ·simp
 ·split
  ·simp
  ·intro h
   have:=Ybo List.length h
   rw [Ix]at this
   simp at this
theorem Iz{c:Nat}{A:List Str}(h:A≠[])(hA:∀p∈A,c∉p.cps.toList):Txt.split (Str.join ⟨#[c]⟩ A) ⟨#[c]⟩=A :=
 M4 (Gw _ _) h (StrLaws.split_free _ c) hA (Ydn _ _)
end
section
variable {X:Cx}{K:PySem.W.Frag}
variable {o e:Expr}{es:List Expr}{to:TE}{t:TA}{name:Str}{bh aq:Pos}{T id:String}{r:V->List V->Hp->VK->Prop}
theorem Rf:MtR X "str.join" (λx xs H Q=>∃z p ys,x=.str z/\xs=[.ref p]/\H p=some (.lst (ys.map V.str))/\(ys.map (·.length)).sum+ys.length * z.length<=16777216/\Q (.str (Txt.join z ys)) H):=by
 intro aa s σ H x xs v us Q I rx r h
 obtain⟨z,p,ys,e1,e2,hp,hz,q⟩:=h
 exact Xn aa s σ H x xs v us Q I rx r ⟨z,p,ys,e1,e2,Ei.of hp,hz,q⟩
end
def Cal(P:Program)(w:World)(K:PySem.W.Frag)(mg:Str->Option Value)(base:Heap)(n:Nat)(x:Str)(ps:List Str)(sp:Sp):Prop :=
 ∃g gd,FnOk P w K mg base Fh n g gd ps sp/\Binds K gd ps []/\PySem.W.keepIn K (.ref g)=true/\mg x=some (.ref g)
theorem Cal.mono{P:Program}{w:World}{K:PySem.W.Frag}{mg:Str->Option Value}{base:Heap}{n m:Nat}{x:Str}{ps:List Str}{sp:Sp}(c:Cal P w K mg base n x ps sp)(h:n<=m):Cal P w K mg base m x ps sp :=
 let⟨g,gd,G,r⟩:=c;⟨g,gd,G.mono h,r⟩
end L2
namespace L2
open PySem PySem.Spec PySem.Calls PyProof.Rows
section
variable {prog:Program}{w:World}{A:Around}{E:Value->Shared->Prop}{s:Shared}{K:PySem.W.Frag}{x C:Addr}{ox:Obj}{od:Option Obj}{name:Str}
theorem M5{tk:Tok}{R:Result->Shared->Prop}(X:K.In s.heap)(I:PySem.W.InstAt s.heap x ox C od)(hm:PySem.W.mroIn K C (.type "BaseException")=some true)
  (h:wpAny (model prog w) A.in1 (Builtin.«object.__getattribute__» ⟨[.ref x,.str name tk],[]⟩)
   (λfin s'=>match fin with | .done f=>R (.ok f) s' | .again c'=>c'.quiet=true/\codeAny (model prog w) A c' R s') (λe s'=>R (.error e) s') s) :
  codeAny (model prog w) A (.call (.builtin "BaseException.__getattribute__") ⟨[.ref x,.str name tk],[]⟩) R s:=by
 have hk:builtinKind "BaseException.__getattribute__" = some .slot:=by decide +kernel
 have hs:splitId "BaseException.__getattribute__" = some ("BaseException","__getattribute__"):=by decide +kernel
 have sub:PySem.W.Looks (model prog w) s.heap (isInstance (.ref x) (.type "BaseException")) true:=I.type.andThen (Ycp X hm)
 exact codeAny_call_builtin F.excAttr_ValueError.ga.plain F.entry_bexc_ga (@PySem.W.check_slot (model prog w) _ _ s "BaseException.__getattribute__" "BaseException" "__getattribute__" (.ref x) [.str name tk] [] _ hk hs sub (F.args_bexc_ga _ _) h)
theorem Rg{tk:Tok}{v:Value}{R:Result->Shared->Prop}(X:K.In s.heap)(I:PySem.W.InstAt s.heap x ox C od)(hm:PySem.W.mroIn K C (.type "BaseException")=some true)
  (hf:PySem.W.findObj K C od name=some (.value v)) (h:R (.ok (.ret v)) s) :
  codeAny (model prog w) A (.call (.builtin "BaseException.__getattribute__") ⟨[.ref x,.str name tk],[]⟩) R s:=by
 refine M5 X I hm ?_
 obtain⟨hh,g,d,t,os⟩:=s
 have L0:=I.type (M:=model prog w)
 have L1:=PySem.W.looks_find (M:=model prog w) X I hf
 refine Yab (Yad (Yab (Yad (Yab (L0.at (Yab (L1.at ?_)))))))
 exact Yad h
theorem Tw{tk:Tok}{g a:Value}{R:Result->Shared->Prop}(X:K.In s.heap)(I:PySem.W.InstAt s.heap x ox C od)(hm:PySem.W.mroIn K C (.type "BaseException")=some true)
  (hf:PySem.W.findObj K C od name=some (.bind g a)) (h:wpAny (model prog w) A.in1 (call g [a,.ref x,.ref C]) (λv s'=>R (.ok (.ret v)) s') (λe s'=>R (.error e) s') s) :
  codeAny (model prog w) A (.call (.builtin "BaseException.__getattribute__") ⟨[.ref x,.str name tk],[]⟩) R s:=by
 refine M5 X I hm ?_
 obtain⟨hh,gg,d,t,os⟩:=s
 have L0:=I.type (M:=model prog w)
 have L1:=PySem.W.looks_find (M:=model prog w) X I hf
 refine Yab (Yad (Yab (Yad (Yab (L0.at (Yab (L1.at ?_)))))))
 show wpAny _ _ (holding [a] (call g [a,.ref x,.ref C]) >>= ret) _ _ _
 exact Yab (Yb8 (Yby h (λv s' z=>Yad z) λ_ _ z=>z))
theorem Pd{tk:Tok}{fill iw:Bool}{Q:Value->Shared->Prop}(X:K.In s.heap)(I:PySem.W.InstAt s.heap x ox C od)
  (hga:PySem.W.findIn K (.ref C) "__getattribute__" = some (some (.builtin "BaseException.__getattribute__"))) (gv:PySem.W.findIn K (.ref C) "__getattr__" = some none)
  (h:codeAny (model prog w) A (.call (.builtin "BaseException.__getattribute__") ⟨[.ref x,.str name tk],[]⟩) (λr s'=>match r with | .ok (.ret v)=>wpAny (model prog w) A (handedOut v) Q E s' | _=>False) s) :
  wpAny (model prog w) A (getAttrBy (.ref x) (.str name tk) fill iw) Q E s:=by
 obtain⟨hh,g,d,t,os⟩:=s
 have L0:=I.type (M:=model prog w)
 have L1:=Yc8 (M:=model prog w) X hga
 have L2:=Yc8 (M:=model prog w) X gv
 have f3:=F.excAttr_ValueError.ga.bind (.ref x)
 have ko:(Value.builtin "BaseException.__getattribute__" == Value.builtin "object.__getattribute__")=false:=by decide +kernel
 unfold getAttrBy
 refine Yb8 (Yab (L0.at (Yab (L1.at ?_))))
 show wpAny _ _ (if(onTheHeap (Value.ref C) && Value.builtin "BaseException.__getattribute__" == Value.builtin "object.__getattribute__")=true then _ else _) _ _ _
 rw [ko,Yaq,Yar Yak]
 unfold getAttrByItsOwn
 refine Yab (L2.at (Yab (wpAny_attempt (Yb8 ?_))))
 unfold callGetattribute boundAndCalled
 rw [show(iw && onTheHeap (Value.builtin "BaseException.__getattribute__"))=false by cases iw <;> rfl,Yar Yak,f3]
 refine Yab (Yad (wpAny_call (Yei h λr s' z=>?_)))
 rcases r with e | (v | _ | _ | _) <;> first | exact z | exact z.elim
theorem N8{iw:Bool}{v:Value}{Q:Value->Shared->Prop}(X:K.In s.heap)(I:PySem.W.InstAt s.heap x ox C od)(hm:PySem.W.mroIn K C (.type "BaseException")=some true)
  (hga:PySem.W.findIn K (.ref C) "__getattribute__" = some (some (.builtin "BaseException.__getattribute__"))) (gv:PySem.W.findIn K (.ref C) "__getattr__" = some none)
  (hf:PySem.W.findObj K C od name=some (.value v)) (hh:PySem.W.handedIn v=true) (h:Q v { s with toks:=s.toks+1 }):wpAny (model prog w) A (getAttr (.ref x) name iw) Q E s:=by
 unfold getAttr
 refine Yab (wpAny_mkText ?_)
 exact Pd (s:={ s with toks:=s.toks+1 }) X I hga gv (Rg (s:={ s with toks:=s.toks+1 }) X I hm hf (PySem.W.handed_on hh h))
end
abbrev bmV:List Value:=[.type "ValueError",.type "Exception",.type "BaseException",.type "object"]
def Qew(K:PySem.W.Frag)(C:Addr)(cd:ClassData)(sl:Array (Option Value)):Bool:=cd.mro.head?==some (.ref C) && !cd.hasDel && PySem.W.tailIn K bmV cd.mro.tail && sl.size==6 && sl[4]?==some (some (.builtin "ValueError.__new__"))
def Gh(K:PySem.W.Frag)(C:Addr):Bool:=match K.lookup C with
 | some o=>o.cls==.type "type" && (match o.data with
  | .cls cd=>Qew K C cd o.slots
  | _=>false)
 | none=>false
theorem Qbk{sl:Array (Option Value)}{v:Option Value}(h:sl.size=6)(e:sl[4]?=some v):∃k0 k1 k2 k3 k5,sl=#[k0,k1,k2,k3,v,k5]:=by
 obtain⟨l⟩:=sl
 match l,h with
 | [k0,k1,k2,k3,k4,k5],_ =>
  have:k4=v:=by simpa using e
  subst this
  exact⟨k0,k1,k2,k3,k5,rfl⟩
theorem Pe{K:PySem.W.Frag}{h:Heap}{C:Addr}(X:K.In h)(q:Gh K C=true):∃nm qn N bs bm gy sn sub ab jw dd k0 k1 k2 k3 k5,
  h.get? C=some (excClassObj nm qn C N bs bm gy sn sub ab jw dd k0 k1 k2 k3 k5 "ValueError.__new__")/\OwnTail h bmV bm:=by
 unfold Gh at q
 cases ho:K.lookup C with
 | none=>rw [ho]at q;cases q
 | some o =>
  rw [ho]at q
  obtain⟨oc,dd,od,sl⟩:=o
  dsimp only at q
  rw [Ya2,beq_iff_eq]at q
  obtain⟨q0,q⟩:=q
  cases od with
  | cls cd =>
   unfold Qew at q
   simp only [Bool.and_eq_true,beq_iff_eq,Bool.not_eq_true']at q
   obtain⟨⟨⟨⟨q1,q2⟩,q3⟩,q4⟩,q5⟩:=q
   obtain⟨k0,k1,k2,k3,k5,rfl⟩:=Qbk q4 q5
   obtain⟨nm,bs,mro,ns,qn,hd,sn,sub,ab,jw,del⟩:=cd
   dsimp only at q1 q2 q3
   subst q0 q2
   cases mro with
   | nil=>cases q1
   | cons m bm =>
    cases q1
    exact⟨nm,qn,ns,bs,bm,hd,sn,sub,ab,jw,dd,k0,k1,k2,k3,k5,X _ _ ho,PySem.W.tail_of_in X q3⟩
  | _=>cases q
def Dq(C t:Addr)(d:Option Addr):Obj:={ cls:=.ref C,dict:=d,data:=.fields #[.ref t,.none,.none,.none,.bool false,.none] }
def Cr(h:Heap)(C:Addr)(rest:List Value):Heap:=(h.push { cls:=.type "tuple",data:=.seq rest.toArray }).push (Dq C h.objs.size none)
section
variable {prog:Program}{w:World}{A:Around}{E:Value->Shared->Prop}{h:Heap}{g:Array GenState}{d:Drawn}{t:Nat}{os:OsState}{K:PySem.W.Frag}{C:Addr}
theorem N9{rest:List Value}{fI:Addr}{Q:Fin->Shared->Prop}(X:K.In h)(q:Gh K C=true)(hi:PySem.W.findIn K (.ref C) "__init__" = some (some (.ref fI))) (hf:PySem.W.typeIn K (.ref fI)=some (.type "function"))
  (hq:wpAny (model prog w) A (call (.ref fI) (.ref (h.objs.size+1) :: rest)) (λr s'=>r=.none/\Q (.done (.ret (.ref (h.objs.size+1)))) s') E ⟨Cr h C rest,g,d,t,os⟩) (ij:rest.length<=sizeLine) :
  wpAny (model prog w) A (Builtin.«type.__call__» ⟨.ref C :: rest,[]⟩) Q E ⟨h,g,d,t,os⟩:=by
 obtain⟨nm,qn,N,bs,bm,gy,sn,sub,ab,jw,dd,k0,k1,k2,k3,k5,hC,T⟩:=Pe X q
 have Fn:=F.excBase_ValueError
 repeat (first | with_reducible refine wpAny_loadPart_at hC ?_ | with_reducible refine wpAny_madeBy_exc hC ?_ | wp_step)
 refine codeAny_call_builtin_code (Code.quiet_builtin _ Fn.quiet) (wpAny_check_new_subU (bmB:=bmV) Fn (by decide +kernel) T hC ?_)
 refine codeAny_exc_new_subU (bmB:=bmV) Fn (by decide +kernel) Fn T hC ?_ ij
 show wpAny _ _ _ _ _ ⟨Cr h C rest,g,d,t,os⟩
 have kk:∀b o,h.get? b=some o->(Cr h C rest).get? b=some o:=λb o e=>Heap.get?_push_of_some _ (Heap.get?_push_of_some _ e)
 have hC₁:=kk _ _ hC
 have gr:(Cr h C rest).get? (h.objs.size+1)=some (Dq C h.objs.size none):=by
  unfold Cr
  exact Heap.get?_push_at (by simp only [Heap.size_push]) rfl
 have hcC:(Value.ref C :: bm).contains (.ref C)=true:=by simp
 have X₁:K.In (Cr h C rest):=λb o e=>kk b o (X b o e)
 have L1:=Yc8 (M:=model prog w) X₁ hi
 have L2:=PySem.W.bind_fn (M:=model prog w) X₁ (.ref (h.objs.size+1)) hf
 generalize Cr h C rest=h₁ at hC₁ gr L1 L2 hq ⊢
 unfold isInstance
 have cr:(Dq C h.objs.size none).cls=.ref C:=rfl
 repeat (first | (with_reducible refine wpAny_loadPart_at gr ?_;rw [cr]) | (with_reducible refine wpAny_isSubtype_exc hC₁ ?_;rw [hcC]) | wp_step)
 show wpAny _ _ (typeLookup (.ref C) _) _ _ _
 refine L1.at ?_
 refine Yb8 (Yab (L2.at ?_))
 refine Yab (Yby hq (λr s' hr=>?_) λ_ _ x=>x)
 obtain⟨rfl,hQ⟩:=hr
 wp_walk
 exact hQ
theorem xmake{rest:List Value}{fI:Addr}{Q:Value->Shared->Prop}(X:K.In h)(q:Gh K C=true)(hi:PySem.W.findIn K (.ref C) "__init__" = some (some (.ref fI))) (hf:PySem.W.typeIn K (.ref fI)=some (.type "function"))
  (hq:wpAny (model prog w) (A.under (.builtin "type.__call__" ⟨.ref C :: rest,[]⟩)) (call (.ref fI) (.ref (h.objs.size+1) :: rest)) (λr s'=>r=.none/\Q (.ref (h.objs.size+1)) s') E ⟨Cr h C rest,g,d,t,os⟩) (ij:rest.length<=sizeLine) :
  wpAny (model prog w) A (call (.ref C) rest) Q E ⟨h,g,d,t,os⟩:=by
 obtain⟨nm,qn,N,bs,bm,gy,sn,sub,ab,jw,dd,k0,k1,k2,k3,k5,hC,T⟩:=Pe X q
 have f1:=tc_lookup
 have f2:=tc_bind (.ref C)
 have hT:(⟨h,g,d,t,os⟩:Shared).TypeIs (.ref C) "type" := ⟨_,hC,rfl⟩
 refine wpAny_call (codeAny_of_tree ?_)
 show wpAny _ _ (callAny (.ref C) _) _ _ _
 repeat (any_goals (first | assumption | with_reducible refine wpAny_loadPart_at hC ?_ | wp_step))
 refine⟨rfl,?_⟩
 exact codeAny_call_builtin_at (Code.quiet_builtin _ (by decide +kernel)) entry_typeCall (wpAny_check_type_call_sub hC (N9 X q hi hf hq ij))
end
def Qex:Value->Bool
 | .ref _=>true
 | _=>false
theorem Ho(self:Value)(kf:Str):∀l:List Value,refuseLoop self kf l=refuseLoop self kf (l.dropWhile Qex)
 | []=>rfl
 | v :: r=>by
  cases v with
  | ref c =>
   rw [refuseLoop_ref,Ho self kf r]
   rfl
  | _=>rfl
def Oa(K:PySem.W.Frag)(C:Addr):Bool:=(PySem.W.clsIn K C).any λcd=>cd.mro.dropWhile Qex==bmV && !cd.mro.isEmpty && cd.mro.contains (.type "object")
section
open Builtin Builtin.ObjectAttr
variable {prog:Program}{w:World}{A:Around}{E:Value->Shared->Prop}{s:Shared}{K:PySem.W.Frag}{x C:Addr}{ox:Obj}{od:Option Obj}{name:Str}{v:Value}{R:Result->Shared->Prop}
theorem Rh{tk:Tok}(X:K.In s.heap)(I:PySem.W.InstAt s.heap x ox C od)(hp:Oa K C=true)(ha:PySem.W.findIn K (.ref C) name=some none)
  (h:wpAny (model prog w) A.in1 (storeInOwnDict (.ref x) (.ref C) (.str name tk) name v false)
   (λfin s'=>match fin with | .done f=>R (.ok f) s' | .again c'=>c'.quiet=true/\codeAny (model prog w) A c' R s') (λe s'=>R (.error e) s') s) :
  codeAny (model prog w) A (.call (.builtin "object.__setattr__") ⟨[.ref x,.str name tk,v],[]⟩) R s:=by
 have SF:=PySem.F.store_object
 obtain⟨cd,hc,ho⟩:=Yda hp
 simp only [Bool.and_eq_true,beq_iff_eq,Bool.not_eq_true']at ho
 obtain⟨⟨h1,ne⟩,h3⟩:=ho
 have sub:PySem.W.Looks (model prog w) s.heap (isInstance (.ref x) (.type "object")) true:=I.type.andThen (Ycp X (by unfold PySem.W.mroIn;rw [hc,Ydb,Yar (by rw [ne];decide),h3]))
 refine codeAny_call_builtin SF.slot.plain SF.entry (@PySem.W.check_slot (model prog w) _ _ s "object.__setattr__" "object" "__setattr__" (.ref x) [.str name tk,v] [] _ SF.kind SF.split sub (SF.args (.ref x) (.str name tk) v) ?_)
 have hm:PySem.W.Looks (model prog w) s.heap (mroOf (.ref C)) cd.mro:=(PySem.W.looks_clsIn X hc).andThen .now
 rw [PySem.W.osa_eq,refuse_eq]
 refine Yab (Yab (I.type.here (Yab (hm.here ?_))))
 rw [Ho,h1,F.store_ValueError.passes]
 refine Yad (Yab (I.type.here (Yab ((Yc8 X ha).here (Yab (Yad ?_))))))
 exact h
end
end L2
namespace L2
open PySem PySem.Spec PySem.Calls PyProof.Rows
def XO(e C t:Addr)(d:Option Addr):HO:=.ext λh=>h.get? e=some (Dq C t d)
def XD(dx:Addr)(fs:List (Str×V)):HO:=.ext λh=>∃mA,h.Ns1 dx mA/\(∀f,Fs (fs.lookup f) (mA f))/\PySem.Within mA (fs.map (·.1))
section
variable {P:Program}{w:World}{H:Hp}{h:Heap}{e C t dx:Addr}{d:Option Addr}{fs:List (Str×V)}
theorem Y1(hx:h.get? e=some (Dq C t d)):Bn P w H h e (XO e C t d):=⟨hx,⟨_,hx⟩,λ_ _ p k=>k _ p⟩
theorem Tx(ok:HOk P w H h)(q:H e=some (XO e C t d)):h.get? e=some (Dq C t d):=(show Bn P w H h e (XO e C t d) from ok e _ q).1
theorem Ty{mA:Str->Option Value}(n:h.Ns1 dx mA)(r:∀f,Fs (fs.lookup f) (mA f))(wi:PySem.Within mA (fs.map (·.1))):Bn P w H h dx (XD dx fs) :=
 ⟨⟨mA,n,r,wi⟩,(let⟨o,_,_,q,_⟩:=n;⟨o,q⟩),λ_ _ ⟨mB,n,r⟩ k=>⟨mB,n.at k,r⟩⟩
theorem Qbl(ok:HOk P w H h)(q:H dx=some (XD dx fs)):∃mA,h.Ns1 dx mA/\(∀f,Fs (fs.lookup f) (mA f))/\PySem.Within mA (fs.map (·.1)):=(show Bn P w H h dx (XD dx fs) from ok dx _ q).1
theorem Xr(hx:h.get? e=some (Dq C t none)):PySem.W.InstAt h e (Dq C t none) C none:=⟨hx,rfl,rfl,trivial⟩
end
structure XCls(K:PySem.W.Frag)(C:Addr):Prop where
 ga:PySem.W.findIn K (.ref C) "__getattribute__" = some (some (.builtin "BaseException.__getattribute__"))
 gn:PySem.W.findIn K (.ref C) "__getattr__" = some none
 sa:PySem.W.findIn K (.ref C) "__setattr__" = some (some (.builtin "object.__setattr__"))
 hd:PySem.W.hasDictIn K C=true
 mb:PySem.W.mroIn K C (.type "BaseException")=some true
 mo:PySem.W.mroIn K C (.type "object")=some true
 ve:Oa K C=true
section
variable {X:Cx}{aa:List (Addr×Obj)}{σ:St}{H:Hp}{s:Shared}{e C t dx:Addr}{fs:List (Str×V)}{f:Str}{v:V}{A:Around}{E:Value->Shared->Prop}
theorem Qip{H:Hp}{a b:Addr}{o1 o2 o3:HO}:upd (upd (upd H a o1) b o2) a o3=upd (upd H b o2) a o3:=by
 funext c
 unfold upd
 by_cases h:c=a
 ·rw [Yaw h,Yaw h]
 ·rw [Yar h,Yar h,Yar h]
theorem Qey{y:V}{u:Value}{Q:Unit->Shared->Prop}(I:Inv X aa σ H s)(he:H e=some (XO e C t none))(c:XCls X.K C)(n:Ha X.K C f)(ry:Bh y u)
  (h:∀dx s',H dx=none->dx≠e->Inv X aa σ (upd (upd H e (XO e C t (some dx))) dx (XD dx [(f,y)])) s'->Q () s'):wpAny (model X.prog X.w) A (setAttr (.ref e) f u) Q E s:=by
 have hx:=Tx I.hok he
 have J:=Xr hx
 refine PySem.W.set_plain I.kIn J c.sa (Rh (s:={ s with toks:=s.toks+1 }) I.kIn J c.ve n ?_)
 obtain⟨cd,hc,hd'⟩:=Yda c.hd
 have ig:s.heap.get? e=some ⟨.ref C,none,.fields #[.ref t,.none,.none,.none,.bool false,.none],#[]⟩:=hx
 refine Yab (Yad (Yab (Yab (wpAny_loadPart ig (Yab (PySem.W.Looks.here (s:={ s with toks:=s.toks+1 }) (PySem.W.looks_clsIn I.kIn hc) ?_))))))
 rw [hd']
 have hx1:(s.heap.push { cls:=.type "dict",data:=.dict #[] }).get? e=some (Dq C t none):=Heap.get?_push_of_some _ hx
 have vb:e≠s.heap.objs.size:=Ya6 (Yam hx)
 show wpAny _ _ (if(!true || !typeHasDict (Value.ref C))=true then _ else _) _ _ _
 rw [Yar (by simp [typeHasDict])]
 refine Yab (wpAny_alloc' ?_)
 refine Yab (wpAny_update' hx1 ?_)
 refine Yad ?_
 have ko:((s.heap.push { cls:=.type "dict",data:=.dict #[] }).update e λo=>{ cls:=o.cls,dict:=some s.heap.objs.size,data:=o.data,slots:=o.slots }).get? e=some (Dq C t (some s.heap.objs.size)):=Heap.get?_update_self _ hx1 rfl
 have hgd:((s.heap.push { cls:=.type "dict",data:=.dict #[] }).update e λo=>{ cls:=o.cls,dict:=some s.heap.objs.size,data:=o.data,slots:=o.slots }).get? s.heap.objs.size
   = some { cls:=.type "dict",data:=.dict #[] }:=(Heap.get?_update_ne _ _ _ _ vb.symm).trans (Heap.get?_push_at rfl rfl)
 have hnd:((s.heap.push { cls:=.type "dict",data:=.dict #[] }).update e λo=>{ cls:=o.cls,dict:=some s.heap.objs.size,data:=o.data,slots:=o.slots }).Ns s.heap.objs.size (λ_=>none) :=
  ⟨_,#[],_,hgd,rfl,λe he=>absurd he (by simp),λ_=>rfl⟩
 have jv:∀b o,b≠e->(s.heap.push { cls:=.type "dict",data:=.dict #[] }).get? b=some o->((s.heap.push { cls:=.type "dict",data:=.dict #[] }).update e λo=>{ cls:=o.cls,dict:=some s.heap.objs.size,data:=o.data,slots:=o.slots }).get? b=some o :=
  λb o hb q=>(Heap.get?_update_ne _ _ _ _ hb).trans q
 have hn0:(s.heap.push { cls:=.type "dict",data:=.dict #[] }).Ns s.heap.objs.size (λ_=>none):=⟨_,#[],_,Heap.get?_push_at rfl rfl,rfl,λe he=>absurd he (by simp),λ_=>rfl⟩
 have fr:=I.hok.fresh (Yag s.heap.objs.size)
 have I1:=I.laid (a:=s.heap.objs.size) (o:=XD s.heap.objs.size []) (h':=s.heap.push { cls:=.type "dict",data:=.dict #[] }) (t':=s.toks) (λb u q=>Heap.get?_push_of_some _ q) (Yag _) (Ty (Heap.Ns1.of_empty hn0) (λ_=>True.intro) λy hy=>absurd rfl hy)
 generalize uv:(s.heap.push { cls:=.type "dict",data:=.dict #[] }).update e (λo=>{ cls:=o.cls,dict:=some s.heap.objs.size,data:=o.data,slots:=o.slots })=h2 at ko hgd hnd jv ⊢
 have I2:=I1.write (x:=e) (e:=e) (o:=XO e C t (some s.heap.objs.size)) (h':=h2) (t':=s.toks) (by rw [Az vb,he];exact True.intro) (.inl rfl) jv ⟨_,ko⟩ (Y1 ko)
 show wpAny _ _ (Builtin.ObjectAttr.storeInDict s.heap.objs.size (.str f s.toks) f u) _ _ _
 unfold Builtin.ObjectAttr.storeInDict Builtin.ObjectAttr.newKeyGuard
 refine Yab (Yad (Yab (wpAny_nsSet1 (Heap.Ns1.of_empty hnd) λh' ky hs=>?_)))
 obtain⟨oD,esD,epD,hoD,hdD,hcD⟩:=ky.count (PySem.Within.cons f u PySem.Within.nil)
 refine Yab (wpAny_lookBehind hoD (by rw [hdD];exact pastItsLine_dict (Yap hcD (by rw [Yba,Yck,sizeLine_eq];omega))) ?_)
 refine Yad ?_
 refine h s.heap.objs.size _ fr vb.symm ?_
 rw [<- Qip (o1:=XD s.heap.objs.size [])]
 refine I2.write (x:=s.heap.objs.size) (e:=s.heap.objs.size) (by rw [Az vb.symm,Bc];exact True.intro) (.inl rfl) (λb o hb q=>(hs.2 b hb).trans q) ⟨_,hoD⟩ (Ty ky (λg=>?_) λg hg=>?_)
 ·show Fs (List.lookup g [(f,y)]) (if g=f then some u else none)
  by_cases q:g=f
  ·rw [Yaw q,q]
   show Fs (List.lookup f [(f,y)]) (some u)
   have hb:(f==f)=true:=beq_iff_eq.mpr rfl
   simp only [List.lookup,hb]
   exact ry
  ·rw [Yar q]
   have hb:(g==f)=false:=Ycl.mpr q
   simp only [List.lookup,hb]
   exact True.intro
 ·by_cases q:g=f
  ·rw [q];exact Yao
  ·exact absurd (show(if g=f then some u else none)=none by rw [Yar q]) hg
end
structure XMk(K:PySem.W.Frag)(C f:Addr):Prop where
 xc:Gh K C=true
 init:PySem.W.findIn K (.ref C) "__init__" = some (some (.ref f))
 fn:PySem.W.isFn K (.ref f)=true
 kp:PySem.W.keepIn K (.ref C)=true
def Qbm(C:Addr)(sp:Sp)(E:XK)(t:TA):TE:=fun σ H Q=>t σ H λvs H1=>vs.length<=1000/\∀x tp,H1 x=none->sp (.ref x :: vs) (upd H1 x (XO x C tp none)) (λv H2=>v=.non/\Q (.ref x) H2) E
section
variable {X:Cx}{CX:CXT}{k:Nat}{f C:Addr}{fd:FuncData}{ps:List Str}{sp:Sp}{E:XK}{x:Str}{p pos bu bh:Pos}{e o value:Expr}{es:List Expr}{t:TA}{ta tv:TE}{fl:Str}
theorem Ri{aa:List (Addr×Obj)}{σ:St}{H:Hp}{s:Shared}{Q:VK}{us:List Value}{vs:List V}(M:XMk X.K C f)(F:FnOk X.prog X.w X.K X.mg X.base CX k f fd ps sp)(hr:Room (k+1) X.A)(hb:Binds X.K fd ps [])
  (hx:Passes CX X E) (I:Inv X aa σ H s) (r:Vals vs us) (hl:vs.length<=1000)
  (h:∀x tp,H x=none->sp (.ref x :: vs) (upd H x (XO x C tp none)) (λv H2=>v=.non/\Q (.ref x) H2) E) :
  wpAny (model X.prog X.w) X.A (call (.ref C) us) (EP X aa σ Q) X.xe s:=by
 have hq:=h (s.heap.objs.size+1) s.heap.objs.size (I.hok.fresh (Ydv _))
 have I1:Inv X aa σ H { s with heap:=s.heap.push { cls:=.type "tuple",data:=.seq us.toArray } }:=I.kept (t':=s.toks) λb u q=>Heap.get?_push_of_some _ q
 have gr:(Cr s.heap C us).get? (s.heap.objs.size+1)=some (Dq C s.heap.objs.size none):=by
  unfold Cr
  exact Heap.get?_push_at (by simp only [Heap.size_push]) rfl
 have I2:Inv X aa σ (upd H (s.heap.objs.size+1) (XO (s.heap.objs.size+1) C s.heap.objs.size none)) { s with heap:=Cr s.heap C us } :=
  I1.laid (a:=s.heap.objs.size+1) (t':=s.toks) (λb u q=>Heap.get?_push_of_some _ q) (Nat.le_of_eq (Ycu _ _)) (Y1 gr)
 have r2:Vals (V.ref (s.heap.objs.size+1) :: vs) (Value.ref (s.heap.objs.size+1) :: us):=.cons rfl r
 have ft:(Value.ref (s.heap.objs.size+1) :: us++[]).length=ps.length:=by
  have e:=r2.length
  rw [F.len _ _ _ _ hq]at e
  rw [Ybi]
  exact e.symm
 have yc:=F.run _ X.stack _ _ ⟨Value.ref (s.heap.objs.size+1) :: us,[]⟩ (Value.ref (s.heap.objs.size+1) :: us++[]) _ _ E (hr.make C us []) (I2.env0.make C us []) (hb _ (Value.ref (s.heap.objs.size+1) :: us) I2.kIn ft) (by rw [Ybi];exact r2) hq
 have ng:us.length<=sizeLine:=by have:=r.length;exact Yap (by omega) (show 1000<=sizeLine by decide)
 obtain⟨hh,g,d,tt,os⟩:=s
 refine xmake I.kIn M.xc M.init (beq_iff_eq.mp M.fn) (wpAny_call (Yei yc λr s' dh=>?_)) ng
 cases r with
 | error e=>exact hx aa σ _ _ e s' I2 dh
 | ok fl =>
  cases fl with
  | ret u =>
   obtain⟨v,H',I3,rv,ev,q3⟩:=I2.after dh
   subst ev
   exact⟨rv,⟨V.ref (hh.objs.size+1),H',I3,rfl,q3⟩⟩
  | next=>exact False.elim dh
  | brk=>exact False.elim dh
  | cont=>exact False.elim dh
theorem Tz(M:XMk X.K C f)(F:FnOk X.prog X.w X.K X.mg X.base CX k f fd ps sp)(hr:Room (k+1) X.A)(hg:Gl X x)(hm:X.mg x=some (.ref C))(hb:Binds X.K fd ps [])(hx:Passes CX X E)
  (ha:PA X (e :: es) t) (hdb:(x==("__debug__" : Str))=false:=by decide) (he:starEach (e :: es) X.env=(false,eval e X.env) :: starEach es X.env:=by rfl) (hpl:(backTo pos (starEach es X.env)).any (·.1)=false:=by rfl) :
  PE X (.Call (.Name x p) (e :: es) [] pos) (Qbm C sp E t):=by
 intro aa s σ H Q I h
 refine Ybq (Gs I hg hm ?_ hdb)
 refine PySem.W.callWith_K (h₀:=X.base) I.ok.mod.kin M.kp (thn (ha pos aa s σ H _ I h) λus s1 ⟨vs,H1,I1,r,hl,q⟩=>⟨I1.kIn,?_⟩) he hpl
 exact Ri M F hr hb hx I1 r hl q
def sX1(K:PySem.W.Frag)(ta tv:TE)(f:Str):TS:=λD σ H=>tv σ H λy H1=>ta σ H1 λx H2=>∃e C t,x=.ref e/\H2 e=some (XO e C t none)/\XCls K C/\Ha K C f /\
 ∀dx,H2 dx=none->dx≠e->D.nx σ (upd (upd H2 e (XO e C t (some dx))) dx (XD dx [(f,y)]))
theorem Qez(ha:PE X o ta)(hv:PE X value tv)(hs:swapsWith value (some (.Attribute o fl bu)) pos.line X.env=pure false):PS X (.Assign [.Attribute o fl bu] value pos) (sX1 X.K ta tv fl):=by
 intro aa s σ H D I h
 refine plainObj_wpAny_Assign_Attribute (thn (hv aa s σ H _ I h) λu s1 ⟨y,H1,I1,ry,q⟩=>thn (ha aa s1 σ H1 _ I1 q) λov s2 sx=>?_) hs
 obtain⟨x,H2,I2,rx,e,C,t,ex,ea,c,n,q2⟩:=sx
 subst ex
 obtain rfl:ov=Value.ref e:=rx
 exact Qey I2 ea c n ry λdx s3 vt bo I3=>⟨σ,_,I3,q2 dx vt bo⟩
end
structure XIs(K:PySem.W.Frag)(C:Addr):Prop extends XCls K C where
 ca:PySem.W.findIn K (.ref C) "__class__" = some (some (.builtin "object.__class__"))
 cg:PySem.W.specialIn K (.builtin "object.__class__") "__get__" = some (some (.builtin "getset_descriptor.__get__"))
 ct:PySem.W.takesIn K (.builtin "object.__class__")=some true
theorem Ka{K:PySem.W.Frag}{C:Addr}{od:Option Obj}{name:Str}{a g:Value}(hc:(PySem.W.clsIn K C).isSome=true)(ha:PySem.W.findIn K (.ref C) name=some (some a))(hg:PySem.W.specialIn K a "__get__" = some (some g)) (ht:PySem.W.takesIn K a=some true):PySem.W.findObj K C od name=some (.bind g a):=by
 obtain⟨cd,hc⟩:=Option.isSome_iff_exists.mp hc
 unfold PySem.W.findObj
 rw [hc,Ydb,ha,Ydb]
 dsimp only
 rw [hg,Ydb]
 dsimp only
 rw [ht,Ydb]
theorem M6{prog:Program}{w:World}{A:Around}{E:Value->Shared->Prop}{s:Shared}{K:PySem.W.Frag}{x C:Addr}{ox:Obj}{od:Option Obj}{Q:Option Value->Shared->Prop}(X:K.In s.heap)(I:PySem.W.InstAt s.heap x ox C od)(c:XIs K C)
  (h:Q (some (.ref C)) { s with toks:=s.toks+1 }):wpAny (model prog w) A (getAttr? (.ref x) "__class__") Q E s:=by
 have hc:(PySem.W.clsIn K C).isSome=true:=by obtain⟨cd,hc,_⟩:=Yda c.hd;rw [hc];rfl
 have hf:PySem.W.findObj K C od "__class__" = some (.bind (.builtin "getset_descriptor.__get__") (.builtin "object.__class__")):=Ka hc c.ca c.cg c.ct
 unfold getAttr? getAttrBy?
 refine Yab (wpAny_mkText (Yab (wpAny_attempt ?_)))
 refine Pd (s:={ s with toks:=s.toks+1 }) X I c.ga c.gn (Tw (s:={ s with toks:=s.toks+1 }) X I c.mb hf ?_)
 exact wpAny_call (PySem.W.class_get (s:={ s with toks:=s.toks+1 }) (ox:=ox) (od:=od) X I c.mo (PySem.W.handed_on rfl (Yad h)))
theorem Ja{K:PySem.W.Frag}{x C:Addr}(c:XIs K C):PySem.W.KitX K (.ref x) (.ref C) (λh=>∃ox od,PySem.W.InstAt h x ox C od) where
 ty:=λ_ _ _ ⟨_,_,I⟩=>I.type
 it:=λ_ _ X _=>by
  obtain⟨cdD,hcD,_⟩:=Yda c.hd
  unfold PySem.W.clsIn at hcD
  split at hcD
  ·rename_i c' d' cd' sl' ho
   intro A' Q' E' s' k q
   unfold isType loadHead
   exact Yab (wpAny_loadPart (k _ _ (X _ _ ho)) (Yad q))
  ·cases hcD
 ne:=λh tp dd ae n sl X htp=>by
  obtain⟨cdD,hcD,_⟩:=Yda c.hd
  refine Ydy.mpr λq=>?_
  have e:C=tp:=Value.ref.inj (beq_iff_eq.mp q)
  subst e
  unfold PySem.W.clsIn at hcD
  split at hcD
  ·rename_i c' d' cd' sl' ho
   have z:=(X _ _ ho).symm.trans htp
   cases z
  ·cases hcD
 ca:=λX ⟨_,_,I⟩ k=>M6 X I c k
section
variable {X:Cx}
end
inductive Ctxs (h:Heap):Addr->List Addr->Prop
 | nil {e:Addr} {o:Obj} {vs:Array Value}:h.get? e=some o->o.data=.fields vs->vs[2]?=some Value.none->Ctxs h e []
 | cons {e E:Addr} {o:Obj} {vs:Array Value} {l:List Addr}:h.get? e=some o->o.data=.fields vs->vs[2]?=some (Value.ref E)->Ctxs h E l->Ctxs h e (E :: l)
theorem Ctxs.keep{h h':Heap}(k:∀b o (vs:Array Value),h.get? b=some o->o.data=.fields vs->∃o' fq,h'.get? b=some o'/\o'.data=.fields fq/\fq[2]?=vs[2]?){e:Addr}{l:List Addr}(c:Ctxs h e l):Ctxs h' e l:=by
 induction c with
 | nil a b c=>obtain⟨o',fq,a',b',c'⟩:=k _ _ _ a b;exact .nil a' b' (c'.trans c)
 | cons a b c _ ih=>obtain⟨o',fq,a',b',c'⟩:=k _ _ _ a b;exact .cons a' b' (c'.trans c) ih
theorem Ctxs.same{h h':Heap}(k:∀b o,h.get? b=some o->h'.get? b=some o){e:Addr}{l:List Addr}(c:Ctxs h e l):Ctxs h' e l :=
 c.keep λb o vs a d=>⟨o,vs,k b o a,d,rfl⟩
structure ExcRec(h:Heap)(e:Addr)(cls:Value)(d:Option Addr)(vs:Array Value):Prop where
 at_:h.get? e=some ⟨cls,d,.fields vs,#[]⟩
 six:vs.size=6
 tb:vs[1]?=some .none\/∃T oT ts,vs[1]?=some (.ref T)/\T≠e/\h.get? T=some oT/\oT.data=.fields ts/\ts[3]?=some .none
 cx:∃l,Ctxs h e l
structure LeftBy(fs:List Addr)(e:Addr)(cls:Value)(d:Option Addr)(h h':Heap):Prop where
 size:h.objs.size<=h'.objs.size
 keep:∀b o,b∉fs->b≠e->h.get? b=some o->h'.get? b=some o
 slot:∀b o,b∈fs->h.get? b=some o->∃sl,h'.get? b=some { o with slots:=sl }
 rc:∃vs,ExcRec h' e cls d vs/\vs[1]?≠some .none
 dv:∃T,(∀vs,ExcRec h' e cls d vs->vs[1]?=some (.ref T))/\h.get? T=none
section
variable {M:Model}{A:Around}{E:Value->Shared->Prop}{s:Shared}{base:Heap}{env:Env}{outer:List Env}{L e:Addr}{cls:Value}{d:Option Addr}{vs:Array Value}
theorem Pf{o:Obj}(hd:o.data=.fields vs)(g:Array Value->Array Value):o.mapFields g=⟨o.cls,o.dict,.fields (g vs),o.slots⟩:=by
 obtain⟨c,di,dt,sl⟩:=o
 dsimp only at hd
 subst hd;rfl
theorem Dw{head:Value}{i4:Bool}{Q:Unit->Shared->Prop}(gu:A.frames=some (env :: outer))(hl:s.heap.FunFrames base (env :: outer))(hf:env.frame=some L)(he:s.heap.get? e=some ⟨cls,d,.fields vs,#[]⟩)(h6:vs.size=6)(xy:∃l,Ctxs s.heap e l)
  (h:∀h',LeftBy (frs (env :: outer)) e cls d s.heap h'->Q () { s with heap:=h' }) :
  wpAny M A (do let fr <- frameOf env;let place <- entryPlaceOf L i4;let x <- EntryCells.newEntry head fr .none (rawInt L) .none place;setField (.ref e) 1 x) (λ_ s'=>wpAny M A (setFlight (.ref e) none) Q E s') E s:=by
 have hef:e∉frs (env :: outer):=λhm=>by
  obtain⟨_,o,q,nf⟩:=hl.mem hm
  rw [he]at q;cases q
  exact nf vs rfl
 refine Yab (wpAny_frameOf_fun gu hl hf λh1 S1=>?_)
 refine Yab (wpAny_entryPlaceOf λpl ip=>?_)
 unfold EntryCells.newEntry newFields
 have he1:h1.get? e=some ⟨cls,d,.fields vs,#[]⟩:=(S1.2.1 e hef).trans he
 have hT:h1.objs.size≠e:=Yeh (Yam he1)
 refine Yab (Ybv ?_ (ip.sizeOk5 _ _ _ _ _))
 generalize hts:([head,Value.ref L,Value.none,rawInt L,Value.none]++if pl.isEmpty=true then List.replicate 6 Value.none else pl).toArray=ts
 have zbj:5<=ts.size:=by rw [<- hts];simp
 have he2:=Heap.get?_push_of_some (h:=h1) { cls:=.type "traceback",dict:=none,data:=.fields ts } he1
 refine Ycv he2 rfl (by rw [h6];decide) ?_
 dsimp only
 have yl:=Heap.get?_update_self (Obj.mapFields (·.setIfInBounds 1 (Value.ref h1.objs.size))) he2 rfl
 have hT3:((h1.push { cls:=.type "traceback",dict:=none,data:=.fields ts }).update e (Obj.mapFields (·.setIfInBounds 1 (Value.ref h1.objs.size)))).get? h1.objs.size=some { cls:=.type "traceback",dict:=none,data:=.fields ts } :=
  (Heap.get?_update_other _ _ hT.symm).trans (Heap.get?_push_size h1 rfl)
 unfold setFlight
 refine Yab (Ybz yl rfl (x:=.ref h1.objs.size) (by simp [h6]) ?_)
 rw [Yaw (by simp)]
 refine Ycv hT3 rfl (by omega) (h _ ?_)
 generalize hh3:(h1.push { cls:=.type "traceback",dict:=none,data:=.fields ts }).update e (Obj.mapFields (·.setIfInBounds 1 (Value.ref h1.objs.size)))=h3 at yl hT3
 have eT:=Heap.get?_update_self (Obj.mapFields (·.setIfInBounds 3 ((none:Option Addr).elim Value.none λf=>rawInt f))) hT3 rfl
 have dm:∀b o,b≠e->h1.get? b=some o->(h3.update h1.objs.size (Obj.mapFields (·.setIfInBounds 3 ((none:Option Addr).elim Value.none λf=>rawInt f)))).get? b=some o:=λb o hb q=>by
  have hbT:h1.objs.size≠b:=Yeh (Yam q)
  rw [Heap.get?_update_other _ _ hbT,<- hh3,Heap.get?_update_other _ _ (Ydc hb)]
  exact Heap.get?_push_of_some _ q
 have yz:(h3.update h1.objs.size (Obj.mapFields (·.setIfInBounds 3 ((none:Option Addr).elim Value.none λf=>rawInt f)))).get? e=some ⟨cls,d,.fields (vs.setIfInBounds 1 (.ref h1.objs.size)),#[]⟩:=by
  rw [Heap.get?_update_other _ _ hT];exact yl
 refine⟨?_,λb o hb fh q=>dm b o fh ((S1.2.1 b hb).trans q),λb o hb q=>?_,⟨_,⟨yz,by simp [h6],.inr ⟨h1.objs.size,_,_,by simp [h6],hT,eT,rfl,?_⟩,xy.imp λl c=>c.keep λb o fq q dq=>?_⟩,by simp [h6]⟩,⟨h1.objs.size,λfq R=>?_,?_⟩⟩
 ·rw [Yd8,<- hh3,Yd8,Ycu,S1.1];exact Ydv _
 ·obtain⟨sl,q1⟩:=S1.2.2 b o q
  exact⟨sl,dm b _ (λz=>hef (z ▸ hb)) q1⟩
 ·show(ts.setIfInBounds 3 Value.none)[3]?=some Value.none
  rw [Array.getElem?_setIfInBounds,Yaw rfl,Yaw (by omega)]
 ·have:=R.at_.symm.trans yz
  cases this
  simp [h6]
 ·exact Heap.get?_none_of_le (by rw [S1.1];exact Yag _)
 ·by_cases fh:b=e
  ·subst fh
   rw [he]at q;cases q
   cases dq
   exact⟨_,_,yz,rfl,by rw [Array.getElem?_setIfInBounds,Yar (by decide)]⟩
  ·by_cases hb:b∈frs (env :: outer)
   ·obtain⟨sl,q1⟩:=S1.2.2 b o q
    exact⟨_,fq,dm b _ fh q1,dq,rfl⟩
   ·exact⟨o,fq,dm b o fh ((S1.2.1 b hb).trans q),dq,rfl⟩
theorem T0{Q:Unit->Shared->Prop}(gu:A.frames=some (env :: outer))(hl:s.heap.FunFrames base (env :: outer))(hf:env.frame=some L)(R:ExcRec s.heap e cls d vs)
  (h:∀h',LeftBy (frs (env :: outer)) e cls d s.heap h'->Q () { s with heap:=h' }):wpAny M A («leaving» env (.ref e)) Q E s:=by
 unfold «leaving» noteFrame
 simp only [hf]
 rcases R.tb with h1 | ⟨T,oT,ts,h1,hTe,hT,hd,h3⟩
 ·refine Yab (Yab (Ybz R.at_ rfl h1 ?_))
  rw [Yar (by decide)]
  exact Dw gu hl hf R.at_ R.six R.cx h
 ·refine Yab (Yab (Ybz R.at_ rfl h1 ?_))
  rw [Yaw (by simp)]
  refine Yab (Ybz hT hd h3 ?_)
  rw [Yar (by simp [rawInt])]
  have lv:3 < ts.size:=(Array.getElem?_eq_some_iff.mp h3).1
  refine Yab (Ycv hT hd lv ?_)
  have same:s.heap.update T (Obj.mapFields (·.setIfInBounds 3 Value.none))=s.heap\/True:=.inr trivial
  have eT:(s.heap.update T (Obj.mapFields (·.setIfInBounds 3 Value.none))).get? T=some oT:=by
   have q:=Heap.get?_update_self (Obj.mapFields (·.setIfInBounds 3 Value.none)) hT (Yd3 (Ydl hd _))
   rw [q,Pf hd]
   have:ts.setIfInBounds 3 Value.none=ts:=by
    apply Array.ext_getElem?
    intro k
    rw [Array.getElem?_setIfInBounds]
    by_cases hk:3=k
    ·subst hk;rw [Yaw rfl,Yaw lv,h3]
    ·rw [Yar hk]
   rw [this,<- hd]
  have dm:∀b o,s.heap.get? b=some o->(s.heap.update T (Obj.mapFields (·.setIfInBounds 3 Value.none))).get? b=some o:=λb o q=>by
   by_cases hb:T=b
   ·subst hb;rw [eT,<- q,hT]
   ·rw [Heap.get?_update_other _ _ hb];exact q
  refine Dw (s:={ s with heap:=s.heap.update T (Obj.mapFields (·.setIfInBounds 3 Value.none)) }) gu (hl.of_keeps λb o q _=>⟨o,dm b o q,rfl⟩) hf (dm _ _ R.at_) R.six (R.cx.imp λ_ c=>c.same dm) λh' ⟨x1,x2,x3,x4,x5⟩=>h h' ⟨?_,λb o hb fh q=>x2 b o hb fh (dm b o q),λb o hb q=>x3 b o hb (dm b o q),x4,?_⟩
  ·rw [Yd8]at x1;exact x1
  ·obtain⟨T',y1,y2⟩:=x5
   refine⟨T',y1,?_⟩
   cases z:s.heap.get? T' with
   | none=>rfl
   | some o=>rw [dm _ _ z]at y2;cases y2
end
section
variable {prog:Program}{w:World}{A:Around}{E:Value->Shared->Prop}{s:Shared}{K:PySem.W.Frag}{env:Env}{e C:Addr}{d:Option Addr}{vs:Array Value}
theorem Ua{x:Sem Value}{Q:Flow->Shared->Prop}(hh:A.handled=none)
  (h:wpAny (model prog w) A x (λv s1=>∃e C d vs,v=.ref e/\K.In s1.heap/\s1.heap.get? e=some ⟨.ref C,d,.fields vs,#[]⟩/\vs[1]?=some .none/\Gh K C=true/\PySem.W.mroIn K C (.type "BaseException")=some true/\E (.ref e) s1) E s) :
  wpAny (model prog w) A (raiseStmt env (some x) none) Q E s:=by
 unfold raiseStmt
 refine Yab (Yby h (λv s1 h1=>?_) λ_ _ z=>z)
 obtain⟨e,C,d,vs,rfl,X,he,h1,hc,hm,hE⟩:=h1
 obtain⟨nm,qn,N,bs,bm,gy,sn,sub,ab,jw,dd,k0,k1,k2,k3,k5,hC,_⟩:=Pe X hc
 obtain⟨hp,g,dr,tk,os⟩:=s1
 have Lt:PySem.W.Looks (model prog w) hp (typeOf (.ref e)) (.ref C):=(Ycs he).andThen .now
 have Lc:PySem.W.Looks (model prog w) hp (typeOf (.ref C)) (.type "type"):=(Ycs hC).andThen .now
 have Li:PySem.W.Looks (model prog w) hp (isType (.ref e)) false:=(Ycs he).andThen .now
 have Ls:PySem.W.Looks (model prog w) hp (isInstance (.ref e) (.type "BaseException")) true:=Lt.andThen (Ycp X hm)
 refine Yab (Yad ?_)
 refine Yab (Yb8 ?_)
 unfold excFromValue isExcClass
 refine Yab (Yab (Li.at (Yad ?_)))
 rw [Yar (by decide)]
 refine Yab (Ls.at ?_)
 rw [Yaw rfl]
 refine Yad ?_
 refine Yab (Li.at ?_)
 dsimp only
 rw [Yar (by decide)]
 unfold raisedInstance
 refine Yab (Yab (Lt.at (Yab (Lc.at ?_))))
 rw [Yaw (by decide)]
 refine Yad ?_
 unfold setFlight
 refine Yab (Yab (Ybz he rfl h1 ?_))
 rw [Yar (by decide)]
 exact Yad (wpAny_raiseNew_none hh hE)
theorem Ob{ex:Expr}{pos:Pos}{Q:Flow->Shared->Prop}(hh:A.handled=none)
  (h:wpAny (model prog w) A (eval ex env) (λv s1=>∃e C d vs,v=.ref e/\K.In s1.heap/\s1.heap.get? e=some ⟨.ref C,d,.fields vs,#[]⟩/\vs[1]?=some .none/\Gh K C=true/\PySem.W.mroIn K C (.type "BaseException")=some true/\E (.ref e) s1) E s) :
  wpAny (model prog w) A (exec (.Raise (some ex) none pos) env) Q E s:=by
 rw [arm_exec_Raise]
 refine Yab (Yc6 ?_)
 show wpAny (model prog w) A (raiseStmt env (some (do let v <- eval ex env;standAt pos;pure v)) none) Q E s
 refine Ua (K:=K) hh (Yab (Yby h (λv s1 h1=>Yab (Yc6 (Yad h1))) λ_ _ z=>z))
end
def XR(e C:Addr)(d:Option Addr):HO:=.ext λh=>∃vs:Array Value,h.get? e=some ⟨.ref C,d,.fields vs,#[]⟩/\vs.size=6
theorem Ub{P:Program}{w:World}{H:Hp}{h:Heap}{e C:Addr}{d:Option Addr}{vs:Array Value}(hx:h.get? e=some ⟨.ref C,d,.fields vs,#[]⟩)(h6:vs.size=6):Bn P w H h e (XR e C d) :=
 ⟨⟨vs,hx,h6⟩,⟨_,hx⟩,λ_ _ ⟨vs,p,q⟩ k=>⟨vs,k _ p,q⟩⟩
theorem Uc{P:Program}{w:World}{H:Hp}{h:Heap}{e C:Addr}{d:Option Addr}(ok:HOk P w H h)(q:H e=some (XR e C d)):∃vs:Array Value,h.get? e=some ⟨.ref C,d,.fields vs,#[]⟩/\vs.size=6:=(show Bn P w H h e (XR e C d) from ok e _ q).1
def Y2(P:Program)(w:World):CXT:=λouter H s E e s'=>∃a C d H',e=.ref a/\s'.os=s.os/\AllBare s'.gens/\Un (frs outer) [] H H' s.heap s'.heap/\HOk P w H' s'.heap/\(∃vs,ExcRec s'.heap a (.ref C) d vs)/\H' a=some (XR a C d)/\E (.ref C) (some a) H'
section
variable {X:Cx}{aa:List (Addr×Obj)}{σ:St}{H:Hp}{s:Shared}{a C:Addr}{d:Option Addr}{h':Heap}
theorem Inv.left(I:Inv X aa σ H s)(hx:H a=some (XR a C d))(L:LeftBy (frs X.stack) a (.ref C) d s.heap h'):Inv X aa σ H { s with heap:=h' }:=by
 have nf:∀b u,H b=some u->b∉frs X.stack:=λb u q z=>by rw [I.stkFree b z]at q;cases q
 obtain⟨vs,R,_⟩:=id L.rc
 have un:Un (frs X.stack) [] H H s.heap h':=by
  refine⟨λb o q n hb _=>L.keep b o hb (λz=>by rw [z,hx]at n;cases n) q,λb o q n hb _=>L.slot b o hb q,λ_ _ _ n _=>n,λb o q _=>?_,λ_ _ q=>q,λ_ _ _ q=>q,λ_ ps q=>⟨#[],by rw [q];simp⟩⟩
  by_cases h1:b∈frs X.stack
  ·obtain⟨sl,q2⟩:=L.slot b o h1 q
   exact⟨_,q2⟩
  ·by_cases h2:b=a
   ·subst h2;exact⟨_,R.at_⟩
   ·exact⟨o,L.keep b o h1 h2 q⟩
 refine I.call (ch:=[]) (g':=s.gens) (d':=s.drawn) (t':=s.toks) un (λb u q=>?_) I.bare (λb z=>absurd z (by simp))
 by_cases hb:b=a
 ·subst hb
  rw [hx]at q;cases q
  exact Ub R.at_ R.six
 ·refine(I.hok b u q).stay (λc v hc r=>L.keep c v ?_ ?_ r) (λ_ q=>q) λ_ _ q=>q
  ·rcases hc with rfl | hc
   ·exact nf _ _ q
   ·exact nf _ _ hc
  ·rintro rfl
   rcases hc with z | hc
   ·exact hb z.symm
   ·rw [hx]at hc;cases hc
def Rj(X:Cx)(EX:XK):Prop:=∀(aa:List (Addr×Obj)) (σ:St) (H:Hp) (s:Shared) (a C:Addr) (d:Option Addr) (vs:Array Value),Inv X aa σ H s->H a=some (XR a C d)->ExcRec s.heap a (.ref C) d vs->EX (.ref C) (some a) H->X.xe (.ref a) s
theorem Rj.passes{EX E1:XK}(h:Rj X EX)(i:∀c d H,E1 c d H->EX c d H):Passes (Y2 X.prog X.w) X E1:=by
 rintro aa σ H s e s' I ⟨a,C,d,H',rfl,os,bare,un,hok,⟨vs,R⟩,hx,hE⟩
 exact h aa σ H' s' a C d vs (I.call' os un hok bare (λb z=>absurd z (by simp))) hx R (i _ _ _ hE)
end
theorem Xs{P:Program}{w:World}{K:PySem.W.Frag}{mg:Str->Option Value}{base:Heap}{N:List Str}{qual:Str}{scope:Scope}{f:Addr}{cd:Value}{A:Around}{outer:List Env}{s:Shared}{H:Hp}{E:XK} :
  Rj (Ht (Y2 P w) P w K mg base N qual scope f cd A outer s H E) E:=by
 intro aa σ H1 s1 a C d vs I hx R hE
 show wpAny (model P w) _ («leaving» (envOfC qual scope s.heap.objs.size f cd) (.ref a)) _ _ s1
 refine T0 (base:=base) (outer:=outer) I.ok.frames I.stack rfl R λh' L=>?_
 have J:=I.left hx L
 obtain⟨fq,R',_⟩:=L.rc
 exact⟨a,C,d,H1,rfl,J.os,J.bare,J.base,J.hok,⟨fq,R'⟩,hx,hE⟩
section
variable {M:Model}{A:Around}{E:Value->Shared->Prop}{s:Shared}{base:Heap}{env:Env}{outer:List Env}{L e:Addr}{cls:Value}{d:Option Addr}{vs:Array Value}
theorem Hq{h:Heap}{T:Addr}{oT:Obj}{ts:Array Value}(hT:h.get? T=some oT)(hd:oT.data=.fields ts)(h3:ts[3]?=some .none) :
  ∀b o,h.get? b=some o->(h.update T (Obj.mapFields (·.setIfInBounds 3 Value.none))).get? b=some o:=by
 have lv:3 < ts.size:=(Array.getElem?_eq_some_iff.mp h3).1
 have eT:(h.update T (Obj.mapFields (·.setIfInBounds 3 Value.none))).get? T=some oT:=by
  have q:=Heap.get?_update_self (Obj.mapFields (·.setIfInBounds 3 Value.none)) hT (Yd3 (Ydl hd _))
  rw [q,Pf hd]
  have:ts.setIfInBounds 3 Value.none=ts:=by
   apply Array.ext_getElem?
   intro k
   rw [Array.getElem?_setIfInBounds]
   by_cases hk:3=k
   ·subst hk;rw [Yaw rfl,Yaw lv,h3]
   ·rw [Yar hk]
  rw [this,<- hd]
 intro b o q
 by_cases hb:T=b
 ·subst hb;rw [eT,<- q,hT]
 ·rw [Heap.get?_update_other _ _ hb];exact q
theorem Rk{Q:Unit->Shared->Prop}(gu:A.frames=some (env :: outer))(hl:s.heap.FunFrames base (env :: outer))(hf:env.frame=some L)(R:ExcRec s.heap e cls d vs)
  (h:∀h',LeftBy (frs (env :: outer)) e cls d s.heap h'->Q () { s with heap:=h' }):wpAny M A (noteFrame (.ref e) env) (λ_ s₂=>wpAny M A (setFlight (.ref e) none) Q E s₂) E s:=by
 unfold noteFrame
 simp only [hf]
 rcases R.tb with h1 | ⟨T,oT,ts,h1,hTe,hT,hd,h3⟩
 ·refine Yab (Ybz R.at_ rfl h1 ?_)
  rw [Yar (by decide)]
  exact Dw gu hl hf R.at_ R.six R.cx h
 ·refine Yab (Ybz R.at_ rfl h1 ?_)
  rw [Yaw (by simp)]
  refine Yab (Ybz hT hd h3 ?_)
  rw [Yar (by simp [rawInt])]
  have lv:3 < ts.size:=(Array.getElem?_eq_some_iff.mp h3).1
  refine Yab (Ycv hT hd lv ?_)
  have dm:=Hq hT hd h3
  refine Dw (s:={ s with heap:=s.heap.update T (Obj.mapFields (·.setIfInBounds 3 Value.none)) }) gu (hl.of_keeps λb o q _=>⟨o,dm b o q,rfl⟩) hf (dm _ _ R.at_) R.six (R.cx.imp λ_ c=>c.same dm) λh' ⟨x1,x2,x3,x4,x5⟩=>h h' ⟨?_,λb o hb fh q=>x2 b o hb fh (dm b o q),λb o hb q=>x3 b o hb (dm b o q),x4,?_⟩
  ·rw [Yd8]at x1;exact x1
  ·obtain⟨T',y1,y2⟩:=x5
   refine⟨T',y1,?_⟩
   cases z:s.heap.get? T' with
   | none=>rfl
   | some o=>rw [dm _ _ z]at y2;cases y2
theorem Rm{Q:Unit->Shared->Prop}(R:ExcRec s.heap e cls d vs)(h:∀h',(∀b o,s.heap.get? b=some o->h'.get? b=some o)->Q () { s with heap:=h' }):wpAny M A (setFlight (.ref e) none) Q E s:=by
 unfold setFlight
 rcases R.tb with h1 | ⟨T,oT,ts,h1,hTe,hT,hd,h3⟩
 ·refine Yab (Ybz R.at_ rfl h1 ?_)
  rw [Yar (by decide)]
  exact Yad (h _ λ_ _ q=>q)
 ·refine Yab (Ybz R.at_ rfl h1 ?_)
  rw [Yaw (by simp)]
  exact Ycv hT hd (Array.getElem?_eq_some_iff.mp h3).1 (h _ (Hq hT hd h3))
end
section
variable {prog:Program}{w:World}{A:Around}{E:Value->Shared->Prop}{s:Shared}{K:PySem.W.Frag}{e C D:Addr}{d:Option Addr}{vs:Array Value}
theorem M7{b:Bool}{Q:Bool->Shared->Prop}(X:K.In s.heap)(hD:Gh K D=true)(he:s.heap.get? e=some ⟨.ref C,d,.fields vs,#[]⟩)(hb:PySem.W.mroIn K D (.type "BaseException")=some true)
  (hm:PySem.W.mroIn K C (.ref D)=some b) (h:Q b s):wpAny (model prog w) A (excMatches (.ref e) (.ref D)) Q E s:=by
 obtain⟨nm,qn,N,bs,bm,gy,sn,sub,ab,jw,dd,k0,k1,k2,k3,k5,hDo,_⟩:=Pe X hD
 obtain⟨hp,g,dr,tk,os⟩:=s
 have Lt:PySem.W.Looks (model prog w) hp (typeOf (.ref e)) (.ref C):=(Ycs he).andThen .now
 have Lc:PySem.W.Looks (model prog w) hp (typeOf (.ref D)) (.type "type"):=(Ycs hDo).andThen .now
 have Li:PySem.W.Looks (model prog w) hp (isType (.ref D)) true:=(Ycs hDo).andThen .now
 have f1:isSubtype (.type "type") (.type "tuple")=pure false:=isSubtype_of_subB rfl
 unfold excMatches isExcClass isInstance
 refine Yab (Yab (Lc.at ?_))
 rw [f1]
 refine Yad ?_
 rw [Yar (by decide)]
 refine Yab (Yad ?_)
 simp only [List.forIn_cons,List.forIn_nil]
 refine Yab (Yab (Yab (Yab (Li.at ?_))))
 rw [Yaw rfl]
 refine(Ycp X hb).at ?_
 simp only [Bool.not_true,Bool.false_eq_true,if_false]
 refine Yad ?_
 refine Yad ?_
 refine Yab (Lt.at ?_)
 refine Yab (Yab (Yab ((Ycp X hm).at ?_)))
 cases b with
 | true =>
  simp only [if_true]
  exact Yad (Yad (Yad h))
 | false =>
  simp only [Bool.false_eq_true,if_false]
  exact Yad (Yad (Yad h))
end
section
variable {X:Cx}{aa:List (Addr×Obj)}{σ:St}{H:Hp}{s:Shared}
theorem Inv.retype{a:Addr}{φ:Heap->Prop}{o:HO}(I:Inv X aa σ H s)(q:H a=some (.ext φ))(new:Bn X.prog X.w (upd H a o) s.heap a o):Inv X aa σ (upd H a o) s :=
 I.write (x:=a) (e:=a) (t':=s.toks) (h':=s.heap) (by rw [q];exact True.intro) (.inl rfl) (λ_ _ _ z=>z) (let⟨_,q,_⟩:=(show Bn X.prog X.w H s.heap a (.ext φ) from I.hok a _ q);q) new
def Qbn(K:PySem.W.Frag)(EX:XK)(te:TE):TS:=λ_ σ H=>te σ H λx H1=>∃a C t d,x=.ref a/\H1 a=some (XO a C t d)/\Gh K C=true/\PySem.W.mroIn K C (.type "BaseException")=some true/\EX (.ref C) (some a) (upd H1 a (XR a C d))
theorem Ud{ex:Expr}{pos:Pos}{te:TE}{EX:XK}(hc:X.calm=true)(hx:Rj X EX)(he:PE X ex te):PS X (.Raise (some ex) none pos) (Qbn X.K EX te):=by
 intro aa s σ H D I h
 refine Ob (K:=X.K) (I.ok.hd hc) (thn (he aa s σ H _ I h) λv s1 rj=>?_)
 obtain⟨x,H1,I1,r,a,C,t,d,ex,ha,xc,mr,hE⟩:=rj
 subst ex
 obtain rfl:v=Value.ref a:=r
 have hg:=Tx I1.hok ha
 exact⟨a,C,d,_,rfl,I1.kIn,hg,rfl,xc,mr,hx aa σ _ s1 a C d _ (I1.retype ha (Ub hg rfl)) Bc ⟨hg,rfl,.inl rfl,[],.nil hg rfl rfl⟩ hE⟩
abbrev Cx.suite(X:Cx)(e:Addr):Cx:={ X with A:=X.A.mark (some (.ref e)),calm:=false,xe:=λ_ _=>False }
theorem Inv.suite{e:Addr}(I:Inv X aa σ H s):Inv (X.suite e) aa σ H s :=
 ⟨⟨I.ok.mod,I.ok.kind,I.ok.glob,I.ok.blt,I.ok.above,I.ok.inj,I.ok.has,I.ok.cab,λz=>(nomatch z),I.ok.frames,I.ok.stk,I.ok.exf,I.ok.bs,I.ok.bsz,I.ok.noex,I.ok.exfs,I.ok.funs,I.ok.frf⟩,I.os,I.bare,I.base,I.loc,I.cell,I.free,I.freeC,I.pin,I.hok,I.len⟩
theorem Inv.unsuite{e:Addr}(ok:X.Ok)(I:Inv (X.suite e) aa σ H s):Inv X aa σ H s:=⟨ok,I.os,I.bare,I.base,I.loc,I.cell,I.free,I.freeC,I.pin,I.hok,I.len⟩
theorem Hx{M:Model}{A:Around}{E:Value->Shared->Prop}{i:Nat}{n:Str}{pos:Pos}{Q:Unit->Shared->Prop}(I:Inv X aa σ H s)(hN:X.N.Nodup)(hi:X.N[i]?=some n)(hk:X.env.scope.names.lookup n=some .local)
  (h:∀s',Inv X aa (σ.set i none) H s'->Q () s'):wpAny M A (do bindName X.env n .none;unbindBehindTheSuite X.env n pos) Q E s:=by
 obtain⟨m,hn,hl⟩:=id I.loc
 have j9:(X.env.scope.kind==.class || (X.env.scope.kind==.module && X.env.locals != X.env.globals))=false:=by rw [I.ok.kind];rfl
 refine wpAny_nameGoes_keeps hk hn j9 λh' v ky hs=>?_
 have nl:∀b o,X.s₀.heap.get? b=some o->b≠X.env.locals:=λb o e=>Ya6 (Yau (Yam e) I.ok.above)
 refine h _ ⟨I.ok,I.os,I.bare,⟨λb o e z hb hx=>(hs.2 b (nl b o e)).trans (I.base.keep b o e z hb hx),λb o e z hb hx=>?_,I.base.free,λb o e hx=>?_,I.base.tups,I.base.frzs,I.base.tbls⟩,⟨_,ky,λj y v' e1 e2 e3=>?_⟩,λy c e=>?_,I.free,I.freeC,λp hp=>?_,λb ob e=>?_,by rw [List.length_set];exact I.len⟩
 ·obtain⟨sl,e1⟩:=I.base.slot b o e z hb hx
  exact⟨sl,(hs.2 b (nl b o e)).trans e1⟩
 ·obtain⟨o',e1⟩:=I.base.there b o e hx
  exact⟨o',(hs.2 b (nl b o e)).trans e1⟩
 ·have hj:j≠i:=by
   rintro rfl
   rw [List.getElem?_set]at e2
   simp only [if_true]at e2
   split at e2 <;> cases e2
  rw [List.getElem?_set_ne (Ydc hj)]at e2
  obtain⟨u',r',q⟩:=hl j y v' e1 e2 e3
  refine⟨u',r',?_⟩
  have ny:y≠n:=λz=>hj (Ik hN e1 (z ▸ hi))
  rcases q with⟨k,e⟩ | ⟨k,c,e,z⟩
  ·exact .inl ⟨k,by show(if y=n then v else m y)=_;rw [Yar ny];exact e⟩
  ·exact .inr ⟨k,c,e,z.sameBut hs (I.cne y c e)⟩
 ·obtain⟨w',z⟩:=I.cell y c e
  exact⟨w',z.sameBut hs (I.cne y c e)⟩
 ·obtain⟨e,z,ne,nf,d⟩:=I.pin p hp
  exact⟨(hs.2 p.1 ne).trans e,z,ne,nf,d⟩
 ·refine(I.hok b ob e).stay (λc w' hc q=>(hs.2 c ?_).trans q) (λ_ q=>q) λ_ _ q=>q
  rintro rfl
  rcases hc with z | z
  ·rw [<- z,I.free]at e;cases e
  ·rw [I.free]at z;cases z
abbrev Cx.taking(X:Cx)(xe:Value->Shared->Prop)(pn:List (Addr×Obj)):Cx:={ X with xe:=xe,pn:=pn }
theorem Inv.take{xe:Value->Shared->Prop}(I:Inv X aa σ H s):Inv (X.taking xe (X.pn++aa)) [] σ H s :=
 ⟨⟨I.ok.mod,I.ok.kind,I.ok.glob,I.ok.blt,I.ok.above,I.ok.inj,I.ok.has,I.ok.cab,I.ok.hd,I.ok.frames,I.ok.stk,I.ok.exf,I.ok.bs,I.ok.bsz,I.ok.noex,I.ok.exfs,I.ok.funs,I.ok.frf⟩,I.os,I.bare,I.base,I.loc,I.cell,I.free,I.freeC,λp hp=>I.pin p (by rw [Ybi]at hp;exact hp),I.hok,I.len⟩
theorem Inv.untake{xe:Value->Shared->Prop}{fc:List (Addr×Obj)}(ok:X.Ok)(I:Inv (X.taking xe (X.pn++aa)) fc σ H s):Inv X aa σ H s :=
 ⟨ok,I.os,I.bare,I.base,I.loc,I.cell,I.free,I.freeC,λp hp=>I.pin p (Yc7 _ hp),I.hok,I.len⟩
end
end L2
namespace L2
open PySem PySem.Spec PyProof.Rows
inductive AV where
 | D (d:PyData) | R (a:Addr) | C (ds:List PyData) | X (C:Addr) (fs:List (Str×PyData))
 deriving Inhabited
mutual
def Cano:PyData->Bool
 | .int _=>true
 | .str _=>true
 | .tuple xs=>Pg xs
 | _=>false
def Pg:List PyData->Bool
 | []=>true
 | x :: xs=>Cano x && Pg xs
end
structure KeyTree(d:PyData):Prop where
 can:Cano d=true
 lay:d.canLay0=true
 cf:d.depth<=6
def Xt(K:PySem.W.Frag)(H:Hp)(a:Addr)(xs:List V):Prop :=
 (∃o,H a=some (.frz o (.lst xs))) \/
  ∃(o:Obj) (ae:Array Value) (n:Nat),K.lookup a=some o/\o.cls=.type "list" /\ o.dict=none/\o.data=.seq ae n/\ae.size<=sizeLine/\Vals xs ae.toList
theorem Xt.sq{K:PySem.W.Frag}{H:Hp}{a:Addr}{xs:List V}(h:Xt K H a xs):Ei K H a xs:=by
 rcases h with⟨o,h⟩ | h
 ·exact .inl (.inr ⟨o,h⟩)
 ·exact .inr h
def Lit:List PyData->Bool
 | .str _ :: _=>true
 | .tuple _ :: _=>true
 | _=>false
def Wp(K:PySem.W.Frag)(H:Hp)(a:Addr)(ds:List PyData)(xs:List V):Prop :=
 H a=some (.tup xs)\/(Lit ds=true/\∃(o:Obj) (ae:Array Value) (n:Nat),K.lookup a=some o/\o.cls=.type "tuple" /\ o.data=.seq ae n/\ae.size<=sizeLine/\Vals xs ae.toList)
theorem Wp.sq{K:PySem.W.Frag}{H:Hp}{a:Addr}{ds:List PyData}{xs:List V}(h:Wp K H a ds xs):Hm K H a xs:=by
 rcases h with h | h
 ·exact Hm.of h
 ·exact .inr h.2
mutual
def Dk(K:PySem.W.Frag)(H:Hp):PyData->V->Prop
 | .none,x=>x=.non
 | .bool b,x=>x=.bl b
 | .int i,x=>x=.int i
 | .str z,x=>x=.str z
 | .list ds,x=>∃a xs,x=.ref a/\Xt K H a xs/\Aq K H ds xs
 | .tuple ds,x=>∃a xs,x=.ref a/\Wp K H a ds xs/\Aq K H ds xs
 | .dict _,_=>False
def Aq(K:PySem.W.Frag)(H:Hp):List PyData->List V->Prop
 | [],xs=>xs=[]
 | d :: ds,xs=>∃x r,xs=x :: r/\Dk K H d x/\Aq K H ds r
end
structure Kp(H H':Hp):Prop where
 t:∀b xs,H b=some (.tup xs)->H' b=some (.tup xs)
 f:∀b o u,H b=some (.frz o u)->H' b=some (.frz o u)
theorem Kp.refl{H:Hp}:Kp H H:=⟨λ_ _ h=>h,λ_ _ _ h=>h⟩
theorem Kp.trans{H H1 H2:Hp}(a:Kp H H1)(b:Kp H1 H2):Kp H H2:=⟨λc xs h=>b.t c xs (a.t c xs h),λc o u h=>b.f c o u (a.f c o u h)⟩
theorem Kp.new{H:Hp}{p:Addr}(h:H p=none)(o:HO):Kp H (upd H p o) :=
 ⟨λb xs e=>by rw [Az (Bz e h)];exact e,λb o' u e=>by rw [Az (Bz e h)];exact e⟩
def Mt:HO->Prop
 | .lst _=>True
 | .dK _=>True
 | .dT _=>True
 | .dd _=>True
 | _=>False
theorem Kp.put{H:Hp}{p:Addr}{o0:HO}(h:H p=some o0)(m:Mt o0)(o:HO):Kp H (upd H p o) :=
 ⟨λb xs e=>by rw [Az (Mq e h (by intro z;subst z;exact m))];exact e,λb o' u e=>by rw [Az (Mq e h (by intro z;subst z;exact m))];exact e⟩
theorem Xt.kp{K:PySem.W.Frag}{H H':Hp}{a:Addr}{xs:List V}(S:Kp H H')(h:Xt K H a xs):Xt K H' a xs:=by
 rcases h with⟨o,h⟩ | h
 ·exact .inl ⟨o,S.f _ _ _ h⟩
 ·exact .inr h
theorem Wp.kp{K:PySem.W.Frag}{H H':Hp}{a:Addr}{ds:List PyData}{xs:List V}(S:Kp H H')(h:Wp K H a ds xs):Wp K H' a ds xs:=by
 rcases h with h | h
 ·exact .inl (S.t _ _ h)
 ·exact .inr h
section
variable {K:PySem.W.Frag}{H H':Hp}
mutual
theorem Dk.kp(S:Kp H H'):∀(d:PyData) (x:V),Dk K H d x->Dk K H' d x
 | .none,x,h=>by simp only [Dk]at h ⊢;exact h
 | .bool b,x,h=>by simp only [Dk]at h ⊢;exact h
 | .int i,x,h=>by simp only [Dk]at h ⊢;exact h
 | .str z,x,h=>by simp only [Dk]at h ⊢;exact h
 | .list ds,x,h=>by
  simp only [Dk]at h ⊢
  obtain⟨a,xs,e,q,r⟩:=h
  exact⟨a,xs,e,q.kp S,Aq.kp S ds xs r⟩
 | .tuple ds,x,h=>by
  simp only [Dk]at h ⊢
  obtain⟨a,xs,e,q,r⟩:=h
  exact⟨a,xs,e,q.kp S,Aq.kp S ds xs r⟩
 | .dict _,x,h=>by simp only [Dk]at h
theorem Aq.kp(S:Kp H H'):∀(ds:List PyData) (xs:List V),Aq K H ds xs->Aq K H' ds xs
 | [],xs,h=>by simp only [Aq]at h ⊢;exact h
 | d :: ds,xs,h=>by
  simp only [Aq]at h ⊢
  obtain⟨x,r,e,h1,h2⟩:=h
  exact⟨x,r,e,Dk.kp S d x h1,Aq.kp S ds r h2⟩
end
theorem Df{i:Int}:Dk K H (.int i) (.int i):=by simp only [Dk]
theorem Kz{b:Bool}:Dk K H (.bool b) (.bl b):=by simp only [Dk]
theorem Cs{z:Str}:Dk K H (.str z) (.str z):=by simp only [Dk]
theorem Ue:Dk K H .none .non:=by simp only [Dk]
theorem Dk.int{x:V}{i:Int}(h:Dk K H (.int i) x):x=.int i:=by simp only [Dk]at h;exact h
theorem Dk.bl{x:V}{i:Bool}(h:Dk K H (.bool i) x):x=.bl i:=by simp only [Dk]at h;exact h
theorem Dk.str{x:V}{i:Str}(h:Dk K H (.str i) x):x=.str i:=by simp only [Dk]at h;exact h
theorem Dk.non{x:V}(h:Dk K H .none x):x=.non:=by simp only [Dk]at h;exact h
theorem Dk.tup{x:V}{ds:List PyData}(h:Dk K H (.tuple ds) x):∃a xs,x=.ref a/\Wp K H a ds xs/\Aq K H ds xs:=by simp only [Dk]at h;exact h
theorem Dk.lst{x:V}{ds:List PyData}(h:Dk K H (.list ds) x):∃a xs,x=.ref a/\Xt K H a xs/\Aq K H ds xs:=by simp only [Dk]at h;exact h
theorem Jb{a:Addr}{xs:List V}{ds:List PyData}(h:H a=some (.tup xs))(r:Aq K H ds xs):Dk K H (.tuple ds) (.ref a):=by simp only [Dk];exact⟨a,xs,rfl,.inl h,r⟩
theorem Ph{a:Addr}{xs:List V}{ds:List PyData}{o:Obj}{ae:Array Value}{n:Nat}(hl:Lit ds=true)(h1:K.lookup a=some o)(h2:o.cls=.type "tuple") (h3:o.data=.seq ae n) (h4:ae.size<=sizeLine) (h5:Vals xs ae.toList) (r:Aq K H ds xs):Dk K H (.tuple ds) (.ref a):=by
 simp only [Dk];exact⟨a,xs,rfl,.inr ⟨hl,o,ae,n,h1,h2,h3,h4,h5⟩,r⟩
theorem Qbo{a:Addr}{xs:List V}{ds:List PyData}(h:Xt K H a xs)(r:Aq K H ds xs):Dk K H (.list ds) (.ref a):=by simp only [Dk];exact⟨a,xs,rfl,h,r⟩
theorem Ct:Aq K H [] []:=by simp only [Aq]
theorem Bl{d:PyData}{ds:List PyData}{x:V}{xs:List V}(h:Dk K H d x)(r:Aq K H ds xs):Aq K H (d :: ds) (x :: xs):=by simp only [Aq];exact⟨x,xs,rfl,h,r⟩
theorem Aq.cons{d:PyData}{ds:List PyData}{xs:List V}(h:Aq K H (d :: ds) xs):∃x r,xs=x :: r/\Dk K H d x/\Aq K H ds r:=by simp only [Aq]at h;exact h
theorem Aq.nil{xs:List V}(h:Aq K H [] xs):xs=[]:=by simp only [Aq]at h;exact h
theorem Aq.length:∀{ds:List PyData} {xs:List V},Aq K H ds xs->xs.length=ds.length
 | [],_,h=>by rw [h.nil];rfl
 | _ :: ds,_,h=>by
  obtain⟨x,r,rfl,_,h2⟩:=h.cons
  rw [Yba,Yba,Aq.length h2]
theorem Aq.get:∀{ds:List PyData} {xs:List V} {i:Nat} {d:PyData},Aq K H ds xs->ds[i]?=some d->∃x,xs[i]?=some x/\Dk K H d x
 | [],_,_,_,_,e=>by simp at e
 | _ :: ds,_,0,d,h,e=>by
  obtain⟨x,r,rfl,h1,_⟩:=h.cons
  simp at e;subst e
  exact⟨x,rfl,h1⟩
 | _ :: ds,_,i+1,d,h,e=>by
  obtain⟨x,r,rfl,_,h2⟩:=h.cons
  obtain⟨y,e1,e2⟩:=Aq.get (i:=i) (d:=d) h2 (by simpa using e)
  exact⟨y,by simpa using e1,e2⟩
theorem Aq.append:∀{ds es:List PyData} {xs ys:List V},Aq K H ds xs->Aq K H es ys->Aq K H (ds++es) (xs++ys)
 | [],_,_,_,h,k=>by rw [h.nil];exact k
 | _ :: ds,_,_,_,h,k=>by
  obtain⟨x,r,rfl,h1,h2⟩:=h.cons
  exact Bl h1 (Aq.append h2 k)
theorem Aq.drop:∀(n:Nat) {ds:List PyData} {xs:List V},Aq K H ds xs->Aq K H (ds.drop n) (xs.drop n)
 | 0,_,_,h=>h
 | _+1,[],_,h=>by rw [h.nil];exact Ct
 | n+1,_ :: ds,_,h=>by
  obtain⟨x,r,rfl,_,h2⟩:=h.cons
  exact Aq.drop n h2
theorem Aq.take:∀(n:Nat) {ds:List PyData} {xs:List V},Aq K H ds xs->Aq K H (ds.take n) (xs.take n)
 | 0,_,_,_=>Ct
 | _+1,[],_,h=>by rw [h.nil];exact Ct
 | n+1,_ :: ds,_,h=>by
  obtain⟨x,r,rfl,h1,h2⟩:=h.cons
  exact Bl h1 (Aq.take n h2)
theorem Aq.cut{ds:List PyData}{xs:List V}(h:Aq K H ds xs)(lo hi:Option Int):Aq K H (Tr ds lo hi) (J6 xs lo hi):=by
 unfold Tr J6
 rw [h.length]
 exact(h.drop _).take _
theorem Aq.atI{ds:List PyData}{xs:List V}{i:Int}{d:PyData}(h:Aq K H ds xs)(e:atI ds i=some d):∃x,L2.atI xs i=some x/\Dk K H d x:=by
 unfold L2.atI at e ⊢
 rw [h.length]
 cases q:ixN ds.length i with
 | none=>rw [q]at e;cases e
 | some j =>
  rw [q]at e
  obtain⟨x,hx,hd⟩:=h.get (show ds[j]?=some d from e)
  exact⟨x,hx,hd⟩
def Hv(K:PySem.W.Frag)(H:Hp):List (Str×PyData)->List (Str×V)->Prop:=Paired λp q=>p.1=q.1/\Dk K H p.2 q.2
theorem Hv.kp{fs:List (Str×PyData)}{vs:List (Str×V)}(S:Kp H H')(h:Hv K H fs vs):Hv K H' fs vs:=Paired.mapP h λp q r=>⟨r.1,Dk.kp S _ _ r.2⟩
def XFs(K:PySem.W.Frag)(H:Hp)(d:Option Addr)(fs:List (Str×PyData)):Prop:=match d with
 | none=>fs=[]
 | some d=>∃od kvs,H d=some (.frz od (XD d kvs))/\Hv K H fs kvs
theorem XFs.kp{d:Option Addr}{fs:List (Str×PyData)}(S:Kp H H')(h:XFs K H d fs):XFs K H' d fs:=by
 cases d with
 | none=>exact h
 | some d=>obtain⟨od,kvs,q,r⟩:=h;exact⟨od,kvs,S.f _ _ _ q,r.kp S⟩
def RelA(K:PySem.W.Frag)(H:Hp):AV->V->Prop
 | .D d,v=>Dk K H d v
 | .R a,v=>v=.ref a
 | .C ds,v=>∃a xs,v=.ref a/\(∀H,Hm K H a xs)/\Aq K H ds xs
 | .X C fs,v=>∃a o d,v=.ref a/\H a=some (.frz o (XR a C d))/\XFs K H d fs
theorem Cu{i:Int}:RelA K H (.D (.int i)) (.int i):=Df (K:=K) (H:=H)
theorem Cv{i:Bool}:RelA K H (.D (.bool i)) (.bl i):=Kz (K:=K) (H:=H)
theorem Gi{i:Str}:RelA K H (.D (.str i)) (.str i):=Cs (K:=K) (H:=H)
theorem Jc:RelA K H (.D .none) .non:=Ue (K:=K) (H:=H)
theorem RelA.int{x:V}{i:Int}(h:RelA K H (.D (.int i)) x):x=.int i:=Dk.int (K:=K) (H:=H) h
theorem RelA.bl{x:V}{i:Bool}(h:RelA K H (.D (.bool i)) x):x=.bl i:=Dk.bl (K:=K) (H:=H) h
theorem RelA.str{x:V}{i:Str}(h:RelA K H (.D (.str i)) x):x=.str i:=Dk.str (K:=K) (H:=H) h
theorem RelA.non{x:V}(h:RelA K H (.D .none) x):x=.non:=Dk.non (K:=K) (H:=H) h
theorem RelA.tup{x:V}{ds:List PyData}(h:RelA K H (.D (.tuple ds)) x):∃a xs,x=.ref a/\Wp K H a ds xs/\Aq K H ds xs:=Dk.tup (K:=K) (H:=H) h
theorem RelA.lst{x:V}{ds:List PyData}(h:RelA K H (.D (.list ds)) x):∃a xs,x=.ref a/\Xt K H a xs/\Aq K H ds xs:=Dk.lst (K:=K) (H:=H) h
theorem RelA.ref{x:V}{a:Addr}(h:RelA K H (.R a) x):x=.ref a:=h
theorem Em{a:Addr}:RelA K H (.R a) (.ref a):=rfl
theorem M8{d:PyData}{v:V}(h:Dk K H d v):RelA K H (.D d) v:=h
theorem L6{a:Addr}{xs:List V}{ds:List PyData}(h:H a=some (.tup xs))(r:Aq K H ds xs):RelA K H (.D (.tuple ds)) (.ref a):=Jb (K:=K) (H:=H) h r
abbrev Ax(K:PySem.W.Frag)(H:Hp):List AV->List V->Prop:=Paired (RelA K H)
theorem RelA.kp(S:Kp H H'):∀{x:AV} {v:V},RelA K H x v->RelA K H' x v
 | .D d,v,h=>Dk.kp S d v h
 | .R a,_,h=>h
 | .C ds,v,⟨a,xs,e,q,r⟩=>⟨a,xs,e,q,Aq.kp S ds xs r⟩
 | .X C fs,v,⟨a,o,d,e,q,r⟩=>⟨a,o,d,e,S.f _ _ _ q,r.kp S⟩
theorem Ax.kp(S:Kp H H'){xs:List AV}{vs:List V}(h:Ax K H xs vs):Ax K H' xs vs:=Paired.mapP h λ_ _ q=>q.kp S
theorem Ax.length{xs:List AV}{vs:List V}(h:Ax K H xs vs):xs.length=vs.length:=Yc5 h
theorem Ax.append{xs ys:List AV}{us ws:List V}(h:Ax K H xs us)(s:Ax K H ys ws):Ax K H (xs++ys) (us++ws):=by
 induction h with
 | nil=>exact s
 | cons r t ih=>exact .cons r ih
theorem Ax.get:∀{xs:List AV} {us:List V} {i:Nat} {x:AV},Ax K H xs us->xs[i]?=some x->∃u,us[i]?=some u/\RelA K H x u
 | _,_,_,_,.nil,e=>by simp at e
 | _,_,0,_,.cons r _,e=>by simp at e;subst e;exact⟨_,rfl,r⟩
 | _,_,i+1,x,.cons _ t,e=>by
  obtain⟨u,h1,h2⟩:=Ax.get (i:=i) (x:=x) t (by simpa using e)
  exact⟨u,by simpa using h1,h2⟩
theorem Ax.set{x:AV}{u:V}(r:RelA K H x u):∀{xs:List AV} {us:List V} (i:Nat),Ax K H xs us->Ax K H (xs.set i x) (us.set i u)
 | _,_,_,.nil=>.nil
 | _,_,0,.cons _ t=>.cons r t
 | _,_,i+1,.cons q t=>.cons q (Ax.set r i t)
theorem Ax.drop:∀{xs:List AV} {us:List V} (n:Nat),Ax K H xs us->Ax K H (xs.drop n) (us.drop n)
 | _,_,0,r=>r
 | _,_,_+1,.nil=>.nil
 | _,_,n+1,.cons _ t=>Ax.drop n t
theorem Ax.take:∀{xs:List AV} {us:List V} (n:Nat),Ax K H xs us->Ax K H (xs.take n) (us.take n)
 | _,_,0,_=>.nil
 | _,_,_+1,.nil=>.nil
 | _,_,n+1,.cons r t=>.cons r (Ax.take n t)
theorem Ax.dropLast{xs:List AV}{us:List V}(h:Ax K H xs us):Ax K H xs.dropLast us.dropLast:=by
 induction h with
 | nil=>exact .nil
 | cons r t ih =>
  cases t with
  | nil=>exact .nil
  | cons r2 t=>exact .cons r ih
theorem Ax.rev{xs:List AV}{us:List V}(h:Ax K H xs us):Ax K H xs.reverse us.reverse:=by
 induction h with
 | nil=>exact .nil
 | cons r t ih=>rw [Ydt,Ydt];exact ih.append (.cons r .nil)
def En(xs:List AV)(lo hi:Option Int):List AV:=(xs.drop (HT.sIx xs.length 0 lo)).take (HT.sIx xs.length xs.length hi - HT.sIx xs.length 0 lo)
theorem Ax.cut{xs:List AV}{us:List V}(h:Ax K H xs us)(lo hi:Option Int):Ax K H (En xs lo hi) (J6 us lo hi):=by
 unfold En J6
 rw [h.length]
 exact(h.drop _).take _
theorem Ax.atI{xs:List AV}{us:List V}{i:Int}{x:AV}(h:Ax K H xs us)(e:atI xs i=some x):∃u,L2.atI us i=some u/\RelA K H x u:=by
 unfold L2.atI at e ⊢
 rw [<- h.length]
 cases q:ixN xs.length i with
 | none=>rw [q]at e;cases e
 | some j =>
  rw [q]at e
  obtain⟨x,hx,hd⟩:=h.get (show xs[j]?=some x from e)
  exact⟨x,hx,hd⟩
def dats:List AV->Option (List PyData)
 | []=>some []
 | .D d :: r=>match dats r with
  | some ds=>some (d :: ds)
  | none=>none
 | .R _ :: _=>none
 | .C _ :: _=>none
 | .X _ _ :: _=>none
@[simp] theorem dats_nil:dats []=some []:=rfl
theorem Ch:∀(ds:List PyData),dats (ds.map .D)=some ds
 | []=>rfl
 | d :: ds=>by simp only [List.map_cons,dats,Ch ds]
theorem Gx:∀{xs:List AV} {ds:List PyData},dats xs=some ds->xs=ds.map .D
 | [],ds,h=>by cases h;rfl
 | .D d :: r,ds,h=>by
  simp only [dats]at h
  cases q:dats r with
  | none=>rw [q]at h;cases h
  | some es=>rw [q]at h;cases h;rw [Gx q];rfl
 | .R _ :: _,_,h=>by simp [dats]at h
 | .C _ :: _,_,h=>by simp [dats]at h
 | .X _ _ :: _,_,h=>by simp [dats]at h
theorem Ax.dk:∀{ds:List PyData} {vs:List V},Ax K H (ds.map .D) vs->Aq K H ds vs
 | [],_,h=>by cases h;exact Ct
 | _ :: _,_,h=>by
  rw [Ya7]at h
  cases h with
  | cons r t=>exact Bl r (Ax.dk t)
theorem Aq.rel:∀{ds:List PyData} {vs:List V},Aq K H ds vs->Ax K H (ds.map .D) vs
 | [],_,h=>by rw [h.nil];exact .nil
 | _ :: _,_,h=>by
  obtain⟨x,r,rfl,h1,h2⟩:=h.cons
  exact .cons h1 (Aq.rel h2)
theorem Ax.dats{xs:List AV}{vs:List V}{ds:List PyData}(h:Ax K H xs vs)(e:dats xs=some ds):Aq K H ds vs:=by rw [Gx e]at h;exact h.dk
inductive MO where
 | lst (xs:List AV) | dk (kvs:List (Key×AV)) | dt (kvs:List (List Key×AV)) | dd (kvs:List (PyData×AV))
abbrev M:=Addr->Option MO
def Aj(μ:M)(a:Addr)(m:MO):M:=λb=>if b=a then some m else μ b
theorem Ac{μ:M}{a:Addr}{m:MO}:Aj μ a m a=some m:=by unfold Aj;rw [Yaw rfl]
theorem Am{μ:M}{a b:Addr}{m:MO}(h:b≠a):Aj μ a m b=μ b:=by unfold Aj;rw [Yar h]
theorem Bw{μ:M}{a:Addr}{m n:MO}:Aj (Aj μ a m) a n=Aj μ a n:=by funext b;unfold Aj;split <;> rfl
def Ee{κ:Type}(K:PySem.W.Frag)(H:Hp):List (κ×AV)->List (κ×V)->Prop:=Paired λp q=>p.1=q.1/\RelA K H p.2 q.2
theorem Ee.kp{κ:Type}(S:Kp H H'){xs:List (κ×AV)}{vs:List (κ×V)}(h:Ee K H xs vs):Ee K H' xs vs:=Paired.mapP h λ_ _ q=>⟨q.1,q.2.kp S⟩
def Xu(K:PySem.W.Frag)(H:Hp):List (PyData×AV)->List (PyData×Addr×Value)->Prop:=Paired λp q=>p.1=q.1/\KeyTree p.1/\Dk K H p.1 (.ref q.2.1)/\∃v,RelA K H p.2 v/\Bh v q.2.2
theorem Xu.kp(S:Kp H H'){xs:List (PyData×AV)}{vs:List (PyData×Addr×Value)}(h:Xu K H xs vs):Xu K H' xs vs:=Paired.mapP h λ_ _ ⟨a,b,c,v,r,q⟩=>⟨a,b,Dk.kp S _ _ c,v,r.kp S,q⟩
def Kb(K:PySem.W.Frag)(H:Hp):MO->HO->Prop
 | .lst xs,o=>∃vs,o=.lst vs/\Ax K H xs vs
 | .dk kvs,o=>∃vs,o=.dK vs/\Ee K H kvs vs
 | .dt kvs,o=>∃vs,o=.dT vs/\Ee K H kvs vs
 | .dd kvs,o=>∃xs,o=.dd xs/\Xu K H kvs xs
theorem Kb.kp(S:Kp H H'){m:MO}{o:HO}(h:Kb K H m o):Kb K H' m o:=by
 cases m with
 | lst xs=>obtain⟨vs,e,r⟩:=h;exact⟨vs,e,r.kp S⟩
 | dk xs=>obtain⟨vs,e,r⟩:=h;exact⟨vs,e,r.kp S⟩
 | dt xs=>obtain⟨vs,e,r⟩:=h;exact⟨vs,e,r.kp S⟩
 | dd xs=>obtain⟨vs,e,r⟩:=h;exact⟨vs,e,r.kp S⟩
theorem C2{xs:List AV}{vs:List V}(h:Ax K H xs vs):Kb K H (.lst xs) (.lst vs):=⟨vs,rfl,h⟩
theorem Kb.mt{m:MO}{o:HO}(h:Kb K H m o):Mt o:=by
 cases m with
 | lst xs=>obtain⟨vs,rfl,r⟩:=h;trivial
 | dk xs=>obtain⟨vs,rfl,r⟩:=h;trivial
 | dt xs=>obtain⟨vs,rfl,r⟩:=h;trivial
 | dd xs=>obtain⟨vs,rfl,r⟩:=h;trivial
def Cn(K:PySem.W.Frag)(μ:M)(H:Hp):Prop:=∀a m,μ a=some m->∃o,H a=some o/\Kb K H m o
theorem Cn.none{μ:M}{p:Addr}(c:Cn K μ H)(h:H p=none):μ p=none:=by
 cases q:μ p with
 | none=>rfl
 | some m=>obtain⟨o,e,_⟩:=c p m q;rw [h]at e;cases e
theorem Cn.over{μ:M}{p:Addr}{o:HO}(c:Cn K μ H)(h:H p=Option.none):Cn K μ (upd H p o):=λa m e=>by
 obtain⟨o',e',r⟩:=c a m e
 exact⟨o',by rw [Az (Bz e' h)];exact e',r.kp (Kp.new h o)⟩
theorem Cn.new{μ:M}{p:Addr}{m:MO}{o:HO}(c:Cn K μ H)(h:H p=Option.none)(r:Kb K H m o):Cn K (Aj μ p m) (upd H p o):=λa m' e=>by
 by_cases ha:a=p
 ·subst ha;rw [Ac]at e;cases e;exact⟨o,Bc,r.kp (Kp.new h o)⟩
 ·rw [Am ha]at e;exact c.over h a m' e
theorem Cn.put{μ:M}{p:Addr}{m:MO}{o o0:HO}(c:Cn K μ H)(h:H p=some o0)(hm:Mt o0)(r:Kb K H m o):Cn K (Aj μ p m) (upd H p o):=λa m' e=>by
 by_cases ha:a=p
 ·subst ha;rw [Ac]at e;cases e;exact⟨o,Bc,r.kp (Kp.put h hm o)⟩
 ·rw [Am ha]at e
  obtain⟨o',e',r'⟩:=c a m' e
  exact⟨o',by rw [Az ha];exact e',r'.kp (Kp.put h hm o)⟩
def Sub(μ ν:M):Prop:=∀a m,μ a=some m->ν a=some m
theorem Sub.refl{μ:M}:Sub μ μ:=λ_ _ h=>h
theorem Sub.new{μ ν:M}{p:Addr}{m:MO}(h:Sub μ ν)(e:μ p=none):Sub μ (Aj ν p m):=λa m' e'=>by
 rw [Am (by intro z;subst z;rw [e]at e';cases e')];exact h a m' e'
theorem Sub.none{μ ν:M}{p:Addr}(h:Sub μ ν)(e:ν p=none):μ p=none:=by
 cases q:μ p with
 | none=>rfl
 | some m=>rw [h p m q]at e;cases e
theorem Cn.sub{μ ν:M}(c:Cn K ν H)(h:Sub μ ν):Cn K μ H:=λa m e=>c a m (h a m e)
abbrev ASt:=List (Option AV)
def K0(K:PySem.W.Frag)(H:Hp)(a:Option AV)(b:Option V):Prop:=∀x,a=some x->∃v,b=some v/\RelA K H x v
abbrev C0(K:PySem.W.Frag)(H:Hp):ASt->St->Prop:=Paired (K0 K H)
theorem K0.kp{a:Option AV}{b:Option V}(S:Kp H H')(h:K0 K H a b):K0 K H' a b:=λx e=>let⟨v,e2,r⟩:=h x e;⟨v,e2,r.kp S⟩
theorem C0.kp{τ:ASt}{σ:St}(S:Kp H H')(h:C0 K H τ σ):C0 K H' τ σ:=Paired.mapP h λ_ _ q=>q.kp S
theorem C0.get:∀{τ:ASt} {σ:St} {i:Nat} {x:AV},C0 K H τ σ->τ[i]?=some (some x)->∃v,σ[i]?=some (some v)/\RelA K H x v
 | _,_,_,_,.nil,e=>by simp at e
 | _,_,0,_,.cons r _,e=>by simp at e;subst e;obtain⟨v,rfl,q⟩:=r _ rfl;exact⟨v,rfl,q⟩
 | _,_,i+1,x,.cons _ t,e=>by
  obtain⟨u,h1,h2⟩:=C0.get (i:=i) (x:=x) t (by simpa using e)
  exact⟨u,by simpa using h1,h2⟩
theorem Jd{x:AV}{v:V}(r:RelA K H x v):K0 K H (some x) (some v):=λy e=>by cases e;exact⟨v,rfl,r⟩
theorem Eo{b:Option V}:K0 K H none b:=λy e=>nomatch e
theorem C0.set{x:AV}{v:V}(r:RelA K H x v):∀{τ:ASt} {σ:St} (i:Nat),C0 K H τ σ->C0 K H (τ.set i (some x)) (σ.set i (some v))
 | _,_,_,.nil=>.nil
 | _,_,0,.cons _ t=>.cons (Jd r) t
 | _,_,i+1,.cons q t=>.cons q (C0.set r i t)
def C3(N:List Str)(xs:List AV):ASt:=xs.map some++List.replicate (N.length - xs.length) none
theorem C0.rep:∀(n:Nat),C0 K H (List.replicate n none) (List.replicate n none)
 | 0=>.nil
 | n+1=>.cons Eo (C0.rep n)
theorem C0.somes:∀{xs:List AV} {vs:List V},Ax K H xs vs->C0 K H (xs.map some) (vs.map some)
 | _,_,.nil=>.nil
 | _,_,.cons r t=>.cons (Jd r) (C0.somes t)
theorem C0.append{τ τ':ASt}{σ σ':St}(h:C0 K H τ σ)(s:C0 K H τ' σ'):C0 K H (τ++τ') (σ++σ'):=by
 induction h with
 | nil=>exact s
 | cons r t ih=>exact .cons r ih
theorem C0.begin{N:List Str}{xs:List AV}{vs:List V}(h:Ax K H xs vs):C0 K H (C3 N xs) (start N vs):=by
 unfold C3 start
 rw [h.length]
 exact(C0.somes h).append (C0.rep _)
def Qe0(mp:List (Option Nat))(τ:ASt):ASt:=mp.map λo=>match o with
 | none=>none
 | some j=>match τ[j]? with
  | some x=>x
  | none=>none
theorem C0.sub{τ:ASt}{σ:St}(h:C0 K H τ σ):∀(mp:List (Option Nat)),C0 K H (Qe0 mp τ) (M0 mp σ)
 | []=>.nil
 | none :: mp=>.cons Eo (C0.sub h mp)
 | some j :: mp=>by
  refine .cons (λx e=>?_) (C0.sub h mp)
  have e':τ[j]?=some (some x):=by
   dsimp only at e
   cases q:τ[j]? with
   | none=>rw [q]at e;cases e
   | some y=>rw [q]at e;exact Ybo some e
  obtain⟨v,hv,r⟩:=h.get e'
  refine⟨v,?_,r⟩
  show(σ[j]?).join=some v
  rw [hv];rfl
end
abbrev AE:=ASt->M->(AV->M->Prop)->Prop
abbrev AT:=ASt->M->(Bool->M->Prop)->Prop
abbrev AA:=ASt->M->(List AV->M->Prop)->Prop
abbrev AO:=ASt->M->(Option Int->M->Prop)->Prop
abbrev AS:=(ASt->M->Prop)->(AV->M->Prop)->(ASt->M->Prop)->(ASt->M->Prop)->ASt->M->Prop
abbrev AG:=AV->ASt->M->(ASt->M->Prop)->Prop
abbrev AGs:=List AV->ASt->M->(ASt->M->Prop)->Prop
abbrev A2:=AV->AV->M->(AV->M->Prop)->Prop
abbrev AC:=List AV->M->(AV->M->Prop)->Prop
@[irreducible] def brP (b:Bool) (T F:Prop):Prop:=match b with
 | true=>T
 | false=>F
@[irreducible] def opt {α:Type} (o:Option α) (k:α->Prop):Prop:=match o with
 | some x=>k x
 | none=>False
theorem br{b:Bool}{T F:Prop}(h1:b=true->T)(h2:b=false->F):brP b T F:=by
 unfold brP;cases b with
 | true=>exact h1 rfl
 | false=>exact h2 rfl
theorem Gr{b:Bool}{T F:Prop}(hb:b=true)(h:T):brP b T F:=by subst hb;unfold brP;exact h
theorem Uf{b:Bool}{T F:Prop}(hb:b=false)(h:F):brP b T F:=by subst hb;unfold brP;exact h
theorem Ug{T F:Prop}:brP true T F=T:=by unfold brP;rfl
theorem br_e{b:Bool}{T F:Prop}(h:brP b T F):(b=true/\T)\/(b=false/\F):=by
 unfold brP at h;cases b with
 | true=>exact .inl ⟨rfl,h⟩
 | false=>exact .inr ⟨rfl,h⟩
theorem Aa{α:Type}{o:Option α}{x:α}{k:α->Prop}(h:o=some x)(q:k x):opt o k:=by subst h;unfold opt;exact q
theorem A6{α:Type}{o:Option α}{k:α->Prop}(h:opt o k):∃x,o=some x/\k x:=by
 unfold opt at h;cases o with
 | none=>exact h.elim
 | some x=>exact⟨x,rfl,h⟩
theorem dif{p:Prop} [Decidable p]{T F:Prop}(h1:p->T)(h2:¬p->F):brP (decide p) T F:=br (λh=>h1 (Yaf h)) (λh=>h2 (Ybh h))
def LV(K:PySem.W.Frag)(H:Hp)(R:AV->M->Prop)(Q:VK):Prop:=∀x μ v H',Kp H H'->Cn K μ H'->RelA K H' x v->R x μ->Q v H'
def LB(K:PySem.W.Frag)(H:Hp)(R:Bool->M->Prop)(Q:Bool->Hp->Prop):Prop:=∀b μ H',Kp H H'->Cn K μ H'->R b μ->Q b H'
def LA(K:PySem.W.Frag)(n:Nat)(H:Hp)(R:List AV->M->Prop)(Q:List V->Hp->Prop):Prop:=∀xs μ vs H',Kp H H'->Cn K μ H'->Ax K H' xs vs->xs.length=n->R xs μ->Q vs H'
def LO(K:PySem.W.Frag)(H:Hp)(R:Option Int->M->Prop)(Q:Option Int->Hp->Prop):Prop:=∀b μ H',Kp H H'->Cn K μ H'->R b μ->Q b H'
def LS(K:PySem.W.Frag)(H:Hp)(R:ASt->M->Prop)(Q:St->Hp->Prop):Prop:=∀ τ μ σ H',Kp H H'->C0 K H' τ σ->Cn K μ H'->R τ μ->Q σ H'
theorem LV.kp{K:PySem.W.Frag}{H H':Hp}{R:AV->M->Prop}{Q:VK}(h:LV K H R Q)(S:Kp H H'):LV K H' R Q:=λx μ v H2 S2=>h x μ v H2 (S.trans S2)
theorem LB.kp{K:PySem.W.Frag}{H H':Hp}{R:Bool->M->Prop}{Q:Bool->Hp->Prop}(h:LB K H R Q)(S:Kp H H'):LB K H' R Q:=λx μ H2 S2=>h x μ H2 (S.trans S2)
theorem LS.kp{K:PySem.W.Frag}{H H':Hp}{R:ASt->M->Prop}{Q:St->Hp->Prop}(h:LS K H R Q)(S:Kp H H'):LS K H' R Q:=λx μ v H2 S2=>h x μ v H2 (S.trans S2)
structure LE'(K:PySem.W.Frag)(H:Hp)(k:ASt->M->Prop)(r:AV->M->Prop)(b c:ASt->M->Prop)(D:Ends):Prop where
 nx:LS K H k D.nx
 rt:LV K H r D.rt
 bk:LS K H b D.bk
 ct:LS K H c D.ct
theorem LE'.kp{K:PySem.W.Frag}{H H':Hp}{k:ASt->M->Prop}{r:AV->M->Prop}{b c:ASt->M->Prop}{D:Ends}(h:LE' K H k r b c D)(S:Kp H H'):LE' K H' k r b c D:=⟨h.nx.kp S,h.rt.kp S,h.bk.kp S,h.ct.kp S⟩
def cE(K:PySem.W.Frag)(t:AE):TE:=fun σ H Q=>∃ τ μ R,C0 K H τ σ/\Cn K μ H/\t τ μ R/\LV K H R Q
def cT(K:PySem.W.Frag)(t:AT):TT:=fun σ H Q=>∃ τ μ R,C0 K H τ σ/\Cn K μ H/\t τ μ R/\LB K H R Q
def cA(K:PySem.W.Frag)(n:Nat)(t:AA):TA:=fun σ H Q=>∃ τ μ R,C0 K H τ σ/\Cn K μ H/\t τ μ R/\LA K n H R Q
def cO(K:PySem.W.Frag)(t:AO):TO:=fun σ H Q=>∃ τ μ R,C0 K H τ σ/\Cn K μ H/\t τ μ R/\LO K H R Q
def cS(K:PySem.W.Frag)(t:AS):TS:=λD σ H=>∃ τ μ k r b c,C0 K H τ σ/\Cn K μ H/\t k r b c τ μ/\LE' K H k r b c D
def cG(K:PySem.W.Frag)(t:AG):TG:=λv σ H Q=>∃x τ μ R,RelA K H x v/\C0 K H τ σ/\Cn K μ H/\t x τ μ R/\LS K H R Q
def cGs(K:PySem.W.Frag)(t:AGs):TGs:=λvs σ H Q=>∃xs τ μ R,Ax K H xs vs/\C0 K H τ σ/\Cn K μ H/\t xs τ μ R/\LS K H R Q
def cR(K:PySem.W.Frag)(r:A2):R2:=λx y H Q=>∃a b μ R,RelA K H a x/\RelA K H b y/\Cn K μ H/\r a b μ R/\LV K H R Q
def cC(K:PySem.W.Frag)(r:AC):List V->Hp->VK->Prop:=λxs H Q=>∃as μ R,Ax K H as xs/\Cn K μ H/\r as μ R/\LV K H R Q
def cM(K:PySem.W.Frag)(r:AV->AC):V->List V->Hp->VK->Prop:=λx xs H Q=>∃a as μ R,RelA K H a x/\Ax K H as xs/\Cn K μ H/\r a as μ R/\LV K H R Q
def VE(X:Cx)(e:Expr)(t:AE):Prop:=PE X e (cE X.K t)
def VT(X:Cx)(e:Expr)(t:AT):Prop:=PT X e (cT X.K t)
def VW(X:Cx)(e:Expr)(t:AT):Prop:=PW X e (cT X.K t)
def VA(X:Cx)(es:List Expr)(t:AA):Prop:=PA X es (cA X.K es.length t)
def VO(X:Cx)(e:Option Expr)(t:AO):Prop:=PO X e (cO X.K t)
def VS(X:Cx)(st:Stmt)(t:AS):Prop:=PS X st (cS X.K t)
def VSs(X:Cx)(st:List Stmt)(t:AS):Prop:=PSs X st (cS X.K t)
def VG(X:Cx)(e:Expr)(t:AG):Prop:=PG X e (cG X.K t)
def VGs(X:Cx)(es:List Expr)(t:AGs):Prop:=PGs X es (cGs X.K t)
def VOp(X:Cx)(f:Value->Value->Sem Value)(r:A2):Prop:=Gq X f (cR X.K r)
def VIx(X:Cx)(r:A2):Prop:=IxR X (cR X.K r)
def VCall(X:Cx)(f:Value)(r:AC):Prop:=Ec X f (cC X.K r)
def VMt(X:Cx)(id:String)(r:AV->AC):Prop:=MtR X id (cM X.K r)
section
variable {X:Cx}
theorem PE.imp{e:Expr}{t u:TE}(h:PE X e t)(i:∀ σ H Q,u σ H Q->t σ H Q):PE X e u:=λaa s σ H Q I q=>h aa s σ H Q I (i σ H Q q)
theorem PT.imp{e:Expr}{t u:TT}(h:PT X e t)(i:∀ σ H Q,u σ H Q->t σ H Q):PT X e u:=λaa s σ H Q I q=>h aa s σ H Q I (i σ H Q q)
theorem PW.imp{e:Expr}{t u:TT}(h:PW X e t)(i:∀ σ H Q,u σ H Q->t σ H Q):PW X e u:=λwh aa s σ H Q I q=>h wh aa s σ H Q I (i σ H Q q)
theorem PA.imp{e:List Expr}{t u:TA}(h:PA X e t)(i:∀ σ H Q,u σ H Q->t σ H Q):PA X e u:=λpos aa s σ H Q I q=>h pos aa s σ H Q I (i σ H Q q)
theorem PO.imp{e:Option Expr}{t u:TO}(h:PO X e t)(i:∀ σ H Q,u σ H Q->t σ H Q):PO X e u:=λaa s σ H Q I q=>h aa s σ H Q I (i σ H Q q)
theorem PS.imp{e:Stmt}{t u:TS}(h:PS X e t)(i:∀D σ H,u D σ H->t D σ H):PS X e u:=λaa s σ H D I q=>h aa s σ H D I (i D σ H q)
theorem PSs.imp{e:List Stmt}{t u:TS}(h:PSs X e t)(i:∀D σ H,u D σ H->t D σ H):PSs X e u:=λaa s σ H D I q=>h aa s σ H D I (i D σ H q)
theorem PG.imp{e:Expr}{t u:TG}(h:PG X e t)(i:∀v σ H Q,u v σ H Q->t v σ H Q):PG X e u:=λaa s σ H v w Q I r q=>h aa s σ H v w Q I r (i v σ H Q q)
theorem PGs.imp{e:List Expr}{t u:TGs}(h:PGs X e t)(i:∀v σ H Q,u v σ H Q->t v σ H Q):PGs X e u:=λaa s σ H v w Q I r q=>h aa s σ H v w Q I r (i v σ H Q q)
def Gj(i:Nat):AE:=fun τ μ R=>match τ[i]? with
 | some (some x)=>R x μ
 | _=>False
theorem Uh{K:PySem.W.Frag}{i:Nat}{σ:St}{H:Hp}{Q:VK}(h:cE K (Gj i) σ H Q):Qah i σ H Q:=by
 obtain⟨τ,μ,R,hs,hc,h,hq⟩:=h
 unfold Gj at h
 split at h
 ·rename_i x e
  obtain⟨v,ev,r⟩:=hs.get e
  exact⟨v,ev,hq _ _ _ _ Kp.refl hc r h⟩
 ·exact h.elim
theorem vv(i:Nat){x:Str}{pos:Pos}(hN:X.N[i]?=some x:=by rfl)(hv:Vis X.env.scope x:=by first | exact Or.inl rfl | exact Or.inr (Or.inl rfl) | exact Or.inr (Or.inr rfl))(hd:(x==("__debug__" : Str))=false:=by decide)
  (d9:(x==("__classdict__" : Str))=false:=by decide):VE X (.Name x pos) (Gj i):=(Sg hN hv hd d9).imp λ_ _ _ h=>Uh h
def vC(x:AV):AE:=λ_ μ R=>R x μ
theorem Fb{e:Expr}{v:V}{d:PyData}(h:PE X e (tC v))(r:∀H,Dk X.K H d v):VE X e (vC (.D d)):=h.imp fun σ H Q zz1=>B9 zz1 fun τ μ R hs hc h hq=>hq _ _ _ _ Kp.refl hc (M8 (r H)) h
theorem Ag{i j pos}:VE X (.Constant (.int i) j pos) (vC (.D (.int i))):=Fb Qai λ_=>Df
theorem Je{b j pos}:VE X (.Constant (.bool b) j pos) (vC (.D (.bool b))):=Fb Qdz λ_=>Kz
theorem L7{j pos}:VE X (.Constant .none j pos) (vC (.D .none)):=Fb Qaj λ_=>Ue
theorem Ah{x j pos}:VE X (.Constant (.str x) j pos) (vC (.D (.str x))):=Fb Si λ_=>Cs
theorem Hy{x:Str}{v:V}{u:Value}{d:PyData}{pos:Pos}(hg:Gl X x)(hm:X.mg x=some u)(r:Bh v u)(hd:∀H,Dk X.K H d v)(h1:(x==("__debug__" : Str))=false:=by decide):VE X (.Name x pos) (vC (.D d)):=Fb (Ll hg hm r h1) hd
def Sc(r:A2)(ta tb:AE):AE:=fun τ μ R=>ta τ μ λx μ1=>tb τ μ1 λy μ2=>r x y μ2 R
theorem Hz{K:PySem.W.Frag}{r:A2}{ta tb:AE}{σ:St}{H:Hp}{Q:VK}(h:cE K (Sc r ta tb) σ H Q):tOp (cR K r) (cE K ta) (cE K tb) σ H Q:=by
 obtain⟨τ,μ,R,hs,hc,h,hq⟩:=h
 exact⟨τ,μ,_,hs,hc,h,λx μ1 v H1 S1 c1 rx hx=>⟨τ,μ1,_,hs.kp S1,c1,hx,λy μ2 u H2 S2 c2 ry hy=>⟨x,y,μ2,R,rx.kp S2,ry,c2,hy,hq.kp (S1.trans S2)⟩⟩⟩
variable {a b c:Expr}{ta tb tc:AE}{pos:Pos}
theorem Ay{op:Operator}{r:A2}(ho:VOp X (binaryOp op) r)(ha:VE X a ta)(hb:VE X b tb):VE X (.BinOp a op b pos) (Sc r ta tb):=(Qd8 ho ha hb).imp λ_ _ _ h=>Hz h
theorem C4{op:CmpOp}{r:A2}(ho:VOp X (compareOp op) r)(ha:VE X a ta)(hb:VE X b tb)(hm:behindInMarks op b=false):VE X (.Compare a [op] [b] pos) (Sc r ta tb):=(W4 ho ha hb hm).imp λ_ _ _ h=>Hz h
def K1(t:AE):AT:=fun τ μ R=>t τ μ λx μ1=>match x with
 | .D (.bool k)=>R k μ1
 | _=>False
theorem Ef{K:PySem.W.Frag}{t:AE}{u:TE}(hu:∀ σ H Q,cE K t σ H Q->u σ H Q){σ:St}{H:Hp}{Q:Bool->Hp->Prop}(h:cT K (K1 t) σ H Q):Su u σ H Q:=by
 obtain⟨τ,μ,R,hs,hc,h,hq⟩:=h
 refine hu _ _ _ ⟨τ,μ,_,hs,hc,h,λx μ1 v H1 S1 c1 rx hx=>?_⟩
 split at hx
 ·cases RelA.bl rx
  exact⟨_,rfl,hq _ _ _ S1 c1 hx⟩
 ·exact hx.elim
theorem Bf{op:CmpOp}{r:A2}(ho:VOp X (compareOp op) r)(ha:VE X a ta)(hb:VE X b tb)(hm:behindInMarks op b=false):VT X (.Compare a [op] [b] pos) (K1 (Sc r ta tb)) :=
 (W5 ho ha hb hm).imp λ_ _ _ h=>Ef (λ_ _ _ q=>Hz q) h
def Oc(r r':A2)(ta tb tc:AE):AE:=fun τ μ R=>ta τ μ λx μ1=>tb τ μ1 λy μ2=>r x y μ2 λz μ3=>match z with
 | .D (.bool k)=>brP k (tc τ μ3 λw μ4=>r' y w μ4 R) (R (.D (.bool false)) μ3)
 | _=>False
theorem Jf{K:PySem.W.Frag}{r r':A2}{ta tb tc:AE}{σ:St}{H:Hp}{Q:VK}(h:cE K (Oc r r' ta tb tc) σ H Q):Nv (cR K r) (cR K r') (cE K ta) (cE K tb) (cE K tc) σ H Q:=by
 obtain⟨τ,μ,R,hs,hc,h,hq⟩:=h
 refine⟨τ,μ,_,hs,hc,h,λx μ1 v H1 S1 c1 rx hx=>⟨τ,μ1,_,hs.kp S1,c1,hx,λy μ2 u H2 S2 c2 ry hy=>⟨x,y,μ2,_,rx.kp S2,ry,c2,hy,λz μ3 q H3 S3 c3 rz hz=>?_⟩⟩⟩
 split at hz
 ·cases RelA.bl rz
  rcases br_e hz with⟨rfl,hz'⟩ | ⟨rfl,hz'⟩
  ·exact⟨true,rfl,by
    first
     | exact⟨τ,μ3,_,hs.kp (S1.trans (S2.trans S3)),c3,hz',λw μ4 p H4 S4 c4 rw hw=>⟨y,w,μ4,R,ry.kp (S3.trans S4),rw,c4,hw,hq.kp (S1.trans (S2.trans (S3.trans S4)))⟩⟩
     | (rw [Yaw rfl];exact⟨τ,μ3,_,hs.kp (S1.trans (S2.trans S3)),c3,hz',λw μ4 p H4 S4 c4 rw hw=>⟨y,w,μ4,R,ry.kp (S3.trans S4),rw,c4,hw,hq.kp (S1.trans (S2.trans (S3.trans S4)))⟩⟩)⟩
  ·exact⟨false,rfl,by
    first
     | exact hq _ _ _ _ (S1.trans (S2.trans S3)) c3 Cv hz'
     | (rw [Yar Yak];exact hq _ _ _ _ (S1.trans (S2.trans S3)) c3 Cv hz')⟩
 ·exact hz.elim
theorem M9{op fv:CmpOp}{r r':A2}(ho:VOp X (compareOp op) r)(ck:VOp X (compareOp fv) r')(ha:VE X a ta)(hb:VE X b tb)(hc:VE X c tc)(hm:lastMarks [op,fv] [b,c]=false:=by rfl):VE X (.Compare a [op,fv] [b,c] pos) (Oc r r' ta tb tc) :=
 (Sv ho ck ha hb hc hm).imp λ_ _ _ h=>Jf h
theorem Na{op fv:CmpOp}{r r':A2}(ho:VOp X (compareOp op) r)(ck:VOp X (compareOp fv) r')(ha:VE X a ta)(hb:VE X b tb)(hc:VE X c tc)(hm:lastMarks [op,fv] [b,c]=false:=by rfl):VT X (.Compare a [op,fv] [b,c] pos) (K1 (Oc r r' ta tb tc)) :=
 (Sw ho ck ha hb hc hm).imp λ_ _ _ h=>Ef (λ_ _ _ q=>Jf q) h
theorem Gk{e:Expr}{t:AE}(h:VE X e t)(he:∀df,isTrue e X.env df=(do let v <- df;standAt e.pos;holding [v] (truthy v)):=by intro _;rfl):VT X e (K1 t) :=
 (Qal h he).imp λ_ _ _ h=>by
  have h:=Ef (λ_ _ _ q=>q) h
  exact h
def Qiq(t u:AT):AT:=fun τ μ R=>t τ μ λk μ1=>brP k (u τ μ1 R) (R false μ1)
def vOr(t u:AT):AT:=fun τ μ R=>t τ μ λk μ1=>brP k (R true μ1) (u τ μ1 R)
def Qir(t:AT):AT:=fun τ μ R=>t τ μ λk μ1=>R (!k) μ1
theorem VW.pt{e:Expr}{t:AT}(h:VW X e t):VT X e t:=PW.pt h
variable {rest:List Expr}{tA jg:AT}
theorem L8(ha:VT X a tA):VW X (.BoolOp .And [a] pos) tA:=Wt ha
theorem Fc(ha:VT X a tA):VW X (.BoolOp .Or [a] pos) tA:=Qam ha
theorem Od(ha:VT X a tA)(hb:VW X (.BoolOp .And (b :: rest) pos) jg):VW X (.BoolOp .And (a :: b :: rest) pos) (Qiq tA jg) :=
 (Qan ha hb).imp fun σ H Q zz3=>B9 zz3 fun τ μ R hs hc h hq=>⟨τ,μ,_,hs,hc,h,λk μ1 H1 S1 c1 hk=>by
  rcases br_e hk with⟨rfl,hk'⟩ | ⟨rfl,hk'⟩
  ·exact⟨τ,μ1,R,hs.kp S1,c1,hk',hq.kp S1⟩
  ·exact hq _ _ _ S1 c1 hk'⟩
theorem Dx(ha:VT X a tA)(hb:VW X (.BoolOp .Or (b :: rest) pos) jg):VW X (.BoolOp .Or (a :: b :: rest) pos) (vOr tA jg) :=
 (Qd0 ha hb).imp fun σ H Q zz4=>B9 zz4 fun τ μ R hs hc h hq=>⟨τ,μ,_,hs,hc,h,λk μ1 H1 S1 c1 hk=>by
  rcases br_e hk with⟨rfl,hk'⟩ | ⟨rfl,hk'⟩
  ·exact hq _ _ _ S1 c1 hk'
  ·exact⟨τ,μ1,R,hs.kp S1,c1,hk',hq.kp S1⟩⟩
theorem Gm(ha:VT X a tA):VT X (.UnaryOp .Not a pos) (Qir tA):=(Qao ha).imp fun σ H Q zz5=>B9 zz5 fun τ μ R hs hc h hq=>⟨τ,μ,_,hs,hc,h,λk μ1 H1 S1 c1 hk=>hq _ _ _ S1 c1 hk⟩
theorem Gn{op}{t:AE}(h:VE X a t):VE X (.BoolOp op [a] pos) t:=Qap h
def Qe1(ta tb:AE):AE:=fun τ μ R=>ta τ μ λx μ1=>match x with
 | .D (.bool k)=>brP k (tb τ μ1 R) (R (.D (.bool false)) μ1)
 | _=>False
theorem Dg(ha:VE X a ta)(hb:VE X (.BoolOp .And (b :: rest) pos) tb):VE X (.BoolOp .And (a :: b :: rest) pos) (Qe1 ta tb) :=
 (Qaq ha hb).imp fun σ H Q zz6=>B9 zz6 fun τ μ R hs hc h hq=>⟨τ,μ,_,hs,hc,h,λx μ1 v H1 S1 c1 rx hk=>by
  split at hk
  ·cases RelA.bl rx
   rcases br_e hk with⟨rfl,hk'⟩ | ⟨rfl,hk'⟩
   ·exact⟨true,rfl,⟨τ,μ1,R,hs.kp S1,c1,hk',hq.kp S1⟩⟩
   ·exact⟨false,rfl,hq _ _ _ _ S1 c1 Cv hk'⟩
  ·exact hk.elim⟩
def Nb:AA:=λ_ μ R=>R [] μ
def K2(ta:AE)(tr:AA):AA:=fun τ μ R=>ta τ μ λx μ1=>tr τ μ1 λxs μ2=>R (x :: xs) μ2
theorem Ae:VA X [] Nb:=Nz.imp fun σ H Q zz10=>B9 zz10 fun τ μ R hs hc h hq=>hq [] μ [] H Kp.refl hc .nil rfl h
theorem Ab{e:Expr}{es:List Expr}{te:AE}{t:AA}(ha:VE X e te)(hr:VA X es t)(hs:starEach (e :: es) X.env=(false,eval e X.env) :: starEach es X.env:=by rfl):VA X (e :: es) (K2 te t) :=
 (Lo ha hr hs).imp fun σ H Q zz11=>B9 zz11 fun τ μ R hs hc h hq=>⟨τ,μ,_,hs,hc,h,λx μ1 v H1 S1 c1 rx hx=>⟨τ,μ1,_,hs.kp S1,c1,hx,λxs μ2 vs H2 S2 c2 rs hl gh =>
  hq (x :: xs) μ2 (v :: vs) H2 (S1.trans S2) c2 (.cons (rx.kp S2) rs) (by rw [Yba,hl];rfl) gh⟩⟩
def Qis(t:AA):AE:=fun τ μ R=>t τ μ λxs μ1=>match dats xs with
 | some ds=>R (.D (.tuple ds)) μ1
 | none=>False
def Qbp(t:AA):AE:=fun τ μ R=>t τ μ λxs μ1=>∀p,μ1 p=none->R (.R p) (Aj μ1 p (.lst xs))
variable {es:List Expr}{t:AA}
theorem Dh{k:Nat}(h:VA X es t)(hn:es.length<=sizeLine:=by decide):VE X (.Tuple es k pos) (Qis t) :=
 (N0 h).imp fun σ H Q zz12=>B9 zz12 fun τ μ R hs hc h hq=>⟨τ,μ,_,hs,hc,h,λxs μ1 vs H1 S1 c1 rs hl hx=>⟨by rw [<- rs.length,hl];exact hn,λp hp=>by
  split at hx
  ·rename_i ds e
   refine hq _ _ _ _ (S1.trans (Kp.new hp _)) (c1.over hp) ?_ hx
   exact Jb Bc (Aq.kp (Kp.new hp _) _ _ (rs.dats e))
  ·exact hx.elim⟩⟩
theorem Bq(h:VA X es t)(hn:es.length<=sizeLine:=by decide):VE X (.List es pos) (Qbp t) :=
 (Qa5 h).imp fun σ H Q zz13=>B9 zz13 fun τ μ R hs hc h hq=>⟨τ,μ,_,hs,hc,h,λxs μ1 vs H1 S1 c1 rs hl hx=>⟨by rw [<- rs.length,hl];exact hn,λp hp =>
  hq _ _ _ _ (S1.trans (Kp.new hp _)) (c1.new hp (C2 (rs))) Em (hx p (c1.none hp))⟩⟩
mutual
theorem Dk.reads{aa:List (Addr×Obj)}{σ:St}{H:Hp}{s:Shared}(I:Inv X aa σ H s):∀(d:PyData) (x:V) (u:Value),Dk X.K H d x->Bh x u->∃as,Reads s.heap u d as
 | .none,x,u,h,r=>by cases h.non;cases r;exact⟨_,.none⟩
 | .bool b,x,u,h,r=>by cases h.bl;cases r;exact⟨_,.bool b⟩
 | .int i,x,u,h,r=>by cases h.int;obtain⟨t,rfl⟩:=r;exact⟨_,.int i t⟩
 | .str z,x,u,h,r=>by cases h.str;obtain⟨t,rfl⟩:=r;exact⟨_,.str z t⟩
 | .list ds,x,u,h,r=>by
  obtain⟨a,xs,rfl,q,k⟩:=h.lst
  cases r
  obtain⟨ae,rv,⟨o,n,e,c,_,d⟩,_⟩:=I.list q.sq
  obtain⟨as,ra⟩:=Aq.reads I ds xs ae k rv
  exact⟨_,.list e c d (by simpa using ra)⟩
 | .tuple ds,x,u,h,r=>by
  obtain⟨a,xs,rfl,q,k⟩:=h.tup
  cases r
  obtain⟨ae,rv,⟨o,e,c,n,d⟩,_⟩:=I.tuple q.sq
  obtain⟨as,ra⟩:=Aq.reads I ds xs ae k rv
  exact⟨_,.tuple e c d (by simpa using ra)⟩
 | .dict _,x,u,h,_=>by simp only [Dk]at h
theorem Aq.reads{aa:List (Addr×Obj)}{σ:St}{H:Hp}{s:Shared}(I:Inv X aa σ H s):∀(ds:List PyData) (xs:List V) (us:List Value),Aq X.K H ds xs->Vals xs us->∃as,ReadsAll s.heap us ds as
 | [],xs,us,h,r=>by
  have e:=h.nil
  subst e
  cases r
  exact⟨_,.nil⟩
 | d :: ds,xs,us,h,r=>by
  obtain⟨x,xr,rfl,h1,h2⟩:=h.cons
  cases r with
  | cons r1 r2 =>
   obtain⟨as,ra⟩:=Dk.reads I d x _ h1 r1
   obtain⟨bs,rb⟩:=Aq.reads I ds xr _ h2 r2
   exact⟨_,.cons ra rb⟩
end
def see(μ:M):AV->Option PyData
 | .X _ _=>none
 | .D d=>some d
 | .C ds=>some (.tuple ds)
 | .R a=>match μ a with
  | some (.lst xs)=>match dats xs with
   | some ds=>some (.list ds)
   | none=>none
  | _=>none
@[simp] theorem see_D {μ:M} {d:PyData}:see μ (.D d)=some d:=rfl
theorem Cl{aa:List (Addr×Obj)}{σ:St}{H:Hp}{s:Shared}{μ:M}{x:AV}{v:V}{u:Value}{d:PyData}(I:Inv X aa σ H s)(hc:Cn X.K μ H)(rx:RelA X.K H x v)(r:Bh v u)(e:see μ x=some d):∃as,Reads s.heap u d as:=by
 cases x with
 | X C fs=>cases e
 | D d'=>cases e;exact Dk.reads I _ _ _ rx r
 | C ds =>
  cases e
  obtain⟨a,xs,rfl,q,k⟩:=rx
  cases r
  obtain⟨ae,rv,⟨o,e,c,n,d⟩,_⟩:=I.tuple (q H)
  obtain⟨as,ra⟩:=Aq.reads I ds xs ae k rv
  exact⟨_,.tuple e c d (by simpa using ra)⟩
 | R a =>
  dsimp only [see]at e
  split at e
  ·rename_i xs ex
   split at e
   ·rename_i ds ed
    cases e
    cases (show v=.ref a from rx)
    cases r
    obtain⟨o,ho,vs,rfl,rs⟩:=hc a _ ex
    obtain⟨ae,rv,⟨o,n,e,c,_,dd⟩,_⟩:=I.list (Ei.of ho)
    obtain⟨as,ra⟩:=Aq.reads I ds vs ae (rs.dats ed) rv
    exact⟨_,.list e c dd (by simpa using ra)⟩
   ·cases e
  ·cases e
def B7(d:PyData):Prop:=d.canLay0=true/\d.depth<=64
def aEq:A2:=λx y μ R=>match x,y with
 | .D d,.D e=>B7 d/\B7 e/\R (.D (.bool (PyData.eqv d e))) μ
 | x,y=>opt (see μ x) λd=>opt (see μ y) λe=>B7 d/\B7 e/\R (.D (.bool (PyData.eqv d e))) μ
theorem Xv{x y:AV}{μ:M}{R:AV->M->Prop}(h:aEq x y μ R):∃d e,see μ x=some d/\see μ y=some e/\B7 d/\B7 e/\R (.D (.bool (PyData.eqv d e))) μ:=by
 have g:∀(h:opt (see μ x) λd=>opt (see μ y) λe=>B7 d/\B7 e/\R (.D (.bool (PyData.eqv d e))) μ),∃d e,see μ x=some d/\see μ y=some e/\B7 d/\B7 e/\R (.D (.bool (PyData.eqv d e))) μ:=by
  intro h
  obtain⟨d,ed,h⟩:=A6 h
  obtain⟨e,ee,h⟩:=A6 h
  exact⟨d,e,ed,ee,h⟩
 cases x with
 | D d =>
  cases y with
  | D e=>exact⟨_,_,rfl,rfl,h⟩
  | _=>exact g h
 | _=>exact g h
def aNe:A2:=λx y μ R=>match x,y with
 | .D d,.D e=>B7 d/\B7 e/\R (.D (.bool (!PyData.eqv d e))) μ
 | x,y=>opt (see μ x) λd=>opt (see μ y) λe=>B7 d/\B7 e/\R (.D (.bool (!PyData.eqv d e))) μ
theorem Xw{x y:AV}{μ:M}{R:AV->M->Prop}(h:aNe x y μ R):∃d e,see μ x=some d/\see μ y=some e/\B7 d/\B7 e/\R (.D (.bool (!PyData.eqv d e))) μ:=by
 unfold aNe at h
 split at h
 ·exact⟨_,_,rfl,rfl,h⟩
 ·obtain⟨d,ed,h⟩:=A6 h
  obtain⟨e,ee,h⟩:=A6 h
  exact⟨d,e,ed,ee,h⟩
variable {k:Nat}
theorem Dv(hr:Room k X.A):VOp X (compareOp .Eq) aEq:=by
 intro aa s σ H x y v u Q I rx ry zz14
 refine Dl zz14 λa b μ R ra rb hc h hq=>?_
 obtain⟨d,e,ed,ee,h⟩:=Xv h
 ·obtain⟨as,r1⟩:=Cl I hc ra rx ed
  obtain⟨bs,r2⟩:=Cl I hc rb ry ee
  have hu:=hr.un
  have:=h.1.2
  exact SeqAt.compareEq_reads r1 r2 h.1.1 h.2.1.1 (by omega) ⟨.bl _,H,I,rfl,hq _ _ _ _ Kp.refl hc Cv h.2.2⟩
theorem Ui(hr:Room k X.A):VOp X (compareOp .NotEq) aNe:=by
 intro aa s σ H x y v u Q I rx ry zz15
 refine Dl zz15 λa b μ R ra rb hc h hq=>?_
 obtain⟨d,e,ed,ee,h⟩:=Xw h
 ·obtain⟨as,r1⟩:=Cl I hc ra rx ed
  obtain⟨bs,r2⟩:=Cl I hc rb ry ee
  have hu:=hr.un
  have:=h.1.2
  exact SeqAt.compareNe_reads r1 r2 h.1.1 h.2.1.1 (by omega) ⟨.bl _,H,I,rfl,hq _ _ _ _ Kp.refl hc Cv h.2.2⟩
def Nc:PyData->Option Key
 | .int i=>some (.inl i)
 | .str z=>some (.inr z)
 | _=>none
def items(μ:M):AV->Option (List AV)
 | .D (.tuple ds)=>some (ds.map .D)
 | .C ds=>some (ds.map .D)
 | .D (.list ds)=>some (ds.map .D)
 | .R a=>match μ a with
  | some (.lst xs)=>some xs
  | _=>none
 | _=>none
theorem He{H:Hp}{μ:M}{x:AV}{v:V}{xs:List AV}(hc:Cn X.K μ H)(rx:RelA X.K H x v)(e:items μ x=some xs):∃p vs,v=.ref p/\(Ei X.K H p vs\/Hm X.K H p vs)/\Ax X.K H xs vs:=by
 unfold items at e
 split at e
 ·cases e;obtain⟨a,vs,rfl,q,r⟩:=RelA.tup rx;exact⟨a,vs,rfl,.inr q.sq,r.rel⟩
 ·cases e;obtain⟨a,vs,rfl,q,r⟩:=rx;exact⟨a,vs,rfl,.inr (q H),r.rel⟩
 ·cases e;obtain⟨a,vs,rfl,q,r⟩:=RelA.lst rx;exact⟨a,vs,rfl,.inl q.sq,r.rel⟩
 ·split at e
  ·rename_i ys ey
   cases e
   obtain⟨o,ho,vs,rfl,rs⟩:=hc _ _ ey
   exact⟨_,vs,rx,.inl (Ei.of ho),rs⟩
  ·cases e
 ·cases e
def isT:AV->Bool
 | .D (.tuple _)=>true
 | .C _=>true
 | _=>false
theorem Ci{H:Hp}{μ:M}{x:AV}{v:V}{xs:List AV}(hc:Cn X.K μ H)(rx:RelA X.K H x v)(e:items μ x=some xs):∃p vs,v=.ref p/\((isT x=false/\Ei X.K H p vs)\/(isT x=true/\Hm X.K H p vs))/\Ax X.K H xs vs:=by
 unfold items at e
 split at e
 ·cases e;obtain⟨a,vs,rfl,q,r⟩:=RelA.tup rx;exact⟨a,vs,rfl,.inr ⟨rfl,q.sq⟩,r.rel⟩
 ·cases e;obtain⟨a,vs,rfl,q,r⟩:=rx;exact⟨a,vs,rfl,.inr ⟨rfl,q H⟩,r.rel⟩
 ·cases e;obtain⟨a,vs,rfl,q,r⟩:=RelA.lst rx;exact⟨a,vs,rfl,.inl ⟨rfl,q.sq⟩,r.rel⟩
 ·split at e
  ·rename_i ys ey
   cases e
   obtain⟨o,ho,vs,rfl,rs⟩:=hc _ _ ey
   exact⟨_,vs,rx,.inl ⟨rfl,Ei.of ho⟩,rs⟩
  ·cases e
 ·cases e
def aIn(nb:Bool->Bool):A2:=λx y μ R=>match y with
 | .D (.str j)=>match x with
  | .D (.str i)=>R (.D (.bool (nb (!(Builtin.Str.occurrences j i 0 j.length 1).isEmpty)))) μ
  | _=>False
 | .C ds=>opt (see μ x) λd=>B7 d/\B7 (.tuple ds)/\R (.D (.bool (nb (ds.any λe=>PyData.eqv e d)))) μ
 | .D (.tuple ds)=>opt (see μ x) λd=>B7 d/\B7 (.tuple ds)/\R (.D (.bool (nb (ds.any λe=>PyData.eqv e d)))) μ
 | y=>opt (see μ x) λd=>opt (items μ y) λys=>opt (dats ys) λds=>B7 d/\B7 (.tuple ds)/\R (.D (.bool (nb (ds.any λe=>PyData.eqv e d)))) μ
theorem Pi{nb:Bool->Bool}{x y:AV}{μ:M}{R:AV->M->Prop}(h:aIn nb x y μ R)(hn:∀z,y≠.D (.str z)):∃d ys ds,see μ x=some d/\items μ y=some ys/\dats ys=some ds/\B7 d/\B7 (.tuple ds)/\R (.D (.bool (nb (ds.any λe=>PyData.eqv e d)))) μ:=by
 unfold aIn at h
 split at h
 ·exact absurd rfl (hn _)
 ·obtain⟨d,ed,h⟩:=A6 h
  exact⟨d,_,_,ed,rfl,Ch _,h⟩
 ·obtain⟨d,ed,h⟩:=A6 h
  exact⟨d,_,_,ed,rfl,Ch _,h⟩
 ·obtain⟨d,ed,h⟩:=A6 h
  obtain⟨ys,ey,h⟩:=A6 h
  obtain⟨ds,eds,h⟩:=A6 h
  exact⟨d,ys,ds,ed,ey,eds,h⟩
theorem Gy{ds:List PyData}(h:B7 (.tuple ds)):PyData.canLayAll0 ds=true/\PyData.depthAll ds<=64:=by
 obtain⟨h1,h2⟩:=h
 simp only [PyData.canLay0]at h1
 simp only [PyData.depth]at h2
 exact⟨h1,by omega⟩
theorem Nd(hr:Room k X.A):VOp X (compareOp .In) (aIn λb=>b):=by
 intro aa s σ H x y v u Q I rx ry zz16
 refine Dl zz16 λa b μ R ra rb hc h hq=>?_
 by_cases hb:∃z,b=.D (.str z)
 ·obtain⟨z,rfl⟩:=hb
  unfold aIn at h
  dsimp only at h
  split at h
  ·cases RelA.str ra;cases RelA.str rb
   exact Qs aa s σ H _ _ v u Q I rx ry ⟨_,_,rfl,rfl,hq _ _ _ _ Kp.refl hc Cv h⟩
  ·exact h.elim
 ·obtain⟨d,ys,ds,ed,ey,eds,h⟩:=Pi h λz e=>hb ⟨z,e⟩
  ·skip
   obtain⟨ok1,ok2,h⟩:=h
   obtain⟨as,r1⟩:=Cl I hc ra rx ed
   obtain⟨p,vs,rfl,hp,rs⟩:=He hc rb ey
   cases ry
   obtain⟨c1,c2⟩:=Gy ok2
   have hs:=rs.dats eds
   have hu:=hr.un
   have q:=hq _ _ _ _ Kp.refl hc Cv h
   rcases hp with hp | hp
   ·obtain⟨ae,r,pl,hz⟩:=I.list hp
    obtain⟨bs,rb⟩:=Aq.reads I ds vs ae hs r
    have e:=λA=>C1 (A:=A) r1 ok1.1
    refine SeqAt.in_listAt (Iw s.heap d) pl.isList (λw hw=>(e _ (by first | (show X.A.units+64 < _;omega) | (show X.A.units+1+64 < _;omega) | (show X.A.units+1+1+64 < _;omega)) rb c1 c2).1 w (by simpa using hw)) ⟨.bl _,H,I,rfl,?_⟩
    rw [show ae.toArray.any (Iw s.heap d)=ae.any (Iw s.heap d) by simp,(e X.A (by omega) rb c1 c2).2]
    exact q
   ·obtain⟨ae,r,pl,hz⟩:=I.tuple hp
    obtain⟨bs,rb⟩:=Aq.reads I ds vs ae hs r
    have e:=λA=>C1 (A:=A) r1 ok1.1
    refine SeqAt.in_tupleAt (Iw s.heap d) pl (λw hw=>(e _ (by first | (show X.A.units+64 < _;omega) | (show X.A.units+1+64 < _;omega) | (show X.A.units+1+1+64 < _;omega)) rb c1 c2).1 w (by simpa using hw)) ⟨.bl _,H,I,rfl,?_⟩
    rw [show ae.toArray.any (Iw s.heap d)=ae.any (Iw s.heap d) by simp,(e X.A (by omega) rb c1 c2).2]
    exact q
theorem Ia(hr:Room k X.A):VOp X (compareOp .NotIn) (aIn λb=>!b):=by
 intro aa s σ H x y v u Q I rx ry zz17
 refine Dl zz17 λa b μ R ra rb hc h hq=>?_
 by_cases hb:∃z,b=.D (.str z)
 ·obtain⟨z,rfl⟩:=hb
  unfold aIn at h
  dsimp only at h
  split at h
  ·cases RelA.str ra;cases RelA.str rb
   exact Lr aa s σ H _ _ v u Q I rx ry ⟨_,_,rfl,rfl,hq _ _ _ _ Kp.refl hc Cv h⟩
  ·exact h.elim
 ·obtain⟨d,ys,ds,ed,ey,eds,h⟩:=Pi h λz e=>hb ⟨z,e⟩
  ·skip
   obtain⟨ok1,ok2,h⟩:=h
   obtain⟨as,r1⟩:=Cl I hc ra rx ed
   obtain⟨p,vs,rfl,hp,rs⟩:=He hc rb ey
   cases ry
   obtain⟨c1,c2⟩:=Gy ok2
   have hs:=rs.dats eds
   have hu:=hr.un
   have q:=hq _ _ _ _ Kp.refl hc Cv h
   rcases hp with hp | hp
   ·obtain⟨ae,r,pl,hz⟩:=I.list hp
    obtain⟨bs,rb⟩:=Aq.reads I ds vs ae hs r
    have e:=λA=>C1 (A:=A) r1 ok1.1
    refine SeqAt.notIn_listAt (Iw s.heap d) pl.isList (λw hw=>(e _ (by first | (show X.A.units+64 < _;omega) | (show X.A.units+1+64 < _;omega) | (show X.A.units+1+1+64 < _;omega)) rb c1 c2).1 w (by simpa using hw)) ⟨.bl _,H,I,rfl,?_⟩
    rw [show ae.toArray.any (Iw s.heap d)=ae.any (Iw s.heap d) by simp,(e X.A (by omega) rb c1 c2).2]
    exact q
   ·obtain⟨ae,r,pl,hz⟩:=I.tuple hp
    obtain⟨bs,rb⟩:=Aq.reads I ds vs ae hs r
    have e:=λA=>C1 (A:=A) r1 ok1.1
    refine SeqAt.notIn_tupleAt (Iw s.heap d) pl (λw hw=>(e _ (by first | (show X.A.units+64 < _;omega) | (show X.A.units+1+64 < _;omega) | (show X.A.units+1+1+64 < _;omega)) rb c1 c2).1 w (by simpa using hw)) ⟨.bl _,H,I,rfl,?_⟩
    rw [show ae.toArray.any (Iw s.heap d)=ae.any (Iw s.heap d) by simp,(e X.A (by omega) rb c1 c2).2]
    exact q
def Qe2:A2:=λx y μ R=>match x,y with
 | .D .none,.D .none=>R (.D (.bool true)) μ
 | _,.D .none=>R (.D (.bool false)) μ
 | _,_=>False
theorem Uj{K:PySem.W.Frag}{H:Hp}{x:AV}(h:RelA K H x .non):x=.D .none:=by
 cases x with
 | R a=>cases (show V.non=.ref a from h)
 | C ds=>obtain⟨_,_,e,_⟩:=h;cases e
 | X C fs=>obtain⟨_,_,_,e,_⟩:=h;cases e
 | D d =>
  cases d with
  | none=>rfl
  | bool b=>cases RelA.bl h
  | int b=>cases RelA.int h
  | str b=>cases RelA.str h
  | list b=>obtain⟨_,_,e,_⟩:=RelA.lst h;cases e
  | tuple b=>obtain⟨_,_,e,_⟩:=RelA.tup h;cases e
  | dict b=>exact absurd h (by simp only [RelA,Dk];exact id)
theorem Qe3:VOp X (compareOp .Is) Qe2:=by
 intro aa s σ H x y v u Q I rx ry zz18
 refine Dl zz18 λa b μ R ra rb hc h hq=>?_
 unfold Qe2 at h
 split at h
 ·cases RelA.non ra;cases RelA.non rb
  exact Ss aa s σ H _ _ v u Q I rx ry ⟨rfl,hq _ _ _ _ Kp.refl hc Cv h⟩
 ·rename_i ne
  cases RelA.non rb
  refine Ss aa s σ H _ _ v u Q I rx ry ⟨rfl,hq _ _ _ _ Kp.refl hc ?_ h⟩
  have:x≠.non:=by intro e;subst e;exact ne (Uj ra)
  rw [Yah this];exact Cv
 ·exact h.elim
def aI(C:Int->Int->Prop)(g:Int->Int->PyData):A2:=λx y μ R=>match x,y with
 | .D (.int i),.D (.int j)=>C i j/\R (.D (g i j)) μ
 | _,_=>False
def aI0(g:Int->Int->PyData):A2:=λx y μ R=>match x,y with
 | .D (.int i),.D (.int j)=>R (.D (g i j)) μ
 | _,_=>False
theorem o_I{f:Value->Value->Sem Value}{C:Int->Int->Prop}{g:Int->Int->V}{g':Int->Int->PyData}(h:Gq X f (rI C g))(hg:∀i j H,Dk X.K H (g' i j) (g i j)):VOp X f (aI C g'):=by
 intro aa s σ H x y v u Q I rx ry zz20
 refine Dl zz20 λa b μ R ra rb hc h' hq=>?_
 cases a with
 | D d =>
  cases d with
  | int i =>
   cases b with
   | D e =>
    cases e with
    | int j =>
     cases RelA.int ra;cases RelA.int rb
     exact h aa s σ H _ _ v u Q I rx ry ⟨_,_,rfl,rfl,h'.1,hq _ _ _ _ Kp.refl hc (M8 (hg _ _ _)) h'.2⟩
    | _=>exact False.elim h'
   | _=>exact False.elim h'
  | _=>exact False.elim h'
 | _=>exact False.elim h'
theorem Uk{f:Value->Value->Sem Value}{g:Int->Int->V}{g':Int->Int->PyData}(h:Gq X f (Wz g))(hg:∀i j H,Dk X.K H (g' i j) (g i j)):VOp X f (aI0 g'):=by
 intro aa s σ H x y v u Q I rx ry zz21
 refine Dl zz21 λa b μ R ra rb hc h' hq=>?_
 cases a with
 | D d =>
  cases d with
  | int i =>
   cases b with
   | D e =>
    cases e with
    | int j =>
     cases RelA.int ra;cases RelA.int rb
     exact h aa s σ H _ _ v u Q I rx ry ⟨_,_,rfl,rfl,hq _ _ _ _ Kp.refl hc (M8 (hg _ _ _)) h'⟩
    | _=>exact False.elim h'
   | _=>exact False.elim h'
  | _=>exact False.elim h'
 | _=>exact False.elim h'
abbrev Qiv:A2:=aI0 λi j=>.int (i - j)
abbrev Qe4:A2:=aI CDiv λi j=>.int (i / j)
abbrev Qiw:A2:=aI (λ_ j=>0 < j) λi j=>.int (i % j)
abbrev Qix:A2:=aI CPow λi j=>.int (i ^ j.toNat)
abbrev aLt:A2:=aI0 λi j=>.bool (decide (i < j))
abbrev aLe:A2:=aI0 λi j=>.bool (decide (i<=j))
abbrev aGt:A2:=aI0 λi j=>.bool (decide (j < i))
abbrev aGe:A2:=aI0 λi j=>.bool (decide (j<=i))
theorem Y3:VOp X (binaryOp .Sub) Qiv:=Uk Qa0 λ_ _ _=>Df
theorem Qbq:VOp X (binaryOp .FloorDiv) Qe4:=o_I W1 λ_ _ _=>Df
theorem Gz:VOp X (binaryOp .Mod) Qiw:=o_I Qa2 λ_ _ _=>Df
theorem Qe5:VOp X (binaryOp .Pow) Qix:=o_I Qa3 λ_ _ _=>Df
theorem Qbr:VOp X (compareOp .Lt) aLt:=Uk Qeb λ_ _ _=>Kz
theorem Oe:VOp X (compareOp .LtE) aLe:=Uk Qec λ_ _ _=>Kz
theorem Qbs:VOp X (compareOp .Gt) aGt:=Uk Qed λ_ _ _=>Kz
theorem Qiy:VOp X (compareOp .GtE) aGe:=Uk Qee λ_ _ _=>Kz
def Qiz:A2:=λx y μ R=>match x,y with
 | .D (.int i),.D (.int j)=>CMul i j/\R (.D (.int (i * j))) μ
 | .D (.str z),.D (.int n)=>(n=0\/n=1)/\R (.D (.str (if n=0 then Str.empty else z))) μ
 | _,_=>False
theorem Hr:VOp X (binaryOp .Mult) Qiz:=by
 intro aa s σ H x y v u Q I rx ry zz22
 refine Dl zz22 λa b μ R ra rb hc h hq=>?_
 cases a with
 | D d =>
  cases d with
  | int i =>
   cases b with
   | D e =>
    cases e with
    | int j =>
     cases RelA.int ra;cases RelA.int rb
     exact Qa1 aa s σ H _ _ v u Q I rx ry ⟨_,_,rfl,rfl,h.1,hq _ _ _ _ Kp.refl hc Cu h.2⟩
    | _=>exact False.elim h
   | _=>exact False.elim h
  | str z =>
   cases b with
   | D e =>
    cases e with
    | int j =>
     cases RelA.str ra;cases RelA.int rb
     exact L4 aa s σ H _ _ v u Q I rx ry ⟨_,_,rfl,rfl,h.1,hq _ _ _ _ Kp.refl hc Gi h.2⟩
    | _=>exact False.elim h
   | _=>exact False.elim h
  | _=>exact False.elim h
 | _=>exact False.elim h
def L9:A2:=λx y μ R=>match x,y with
 | .D (.int i),.D (.int j)=>R (.D (.int (i+j))) μ
 | .D (.str i),.D (.str j)=>i.length+j.length<=sizeLine/\R (.D (.str (i++j))) μ
 | .D (.tuple i),.D (.tuple j)=>i.length+j.length<=sizeLine/\R (.D (.tuple (i++j))) μ
 | .R i,.R j=>opt (μ i) λm=>opt (μ j) λn=>match m,n with
  | .lst xs,.lst ys=>xs.length+ys.length<=sizeLine/\∀p,μ p=none->R (.R p) (Aj μ p (.lst (xs++ys)))
  | _,_=>False
 | _,_=>False
theorem Qi0{K:PySem.W.Frag}{aa:List (Addr×Obj)}{σ:St}{H:Hp}{s:Shared}{v u:Value}{x y:V}{ds es:List PyData}{Q:VK}(hK:X.K=K)(I:Inv X aa σ H s)(rx:Bh x v)(ry:Bh y u)(hx:Dk K H (.tuple ds) x)(hy:Dk K H (.tuple es) y)
  (hz:ds.length+es.length<=sizeLine) (q:∀z H',Kp H H'->(∀ μ,Cn K μ H->Cn K μ H')->Dk K H' (.tuple (ds++es)) z->Q z H'):wpAny (model X.prog X.w) X.A (binaryOp .Add v u) (EP X aa σ Q) X.xe s:=by
 subst hK
 obtain⟨a,xs,rfl,ha,gh⟩:=hx.tup
 obtain⟨b,ys,rfl,hb,pp⟩:=hy.tup
 cases rx
 cases ry
 obtain⟨ae,r1,p1,_⟩:=I.tuple ha.sq
 obtain⟨its2,r2,p2,_⟩:=I.tuple hb.sq
 have l1:=gh.length
 have l2:=pp.length
 by_cases hv:xs=[]
 ·subst hv
  have e:ae=[]:=r1.nil_iff.mpr rfl
  subst e
  have ed:ds=[]:=Ycq.mp l1.symm
  subst ed
  obtain⟨⟨cls,dd,data,sl⟩,ho,hc,n,hd⟩:=id p1
  obtain⟨⟨cls2,dd2,data2,li⟩,ho2,hc2,n2,dj⟩:=id p2
  simp only at hc hd hc2 dj
  subst hc hd hc2 dj
  exact concat_meets ⟨_,ho,rfl⟩ ⟨_,ho2,rfl⟩ noFill_tuple_add seq_tuple_add Ydq Ydi (Yde _ _)
   (tuple_addW0 a b [].toArray its2.toArray n n2 dd dd2 sl li rfl) ⟨ho,ho2,.ref b,H,I,rfl,q _ _ Kp.refl (λ_ c=>c) (by simpa using hy)⟩
 ·refine HT.cat_tup p1 p2 (λz=>hv (r1.nil_iff.mp z)) (λz=>⟨.ref a,H,I,rfl,q _ _ Kp.refl (λ_ c=>c) ?_⟩) (λz=>?_) (by rw [<- r1.length,<- r2.length,l1,l2];exact hz)
  ·have e:ys=[]:=r2.nil_iff.mp z
   subst e
   have ed:es=[]:=Ycq.mp l2.symm
   subst ed
   simpa using hx
  ·have hf:=I.hok.fresh (Yag s.heap.objs.size)
   refine⟨.ref s.heap.objs.size,_,I.laid (t':=s.toks) (o:=.tup (xs++ys)) (λb ob q=>Heap.get?_push_of_some _ q) (Yag _) ?_,rfl,q _ _ (Kp.new hf _) (λ_ c=>c.over hf) ?_⟩
   ·exact⟨by rw [Yai,l1,l2];exact hz,_,r1.append r2,IsTup.new _ _⟩
   ·exact Jb Bc (Aq.kp (Kp.new hf _) _ _ (gh.append pp))
theorem Al:VOp X (binaryOp .Add) L9:=by
 intro aa s σ H x y v u Q I rx ry zz23
 refine Dl zz23 λa b μ R ra rb hc h hq=>?_
 cases a with
 | D d =>
  cases d with
  | int i =>
   cases b with
   | D e =>
    cases e with
    | int j =>
     cases RelA.int ra;cases RelA.int rb
     exact Qaz aa s σ H _ _ v u Q I rx ry ⟨_,_,rfl,rfl,hq _ _ _ _ Kp.refl hc Cu h⟩
    | _=>exact False.elim h
   | _=>exact False.elim h
  | str z =>
   cases b with
   | D e =>
    cases e with
    | str j =>
     cases RelA.str ra;cases RelA.str rb
     exact Nw aa s σ H _ _ v u Q I rx ry ⟨_,_,rfl,rfl,h.1,hq _ _ _ _ Kp.refl hc Gi h.2⟩
    | _=>exact False.elim h
   | _=>exact False.elim h
  | tuple ds =>
   cases b with
   | D e =>
    cases e with
    | tuple es=>exact Qi0 rfl I rx ry ra rb h.1 λz H' S c hd=>hq _ _ _ _ S (c _ hc) (M8 hd) h.2
    | _=>exact False.elim h
   | _=>exact False.elim h
  | _=>exact False.elim h
 | R i =>
  cases b with
  | R j =>
   obtain⟨m,ei,h⟩:=A6 h
   obtain⟨n,ej,h⟩:=A6 h
   cases m with
   | lst xs =>
    cases n with
    | lst ys =>
     cases (show x=.ref i from ra);cases (show y=.ref j from rb)
     obtain⟨o,ho,vs,rfl,rs⟩:=hc i _ ei
     obtain⟨o',ck,ws,rfl,rs'⟩:=hc j _ ej
     exact Qbd aa s σ H _ _ v u Q I rx ry ⟨i,j,vs,ws,rfl,rfl,ho,ck,by rw [<- rs.length,<- rs'.length];exact h.1,λp hp=>hq _ _ _ _ (Kp.new hp _) (hc.new hp (C2 (rs.append rs'))) Em (h.2 p (hc.none hp))⟩
    | _=>exact False.elim h
   | _=>exact False.elim h
  | _=>exact False.elim h
 | _=>exact False.elim h
end
section
variable {X:Cx}{a b c:Expr}{ta tb tc:AE}{pos:Pos}
def aIx:A2:=λx y μ R=>match x,y with
 | .D (.str z),.D (.int i)=>z.length<=sizeLine/\opt (atI z.cps.toList i) λc=>R (.D (.str ⟨#[c]⟩)) μ
 | .D (.tuple ds),.D (.int i)=>opt (atI ds i) λd=>R (.D d) μ
 | .D (.list ds),.D (.int i)=>opt (atI ds i) λd=>R (.D d) μ
 | .R a,.D (.int i)=>opt (μ a) λm=>match m with
  | .lst xs=>opt (atI xs i) λw=>R w μ
  | _=>False
 | _,_=>False
theorem Xx{x y:AV}{μ:M}{R:AV->M->Prop}(h:aIx x y μ R):∃i,y=.D (.int i):=by
 have no:(∀d,aIx (.D d) y μ R->False)->(∀a,aIx (.R a) y μ R->False)->False:=λh1 h2=>by
  cases x with
  | D d=>exact h1 d h
  | R a=>exact h2 a h
  | _=>exact h
 cases y with
 | D e =>
  cases e with
  | int i=>exact⟨i,rfl⟩
  | _=>exact(no (λd q=>by cases d <;> exact q) λa q=>q).elim
 | _=>exact(no (λd q=>by cases d <;> exact q) λa q=>q).elim
theorem Bm:VIx X aIx:=by
 intro value slice aa s σ H x y v u Q I rx ry zq hs
 refine Dl zq λa b μ R ra rb hc h hq=>?_
 obtain⟨i,rfl⟩:=Xx h
 cases RelA.int rb
 cases a with
 | D d =>
  cases d with
  | str z =>
   cases RelA.str ra
   obtain⟨h1,h⟩:=h
   obtain⟨c,e,h⟩:=A6 h
   exact Qbb value slice aa s σ H _ _ v u Q I rx ry ⟨_,_,_,rfl,rfl,h1,e,hq _ _ _ _ Kp.refl hc Gi h⟩ hs
  | tuple ds =>
   obtain⟨d,ed,h⟩:=A6 h
   obtain⟨p,vs,rfl,hp,rs⟩:=RelA.tup ra
   obtain⟨z,ez,rz⟩:=rs.atI ed
   exact Qba value slice aa s σ H _ _ v u Q I rx ry ⟨_,_,_,_,rfl,rfl,hp.sq,ez,hq _ _ _ _ Kp.refl hc (M8 rz) h⟩ hs
  | list ds =>
   obtain⟨d,ed,h⟩:=A6 h
   obtain⟨p,vs,rfl,hp,rs⟩:=RelA.lst ra
   obtain⟨z,ez,rz⟩:=rs.atI ed
   exact Pa value slice aa s σ H _ _ v u Q I rx ry ⟨_,_,_,_,rfl,rfl,hp.sq,ez,hq _ _ _ _ Kp.refl hc (M8 rz) h⟩ hs
  | _=>exact False.elim h
 | R a =>
  obtain⟨m,em,h⟩:=A6 h
  cases m with
  | lst xs =>
   obtain⟨w,ew,h⟩:=A6 h
   obtain⟨o,ho,vs,rfl,rs⟩:=hc _ _ em
   cases (show x=.ref _ from ra)
   obtain⟨z,ez,rz⟩:=rs.atI ew
   exact Pa value slice aa s σ H _ _ v u Q I rx ry ⟨_,_,_,_,rfl,rfl,Ei.of ho,ez,hq _ _ _ _ Kp.refl hc rz h⟩ hs
  | _=>exact False.elim h
 | _=>exact False.elim h
theorem Ba{r:A2}(hr:VIx X r)(ha:VE X a ta)(hb:VE X b tb)(hs:O9 b:=by intro _ _;rfl):VE X (.Subscript a b pos) (Sc r ta tb):=(Qel hr ha hb hs).imp λ_ _ _ h=>Hz h
def G0:AO:=λ_ μ R=>R none μ
def Nf(t:AE):AO:=fun τ μ R=>t τ μ λx μ1=>match x with
 | .D (.int i)=>R (some i) μ1
 | _=>False
theorem A7:VO X none G0:=W8.imp fun σ H Q zz24=>B9 zz24 fun τ μ R hs hc h hq=>hq _ _ _ Kp.refl hc h
theorem Be(h:VE X a ta):VO X (some a) (Nf ta):=(W9 h).imp fun σ H Q zz25=>B9 zz25 fun τ μ R hs hc h hq=>⟨τ,μ,_,hs,hc,h,λx μ1 v H1 S1 c1 rx hx=>by
 split at hx
 ·cases RelA.int rx
  exact⟨_,rfl,hq _ _ _ S1 c1 hx⟩
 ·exact hx.elim⟩
def aSl(x:AV)(lo hi:Option Int):M->(AV->M->Prop)->Prop:=fun μ R=>match x with
 | .D (.str z)=>z.length<=sizeLine/\R (.D (.str (Txt.slice z lo hi))) μ
 | .D (.tuple ds)=>R (.D (.tuple (Tr ds lo hi))) μ
 | .C _=>False
 | x=>opt (items μ x) λxs=>∀p,μ p=none->R (.R p) (Aj μ p (.lst (En xs lo hi)))
def cSl(K:PySem.W.Frag):V->Option Int->Option Int->Hp->VK->Prop:=λx lo hi H Q=>∃a μ R,RelA K H a x/\Cn K μ H/\aSl a lo hi μ R/\LV K H R Q
theorem Qi2:SlR X (cSl X.K):=by
 intro aa s σ H x v vl vu lo hi sl Q I rx hs pl pu ⟨a,μ,R,ra,hc,h,hq⟩
 unfold aSl at h
 split at h
 ·cases RelA.str ra
  exact Qbg aa s σ H _ v vl vu lo hi sl Q I rx hs pl pu ⟨_,rfl,h.1,hq _ _ _ _ Kp.refl hc Gi h.2⟩
 ·rename_i ds
  by_cases hw:HT.sIx ds.length 0 lo=0/\HT.sIx ds.length ds.length hi=ds.length
  ·obtain⟨a,xs,rfl,ha,hx⟩:=RelA.tup ra
   cases rx
   obtain⟨ae,r,ht,hz⟩:=I.tuple ha.sq
   have am:ae.toArray.size=ds.length:=by rw [Yal,<- r.length,hx.length]
   refine⟨"tuple",_,Ybp.lookup,ht.typeIs,?_⟩
   refine HT.getItem_tuple_all ht hs pl pu (by rw [am];exact hw) ⟨.ref a,H,I,rfl,hq _ _ _ _ Kp.refl hc ?_ h⟩
   rw [Tt hw]
   exact ra
  ·obtain⟨a,xs,rfl,ha,hx⟩:=RelA.tup ra
   refine Qa8 aa s σ H (.ref a) v vl vu lo hi sl Q I rx hs pl pu ⟨a,xs,rfl,ha.sq,by rw [hx.length];exact hw,λp hp=>?_⟩
   exact hq _ _ _ _ (Kp.new hp _) (hc.over hp) (L6 Bc (Aq.kp (Kp.new hp _) _ _ (hx.cut lo hi))) h
 ·exact h.elim
 ·rename_i n1 n2 n3
  obtain⟨xs,ex,h⟩:=A6 h
  ·obtain⟨p,vs,rfl,hp,rs⟩:=Ci hc ra ex
   rcases hp with⟨_,hp⟩ | ⟨ht,hp⟩
   ·exact Xa aa s σ H _ v vl vu lo hi sl Q I rx hs pl pu ⟨_,_,rfl,hp,λp hp=>hq _ _ _ _ (Kp.new hp _) (hc.new hp (C2 (rs.cut lo hi))) Em (h p (hc.none hp))⟩
   ·exfalso
    unfold isT at ht
    split at ht
    ·exact n2 _ rfl
    ·exact n3 _ rfl
    ·cases ht
def vSl(te:AE)(tl th:AO):AE:=fun τ μ R=>te τ μ λx μ1=>tl τ μ1 λl μ2=>th τ μ2 λu μ3=>aSl x l u μ3 R
theorem A8{lo hi:Option Expr}{tl th:AO}{p2:Pos}(he:VE X a ta)(hl:VO X lo tl)(hu:VO X hi th):VE X (.Subscript a (.Slice lo hi none p2) pos) (vSl ta tl th) :=
 (Sz Qi2 he hl hu).imp fun σ H Q zz26=>B9 zz26 fun τ μ R hs hc h hq=>⟨τ,μ,_,hs,hc,h,λx μ1 v H1 S1 c1 rx hx=>⟨τ,μ1,_,hs.kp S1,c1,hx,λl μ2 H2 S2 c2 hl=>⟨τ,μ2,_,hs.kp (S1.trans S2),c2,hl,λu μ3 H3 S3 c3 hu =>
  ⟨x,μ3,R,rx.kp (S2.trans S3),c3,hu,hq.kp (S1.trans (S2.trans S3))⟩⟩⟩⟩
variable {x:Str}{p:Pos}{e:Expr}{es:List Expr}{t:AA}{ii T:String}{r:AC}
def vCB(r:AC)(t:AA):AE:=fun τ μ R=>t τ μ λxs μ1=>r xs μ1 R
theorem Pj{K:PySem.W.Frag}{n:Nat}{r:AC}{t:AA}{σ:St}{H:Hp}{Q:VK}(h:cE K (vCB r t) σ H Q):tCB (cC K r) (cA K n t) σ H Q:=by
 obtain⟨τ,μ,R,hs,hc,h,hq⟩:=h
 exact⟨τ,μ,_,hs,hc,h,λxs μ1 vs H1 S1 c1 rs hl hx=>⟨xs,μ1,R,rs,c1,hx,hq.kp S1⟩⟩
theorem Ar(hc:VCall X (.builtin ii) r)(hg:Gl X x)(hm:X.mg x=none)(hv:bootBuiltins x=some (.builtin ii))(ha:VA X (e :: es) t)(hn:x ≠ "__name__" := by decide) (hd:(x==("__debug__" : Str))=false:=by decide)
  (bg:starEach (e :: es) X.env=(false,eval e X.env) :: starEach es X.env:=by rfl) (hpl:(backTo pos (starEach es X.env)).any (·.1)=false:=by rfl):VE X (.Call (.Name x p) (e :: es) [] pos) (vCB r t) :=
 (Sx hc hg hm hv ha hn hd bg hpl).imp λ_ _ _ h=>Pj h
theorem Bp(hc:VCall X (.type T) r)(hg:Gl X x)(hm:X.mg x=none)(hv:bootBuiltins x=some (.type T))(ha:VA X (e :: es) t)(hn:x ≠ "__name__" := by decide) (hd:(x==("__debug__" : Str))=false:=by decide)
  (bg:starEach (e :: es) X.env=(false,eval e X.env) :: starEach es X.env:=by rfl) (hpl:(backTo pos (starEach es X.env)).any (·.1)=false:=by rfl):VE X (.Call (.Name x p) (e :: es) [] pos) (vCB r t) :=
 (Ko hc hg hm hv ha hn hd bg hpl).imp λ_ _ _ h=>Pj h
def Qe7:AC:=λxs μ R=>match xs with
 | [.D (.str z)]=>z.length<=sizeLine/\R (.D (.int z.length)) μ
 | [.D (.tuple ds)]=>R (.D (.int ds.length)) μ
 | [.D (.list ds)]=>R (.D (.int ds.length)) μ
 | [.R a]=>opt (μ a) λm=>match m with
  | .lst ys=>R (.D (.int ys.length)) μ
  | .dk kvs=>R (.D (.int kvs.length)) μ
  | _=>False
 | _=>False
theorem Bo:VCall X (.builtin "len") Qe7:=by
 intro aa s σ H xs us Q I r zz27
 refine B9 zz27 λas μ R ra hc h hq=>?_
 have no:∀{y:AV} {t:List AV} {x:AV},Qe7 (x :: y :: t) μ R->False:=λ{y t x} q=>by
  cases x with
  | D d=>cases d <;> exact q
  | _=>exact q
 cases ra with
 | nil=>exact False.elim h
 | @cons x v xs' fq r1 r2 =>
  cases r2 with
  | cons _ _=>exact(no h).elim
  | nil =>
   cases x with
   | D d =>
    cases d with
    | str z =>
     cases RelA.str r1
     exact Lu aa s σ H _ us Q I r ⟨_,rfl,h.1,hq _ _ _ _ Kp.refl hc Cu h.2⟩
    | tuple ds =>
     obtain⟨p,vs,rfl,hp,rs⟩:=RelA.tup r1
     refine Ek aa s σ H _ us Q I r ⟨p,vs,rfl,.inr hp.sq,hq _ _ _ _ Kp.refl hc ?_ h⟩
     rw [rs.length];exact Cu
    | list ds =>
     obtain⟨p,vs,rfl,hp,rs⟩:=RelA.lst r1
     refine Ek aa s σ H _ us Q I r ⟨p,vs,rfl,.inl hp.sq,hq _ _ _ _ Kp.refl hc ?_ h⟩
     rw [rs.length];exact Cu
    | _=>exact False.elim h
   | R a =>
    obtain⟨m,em,h⟩:=A6 h
    cases (show _=V.ref _ from r1)
    obtain⟨o,ho,rm⟩:=hc _ _ em
    cases m with
    | lst ys =>
     obtain⟨vs,rfl,rs⟩:=rm
     refine Ek aa s σ H _ us Q I r ⟨_,vs,rfl,.inl (Ei.of ho),hq _ _ _ _ Kp.refl hc ?_ h⟩
     rw [rs.length];exact Cu
    | dk kvs =>
     obtain⟨vs,rfl,rs⟩:=rm
     refine Rb aa s σ H _ us Q I r ⟨_,vs,rfl,ho,hq _ _ _ _ Kp.refl hc ?_ h⟩
     rw [Yc5 rs];exact Cu
    | _=>exact False.elim h
   | _=>exact False.elim h
def Jg:AC:=λxs μ R=>match xs with
 | [.D (.tuple ds)]=>R (.D (.tuple ds)) μ
 | [.C _]=>False
 | [y]=>opt (items μ y) λys=>opt (dats ys) λds=>R (.D (.tuple ds)) μ
 | _=>False
theorem Of{x:AV}{t:List AV}{μ:M}{R:AV->M->Prop}(h:Jg (x :: t) μ R):t=[]:=by
 cases t with
 | nil=>rfl
 | cons y t =>
  refine False.elim ?_
  cases x with
  | D d=>cases d <;> exact h
  | _=>exact h
theorem Rn{x:AV}{μ:M}{R:AV->M->Prop}(ht:isT x=false)(h:Jg [x] μ R):opt (items μ x) λys=>opt (dats ys) λds=>R (.D (.tuple ds)) μ:=by
 cases x with
 | D d=>cases d <;> first | exact h | cases ht
 | C ds=>cases ht
 | _=>exact h
theorem Ul{x:AV}{μ:M}{R:AV->M->Prop}(ht:isT x=true)(h:Jg [x] μ R):∃ds,x=.D (.tuple ds)/\R (.D (.tuple ds)) μ:=by
 cases x with
 | D d =>
  cases d with
  | tuple ds=>exact⟨ds,rfl,h⟩
  | _=>cases ht
 | C ds=>exact False.elim h
 | _=>cases ht
theorem Cw:VCall X (.type "tuple") Jg:=by
 intro aa s σ H xs us Q I r zz28
 refine B9 zz28 λas μ R ra hc h hq=>?_
 cases ra with
 | nil=>exact False.elim h
 | @cons y v ys' fq r1 r2 =>
  have hn:=Of h
  subst hn
  cases r2
  cases ht:isT y with
  | true =>
   obtain⟨ds,rfl,h⟩:=Ul ht h
   obtain⟨p,vs,rfl,hp,rs⟩:=RelA.tup r1
   exact Fy aa s σ H _ us Q I r ⟨p,vs,rfl,.inr ⟨hp.sq,hq _ _ _ _ Kp.refl hc r1 h⟩⟩
  | false =>
   obtain⟨ys,ey,h⟩:=A6 (Rn ht h)
   obtain⟨ds,ed,h⟩:=A6 h
   obtain⟨p,vs,rfl,hp,rs⟩:=Ci hc r1 ey
   rcases hp with⟨_,hp⟩ | ⟨ht2,_⟩
   ·exact Fy aa s σ H _ us Q I r ⟨p,vs,rfl,.inl ⟨hp,λl hl=>hq _ _ _ _ (Kp.new hl _) (hc.over hl) (L6 Bc (Aq.kp (Kp.new hl _) _ _ (rs.dats ed))) h⟩⟩
   ·rw [ht]at ht2;cases ht2
def Y4:AC:=λxs μ R=>match xs with
 | [y]=>opt (items μ y) λys=>∀p,μ p=none->R (.R p) (Aj μ p (.lst ys))
 | _=>False
theorem Qbt:VCall X (.type "list") Y4:=by
 intro aa s σ H xs us Q I r zz29
 refine B9 zz29 λas μ R ra hc h hq=>?_
 unfold Y4 at h
 split at h
 ·cases ra with
  | cons r1 r2 =>
   cases r2
   obtain⟨ys,ey,h⟩:=A6 h
   obtain⟨p,vs,rfl,hp,rs⟩:=He hc r1 ey
   exact Lv aa s σ H _ us Q I r ⟨p,vs,rfl,hp,λl hl=>hq _ _ _ _ (Kp.new hl _) (hc.new hl (C2 (rs))) Em (h l (hc.none hl))⟩
 ·exact h.elim
def bools:List AV->Option (List Bool)
 | []=>some []
 | .D (.bool b) :: r=>match bools r with
  | some bs=>some (b :: bs)
  | none=>none
 | _ :: _=>none
theorem K3:∀(bs:List Bool),bools (bs.map λb=>.D (.bool b))=some bs
 | []=>rfl
 | b :: bs=>by simp only [List.map_cons,bools,K3 bs]
theorem Ax.bools{K:PySem.W.Frag}{H:Hp}{xs:List AV}{vs:List V}{bs:List Bool}(h:Ax K H xs vs)(e:L2.bools xs=some bs):vs=bs.map V.bl:=by
 induction h generalizing bs with
 | nil=>cases e;rfl
 | @cons x v xs vs r t ih =>
  cases x with
  | D d =>
   cases d with
   | bool b =>
    simp only [L2.bools]at e
    cases q:L2.bools xs with
    | none=>rw [q]at e;cases e
    | some cs=>rw [q]at e;cases e;cases RelA.bl r;rw [ih q];rfl
   | _=>simp [L2.bools]at e
  | _=>simp [L2.bools]at e
def Qbu:AC:=λxs μ R=>match xs with
 | [.R a]=>opt (μ a) λm=>match m with
  | .lst ys=>opt (bools ys) λbs=>R (.D (.bool (bs.all id))) μ
  | _=>False
 | _=>False
theorem Pk(ir:X.calm=true):VCall X (.builtin "all") Qbu:=by
 intro aa s σ H xs us Q I r zz30
 refine B9 zz30 λas μ R ra hc h hq=>?_
 unfold Qbu at h
 split at h
 ·cases ra with
  | cons r1 r2 =>
   cases r2
   obtain⟨m,em,h⟩:=A6 h
   split at h
   ·obtain⟨bs,eb,h⟩:=A6 h
    obtain⟨o,ho,vs,rfl,rs⟩:=hc _ _ em
    cases (show _=V.ref _ from r1)
    exact Tp ir aa s σ H _ us Q I r ⟨_,bs,rfl,Ei.of (by rw [ho,rs.bools eb]),hq _ _ _ _ Kp.refl hc Cv h⟩
   ·exact h.elim
 ·exact h.elim
def Y5:AC:=λxs μ R=>match xs with
 | [.D (.int i),.D (.int j)]=>R (.D (.int (if j > i then j else i))) μ
 | _=>False
theorem Qbv(ir:X.calm=true):VCall X (.builtin "max") Y5:=by
 intro aa s σ H xs us Q I r zz31
 refine B9 zz31 λas μ R ra hc h hq=>?_
 unfold Y5 at h
 split at h
 ·cases ra with
  | cons r1 r2 =>
   cases r2 with
   | cons r2 r3 =>
    cases r3
    cases RelA.int r1;cases RelA.int r2
    exact Qt ir aa s σ H _ us Q I r ⟨_,_,rfl,hq _ _ _ _ Kp.refl hc Cu h⟩
 ·exact h.elim
variable {o:Expr}{to:AE}{name:Str}{bh aq:Pos}{m:AV->AC}
def Ng(μ:M):AV->Prop
 | .R a=>opt (μ a) λm=>match m with
  | .lst _=>True
  | _=>False
 | .D (.list _)=>True
 | _=>False
def Y6:AV->Prop
 | .D (.str _)=>True
 | _=>False
theorem Ng.ty{H:Hp}{μ:M}{x:AV}{v:V}(hc:Cn X.K μ H)(rx:RelA X.K H x v)(h:Ng μ x):tyV X.K "list" v H:=by
 unfold Ng at h
 split at h
 ·obtain⟨m,e,h⟩:=A6 h
  split at h
  ·obtain⟨o,ho,vs,rfl,_⟩:=hc _ _ e
   cases (show v=.ref _ from rx)
   exact .inl ⟨rfl,vs,Ei.of ho⟩
  ·exact h.elim
 ·obtain⟨a,xs,rfl,q,_⟩:=RelA.lst rx
  exact .inl ⟨rfl,xs,q.sq⟩
 ·exact h.elim
def Qi4(m:AV->AC)(to:AE):AE:=fun τ μ R=>to τ μ λx μ1=>Ng μ1 x/\m x [] μ1 R
def vBL(m:AV->AC)(to:AE)(t:AA):AE:=fun τ μ R=>to τ μ λx μ1=>Ng μ1 x/\t τ μ1 λxs μ2=>m x xs μ2 R
def vBS(m:AV->AC)(to:AE)(t:AA):AE:=fun τ μ R=>to τ μ λx μ1=>Y6 x/\t τ μ1 λxs μ2=>m x xs μ2 R
theorem Qbw(slot:Slot "list" name ii) (jc:typeOf (.builtin ii)=pure (.type "method_descriptor")) (hm:VMt X ii m) (ho:VE X o to)
  (bq:attributeBase o name X.env (eval o X.env)=eval o X.env:=by rfl) (bt:(bh.endLine==aq.line)=true:=by rfl):VE X (.Call (.Attribute o name bh) [] [] aq) (Qi4 m to) :=
 (Tc PySem.F.plainAttrs_list slot jc hm ho bq bt).imp fun σ H Q zz33=>B9 zz33 fun τ μ R hs hc h hq=>⟨τ,μ,_,hs,hc,h,λx μ1 v H1 S1 c1 rx hx=>⟨hx.1.ty c1 rx,x,[],μ1,R,rx,.nil,c1,hx.2,hq.kp S1⟩⟩
theorem Ew(slot:Slot "list" name ii) (jc:typeOf (.builtin ii)=pure (.type "method_descriptor")) (hm:VMt X ii m) (ho:VE X o to) (ha:VA X (e :: es) t)
  (bq:attributeBase o name X.env (eval o X.env)=eval o X.env:=by rfl)
  (fu:((backTo aq (starEach (e :: es) X.env)).all (λx=>!x.1) && (backToKw aq (keywordEach [] X.env)).all (λx=>x.1.isSome)
   && decide ((e :: es).length+([]:List Keyword).length+(if([]:List Keyword).isEmpty then 0 else 1) < 30))=true:=by rfl)
  (bt:(bh.endLine==aq.line)=true:=by rfl) (hs:starEach (e :: es) X.env=(false,eval e X.env) :: starEach es X.env:=by rfl) (cm:(backTo aq (starEach es X.env)).any (·.1)=false:=by rfl) :
  VE X (.Call (.Attribute o name bh) (e :: es) [] aq) (vBL m to t) :=
 (Td PySem.F.plainAttrs_list slot jc hm ho ha bq fu bt hs cm).imp fun σ H Q zz34=>B9 zz34 fun τ μ R hs hc h hq=>⟨τ,μ,_,hs,hc,h,λx μ1 v H1 S1 c1 rx hx=>⟨hx.1.ty c1 rx,τ,μ1,_,hs.kp S1,c1,hx.2,λxs μ2 vs H2 S2 c2 rs hl gh =>
  ⟨x,xs,μ2,R,rx.kp S2,rs,c2,gh,hq.kp (S1.trans S2)⟩⟩⟩
theorem Jh(slot:Slot "str" name ii) (jc:typeOf (.builtin ii)=pure (.type "method_descriptor")) (hm:VMt X ii m) (ho:VE X o to) (ha:VA X (e :: es) t)
  (bq:attributeBase o name X.env (eval o X.env)=eval o X.env:=by rfl)
  (fu:((backTo aq (starEach (e :: es) X.env)).all (λx=>!x.1) && (backToKw aq (keywordEach [] X.env)).all (λx=>x.1.isSome)
   && decide ((e :: es).length+([]:List Keyword).length+(if([]:List Keyword).isEmpty then 0 else 1) < 30))=true:=by rfl)
  (bt:(bh.endLine==aq.line)=true:=by rfl) (hs:starEach (e :: es) X.env=(false,eval e X.env) :: starEach es X.env:=by rfl) (cm:(backTo aq (starEach es X.env)).any (·.1)=false:=by rfl) :
  VE X (.Call (.Attribute o name bh) (e :: es) [] aq) (vBS m to t) :=
 (Td PySem.F.plainAttrs_str slot jc hm ho ha bq fu bt hs cm).imp fun σ H Q zz35=>B9 zz35 fun τ μ R hs hc h hq=>⟨τ,μ,_,hs,hc,h,λx μ1 v H1 S1 c1 rx hx=>⟨by
   obtain⟨hx,_⟩:=hx
   unfold Y6 at hx
   split at hx
   ·cases RelA.str rx;rfl
   ·exact hx.elim,τ,μ1,_,hs.kp S1,c1,hx.2,λxs μ2 vs H2 S2 c2 rs hl gh =>
  ⟨x,xs,μ2,R,rx.kp S2,rs,c2,gh,hq.kp (S1.trans S2)⟩⟩⟩
def Pl:AV->AC:=λx xs μ R=>match x,xs with
 | .R a,[y]=>opt (μ a) λm=>match m with
  | .lst ys=>ys.length < sizeLine/\R (.D .none) (Aj μ a (.lst (ys++[y])))
  | _=>False
 | _,_=>False
theorem Dr:VMt X "list.append" Pl:=by
 intro aa s σ H x xs v us Q I rx r zz36
 refine Dl zz36 λa as μ R ra rs hc h hq=>?_
 unfold Pl at h
 split at h
 ·rename_i a y
  obtain⟨m,ey,h⟩:=A6 h
  split at h
  ·cases rs with
   | cons r1 r2 =>
    cases r2
    obtain⟨o,ho,vs,rfl,rl⟩:=hc _ _ ey
    cases (show x=.ref a from ra)
    exact Kq aa s σ H _ _ v us Q I rx r ⟨a,vs,_,rfl,rfl,ho,by rw [<- rl.length];exact h.1,hq _ _ _ _ (Kp.put ho trivial _) (hc.put ho trivial (C2 (rl.append (.cons r1 .nil)))) Jc h.2⟩
  ·exact h.elim
 ·exact h.elim
def Pm:AV->AC:=λx xs μ R=>match x,xs with
 | .R a,[.R b]=>opt (μ a) λm=>opt (μ b) λn=>match m,n with
  | .lst ys,.lst zs=>ys.length+zs.length<=sizeLine/\R (.D .none) (Aj μ a (.lst (ys++zs)))
  | _,_=>False
 | _,_=>False
theorem Um:VMt X "list.extend" Pm:=by
 intro aa s σ H x xs v us Q I rx r zz37
 refine Dl zz37 λa as μ R ra rs hc h hq=>?_
 unfold Pm at h
 split at h
 ·rename_i a b
  obtain⟨m,ey,h⟩:=A6 h
  obtain⟨n,ez,h⟩:=A6 h
  split at h
  ·cases rs with
   | cons r1 r2 =>
    cases r2
    obtain⟨o,ho,vs,rfl,rl⟩:=hc _ _ ey
    obtain⟨o',ck,ws,rfl,rl'⟩:=hc _ _ ez
    cases (show x=.ref a from ra)
    cases (show _=V.ref b from r1)
    exact Qw aa s σ H _ _ v us Q I rx r ⟨a,b,vs,ws,rfl,rfl,ho,ck,by rw [<- rl.length,<- rl'.length];exact h.1,hq _ _ _ _ (Kp.put ho trivial _) (hc.put ho trivial (C2 (rl.append rl'))) Jc h.2⟩
  ·exact h.elim
 ·exact h.elim
def Qe8:AV->AC:=λx xs μ R=>match x,xs with
 | .R a,[]=>opt (μ a) λm=>match m with
  | .lst ys=>opt ys[ys.length - 1]? λy=>R y (Aj μ a (.lst ys.dropLast))
  | _=>False
 | _,_=>False
theorem Qe9:VMt X "list.pop" Qe8:=by
 intro aa s σ H x xs v us Q I rx r zz38
 refine Dl zz38 λa as μ R ra rs hc h hq=>?_
 unfold Qe8 at h
 split at h
 ·rename_i a
  obtain⟨m,ey,h⟩:=A6 h
  split at h
  ·obtain⟨y,e1,h⟩:=A6 h
   ·cases rs
    obtain⟨o,ho,vs,rfl,rl⟩:=hc _ _ ey
    cases (show x=.ref a from ra)
    obtain⟨z,ez,rz⟩:=rl.get e1
    exact Qbc aa s σ H _ _ v us Q I rx r ⟨a,vs,z,rfl,rfl,ho,by rw [<- rl.length];exact ez,hq _ _ _ _ (Kp.put ho trivial _) (hc.put ho trivial (C2 (rl.dropLast))) (rz.kp (Kp.put ho trivial _)) h⟩
  ·exact h.elim
 ·exact h.elim
end
section
variable {X:Cx}{a b c:Expr}{ta tb tc:AE}{pos:Pos}
def kit(S T:String):Bool:=S==T || (S == "bool" && T == "int")
def tyA(μ:M):AV->Option String
 | .D .none=>some "NoneType"
 | .D (.bool _)=>some "bool"
 | .D (.int _)=>some "int"
 | .D (.str _)=>some "str"
 | .D (.list _)=>some "list"
 | .D (.tuple _)=>some "tuple"
 | .D (.dict _)=>none
 | .C _=>some "tuple"
 | .X _ _=>none
 | .R a=>match μ a with
  | some (.lst _)=>some "list"
  | some (.dk _)=>some "dict"
  | some (.dt _)=>some "dict"
  | some (.dd _)=>some "dict"
  | none=>none
def Qi5(T:String)(te:AE):AE:=fun τ μ R=>te τ μ λx μ1=>opt (tyA μ1 x) λS=>R (.D (.bool (kit S T))) μ1
def Kits(K:PySem.W.Frag)(T:String):Prop:=∀S∈["NoneType","bool","int","str","list","tuple","dict"],PySem.W.kitOne K (.type S) (.type T)=some (kit S T)
theorem Qbx{aa:List (Addr×Obj)}{σ:St}{H:Hp}{s:Shared}{E:Value->Shared->Prop}{Q:Value->Shared->Prop}{μ:M}{x:AV}{v:V}{u:Value}{S T:String}(I:Inv X aa σ H s)(hc:Cn X.K μ H)(rx:RelA X.K H x v)(r:Bh v u)(e:tyA μ x=some S)(hk:Kits X.K T)
  (h:∀tk,Q (.bool (kit S T)) { s with toks:=tk }):wpAny (model X.prog X.w) X.A (call (.builtin "isinstance") [u,.type T]) Q E s:=by
 unfold tyA at e
 split at e
 ·cases e;cases RelA.non rx;cases r;exact Ybt PySem.W.kitx_none I.kIn True.intro (hk _ (by decide)) (λz=>nomatch z) h
 ·cases e;cases RelA.bl rx;cases r;exact Ybt PySem.W.kitx_bool I.kIn True.intro (hk _ (by decide)) (λz=>nomatch z) h
 ·cases e;cases RelA.int rx;obtain⟨t,rfl⟩:=r;exact Ybt PySem.W.kitx_int I.kIn True.intro (hk _ (by decide)) (λz=>nomatch z) h
 ·cases e;cases RelA.str rx;obtain⟨t,rfl⟩:=r;exact Ybt PySem.W.kitx_str I.kIn True.intro (hk _ (by decide)) (λz=>nomatch z) h
 ·cases e
  obtain⟨a,vs,rfl,q,_⟩:=RelA.lst rx
  cases r
  obtain⟨_,_,⟨o,n,e1,e2,_⟩,_⟩:=I.list q.sq
  exact Ybt PySem.W.kitx_list I.kIn ⟨o,e1,e2⟩ (hk _ (by decide)) (λz=>nomatch z) h
 ·cases e
  obtain⟨a,vs,rfl,q,_⟩:=RelA.tup rx
  cases r
  obtain⟨_,_,⟨o,e1,e2,_⟩,_⟩:=I.tuple q.sq
  exact Ybt PySem.W.kitx_tuple I.kIn ⟨o,e1,e2⟩ (hk _ (by decide)) (λz=>nomatch z) h
 ·cases e
 ·cases e
  obtain⟨a,vs,rfl,q,_⟩:=rx
  cases r
  obtain⟨_,_,⟨o,e1,e2,_⟩,_⟩:=I.tuple (q H)
  exact Ybt PySem.W.kitx_tuple I.kIn ⟨o,e1,e2⟩ (hk _ (by decide)) (λz=>nomatch z) h
 ·cases e
 ·rename_i a
  cases (show v=.ref a from rx)
  cases r
  split at e
  ·rename_i xs ex
   cases e
   obtain⟨o,ho,vs,rfl,_⟩:=hc _ _ ex
   obtain⟨_,_,⟨o,n,e1,e2,_⟩,_⟩:=I.list (Ei.of ho)
   exact Ybt PySem.W.kitx_list I.kIn ⟨o,e1,e2⟩ (hk _ (by decide)) (λz=>nomatch z) h
  ·rename_i xs ex
   cases e
   obtain⟨o,ho,vs,rfl,_⟩:=hc _ _ ex
   obtain⟨_,_,ws,_,p⟩:=(show Bn X.prog X.w H s.heap a (.dK vs) from I.hok a _ ho)
   obtain⟨o,es,ep,h1,h2,_⟩:=p
   exact Ybt PySem.W.kitx_dict I.kIn ⟨o,h1,h2.1⟩ (hk _ (by decide)) (λz=>nomatch z) h
  ·rename_i xs ex
   cases e
   obtain⟨o,ho,vs,rfl,_⟩:=hc _ _ ex
   obtain⟨_,_,xs,_,o,es,ep,h1,h2,_⟩:=(show Bn X.prog X.w H s.heap a (.dT vs) from I.hok a _ ho)
   exact Ybt PySem.W.kitx_dict I.kIn ⟨o,h1,h2.1⟩ (hk _ (by decide)) (λz=>nomatch z) h
  ·rename_i xs ex
   cases e
   obtain⟨o,ho,vs,rfl,_⟩:=hc _ _ ex
   obtain⟨o,es,ep,h1,h2,_⟩:=(show Bn X.prog X.w H s.heap a (.dd vs) from I.hok a _ ho)
   exact Ybt PySem.W.kitx_dict I.kIn ⟨o,h1,h2.1⟩ (hk _ (by decide)) (λz=>nomatch z) h
  ·cases e
theorem Qby{T:String}{x:Str}{p p2:Pos}(hg:Gl X "isinstance") (hm:X.mg "isinstance" = none) (fk:Gl X x) (fe:X.mg x=none) (jo:bootBuiltins x=some (.type T)) (hk:Kits X.K T) (he:VE X a ta)
  (iq:x ≠ "__name__" := by decide) (dj:(x==("__debug__" : Str))=false:=by decide)
  (hs:starEach [a,.Name x p2] X.env=(false,eval a X.env) :: starEach [.Name x p2] X.env:=by rfl) (dw:starEach [.Name x p2] X.env=[(false,eval (.Name x p2) X.env)]:=by rfl) (hpl:(backTo pos (starEach [.Name x p2] X.env)).any (·.1)=false:=by rfl) :
  VE X (.Call (.Name "isinstance" p) [a,.Name x p2] [] pos) (Qi5 T ta):=by
 intro aa s σ H Q I zz40
 refine B9 zz40 fun τ μ R bg hc h hq=>?_
 refine Ybq (De I hg hm Yee ?_)
 refine Yb1 ?_ hs hpl
 rw [hs]
 refine Ybl (thn (he aa s σ H (λv H1=>∃x μ1 S,Kp H H1/\Cn X.K μ1 H1/\RelA X.K H1 x v/\tyA μ1 x=some S/\R (.D (.bool (kit S T))) μ1) I ⟨τ,μ,_,bg,hc,h,λx μ1 v H1 S1 c1 rx hx=>?_⟩) λu s1 qm=>?_)
 ·obtain⟨S,e,hx⟩:=A6 hx
  exact⟨x,μ1,S,S1,c1,rx,e,hx⟩
 obtain⟨v,H1,I1,r1,x,μ1,S,S1,c1,rx,ty,q1⟩:=qm
 rw [dw]
 refine Ybl (De I1 fk fe jo (Yb7 ?_) iq dj)
 exact Qbx I1 c1 rx r1 ty hk λtk=>⟨.bl _,H1,I1.tok _,rfl,hq _ _ _ _ S1 c1 Cv q1⟩
abbrev ASp:=List AV->M->(AV->M->Prop)->Prop
def Ji(K:PySem.W.Frag)(n:Nat)(sp:ASp):Sp:=λvs H Q _=>∃xs μ R,xs.length=n/\Ax K H xs vs/\Cn K μ H/\sp xs μ R/\LV K H R Q
def VCal(P:Program)(w:World)(K:PySem.W.Frag)(mg:Str->Option Value)(base:Heap)(k:Nat)(x:Str)(ps:List Str)(sp:ASp):Prop:=Cal P w K mg base k x ps (Ji K ps.length sp)
def Uo(n:Nat)(sp:ASp)(t:AA):AE:=fun τ μ R=>t τ μ λxs μ1=>sp xs μ1 R
variable {x:Str}{p:Pos}{e:Expr}{es:List Expr}{t:AA}{k:Nat}{ps:List Str}{sp:ASp}
theorem Au(F:VCal X.prog X.w X.K X.mg X.base k x ps sp)(hr:Room k X.A)(hg:Gl X x)(ha:VA X (e :: es) t)(hl:(e :: es).length=ps.length:=by rfl)(hdb:(x==("__debug__" : Str))=false:=by decide)
  (bg:starEach (e :: es) X.env=(false,eval e X.env) :: starEach es X.env:=by rfl) (hpl:(backTo pos (starEach es X.env)).any (·.1)=false:=by rfl):VE X (.Call (.Name x p) (e :: es) [] pos) (Uo ps.length sp t):=by
 obtain⟨g,gd,G,gb,gk,gm⟩:=F
 refine PE.imp (O6 (E:=E0) G hr hg gm gk gb .nil Y0 ha (hdb:=hdb) (he:=bg) (hpl:=hpl)) fun σ H Q zz41=>B9 zz41 fun τ μ R hs hc h hq=>?_
 exact⟨τ,μ,_,hs,hc,h,λxs μ1 vs H1 S1 c1 rs hn hx=>⟨xs,μ1,R,hn.trans hl,by rw [Ybi];exact rs,c1,hx,hq.kp S1⟩⟩
def Qfa:AS:=λk _ _ _ τ μ=>k τ μ
def Up(t u:AS):AS:=λk r b c τ μ=>t (u k r b c) r b c τ μ
variable {st:Stmt}{rest:List Stmt}{s1 s2:AS}
theorem A9:VSs X [] Qfa:=Wu.imp λD σ H zz43=>E4 zz43 fun τ μ nk nr nb nc hs hc h hq=>hq.nx _ _ _ _ Kp.refl hs hc h
theorem Af(h1:VS X st s1)(h2:VSs X rest s2):VSs X (st :: rest) (Up s1 s2):=(Mr h1 h2).imp λD σ H zz44=>E4 zz44 fun τ μ nk nr nb nc hs hc h hq =>
 ⟨τ,μ,_,_,_,_,hs,hc,h,⟨fun τ' μ' σ' H' S' d0 c9 h'=>⟨τ',μ',nk,nr,nb,nc,d0,c9,h',hq.kp S'⟩,hq.rt,hq.bk,hq.ct⟩⟩
theorem An(h1:VS X st s1):VSs X [st] s1:=Lm h1
def Qbz:AS:=λ_ _ b _ τ μ=>b τ μ
theorem G1:VS X (.Break pos) Qbz:=Sk.imp λD σ H zz46=>E4 zz46 fun τ μ nk nr nb nc hs hc h hq=>hq.bk _ _ _ _ Kp.refl hs hc h
def Qfb(te:AE):AS:=λk _ _ _ τ μ=>te τ μ λ_ μ1=>k τ μ1
theorem Dy(he:VE X a ta)(hs:swapsWith a none pos.line X.env=pure false:=by rfl):VS X (.Expr a pos) (Qfb ta):=(Wv he hs).imp λD σ H zz48=>E4 zz48 fun τ μ nk nr nb nc hs hc h hq =>
 ⟨τ,μ,_,hs,hc,h,λx μ1 v H1 S1 c1 rx hx=>hq.nx _ _ _ _ S1 (hs.kp S1) c1 hx⟩
def Qi6(te:AE):AS:=λ_ r _ _ τ μ=>te τ μ r
theorem Bd(he:VE X a ta):VS X (.Return (some a) pos) (Qi6 ta):=(Qas he).imp λD σ H zz49=>E4 zz49 fun τ μ nk nr nb nc hs hc h hq=>⟨τ,μ,_,hs,hc,h,hq.rt⟩
def Qi7(ct:AT)(t u:AS):AS:=λk r b c τ μ=>ct τ μ λx μ1=>brP x (t k r b c τ μ1) (u k r b c τ μ1)
theorem B1{c:Expr}{a b:List Stmt}{tc:AT}(hc:VT X c tc)(ha:VSs X a s1)(hb:VSs X b s2):VS X (.If c a b pos) (Qi7 tc s1 s2):=(Qd4 hc ha hb).imp λD σ H zz51=>E4 zz51 fun τ μ nk nr nb nc hs hc h hq =>
 ⟨τ,μ,_,hs,hc,h,λk μ1 H1 S1 c1 hk=>by
  rcases br_e hk with⟨rfl,hk'⟩ | ⟨rfl,hk'⟩
  ·exact⟨τ,μ1,nk,nr,nb,nc,hs.kp S1,c1,hk',hq.kp S1⟩
  ·exact⟨τ,μ1,nk,nr,nb,nc,hs.kp S1,c1,hk',hq.kp S1⟩⟩
def Ca(i:Nat):AG:=λv τ μ R=>R (τ.set i (some v)) μ
theorem Av{i:Nat}{x:Str}(hN:X.N.Nodup)(hi:X.N[i]?=some x)(hx:Loc X.env.scope x)(hf:X.fn x=true\/X.env.scope.names.lookup x=some .local:=by first | exact .inl rfl | exact .inr rfl | assumption):VG X (.Name x pos) (Ca i) :=
 (Ww hN hi hx hf).imp λv σ H Q zz54=>Dl zz54 λx τ μ R rx hs hc h hq=>hq _ _ _ _ Kp.refl (hs.set rx i) hc h
def Uq:AGs:=λvs τ μ R=>match vs with
 | []=>R τ μ
 | _ :: _=>False
def Ex(t:AG)(u:AGs):AGs:=λvs τ μ R=>match vs with
 | []=>False
 | v :: r=>t v τ μ fun τ' μ'=>u r τ' μ' R
theorem C7:VGs X [] Uq:=Wx.imp λvs σ H Q zz55=>Dl zz55 λxs τ μ R rx hs hc h hq=>by
 cases rx with
 | nil=>exact⟨rfl,hq _ _ _ _ Kp.refl hs hc h⟩
 | cons=>exact h.elim
theorem Bg{e:Expr}{es:List Expr}{t:AG}{u:AGs}(h1:VG X e t)(h2:VGs X es u)
  (hs:(assignEach (e :: es) X.env).map (·.2)=assign e X.env :: (assignEach es X.env).map (·.2):=by rfl):VGs X (e :: es) (Ex t u):=(Sm h1 h2 hs).imp λvs σ H Q zz56=>Dl zz56 λxs τ μ R rx hs hc h hq=>by
 cases rx with
 | nil=>exact h.elim
 | cons r1 r2=>exact⟨_,_,rfl,_,τ,μ,_,r1,hs,hc,h,fun τ' μ' σ' H' S' d0 c9 h'=>⟨_,τ',μ',R,Ax.kp S' r2,d0,c9,h',hq.kp S'⟩⟩
def Qb0(n:Nat)(t:AGs):AG:=λv τ μ R=>match v with
 | .D (.tuple ds)=>ds.length=n/\t (ds.map .D) τ μ R
 | _=>False
theorem Ep{es:List Expr}{k:Nat}{t:AGs}{n:Nat}(ir:X.calm=true)(h:VGs X es t)
  (hn:(assignEach es X.env).length=n:=by rfl) (bg:(assignEach es X.env).findIdx? (·.1)=none:=by rfl):VG X (.Tuple es k pos) (Qb0 n t):=(Sn ir h hn bg).imp λv σ H Q zz57=>Dl zz57 λx τ μ R rx hs hc h hq=>by
 unfold Qb0 at h
 split at h
 ·obtain⟨a,vs,rfl,q,r⟩:=RelA.tup rx
  exact⟨a,vs,rfl,q.sq,by rw [r.length];exact h.1,_,τ,μ,R,r.rel,hs,hc,h.2,hq⟩
 ·exact h.elim
def Qb1(o i v:AV)(μ:M)(R:M->Prop):Prop:=match o,i with
 | .R a,.D (.int k)=>opt (μ a) λm=>match m with
  | .lst xs=>opt (ixN xs.length k) λj=>R (Aj μ a (.lst (xs.set j v)))
  | _=>False
 | _,_=>False
def Qi8(K:PySem.W.Frag):TSet:=λo i v H Q=>∃a b c μ R,RelA K H a o/\RelA K H b i/\RelA K H c v/\Cn K μ H/\Qb1 a b c μ R/\∀ μ' H',Kp H H'->Cn K μ' H'->R μ'->Q H'
theorem Qfc:PSet X (Qi8 X.K):=by
 intro aa s σ H o i v ov iv u Q I r1 r2 r3 ⟨a,b,c,μ,R,ra,rb,rc,hc,h,hq⟩
 unfold Qb1 at h
 split at h
 ·rename_i q k
  obtain⟨m,ex,h⟩:=A6 h
  split at h
  ·obtain⟨j,ej,h⟩:=A6 h
   ·obtain⟨o',ho,vs,rfl,rs⟩:=hc _ _ ex
    cases (show o=.ref q from ra)
    cases RelA.int rb
    exact Ta aa s σ H _ _ v ov iv u Q I r1 r2 r3 ⟨q,vs,k,j,rfl,rfl,ho,by rw [<- rs.length];exact ej,hq _ _ (Kp.put ho trivial _) (hc.put ho trivial (C2 (rs.set rc j))) h⟩
  ·exact h.elim
 ·exact h.elim
def Qi9(to ti:AE):AG:=λv τ μ R=>to τ μ λo μ1=>ti τ μ1 λi μ2=>Qb1 o i v μ2 fun μ3=>R τ μ3
theorem Qb2{o i:Expr}{to ti:AE}(ho:VE X o to)(hi:VE X i ti)
  (ha:∀v,assign (.Subscript o i pos) X.env v=(do
   let ov <- holding [v] (eval o X.env)
   let iv <- holding [v,ov] (eval i X.env)
   standAt pos
   holding [v,ov,iv] (setItem ov iv v)
   release [v,ov,iv] []):=by intro _;rfl):VG X (.Subscript o i pos) (Qi9 to ti):=(Qat ho hi Qfc ha).imp λv σ H Q zz58=>Dl zz58 λx τ μ R rx hs hc h hq =>
 ⟨τ,μ,_,hs,hc,h,λo μ1 ov H1 S1 c1 ro h1=>⟨τ,μ1,_,hs.kp S1,c1,h1,λi μ2 iv H2 S2 c2 ri h2=>⟨o,i,x,μ2,_,ro.kp S2,ri,rx.kp (S1.trans S2),c2,h2,fun μ3 H3 S3 c3 h3=>hq _ _ _ _ (S1.trans (S2.trans S3)) (hs.kp (S1.trans (S2.trans S3))) c3 h3⟩⟩⟩
def Kc(te:AE)(g:AG):AS:=λk _ _ _ τ μ=>te τ μ λx μ1=>g x τ μ1 k
theorem Ur{K:PySem.W.Frag}{te:AE}{g:AG}{D:Ends}{σ:St}{H:Hp}(h:cS K (Kc te g) D σ H):Wy (cE K te) (cG K g) D σ H:=by
 obtain⟨τ,μ,nk,nr,nb,nc,hs,hc,h,hq⟩:=h
 exact⟨τ,μ,_,hs,hc,h,λx μ1 v H1 S1 c1 rx hx=>⟨x,τ,μ1,_,rx,hs.kp S1,c1,hx,hq.nx.kp S1⟩⟩
theorem Us{tg:Expr}{g:AG}(he:VE X a ta)(hg:VG X tg g)(hs:swapsWithSole [tg] a pos.line X.env=pure false:=by rfl)(hw:swappedStores [tg] a X.env=pure none:=by rfl)
  (h1:(assignEach [tg] X.env).map (·.2)=[assign tg X.env]:=by rfl):VS X (.Assign [tg] a pos) (Kc ta g):=(So he hg hs hw h1).imp λ_ _ _ h=>Ur h
theorem Aw{i:Nat}{x:Str}{bu:Pos}(hN:X.N.Nodup)(hi:X.N[i]?=some x)(hx:Loc X.env.scope x)(he:VE X a ta)(hs:swapsWith a (some (.Name x bu)) pos.line X.env=pure false:=by rfl)(hf:X.fn x=true\/X.env.scope.names.lookup x=some .local:=by first | exact .inl rfl | exact .inr rfl | assumption) :
  VS X (.Assign [.Name x bu] a pos) (Kc ta (Ca i)):=(Qau hN hi hx he hs hf).imp λD σ H zz59=>E4 zz59 fun τ μ nk nr nb nc hs hc h hq =>
 ⟨τ,μ,_,hs,hc,h,λx μ1 v H1 S1 c1 rx hx=>hq.nx _ _ _ _ S1 ((hs.kp S1).set rx i) c1 hx⟩
def Qja(i j:Nat)(t:AA):AS:=λk _ _ _ τ μ=>t τ μ λxs μ1=>match xs with
 | [v,w]=>k ((τ.set i (some v)).set j (some w)) μ1
 | _=>False
theorem Qb3{i j:Nat}{x y:Str}{t:AA}{px py pt:Pos}{kt k2 d5}(hc:X.calm=true)(hN:X.N.Nodup)(hi:X.N[i]?=some x)(hj:X.N[j]?=some y)(jk:i≠j)(hx:X.env.scope.names.lookup x=some .local)(hy:X.env.scope.names.lookup y=some .local)(ha:VA X [a,b] t)
  (hw:swappedStores [.Tuple [.Name x px,.Name y py] kt pt] (.Tuple [a,b] k2 d5) X.env=pure (some [x,y])) (hs:swapsWithSole [.Tuple [.Name x px,.Name y py] kt pt] (.Tuple [a,b] k2 d5) pos.line X.env=pure false:=by rfl) :
  VS X (.Assign [.Tuple [.Name x px,.Name y py] kt pt] (.Tuple [a,b] k2 d5) pos) (Qja i j t):=(Qav hc hN hi hj jk hx hy ha hw hs).imp λD σ H zz60=>E4 zz60 fun τ μ nk nr nb nc hs hc h hq =>
 ⟨τ,μ,_,hs,hc,h,λxs μ1 vs H1 S1 c1 rs hl hx=>by
  split at hx
  ·cases rs with
   | cons r1 r2 =>
    cases r2 with
    | cons r2 r3 =>
     cases r3
     exact⟨_,_,rfl,hq.nx _ _ _ _ S1 (((hs.kp S1).set r1 i).set r2 j) c1 hx⟩
  ·exact hx.elim⟩
def Qfd(i j l:Nat)(t:AA):AS:=λk _ _ _ τ μ=>t τ μ λxs μ1=>match xs with
 | [u,v,w]=>k (((τ.set i (some u)).set j (some v)).set l (some w)) μ1
 | _=>False
theorem Xy{i j l:Nat}{x y z:Str}{t:AA}{px py pz pt:Pos}{kt k2 d5}(hc:X.calm=true)(hN:X.N.Nodup)(hi:X.N[i]?=some x)(hj:X.N[j]?=some y)(hl:X.N[l]?=some z)(jk:i≠j)(xn:i≠l)(hjl:j≠l)
  (hx:X.env.scope.names.lookup x=some .local) (hy:X.env.scope.names.lookup y=some .local) (hz:X.env.scope.names.lookup z=some .local) (ha:VA X [a,b,c] t)
  (hw:swappedStores [.Tuple [.Name x px,.Name y py,.Name z pz] kt pt] (.Tuple [a,b,c] k2 d5) X.env=pure (some [x,y,z]))
  (hs:swapsWithSole [.Tuple [.Name x px,.Name y py,.Name z pz] kt pt] (.Tuple [a,b,c] k2 d5) pos.line X.env=pure false:=by rfl) :
  VS X (.Assign [.Tuple [.Name x px,.Name y py,.Name z pz] kt pt] (.Tuple [a,b,c] k2 d5) pos) (Qfd i j l t):=(Xq hc hN hi hj hl jk xn hjl hx hy hz ha hw hs).imp λD σ H zz61=>E4 zz61 fun τ μ nk nr nb nc hs hc h hq =>
 ⟨τ,μ,_,hs,hc,h,λxs μ1 vs H1 S1 c1 rs hl hx=>by
  split at hx
  ·cases rs with
   | cons r1 r2 =>
    cases r2 with
    | cons r2 r3 =>
     cases r3 with
     | cons r3 r4 =>
      cases r4
      exact⟨_,_,_,rfl,hq.nx _ _ _ _ S1 ((((hs.kp S1).set r1 i).set r2 j).set r3 l) c1 hx⟩
  ·exact hx.elim⟩
def wl(c:AT)(tb:AS)(k:ASt->M->Prop)(r:AV->M->Prop):Nat->ASt->M->Prop
 | 0=>λ_ _=>False
 | n+1=>fun τ μ=>c τ μ λx μ1=>brP x (tb (wl c tb k r n) r k (wl c tb k r n) τ μ1) (k τ μ1)
def Qb4(c:AT)(tb:AS):AS:=λk r _ _ τ μ=>∃n,wl c tb k r n τ μ
theorem Ut{c:Expr}{body:List Stmt}{tc:AT}{tb:AS}(hp:PassesOwn (model X.prog X.w) X.A X.env X.xe)(hc:VT X c tc)(hb:VSs X body tb):VS X (.While c body [] pos) (Qb4 tc tb):=(Sq hp hc hb).imp λD σ H zw=>E4 zw fun τ μ nk nr nb nc hs hc zh hq=>by
 obtain⟨n,h⟩:=zh
 refine⟨λm σ1 H1=>∃ τ1 μ1,Kp H H1/\C0 X.K H1 τ1 σ1/\Cn X.K μ1 H1/\wl tc tb nk nr m τ1 μ1,⟨n,τ,μ,Kp.refl,hs,hc,h⟩,?_⟩
 rintro m σ1 H1 ⟨τ1,μ1,S1,d2,hc1,h1⟩
 cases m with
 | zero=>exact h1.elim
 | succ m =>
  refine⟨τ1,μ1,_,d2,hc1,h1,λk μ2 H2 S2 c2 hk=>?_⟩
  rcases br_e hk with⟨rfl,hk'⟩ | ⟨rfl,hk'⟩
  ·rw [Yaw rfl]
   refine⟨fun σ' H'=>∃ τ' μ',Kp H H'/\C0 X.K H' τ' σ'/\Cn X.K μ' H'/\wl tc tb nk nr m τ' μ',fun σ' H' ⟨τ',μ',q⟩=>⟨m,Yd7 _,τ',μ',q⟩,τ1,μ2,_,_,_,_,d2.kp S2,c2,hk',?_⟩
   have S:=S1.trans S2
   exact⟨fun τ' μ' σ' H' S' d0 c9 h'=>⟨τ',μ',S.trans S',d0,c9,h'⟩,hq.rt.kp S,hq.nx.kp S,fun τ' μ' σ' H' S' d0 c9 h'=>⟨τ',μ',S.trans S',d0,c9,h'⟩⟩
  ·rw [Yar Yak]
   exact hq.nx _ _ _ _ (S1.trans S2) (d2.kp S2) c2 hk'
structure ItOk(K:PySem.W.Frag)(H0:Hp)(J:It)(xs:List AV)(kp:M->Prop):Prop where
 go:∀i H μ,Kp H0 H->Cn K μ H->kp μ->i < xs.length->J.go i H
 yld:∀i H μ v H' x,Kp H0 H->Cn K μ H->kp μ->xs[i]?=some x->J.yld i H v H'->Kp H H'/\Cn K μ H'/\RelA K H' x v
 stop:∀H μ,Kp H0 H->Cn K μ H->kp μ->J.stop xs.length H
abbrev AI:=ASt->M->(List AV->(M->Prop)->M->Prop)->Prop
def cI(K:PySem.W.Frag)(wi:AI):TI:=fun σ H R=>∃ τ μ R',C0 K H τ σ/\Cn K μ H/\wi τ μ R'/\∀xs kp μ' J H',Kp H H'->Cn K μ' H'->ItOk K H' J xs kp->R' xs kp μ'->R J H'
def VI(X:Cx)(tg ar:Expr)(wi:AI):Prop:=PI X tg ar (cI X.K wi)
theorem PI.imp{tg e:Expr}{t u:TI}(h:PI X tg e t)(i:∀ σ H Q,u σ H Q->t σ H Q):PI X tg e u:=λaa s σ H Q I q=>h aa s σ H Q I (i σ H Q q)
theorem Ro{K:PySem.W.Frag}{H0:Hp}{a:Addr}{xs:List AV}{kp:M->Prop}(h:∀H μ,Kp H0 H->Cn K μ H->kp μ->∃vs,Ei K H a vs/\Ax K H xs vs):ItOk K H0 (Itl K a) xs kp:=by
 refine⟨λi H μ S c k hi=>?_,λi H μ v H' x S c k e y=>?_,λH μ S c k=>?_⟩
 ·obtain⟨vs,q,r⟩:=h H μ S c k
  exact⟨vs,vs[i]'(by rw [<- r.length];exact hi),q,List.getElem?_eq_getElem _⟩
 ·obtain⟨vs,q,r⟩:=h H μ S c k
  obtain⟨rfl,y⟩:=y
  obtain⟨u,eu,ru⟩:=r.get e
  rw [y vs q]at eu
  cases eu
  exact⟨Kp.refl,c,ru⟩
 ·obtain⟨vs,q,r⟩:=h H μ S c k
  exact⟨vs,q,by rw [r.length];exact Yag _⟩
theorem Uu{K:PySem.W.Frag}{H0:Hp}{a:Addr}{xs:List AV}{kp:M->Prop}(h:∀H μ,Kp H0 H->Cn K μ H->kp μ->∃vs,Hm K H a vs/\Ax K H xs vs):ItOk K H0 (Itt K a) xs kp:=by
 refine⟨λi H μ S c k hi=>?_,λi H μ v H' x S c k e y=>?_,λH μ S c k=>?_⟩
 ·obtain⟨vs,q,r⟩:=h H μ S c k
  exact⟨vs,vs[i]'(by rw [<- r.length];exact hi),q,List.getElem?_eq_getElem _⟩
 ·obtain⟨vs,q,r⟩:=h H μ S c k
  obtain⟨rfl,y⟩:=y
  obtain⟨u,eu,ru⟩:=r.get e
  rw [y vs q]at eu
  cases eu
  exact⟨Kp.refl,c,ru⟩
 ·obtain⟨vs,q,r⟩:=h H μ S c k
  exact⟨vs,q,by rw [r.length];exact Yag _⟩
variable {tg:Expr}
def G2(lo:Int):Nat->List AV
 | 0=>[]
 | n+1=>.D (.int lo) :: G2 (lo+1) n
theorem Ce:∀(n:Nat) (lo:Int),(G2 lo n).length=n
 | 0,_=>rfl
 | n+1,lo=>by rw [G2,Yba,Ce n]
theorem Jj:∀(n:Nat) (lo:Int) (i:Nat) {x:AV},(G2 lo n)[i]?=some x->x=.D (.int (lo+i))
 | 0,_,_,_,h=>by simp [G2]at h
 | n+1,lo,0,_,h=>by simp [G2]at h;rw [<- h];simp
 | n+1,lo,i+1,_,h=>by
  rw [G2,List.getElem?_cons_succ]at h
  rw [Jj n (lo+1) i h]
  congr 2
  omega
theorem Uv{K:PySem.W.Frag}{H0:Hp}{lo:Int}{n:Nat}:ItOk K H0 (Itr lo n) (G2 lo n) (λ_=>True):=by
 refine⟨λi H μ S c k hi=>?_,λi H μ v H' x S c k e y=>?_,λH μ S c k=>?_⟩
 ·show i < n
  rw [Ce]at hi;exact hi
 ·obtain⟨rfl,rfl⟩:=y
  rw [Jj n lo i e]
  exact⟨Kp.refl,c,Cu⟩
 ·show n<=_
  rw [Ce];exact Yag _
def Qfe(t:AA):AI:=fun τ μ R=>t τ μ λxs μ1=>match xs with
 | [.D (.int j)]=>-(2 ^ 62)<=j/\j < 2 ^ 62/\R (G2 0 j.toNat) (λ_=>True) μ1
 | _=>False
theorem Dn{t:AA}{p:Pos}(hg:Gl X "range") (hm:X.mg "range" = none) (ha:VA X [a] t) (hs:starEach [a] X.env=[(false,eval a X.env)]:=by rfl):VI X tg (.Call (.Name "range" p) [a] [] pos) (Qfe t) :=
 (Qq hg hm ha hs).imp fun σ H Q zz62=>B9 zz62 fun τ μ R hs hc h hq=>⟨τ,μ,_,hs,hc,h,λxs μ1 vs H1 S1 c1 rs hl hx=>by
  split at hx
  ·cases rs with
   | cons r1 r2 =>
    cases r2
    cases RelA.int r1
    exact⟨_,rfl,hx.1,hx.2.1,hq _ _ _ _ _ S1 c1 Uv hx.2.2⟩
  ·exact hx.elim⟩
def fl(g:AG)(tb:AS)(k:ASt->M->Prop)(r:AV->M->Prop)(kp:M->Prop):List AV->ASt->M->Prop
 | []=>fun τ μ=>kp μ/\k τ μ
 | x :: xs=>fun τ μ=>kp μ/\g x τ μ fun τ2 μ2=>tb (fl g tb k r kp xs) r k (fl g tb k r kp xs) τ2 μ2
def Qjb(wi:AI)(g:AG)(tb:AS):AS:=λk r _ _ τ μ=>wi τ μ λxs kp μ1=>fl g tb k r kp xs τ μ1
theorem Qff{g:AG}{tb:AS}{k:ASt->M->Prop}{r:AV->M->Prop}{kp:M->Prop}{xs:List AV}{τ:ASt}{μ:M}(h:fl g tb k r kp xs τ μ):kp μ:=by
 cases xs with
 | nil=>exact h.1
 | cons x xs=>exact h.1
theorem Di{ar:Expr}{body:List Stmt}{wi:AI}{g:AG}{tb:AS}(hp:PassesOwn (model X.prog X.w) X.A X.env X.xe)(ir:X.calm=true)(hi:VI X tg ar wi)(hg:VG X tg g)(hb:VSs X body tb)(hfs:∀x,foldedSetIterable ar X.env x=pure x:=by intro _;rfl) :
  VS X (.For tg ar body [] pos) (Qjb wi g tb):=(Qax hp ir hi hg hb hfs).imp λD σ H zz64=>E4 zz64 fun τ μ nk nr nb nc hs hc h hq=>by
 refine⟨τ,μ,_,hs,hc,h,λxs kp μ0 J H0 S0 c0 it h0=>?_⟩
 refine Qbi xs.length (λi σ1 H1=>∃ τ1 μ1,Kp H0 H1/\C0 X.K H1 τ1 σ1/\Cn X.K μ1 H1/\fl g tb nk nr kp (xs.drop i) τ1 μ1) ⟨τ,μ0,Kp.refl,hs.kp S0,c0,h0⟩ ?_ ?_ ?_
 ·rintro i σ1 H1 hi ⟨τ1,μ1,S1,d2,hc1,h1⟩
  exact it.go i H1 μ1 S1 hc1 (Qff h1) hi
 ·rintro σ1 H1 ⟨τ1,μ1,S1,d2,hc1,h1⟩
  rw [Yb4]at h1
  exact⟨it.stop H1 μ1 S1 hc1 h1.1,hq.nx _ _ _ _ (S0.trans S1) d2 hc1 h1.2⟩
 ·rintro i v σ1 H1 H2 hi ⟨τ1,μ1,S1,d2,hc1,h1⟩ y
  rw [Ybn hi]at h1
  obtain⟨hk,h1⟩:=h1
  obtain⟨S2,c2,rx⟩:=it.yld i H1 μ1 v H2 _ S1 hc1 hk (List.getElem?_eq_getElem hi) y
  refine⟨_,τ1,μ1,_,rx,d2.kp S2,c2,h1,fun τ3 μ3 σ3 H3 S3 hs3 hc3 h3=>⟨τ3,μ3,_,_,_,_,hs3,hc3,h3,?_⟩⟩
  have S:Kp H0 H3:=S1.trans (S2.trans S3)
  exact⟨fun τ' μ' σ' H' S' d0 c9 h'=>⟨τ',μ',S.trans S',d0,c9,h'⟩,hq.rt.kp (S0.trans S),hq.nx.kp (S0.trans S),fun τ' μ' σ' H' S' d0 c9 h'=>⟨τ',μ',S.trans S',d0,c9,h'⟩⟩
def VIfs(X:Cx)(dc:List Expr)(t:AT):Prop:=PIfs X dc (cT X.K t)
def Xz:AT:=λ_ μ R=>R true μ
theorem Br:VIfs X [] Xz:=λaa s σ H Q I zz65=>B9 zz65 fun τ μ R hs hc h hq=>Tl aa s σ H Q I (hq _ _ _ Kp.refl hc h)
theorem Uw{t:AT}(h:VT X a t):VIfs X [a] t:=Tm h
def cl(p:Addr)(g:AG)(tst:AT)(te:AE)(kp:M->Prop)(R:M->Prop):List AV->List AV->ASt->M->Prop
 | []=>λ_ _ μ=>kp μ/\R μ
 | x :: xs=>λah τ μ=>kp μ/\g x τ μ fun τ1 μ1=>tst τ1 μ1 λk μ2 =>
  brP k (te τ1 μ2 λv μ3=>μ3 p=some (.lst ah)/\ah.length < sizeLine/\cl p g tst te kp R xs (ah++[v]) τ1 (Aj μ3 p (.lst (ah++[v])))) (cl p g tst te kp R xs ah τ1 μ2)
def Ux(mp:List (Option Nat))(wi:AI)(g:AG)(tst:AT)(te:AE):AE:=fun τ μ R=>wi τ μ λxs kp μ1=>∀p,μ1 p=none->cl p g tst te kp (fun μ2=>R (.R p) μ2) xs [] (Qe0 mp τ) (Aj μ1 p (.lst []))
theorem Qfg{p:Addr}{g:AG}{tst:AT}{te:AE}{kp:M->Prop}{R:M->Prop}{xs ah:List AV}{τ:ASt}{μ:M}(h:cl p g tst te kp R xs ah τ μ):kp μ:=by
 cases xs with
 | nil=>exact h.1
 | cons x xs=>exact h.1
theorem K4{K:PySem.W.Frag}{mp:List (Option Nat)}{wi:AI}{g:AG}{tst:AT}{te:AE}{σ:St}{H:Hp}{Q:VK}(h:cE K (Ux mp wi g tst te) σ H Q):To mp (cI K wi) (cG K g) (cT K tst) (cE K te) σ H Q:=by
 obtain⟨τ,μ,R,hs,hc,h,hq⟩:=h
 refine⟨τ,μ,_,hs,hc,h,λxs kp μ0 J H0 S0 c0 it h0=>?_⟩
 intro p hp
 have h0:=h0 p (c0.none hp)
 have c0':Cn K (Aj μ0 p (.lst [])) (upd H0 p (.lst [])):=c0.new hp (C2 (.nil))
 have S0':Kp H0 (upd H0 p (.lst [])):=Kp.new hp _
 refine Xm xs.length (λi ah σ1 H1=>∃ τ1 μ1 as,Kp H0 H1/\C0 K H1 τ1 σ1/\Cn K μ1 H1/\Ax K H1 as ah/\cl p g tst te kp (fun μ2=>R (.R p) μ2) (xs.drop i) as τ1 μ1) ⟨_,_,[],S0',((hs.kp S0).kp S0').sub mp,c0',.nil,h0⟩ ?_ ?_ ?_
 ·rintro i ah σ1 H1 hi ⟨τ1,μ1,as,S1,d2,hc1,ra,h1⟩
  exact it.go i H1 μ1 S1 hc1 (Qfg h1) hi
 ·rintro ah σ1 H1 ⟨τ1,μ1,as,S1,d2,hc1,ra,h1⟩
  rw [Yb4]at h1
  exact⟨it.stop H1 μ1 S1 hc1 h1.1,hq _ _ _ _ (S0.trans S1) hc1 Em h1.2⟩
 ·rintro i v ah σ1 H1 H2 hi ⟨τ1,μ1,as,S1,d2,hc1,ra,h1⟩ y
  rw [Ybn hi]at h1
  obtain⟨hk,h1⟩:=h1
  obtain⟨S2,c2,rx⟩:=it.yld i H1 μ1 v H2 _ S1 hc1 hk (List.getElem?_eq_getElem hi) y
  refine⟨_,τ1,μ1,_,rx,d2.kp S2,c2,h1,fun τ3 μ3 σ3 H3 S3 hs3 hc3 h3=>⟨τ3,μ3,_,hs3,hc3,h3,λk μ4 H4 S4 c4 h4=>?_⟩⟩
  rcases br_e h4 with⟨rfl,h4'⟩ | ⟨rfl,h4'⟩
  ·rw [Yaw rfl]
   refine⟨τ3,μ4,_,hs3.kp S4,c4,h4',λw μ5 u H5 S5 c5 rw h5=>?_⟩
   obtain⟨e5,hl,h5⟩:=h5
   obtain⟨o,ho,vs,rfl,rs⟩:=c5 _ _ e5
   have S:Kp H1 H5:=S2.trans (S3.trans (S4.trans S5))
   exact⟨vs,ho,by rw [<- rs.length];exact hl,τ3,_,_,(S1.trans S).trans (Kp.put ho trivial _),(hs3.kp (S4.trans S5)).kp (Kp.put ho trivial _),c5.put ho trivial (C2 (rs.append (.cons rw .nil))),(rs.append (.cons rw .nil)).kp (Kp.put ho trivial _),h5⟩
  ·rw [Yar Yak]
   have S:Kp H1 H4:=S2.trans (S3.trans S4)
   exact⟨τ3,μ4,as,S1.trans S,hs3.kp S4,c4,ra.kp S,h4'⟩
variable {N':List Str}{mp:List (Option Nat)}{d6 ar:Expr}{dc:List Expr}{scope:Scope}{wi:AI}{g:AG}{tst:AT}{te:AE}
theorem Cm(hc:X.calm=true)(hi:VI X tg ar wi)(hg:∀C s H fp,VG (B0 X N' scope C s H fp) tg g)(ht:∀C s H fp,VIfs (B0 X N' scope C s H fp) dc tst)(he:∀C s H fp,VE (B0 X N' scope C s H fp) d6 te)
  (ok:CompOk X.N X.env.scope.names scope.names N' mp) (hk:scope.kind=.function:=by rfl) (hs:∀x,foldedSetIterable ar X.env x=pure x:=by intro _;rfl) :
  VE X (.ListComp d6 [⟨tg,ar,dc,0⟩] scope pos) (Ux mp wi g tst te):=(Xk (g:=cG X.K g) (tst:=cT X.K tst) (te:=cE X.K te) hc hi (λC s H fp=>hg C s H fp) (λC s H fp=>ht C s H fp) (λC s H fp=>he C s H fp) ok hk hs).imp λ_ _ _ h=>K4 h
theorem G3{i:Nat}{y:Str}{py iu:Pos}(hc:X.calm=true)(hN:X.N.Nodup)(wz:X.N[i]?=some y)(hy:X.env.scope.names.lookup y=some .local)
  (hi:VI X tg ar wi) (hg:∀C s H fp,VG (B0 X N' scope C s H fp) tg g) (ht:∀C s H fp,VIfs (B0 X N' scope C s H fp) dc tst) (he:∀C s H fp,VE (B0 X N' scope C s H fp) d6 te)
  (ok:CompOk X.N X.env.scope.names scope.names N' mp) (hsw:swapsWith (.ListComp d6 [⟨tg,ar,dc,0⟩] scope pos) (some (.Name y py)) iu.line X.env=pure true:=by rfl)
  (hk:scope.kind=.function:=by rfl) (hs:∀x,foldedSetIterable ar X.env x=pure x:=by intro _;rfl) :
  VS X (.Assign [.Name y py] (.ListComp d6 [⟨tg,ar,dc,0⟩] scope pos) iu) (Kc (Ux mp wi g tst te) (Ca i)):=(Xl (g:=cG X.K g) (tst:=cT X.K tst) (te:=cE X.K te) hc hN wz hy hi (λC s H fp=>hg C s H fp) (λC s H fp=>ht C s H fp) (λC s H fp=>he C s H fp) ok hsw hk hs).imp λD σ H zz66=>E4 zz66 fun τ μ nk nr nb nc hs hc h hq =>
 K4 (K:=X.K) ⟨τ,μ,_,hs,hc,h,λx μ1 v H1 S1 c1 rx hx=>hq.nx _ _ _ _ S1 ((hs.kp S1).set rx i) c1 hx⟩
end
section
variable {P:Program}{w:World}{K:PySem.W.Frag}{mg:Str->Option Value}{base:Heap}
def aNx(R:AV->M->Prop):ASt->M->Prop:=λ_ μ'=>∃ ν,Sub ν μ'/\R (.D .none) ν
def Wq(R:AV->M->Prop):AV->M->Prop:=λv μ'=>∃ ν,Sub ν μ'/\R v ν
def aNo:ASt->M->Prop:=λ_ _=>False
theorem Fun.vok{x qual:Str}{st:Stmt}{f:Addr}{fd:FuncData}{N ps:List Str}{k:Nat}{sp:ASp}(F:Fun K x qual st f fd)(S:FnScope N ps (Ai st))
  (cq:∀(aw:Value) (A:Around) (outer:List Env) (s:Shared) (H:Hp) (E:XK),Room k (A.deeper (envOfC qual (Ai st) s.heap.objs.size f aw)) ->
   ∃t,VSs (Ht Fh P w K mg base N qual (Ai st) f aw A outer s H E).nox (Bb st) t/\∀xs μ R,xs.length=ps.length->sp xs μ R->t (aNx R) (Wq R) aNo aNo (C3 N xs) μ):FnOk P w K mg base Fh (k+1) f fd ps (Ji K ps.length sp):=by
 refine F.ok S (λvs H Q E h=>?_) (λaw A outer s H vs Q E hr h=>?_)
 ·obtain⟨xs,μ,R,hl,rs,_⟩:=h
  rw [<- rs.length];exact hl
 ·obtain⟨xs,μ,R,hl,rs,hc,gl,hq⟩:=h
  obtain⟨t,ht,h⟩:=cq aw A outer s H E hr
  refine⟨_,ht,C3 N xs,μ,_,_,_,_,C0.begin rs,hc,h xs μ R hl gl,⟨fun τ μ' σ H' S' _ c zz67=>Ql zz67 fun ν hν r=>?_,λv μ' u H' S' c rv zz68=>Ql zz68 fun ν hν r=>?_,λ_ _ _ _ _ _ _ h=>h.elim,λ_ _ _ _ _ _ _ h=>h.elim⟩⟩
  ·exact hq _ _ _ _ S' (c.sub hν) Jc r
  ·exact hq _ _ _ _ S' (c.sub hν) rv r
end
section
variable {X:Cx}{a b c:Expr}{ta tb tc:AE}{pos:Pos}{tg:Expr}
def Qjd(t:AE):AI:=fun τ μ R=>t τ μ λx μ1=>opt (items μ1 x) λxs=>R xs (fun μ=>items μ x=some xs) μ1
theorem Cb(hl:VE X a ta):VI X tg a (Qjd ta):=by
 intro aa s σ H R I zz69
 refine B9 zz69 fun τ μ R' hs hc h hq=>?_
 refine thn (hl aa s σ H (λv H1=>∃x μ1 xs,Kp H H1/\Cn X.K μ1 H1/\RelA X.K H1 x v/\items μ1 x=some xs/\R' xs (fun μ=>items μ x=some xs) μ1) I ⟨τ,μ,_,hs,hc,h,λx μ1 v H1 S1 c1 rx hx=>?_⟩) λv s1 m6=>?_
 ·obtain⟨xs,e,hx⟩:=A6 hx
  exact⟨x,μ1,xs,S1,c1,rx,e,hx⟩
 obtain⟨xv,H1,I1,r1,x,μ1,xs,S1,c1,rx,e,hx⟩:=m6
 obtain⟨p,vs,rfl,hp,rs⟩:=Ci c1 rx e
 cases r1
 rcases hp with⟨k,hp⟩ | ⟨k,hp⟩
 ·obtain⟨ae,rv,pl,hz⟩:=I1.list hp
  refine wpAny_pyIter_list pl.isList ?_
  refine⟨s1.heap.objs.size,[s1.heap.objs.size],_,_,H1,rfl,I1.kept (t':=s1.toks) λb o e=>Heap.get?_push_of_some _ e,Qp p _,⟨_,Heap.get?_push_size _ rfl,rfl,rfl⟩,λb hb=>?_,hq _ _ _ _ _ S1 c1 (Ro λH μ S c k2=>?_) hx⟩
  ·have e:b=s1.heap.objs.size:=by simpa using hb
   subst e
   exact I1.fpOk (Yag _) (I1.hok.fresh (Yag _))
  ·obtain⟨q,ws,e,hw,rw⟩:=Ci c (rx.kp S) k2
   cases e
   rcases hw with⟨_,hw⟩ | ⟨k3,_⟩
   ·exact⟨ws,hw,rw⟩
   ·rw [k]at k3;cases k3
 ·obtain⟨ae,rv,pl,hz⟩:=I1.tuple hp
  refine Ydm (show s1.heap.IsTuple p ae.toArray from pl) ?_
  refine⟨s1.heap.objs.size,[s1.heap.objs.size],_,_,H1,rfl,I1.kept (t':=s1.toks) λb o e=>Heap.get?_push_of_some _ e,Nt p _,⟨_,Heap.get?_push_size _ rfl,rfl,rfl⟩,λb hb=>?_,hq _ _ _ _ _ S1 c1 (Uu λH μ S c k2=>?_) hx⟩
  ·have e:b=s1.heap.objs.size:=by simpa using hb
   subst e
   exact I1.fpOk (Yag _) (I1.hok.fresh (Yag _))
  ·obtain⟨q,ws,e,hw,rw⟩:=Ci c (rx.kp S) k2
   cases e
   rcases hw with⟨k3,_⟩ | ⟨_,hw⟩
   ·rw [k]at k3;cases k3
   ·exact⟨ws,hw,rw⟩
def Qje(t:AE):AE:=fun τ μ R=>t τ μ λx μ1=>match x with
 | .D (.int i)=>R (.D (.int (-i))) μ1
 | _=>False
theorem Qb5(h:VE X a ta):VE X (.UnaryOp .USub a pos) (Qje ta):=(Qd9 Qa4 h).imp fun σ H Q zz70=>B9 zz70 fun τ μ R hs hc h hq=>⟨τ,μ,_,hs,hc,h,λx μ1 v H1 S1 c1 rx hx=>by
 cases x with
 | D d =>
  cases d with
  | int i =>
   cases RelA.int rx
   exact⟨_,rfl,hq _ _ _ _ S1 c1 Cu hx⟩
  | _=>exact False.elim hx
 | _=>exact False.elim hx⟩
end
section
variable {c:AT}{g:AG}{tb:AS}{k:ASt->M->Prop}{r:AV->M->Prop}{bb cc:ASt->M->Prop}{tst:AT}{te:AE}
theorem X0{τ:ASt}{μ:M}(I:Nat->ASt->M->Prop)(m:Nat)(h0:I m τ μ)
  (step:∀m τ μ (W:ASt->M->Prop),I m τ μ->(∀m' τ' μ',m' < m->I m' τ' μ'->W τ' μ')->c τ μ λx μ1=>brP x (tb W r k W τ μ1) (k τ μ1)):∃n,wl c tb k r n τ μ:=by
 have fi:∀n m τ μ,m < n->I m τ μ->wl c tb k r n τ μ:=by
  intro n
  induction n with
  | zero=>intro m τ μ h _;omega
  | succ n ih=>intro m τ μ h hI;exact step m τ μ (wl c tb k r n) hI λm' τ' μ' hm hI'=>ih m' τ' μ' (by omega) hI'
 exact⟨m+1,fi (m+1) m τ μ (Yd7 _) h0⟩
theorem Ap{t u:AS}{τ:ASt}{μ:M}(J:ASt->M->Prop)(h1:∀W:ASt->M->Prop,(∀ τ' μ',J τ' μ'->W τ' μ')->t W r bb cc τ μ)(h2:∀ τ' μ',J τ' μ'->u k r bb cc τ' μ'):Up t u k r bb cc τ μ:=h1 (u k r bb cc) h2
theorem Cj{t u:AS}{τ:ASt}{μ:M}(h:t (u k r bb cc) r bb cc τ μ):Up t u k r bb cc τ μ:=h
theorem Qfh{x:AV}{i:Nat}{τ:ASt}{μ:M}(h:k (τ.set i (some x)) μ):Kc (vC x) (Ca i) k r bb cc τ μ:=h
theorem Ey{kp:M->Prop}{xs:List AV}{τ:ASt}{μ:M}(I:Nat->ASt->M->Prop)(h0:I 0 τ μ)(hk:∀i τ μ,I i τ μ->kp μ)
  (step:∀i x τ μ (W:ASt->M->Prop),xs[i]?=some x->I i τ μ->(∀ τ' μ',I (i+1) τ' μ'->W τ' μ')->g x τ μ fun τ2 μ2=>tb W r k W τ2 μ2)
  (done:∀ τ μ,I xs.length τ μ->k τ μ):fl g tb k r kp xs τ μ:=by
 have fi:∀n i τ μ,n+i=xs.length->I i τ μ->fl g tb k r kp (xs.drop i) τ μ:=by
  intro n
  induction n with
  | zero =>
   intro i τ μ h hI
   have e:i=xs.length:=by omega
   subst e
   rw [Yb4]
   exact⟨hk _ _ _ hI,done τ μ hI⟩
  | succ n ih =>
   intro i τ μ h hI
   have hi:i < xs.length:=by omega
   rw [Ybn hi]
   exact⟨hk _ _ _ hI,step i _ τ μ _ (List.getElem?_eq_getElem hi) hI fun τ' μ' q=>ih (i+1) τ' μ' (by omega) q⟩
 exact fi xs.length 0 τ μ rfl h0
theorem Hf{p:Addr}{kp:M->Prop}{R:M->Prop}{xs:List AV}{τ:ASt}{μ:M}(I:Nat->List AV->ASt->M->Prop)(h0:I 0 [] τ μ)(hk:∀i ah τ μ,I i ah τ μ->kp μ)
  (step:∀i x ah τ μ (W:List AV->ASt->M->Prop),xs[i]?=some x->I i ah τ μ->(∀be τ' μ',I (i+1) be τ' μ'->W be τ' μ')->g x τ μ fun τ1 μ1=>tst τ1 μ1 λk μ2 =>
   brP k (te τ1 μ2 λv μ3=>μ3 p=some (.lst ah)/\ah.length < sizeLine/\W (ah++[v]) τ1 (Aj μ3 p (.lst (ah++[v])))) (W ah τ1 μ2))
  (done:∀ah τ μ,I xs.length ah τ μ->R μ):cl p g tst te kp R xs [] τ μ:=by
 have fi:∀n i ah τ μ,n+i=xs.length->I i ah τ μ->cl p g tst te kp R (xs.drop i) ah τ μ:=by
  intro n
  induction n with
  | zero =>
   intro i ah τ μ h hI
   have e:i=xs.length:=by omega
   subst e
   rw [Yb4]
   exact⟨hk _ _ _ _ hI,done ah τ μ hI⟩
  | succ n ih =>
   intro i ah τ μ h hI
   have hi:i < xs.length:=by omega
   rw [Ybn hi]
   exact⟨hk _ _ _ _ hI,step i _ ah τ μ (λbe τ' μ'=>cl p g tst te kp R (xs.drop (i+1)) be τ' μ') (List.getElem?_eq_getElem hi) hI λbe τ' μ' q=>ih (i+1) be τ' μ' (by omega) q⟩
 exact fi xs.length 0 [] τ μ rfl h0
end
theorem A0{z:Str}(h:PyData.canLay0 (.str z)=true):B7 (.str z):=⟨h,by simp [PyData.depth]⟩
theorem Ck(i:Int):B7 (.int i):=⟨rfl,by simp [PyData.depth]⟩
theorem Fi(i j:Int):PyData.eqv (.int i) (.int j)=decide (i=j):=by
 rw [PyData.eqv];exact Yed.mpr (by simp)
theorem Dm(i j:Str):PyData.eqv (.str i) (.str j)=decide (i=j):=by
 rw [PyData.eqv];exact Yed.mpr (by simp)
theorem ieq{i j:Int}{T F:Prop}(h1:i=j->T)(h2:i≠j->F):B7 (.int i)/\B7 (.int j)/\brP (PyData.eqv (.int i) (.int j)) T F:=by
 refine⟨Ck _,Ck _,?_⟩
 rw [Fi]
 exact dif h1 h2
theorem Ak{μ:M}{p:Addr}{xs:List AV}(h:μ p=some (.lst xs)):items μ (.R p)=some xs:=by
 show(match μ p with | some (.lst xs)=>some xs | _=>none)=_
 rw [h]
def Er{κ:Type} [DecidableEq κ](kvs:List (κ×AV))(k:κ):Option AV:=(kvs.find? λkv=>decide (kv.1=k)).map (·.2)
def Hg{κ:Type} [DecidableEq κ](kvs:List (κ×AV))(k:κ)(v:AV):List (κ×AV) :=
 if(kvs.any λkv=>decide (kv.1=k))=true then kvs.map λkv=>if kv.1=k then(kv.1,v) else kv else kvs++[(k,v)]
def Jk:List PyData->Option (List Key)
 | []=>some []
 | d :: ds=>match Nc d,Jk ds with
  | some k,some ks=>some (k :: ks)
  | _,_=>none
def Pn(ds:List PyData):Option (List Key):=match Lit ds with
 | true=>none
 | false=>Jk ds
theorem Po{ds:List PyData}{ks:List Key}(h:Pn ds=some ks):Lit ds=false/\Jk ds=some ks:=by
 unfold Pn at h
 cases c:Lit ds with
 | true=>rw [c]at h;cases h
 | false=>rw [c]at h;exact⟨rfl,h⟩
theorem Wp.heap{K:PySem.W.Frag}{H:Hp}{a:Addr}{ds:List PyData}{xs:List V}(h:Wp K H a ds xs)(hl:Lit ds=false):H a=some (.tup xs):=by
 rcases h with h | h
 ·exact h
 ·rw [hl]at h;cases h.1
def dget(m:MO)(d:PyData):Option (Option AV):=match m with
 | .dk kvs=>(Nc d).map (Er kvs)
 | .dt kvs=>match d with
  | .tuple ds=>(Pn ds).map (Er kvs)
  | _=>none
 | .lst _=>none
 | .dd _=>none
def dput(m:MO)(d:PyData)(v:AV):Option MO:=match m with
 | .dk kvs=>(Nc d).map λk=>.dk (Hg kvs k v)
 | .dt kvs=>match d with
  | .tuple ds=>(Pn ds).map λk=>.dt (Hg kvs k v)
  | _=>none
 | .lst _=>none
 | .dd _=>none
def dsize:MO->Nat
 | .dk kvs=>kvs.length
 | .dt kvs=>kvs.length
 | .lst xs=>xs.length
 | .dd kvs=>kvs.length
section
variable {X:Cx}{K:PySem.W.Frag}{H:Hp}
def Pp(K:PySem.W.Frag)(H:Hp):Option AV->Option V->Prop
 | some x,some v=>RelA K H x v
 | none,none=>True
 | _,_=>False
theorem Ee.val{κ:Type} [DecidableEq κ]{kvs:List (κ×AV)}{vs:List (κ×V)}(h:Ee K H kvs vs)(k:κ):Pp K H (Er kvs k) (Gu vs k):=by
 unfold Ee at h
 induction h with
 | nil=>exact trivial
 | @cons p q l₁ l₂ r t ih =>
  obtain⟨p1,p2⟩:=p
  obtain⟨q1,q2⟩:=q
  obtain⟨e,r⟩:=r
  dsimp only at e
  subst e
  unfold Er Gu at ih ⊢
  by_cases hk:p1=k
  ·simp only [List.find?_cons,decide_eq_true hk];exact r
  ·simp only [List.find?_cons,decide_eq_false hk];exact ih
theorem Ee.put{κ:Type} [DecidableEq κ]{kvs:List (κ×AV)}{vs:List (κ×V)}(h:Ee K H kvs vs)(k:κ){x:AV}{v:V}(r:RelA K H x v):Ee K H (Hg kvs k x) (D8 vs k v):=by
 have hn:(kvs.any λkv=>decide (kv.1=k))=(vs.any λkv=>decide (kv.1=k)):=by
  unfold Ee at h
  induction h with
  | nil=>rfl
  | @cons p q l₁ l₂ rr t ih=>rw [Ycn,Ycn,ih,rr.1]
 have hm:Ee K H (kvs.map λkv=>if kv.1=k then(kv.1,x) else kv) (vs.map λkv=>if kv.1=k then(kv.1,v) else kv):=by
  clear hn
  unfold Ee at h ⊢
  induction h with
  | nil=>exact .nil
  | @cons p q l₁ l₂ rr t ih =>
   refine .cons ?_ ih
   obtain⟨e,rr⟩:=rr
   dsimp only
   by_cases hk:p.1=k
   ·rw [Yaw hk,Yaw (e ▸ hk)];exact⟨e,r⟩
   ·rw [Yar hk,Yar (e ▸ hk)];exact⟨e,rr⟩
 have ha:Ee K H (kvs++[(k,x)]) (vs++[(k,v)]):=by
  clear hn hm
  unfold Ee at h ⊢
  exact Paired.snoc h ⟨rfl,r⟩
 unfold Hg D8
 rw [hn]
 split
 ·exact hm
 ·exact ha
theorem Ma{d:PyData}{k:Key}{v:V}(h:Dk K H d v)(e:Nc d=some k):v=kV k:=by
 unfold Nc at e
 split at e
 ·cases e;exact h.int
 ·cases e;exact h.str
 ·cases e
theorem Jl:∀{ds:List PyData} {ks:List Key} {vs:List V},Aq K H ds vs->Jk ds=some ks->vs=ks.map kV
 | [],ks,vs,h,e=>by cases e;exact h.nil
 | d :: ds,ks,vs,h,e=>by
  obtain⟨x,r,rfl,h1,h2⟩:=h.cons
  simp only [Jk]at e
  split at e
  ·rename_i k ks' e1 e2
   cases e
   rw [Ma h1 e1,Jl h2 e2];rfl
  ·cases e
theorem Mb{μ:M}{a:Addr}{m:MO}{d:PyData}{v:V}{o:Option AV}(hc:Cn K μ H)(hm:μ a=some m)(hd:Dk K H d v)(e:dget m d=some o):∃r,DGet H a v r/\Pp K H o r:=by
 obtain⟨ob,ho,rm⟩:=hc a m hm
 unfold dget at e
 split at e
 ·obtain⟨k,ek,rfl⟩:=Yax.mp e
  obtain⟨vs,rfl,rs⟩:=rm
  rw [Ma hd ek]
  exact⟨_,DGet.k ho,rs.val k⟩
 ·split at e
  ·obtain⟨ks,ek,rfl⟩:=Yax.mp e
   obtain⟨vs,rfl,rs⟩:=rm
   obtain⟨b,xs,rfl,hb,hx⟩:=hd.tup
   obtain⟨e0,ek⟩:=Po ek
   have hb:=hb.heap e0
   rw [Jl hx ek]at hb
   exact⟨_,DGet.t ho hb,rs.val ks⟩
  ·cases e
 ·cases e
 ·cases e
theorem X1{μ:M}{a:Addr}{m m':MO}{d:PyData}{v w:V}{x:AV}(hc:Cn K μ H)(hm:μ a=some m)(hd:Dk K H d v)(hx:RelA K H x w)(e:dput m d x=some m')(hs:dsize m < sizeLine):∃H',DPut H a v w H'/\Kp H H'/\Cn K (Aj μ a m') H':=by
 obtain⟨ob,ho,rm⟩:=hc a m hm
 unfold dput at e
 split at e
 ·obtain⟨k,ek,rfl⟩:=Yax.mp e
  obtain⟨vs,rfl,rs⟩:=rm
  rw [Ma hd ek]
  exact⟨_,DPut.k ho (by rw [<- Yc5 rs];exact hs),Kp.put ho trivial _,hc.put ho trivial ⟨_,rfl,rs.put k hx⟩⟩
 ·split at e
  ·obtain⟨ks,ek,rfl⟩:=Yax.mp e
   obtain⟨vs,rfl,rs⟩:=rm
   obtain⟨b,xs,rfl,hb,gh⟩:=hd.tup
   obtain⟨e0,ek⟩:=Po ek
   have hb:=hb.heap e0
   rw [Jl gh ek]at hb
   exact⟨_,DPut.t ho hb (by rw [<- Yc5 rs];exact hs),Kp.put ho trivial _,hc.put ho trivial ⟨_,rfl,rs.put ks hx⟩⟩
  ·cases e
 ·cases e
 ·cases e
variable {o i e value:Expr}{pos bu:Pos}{td ty tv tx:AE}
def Qfi(td ty:AE):AE:=fun τ μ R=>td τ μ λx μ1=>ty τ μ1 λy μ2=>match x,y with
 | .R a,.D d=>opt (μ2 a) λm=>opt (dget m d) λr=>opt r λv=>R v μ2
 | _,_=>False
theorem Cy(hu:X.A.units+1 < cLine)(ho:VE X o td)(hi:VE X i ty)(hs:Qbe i:=by intro _ _;rfl):VE X (.Subscript o i pos) (Qfi td ty):=(Xf hu ho hi hs).imp fun σ H Q zz71=>B9 zz71 fun τ μ R hs hc h hq =>
 ⟨τ,μ,_,hs,hc,h,λx μ1 v H1 S1 c1 rx hx=>⟨τ,μ1,_,hs.kp S1,c1,hx,λy μ2 u H2 S2 c2 ry hy=>by
  split at hy
  ·obtain⟨m,em,hy⟩:=A6 hy
   obtain⟨r,er,hy⟩:=A6 hy
   obtain⟨w,rfl,hy2⟩:=A6 hy
   obtain⟨r',g,ro⟩:=Mb c2 em ry er
   cases r' with
   | none=>exact ro.elim
   | some z=>exact⟨_,z,(rx.kp S2).ref,g,hq _ _ _ _ (S1.trans S2) c2 ro hy2⟩
  ·exact hy.elim⟩⟩
def Uy(nb:Bool->Bool)(ty td:AE):AE:=fun τ μ R=>ty τ μ λy μ1=>td τ μ1 λx μ2=>match x,y with
 | .R a,.D d=>opt (μ2 a) λm=>opt (dget m d) λr=>R (.D (.bool (nb r.isSome))) μ2
 | _,_=>False
theorem Pp.some{o:Option AV}{r:Option V}(h:Pp K H o r):o.isSome=r.isSome:=by
 cases o <;> cases r <;> first | rfl | exact h.elim
theorem Nh{K:PySem.W.Frag}{σ:St}{H:Hp}{Q:VK}(h:cE K (Uy (λb=>b) ty td) σ H Q):Qeq (cE K ty) (cE K td) σ H Q:=by
 obtain⟨τ,μ,R,hs,hc,h,hq⟩:=h
 refine⟨τ,μ,_,hs,hc,h,λy μ1 v H1 S1 c1 ry hx=>⟨τ,μ1,_,hs.kp S1,c1,hx,λx μ2 u H2 S2 c2 rx hy=>?_⟩⟩
 split at hy
 ·obtain⟨m,em,hy⟩:=A6 hy
  obtain⟨r,er,hy⟩:=A6 hy
  obtain⟨r',g,ro⟩:=Mb c2 em (ry.kp S2) er
  refine⟨_,r',rx.ref,g,hq _ _ _ _ (S1.trans S2) c2 ?_ hy⟩
  rw [ro.some];exact Cv
 ·exact hy.elim
theorem Ni{K:PySem.W.Frag}{σ:St}{H:Hp}{Q:VK}(h:cE K (Uy (λb=>!b) ty td) σ H Q):Pb (cE K ty) (cE K td) σ H Q:=by
 obtain⟨τ,μ,R,hs,hc,h,hq⟩:=h
 refine⟨τ,μ,_,hs,hc,h,λy μ1 v H1 S1 c1 ry hx=>⟨τ,μ1,_,hs.kp S1,c1,hx,λx μ2 u H2 S2 c2 rx hy=>?_⟩⟩
 split at hy
 ·obtain⟨m,em,hy⟩:=A6 hy
  obtain⟨r,er,hy⟩:=A6 hy
  obtain⟨r',g,ro⟩:=Mb c2 em (ry.kp S2) er
  refine⟨_,r',rx.ref,g,hq _ _ _ _ (S1.trans S2) c2 ?_ hy⟩
  rw [ro.some];exact Cv
 ·exact hy.elim
theorem Qb6(hu:X.A.units+1 < cLine)(hi:VE X i ty)(ho:VE X o td)(h1:behindInMarks .In o=false:=by rfl):VE X (.Compare i [.In] [o] pos) (Uy (λb=>b) ty td):=(Qak (Tg hu hi ho) h1).imp λ_ _ _ h=>Nh h
theorem Uz(hu:X.A.units+1 < cLine)(hi:VE X i ty)(ho:VE X o td)(h1:behindInMarks .In o=false:=by rfl):VT X (.Compare i [.In] [o] pos) (K1 (Uy (λb=>b) ty td)):=(Sj (Tg hu hi ho) h1).imp λ_ _ _ h=>Ef (λ_ _ _ q=>Nh q) h
theorem K5(hu:X.A.units+1 < cLine)(hi:VE X i ty)(ho:VE X o td)(h1:behindInMarks .NotIn o=false:=by rfl):VT X (.Compare i [.NotIn] [o] pos) (K1 (Uy (λb=>!b) ty td)):=(Sj (Q0 hu hi ho) h1).imp λ_ _ _ h=>Ef (λ_ _ _ q=>Ni q) h
def Qfj(td ty tv:AE):AS:=λk _ _ _ τ μ=>tv τ μ λv μ1=>td τ μ1 λx μ2=>ty τ μ2 λy μ3=>match x,y with
 | .R a,.D d=>opt (μ3 a) λm=>opt (dput m d v) λm'=>dsize m < sizeLine/\k τ (Aj μ3 a m')
 | _,_=>False
theorem Fj(hu:X.A.units+1 < cLine)(ho:VE X o td)(hi:VE X i ty)(hv:VE X value tv)(hs:swapsWith value (some (.Subscript o i bu)) pos.line X.env=pure false:=by rfl):VS X (.Assign [.Subscript o i bu] value pos) (Qfj td ty tv):=(Xg hu ho hi hv hs).imp λD σ H zz72=>E4 zz72 fun τ μ nk nr nb nc hs hc h hq =>
 ⟨τ,μ,_,hs,hc,h,λv μ1 vv H1 S1 c1 rv h1=>⟨τ,μ1,_,hs.kp S1,c1,h1,λx μ2 xv H2 S2 c2 rx h2=>⟨τ,μ2,_,hs.kp (S1.trans S2),c2,h2,λy μ3 yv H3 S3 c3 ry h3=>by
  split at h3
  ·obtain⟨m,em,h3⟩:=A6 h3
   obtain⟨m',em',h3⟩:=A6 h3
   obtain⟨H4,g,S4,c4⟩:=X1 c3 em ry (rv.kp (S2.trans S3)) em' h3.1
   have S:=S1.trans (S2.trans (S3.trans S4))
   exact⟨_,H4,(rx.kp S3).ref,g,hq.nx _ _ _ _ S (hs.kp S) c4 h3.2⟩
  ·exact h3.elim⟩⟩⟩
def Qb7:AE:=λ_ μ R=>∀p,μ p=none->R (.R p) (Aj μ p (.dk []))
theorem U0{kvs:List (Key×AV)}{vs:List (Key×V)}(h:Ee K H kvs vs):Kb K H (.dk kvs) (.dK vs):=⟨vs,rfl,h⟩
theorem Jm:VE X (.Dict [] [] pos) Qb7:=Th.imp fun σ H Q zz73=>B9 zz73 fun τ μ R hs hc h hq=>λp hp=>hq _ _ _ _ (Kp.new hp _) (hc.new hp (U0 .nil)) Em (h p (hc.none hp))
end
end L2
namespace L2
theorem Eg{α:Type}{us:List α}{n:Nat}(h:us.length=n+1):∃a t,us=a :: t/\t.length=n:=match us,h with | a :: t,h=>⟨a,t,rfl,Nat.succ.inj h⟩
theorem Pq{α:Type}{us:List α}(h:us.length=1):∃a,us=[a]:=by
 obtain⟨a,t,rfl,h2⟩:=Eg h
 rw [Yct h2];exact⟨a,rfl⟩
theorem Qhn{α:Type}{us:List α}(h:us.length=2):∃a b,us=[a,b]:=by
 obtain⟨a,t,rfl,h2⟩:=Eg h
 obtain⟨b,rfl⟩:=Pq h2
 exact⟨a,b,rfl⟩
open PySem PySem.Spec PySem.Calls PyProof.Rows
abbrev AX:=Addr->List (Str×PyData)->M->Prop
def XFx(K:PySem.W.Frag)(H:Hp)(d:Option Addr)(fs:List (Str×PyData)):Prop:=match d with
 | none=>fs=[]
 | some d=>∃kvs,H d=some (XD d kvs)/\Hv K H fs kvs
def EK(K:PySem.W.Frag)(EX:AX):XK:=λc oa H=>∃a C fs μ d,c=.ref C/\oa=some a/\H a=some (XR a C d)/\XFx K H d fs/\Cn K μ H/\EX C fs μ
def XA(X:Cx)(EX:AX):Prop:=Rj X (EK X.K EX)
section
variable {K:PySem.W.Frag}{H H':Hp}
theorem Kp.ext{p:Addr}{φ:Heap->Prop}(h:H p=some (.ext φ))(o:HO):Kp H (upd H p o) :=
 ⟨λb xs e=>by rw [Az (Mq e h (by intro z;cases z))];exact e,λb o' u e=>by rw [Az (Mq e h (by intro z;cases z))];exact e⟩
theorem Cn.ext{μ:M}{p:Addr}{φ:Heap->Prop}(c:Cn K μ H)(h:H p=some (.ext φ))(o:HO):Cn K μ (upd H p o):=λb m e=>by
 obtain⟨o',q,r⟩:=c b m e
 refine⟨o',?_,r.kp (Kp.ext h o)⟩
 rw [Az]
 ·exact q
 ·rintro rfl
  rw [h]at q;cases q
  exact r.mt
theorem Kp.same(k:∀b o,H b=some o->H' b=some o):Kp H H':=⟨λb _ e=>k b _ e,λb _ _ e=>k b _ e⟩
theorem Cn.same{μ:M}(c:Cn K μ H)(k:∀b o,H b=some o->H' b=some o):Cn K μ H':=λb m e=>by
 obtain⟨o',q,r⟩:=c b m e
 exact⟨o',k b o' q,r.kp (Kp.same k)⟩
theorem Hv.zip:∀(ff:List Str) {ds:List PyData} {vs:List V},Aq K H ds vs->Hv K H (ff.zip ds) (ff.zip vs)
 | [],_,_,_=>.nil
 | _ :: _,[],_,h=>by rw [h.nil];exact .nil
 | f :: ff,_ :: ds,_,h=>by
  obtain⟨x,r,rfl,h1,h2⟩:=h.cons
  exact .cons ⟨rfl,h1⟩ (Hv.zip ff h2)
theorem Hv.lookup{f:Str}{d:PyData}{fs:List (Str×PyData)}{vs:List (Str×V)}(h:Hv K H fs vs)(e:fs.lookup f=some d):∃v,vs.lookup f=some v/\Dk K H d v:=by
 unfold Hv at h
 induction h with
 | nil=>cases e
 | @cons p q l1 l2 r t ih =>
  obtain⟨g,d'⟩:=p
  obtain⟨g',v'⟩:=q
  obtain⟨r1,r2⟩:=r
  dsimp only at r1 r2
  subst r1
  rw [Yd6]at e ⊢
  split at e
  ·cases e
   exact⟨v',rfl,r2⟩
  ·exact ih e
end
section
variable {X:Cx}{aa:List (Addr×Obj)}{σ:St}{H:Hp}{s:Shared}
theorem Inv.freeze{a C:Addr}{d:Option Addr}{fs:List (Str×PyData)}{μ:M}(I:Inv X aa σ H s)(q:H a=some (XR a C d))(f:XFx X.K H d fs)(c:Cn X.K μ H) :
  ∃H',Inv X aa σ H' s/\RelA X.K H' (.X C fs) (.ref a)/\Cn X.K μ H':=by
 obtain⟨vs,hg,h6⟩:=Uc I.hok q
 have I1:Inv X aa σ (upd H a (.frz _ (XR a C d))) s:=I.retype q ⟨hg,Ub hg h6⟩
 have c1:=c.ext q (.frz ⟨.ref C,d,.fields vs,#[]⟩ (XR a C d))
 have S1:=Kp.ext q (.frz ⟨.ref C,d,.fields vs,#[]⟩ (XR a C d))
 cases d with
 | none=>exact⟨_,I1,⟨a,_,none,rfl,Bc,f⟩,c1⟩
 | some dx =>
  obtain⟨kvs,qd,r⟩:=f
  obtain⟨mA,N,hr,wi⟩:=Qbl I.hok qd
  obtain⟨od,hod,_⟩:=Kj N
  have ne:dx≠a:=by
   rintro rfl
   obtain⟨o,es,ep,g,hd,_⟩:=N
   rw [hg]at g
   cases g
   cases hd
  have zp:upd H a (.frz ⟨.ref C,some dx,.fields vs,#[]⟩ (XR a C (some dx))) dx=some (XD dx kvs):=by rw [Az ne];exact qd
  refine⟨_,I1.retype (o:=.frz od (XD dx kvs)) zp ⟨hod,Ty N hr wi⟩,⟨a,⟨.ref C,some dx,.fields vs,#[]⟩,some dx,rfl,?_,od,kvs,Bc,(r.kp S1).kp (Kp.ext zp _)⟩,c1.ext zp _⟩
  rw [Az (Ydc ne)]
  exact Bc
theorem xinst{a C:Addr}{fs:List (Str×PyData)}(I:Inv X aa σ H s)(r:RelA X.K H (.X C fs) (.ref a)) :
  ∃ox od,PySem.W.InstAt s.heap a ox C od/\∀f d,fs.lookup f=some d->∃kz u v,od=some kz/\PySem.W.lookIn f kz=some (some u)/\Bh v u/\Dk X.K H d v:=by
 obtain⟨a',o,d,e,q,f⟩:=r
 cases e
 obtain⟨g1,⟨vs,hg,h6⟩,_⟩:=(show Bn X.prog X.w H s.heap a (.frz o (XR a C d)) from I.hok a _ q)
 cases d with
 | none =>
  refine⟨_,none,⟨hg,rfl,rfl,trivial⟩,λf' d' e=>?_⟩
  rw [show fs=[] from f]at e
  cases e
 | some dx =>
  obtain⟨od,kvs,qd,rf⟩:=f
  obtain⟨_,⟨mA,N,hr,wi⟩,_⟩:=(show Bn X.prog X.w H s.heap dx (.frz od (XD dx kvs)) from I.hok dx _ qd)
  obtain⟨kz,ho,hl⟩:=Kj N
  refine⟨_,some kz,⟨hg,rfl,rfl,ho⟩,λf' d' e=>?_⟩
  obtain⟨v,ev,rv⟩:=rf.lookup e
  obtain⟨u,hu,ru⟩:=Fs.some_of (v:=v) (o:=mA f') (by rw [<- ev];exact hr f')
  exact⟨kz,u,v,rfl,by rw [hl,hu],ru,rv⟩
end
def spI(C:Addr)(ff:List Str):Sp:=λvs H Q _=>∃(e t:Addr) (ys:List V),vs=.ref e :: ys/\ys.length=ff.length/\H e=some (XO e C t none) /\
 ∀H2 t' dx,(∀b o,b≠e->H b=some o->H2 b=some o)->H2 e=some (XO e C t' (some dx))->H2 dx=some (XD dx (ff.zip ys))->dx≠e->Q .non H2
def XCal(P:Program)(w:World)(K:PySem.W.Frag)(mg:Str->Option Value)(base:Heap)(k:Nat)(x:Str)(C:Addr)(ff:List Str):Prop :=
 ∃f fd ps,FnOk P w K mg base Fh k f fd ps (spI C ff)/\Binds K fd ps []/\XMk K C f/\mg x=some (.ref C)/\PySem.W.mroIn K C (.type "BaseException")=some true
def Qb8(EX:AX)(C:Addr)(ff:List Str)(t:AA):AS:=λ_ _ _ _ τ μ=>t τ μ λxs μ1=>opt (dats xs) λds=>ds.length=ff.length/\EX C (ff.zip ds) μ1
section
variable {X:Cx}{x:Str}{p pos bu:Pos}{e:Expr}{es:List Expr}{t:AA}{k:Nat}{C:Addr}{ff:List Str}{EX:AX}
theorem U1(F:XCal X.prog X.w X.K X.mg X.base k x C ff)(hr:Room (k+1) X.A)(hc:X.calm=true)(hx:XA X EX)(hg:Gl X x)(ha:VA X (e :: es) t)(hn:(e :: es).length<=1000:=by decide)(hdb:(x==("__debug__" : Str))=false:=by decide)
  (bg:starEach (e :: es) X.env=(false,eval e X.env) :: starEach es X.env:=by rfl) (hpl:(backTo pos (starEach es X.env)).any (·.1)=false:=by rfl):VS X (.Raise (some (.Call (.Name x p) (e :: es) [] pos)) none bu) (Qb8 EX C ff t):=by
 obtain⟨f,fd,ps,G,gb,mk,gm,mr⟩:=F
 refine PS.imp (Ud hc hx (Tz (E:=E0) mk G hr hg gm gb Y0 ha hdb bg hpl)) λD σ H zz75=>E4 zz75 fun τ μ nk nr nb nc hs hc h hq=>?_
 refine⟨τ,μ,_,hs,hc,h,λxs μ1 vs H1 S1 c1 rs hl hx=>⟨by rw [<- rs.length,hl];exact hn,λa tp ha=>?_⟩⟩
 obtain⟨ds,ed,el,hE⟩:=A6 hx
 have dk:=rs.dats ed
 refine⟨a,tp,vs,rfl,by rw [dk.length];exact el,Bc,λH2 t' dx keep q1 q2 ne=>⟨rfl,a,C,t',some dx,rfl,q1,mk.xc,mr,?_⟩⟩
 have kk:∀b o,H1 b=some o->upd H2 a (XR a C (some dx)) b=some o:=λb o q=>by
  have hb:b≠a:=by rintro rfl;rw [ha]at q;cases q
  rw [Az hb]
  exact keep b o hb (by rw [Az hb];exact q)
 exact⟨a,C,ff.zip ds,μ1,some dx,rfl,rfl,Bc,⟨_,by rw [Az ne];exact q2,(Hv.zip ff dk).kp (Kp.same kk)⟩,c1.same kk,hE⟩
end
abbrev Og:=List AV->M->(AV->M->Prop)->AX->Prop
def Qb9(K:PySem.W.Frag)(n:Nat)(sp:Og):Sp:=λvs H Q E=>∃xs μ R EX,xs.length=n/\Ax K H xs vs/\Cn K μ H/\sp xs μ R EX/\LV K H R Q/\∀c a H',EK K EX c a H'->E c a H'
def K6(P:Program)(w:World)(K:PySem.W.Frag)(mg:Str->Option Value)(base:Heap)(k:Nat)(x:Str)(ps:List Str)(sp:Og):Prop :=
 ∃g gd,FnOk P w K mg base (Y2 P w) k g gd ps (Qb9 K ps.length sp)/\Binds K gd ps []/\PySem.W.keepIn K (.ref g)=true/\mg x=some (.ref g)
theorem K6.mono{P:Program}{w:World}{K:PySem.W.Frag}{mg:Str->Option Value}{base:Heap}{n m:Nat}{x:Str}{ps:List Str}{sp:Og}(c:K6 P w K mg base n x ps sp)(h:n<=m):K6 P w K mg base m x ps sp :=
 let⟨g,gd,G,r⟩:=c;⟨g,gd,G.mono h,r⟩
def Qca(sp:Og)(EX:AX)(t:AA):AE:=fun τ μ R=>t τ μ λxs μ1=>sp xs μ1 R EX
section
variable {X:Cx}{x:Str}{p pos:Pos}{e:Expr}{es:List Expr}{t:AA}{k:Nat}{ps:List Str}{sp:Og}{EX:AX}
theorem U2(F:K6 X.prog X.w X.K X.mg X.base k x ps sp)(hr:Room k X.A)(hx:XA X EX)(hg:Gl X x)(ha:VA X (e :: es) t)(hl:(e :: es).length=ps.length:=by rfl)(hdb:(x==("__debug__" : Str))=false:=by decide)
  (bg:starEach (e :: es) X.env=(false,eval e X.env) :: starEach es X.env:=by rfl) (hpl:(backTo pos (starEach es X.env)).any (·.1)=false:=by rfl):VE X (.Call (.Name x p) (e :: es) [] pos) (Qca sp EX t):=by
 obtain⟨g,gd,G,gb,gk,gm⟩:=F
 refine PE.imp (O6 (E:=EK X.K EX) G hr hg gm gk gb .nil (Rj.passes hx λ_ _ _ q=>q) ha (hdb:=hdb) (he:=bg) (hpl:=hpl)) fun σ H Q zz76=>B9 zz76 fun τ μ R hs hc h hq=>?_
 exact⟨τ,μ,_,hs,hc,h,λxs μ1 vs H1 S1 c1 rs hn hx=>⟨xs,μ1,R,EX,hn.trans hl,by rw [Ybi];exact rs,c1,hx,hq.kp S1,λ_ _ _ q=>q⟩⟩
end
def upX(EX:AX):AX:=λC fs μ=>∃ ν,Sub ν μ/\EX C fs ν
theorem XA.up{X:Cx}{EX:AX}(h:XA X EX):XA X (upX EX):=by
 intro aa σ H s a C d vs I q R z
 refine h aa σ H s a C d vs I q R ?_
 obtain⟨a',C',fs,_,d',e1,e2,e3,e4,e5,ν,hν,e6⟩:=z
 exact⟨a',C',fs,ν,d',e1,e2,e3,e4,e5.sub hν,e6⟩
section
variable {P:Program}{w:World}{K:PySem.W.Frag}{mg:Str->Option Value}{base:Heap}
theorem Fun.vokX{x qual:Str}{st:Stmt}{f:Addr}{fd:FuncData}{N ps:List Str}{k:Nat}{sp:Og}(F:Fun K x qual st f fd)(S:FnScope N ps (Ai st))
  (cq:∀(aw:Value) (A:Around) (outer:List Env) (s:Shared) (H:Hp) (E:XK) (EX:AX),Room k (A.deeper (envOfC qual (Ai st) s.heap.objs.size f aw))->XA (Ht (Y2 P w) P w K mg base N qual (Ai st) f aw A outer s H E) (upX EX) ->
   ∃t,VSs (Ht (Y2 P w) P w K mg base N qual (Ai st) f aw A outer s H E) (Bb st) t/\∀xs μ R,xs.length=ps.length->sp xs μ R EX->t (aNx R) (Wq R) aNo aNo (C3 N xs) μ):FnOk P w K mg base (Y2 P w) (k+1) f fd ps (Qb9 K ps.length sp):=by
 obtain⟨oc,od,kV,d7,pm,an,aw,ct,jf,rfl,lk,d9⟩:=F.ex
 refine Yy lk d9 S (λvs H Q E h=>?_) λA outer s H vs Q E hr h=>?_
 ·obtain⟨xs,μ,R,EX,hl,rs,_⟩:=h
  rw [<- rs.length];exact hl
 ·obtain⟨xs,μ,R,EX,hl,rs,hc,gl,hq,hE⟩:=h
  have hXA:XA (Ht (Y2 P w) P w K mg base N qual (Ai st) f aw A outer s H E) EX:=λaa σ H1 s1 a C d vs I q R h=>Xs aa σ H1 s1 a C d vs I q R (hE _ _ _ h)
  obtain⟨t,ht,h⟩:=cq aw A outer s H E EX hr hXA.up
  refine⟨_,ht,C3 N xs,μ,_,_,_,_,C0.begin rs,hc,h xs μ R hl gl,⟨fun τ μ' σ H' S' _ c zz77=>Ql zz77 fun ν hν r=>?_,λv μ' u H' S' c rv zz78=>Ql zz78 fun ν hν r=>?_,λ_ _ _ _ _ _ _ h=>h.elim,λ_ _ _ _ _ _ _ h=>h.elim⟩⟩
  ·exact hq _ _ _ _ S' (c.sub hν) Jc r
  ·exact hq _ _ _ _ S' (c.sub hν) rv r
end
def cS0(K:PySem.W.Frag)(H0:Hp)(t:AS):TS:=λD σ H=>∃ τ μ k r b c,C0 K H τ σ/\Cn K μ H/\t k r b c τ μ/\LE' K H0 k r b c D
def VS0(X:Cx)(st:Stmt)(t:AS):Prop:=PS X st (cS0 X.K X.H₀ t)
def X2(X:Cx)(st:List Stmt)(t:AS):Prop:=PSs X st (cS0 X.K X.H₀ t)
section
variable {X:Cx}{aa:List (Addr×Obj)}{σ:St}{H:Hp}{s:Shared}{st:Stmt}{rest:List Stmt}{t s1 s2:AS}
theorem Inv.kp0(I:Inv X aa σ H s):Kp X.H₀ H:=⟨I.base.tups,I.base.frzs⟩
theorem VS.z(h:VS X st t):VS0 X st t:=λaa s σ H D I zz79=>E4 zz79 fun τ μ k r b c hs hc h' hq=>h aa s σ H D I ⟨τ,μ,k,r,b,c,hs,hc,h',hq.kp I.kp0⟩
theorem K7(h1:VS0 X st s1)(h2:X2 X rest s2):X2 X (st :: rest) (Up s1 s2):=(Mr h1 h2).imp λD σ H zz81=>E4 zz81 fun τ μ nk nr nb nc hs hc h hq =>
 ⟨τ,μ,_,_,_,_,hs,hc,h,⟨fun τ' μ' σ' H' S' d0 c9 h'=>⟨τ',μ',nk,nr,nb,nc,d0,c9,h',hq⟩,hq.rt,hq.bk,hq.ct⟩⟩
theorem U3(h1:VS0 X st s1):X2 X [st] s1:=Lm h1
def Qjf(K:PySem.W.Frag)(m i:Nat)(Dc:Addr)(tb:AX->AS)(th:AS):AS:=λk r b c τ μ =>
 tb (λC fs μ'=>PySem.W.mroIn K C (.ref Dc)=some true/\th (fun τ1 μ1=>k (τ1.set i none) μ1) r (fun τ1 μ1=>b (τ1.set i none) μ1) (fun τ1 μ1=>c (τ1.set i none) μ1) ((List.replicate m none).set i (some (.X C fs))) μ') k r b c τ μ
theorem C0.blank:∀(σ:St),C0 X.K H (List.replicate σ.length none) σ
 | []=>.nil
 | _ :: σ=>.cons Eo (C0.blank σ)
theorem C0.unset2{K:PySem.W.Frag}:∀{τ:ASt} {σ:St} (i:Nat),C0 K H τ σ->C0 K H (τ.set i none) (σ.set i none)
 | _,_,_,.nil=>.nil
 | _,_,0,.cons _ t=>.cons Eo t
 | _,_,i+1,.cons q t=>.cons q (C0.unset2 i t)
theorem X3{body suite:List Stmt}{b₀:Stmt}{x n:Str}{p p2 pos:Pos}{i:Nat}{Dc:Addr}{tb:AX->AS}{th:AS}(hb:∀xe pn EX,XA (X.taking xe pn) EX->VSs (X.taking xe pn) body (tb EX))(hh:∀e,VSs (X.suite e) (b₀ :: suite) th)
  (hg:Gl X x) (hm:X.mg x=some (.ref Dc)) (hD:Gh X.K Dc=true) (hB:PySem.W.mroIn X.K Dc (.type "BaseException")=some true) (bg:X.stack=X.env :: X.outer) (gu:X.env.frame=some X.env.locals)
  (hN:X.N.Nodup) (hi:X.N[i]?=some n) (hk:X.env.scope.names.lookup n=some .local) (hdb:(x==("__debug__" : Str))=false:=by decide) :
  VS0 X (.Try body [.ExceptHandler (some (.Name x p)) (some n) (b₀ :: suite) p2] [] [] pos) (Qjf X.K X.N.length i Dc tb th):=by
 intro aa s σ H D I zz82
 refine E4 zz82 fun τ μ nk nr nb nc hs hc h hq=>?_
 refine wpAny_Try_except ?_
 have ok:=I.ok
 generalize hxe:(λ(e:Value) (s₁:Shared)=>wpAny (model X.prog X.w) X.A (noteFrame e X.env) (λ_ s₂=>wpAny (model X.prog X.w) X.A (setFlight e none) (λ_ s₃ =>
  wpAny (model X.prog X.w) X.A (handleBy e X.env [.ExceptHandler (some (.Name x p)) (some n) (b₀ :: suite) p2]) (SP X aa D) X.xe s₃) X.xe s₂) X.xe s₁)=xe
 have hXA:XA (X.taking xe (X.pn++aa)) (λC fs μ'=>PySem.W.mroIn X.K C (.ref Dc)=some true/\th (fun τ1 μ1=>nk (τ1.set i none) μ1) nr (fun τ1 μ1=>nb (τ1.set i none) μ1) (fun τ1 μ1=>nc (τ1.set i none) μ1) ((List.replicate X.N.length none).set i (some (.X C fs))) μ'):=by
  rintro fc σ' H' s' a C d vs I1 hx R ⟨a',C',fs,μ',d',ec,ea,_,hf,c9,hmro,hth⟩
  cases ec;cases ea
  show xe (.ref a) s'
  rw [<- hxe]
  have J0:Inv X aa σ' H' s':=I1.untake ok
  rename_i ig
  have dd:d'=d:=by
   obtain⟨fq,g1,_⟩:=Uc J0.hok ig
   have:=R.at_.symm.trans g1
   cases this
   rfl
  subst dd
  refine Rk (base:=X.base) (outer:=X.outer) (L:=X.env.locals) (by rw [<- bg];exact ok.frames) (by rw [<- bg];exact J0.stack) gu R λh' L=>?_
  have J:=J0.left hx (by rw [bg];exact L)
  obtain⟨fq,R',_⟩:=L.rc
  refine wpAny_handleBy_cons (codeAny_handlers_test ?_) (by intro q;cases q)
  refine Gs (X:=X.suite a) J.suite hg hm ?_ hdb
  refine M7 (K:=X.K) J.kIn hD R'.at_ hB hmro ?_
  refine codeAny_handlers_suite_as ?_
  refine Rm R' λh2 k2=>?_
  have J2:Inv X aa σ' H' { s' with heap:=h2 }:=J.kept (t':=s'.toks) k2
  obtain⟨H3,J3,rX,c3⟩:=J2.freeze hx hf c9
  refine Da (X:=X.suite a) J3.suite hN hi (.inl hk) (v:=.ref a) (u:=.ref a) rfl (λs4 J4=>?_) (.inr hk)
  have am:X.N.length=σ'.length:=J3.len.symm
  refine Yby (hh a aa s4 _ H3 { nx:=fun σ H=>D.nx (σ.set i none) H,rt:=D.rt,bk:=fun σ H=>D.bk (σ.set i none) H,ct:=fun σ H=>D.ct (σ.set i none) H } J4 ⟨_,_,_,_,_,_,?_,c3,hth,?_⟩) (λfl s5 vg=>?_) (λ_ _ z=>z.elim)
  ·rw [am]
   exact(C0.blank (X:=X) σ').set rX i
  ·have S:=J3.kp0
   exact⟨fun τ1 μ1 σ1 H1 S1 d2 hc1 h1=>hq.nx _ _ _ _ (S.trans S1) (d2.unset2 i) hc1 h1,hq.rt.kp S,fun τ1 μ1 σ1 H1 S1 d2 hc1 h1=>hq.bk _ _ _ _ (S.trans S1) (d2.unset2 i) hc1 h1,fun τ1 μ1 σ1 H1 S1 d2 hc1 h1=>hq.ct _ _ _ _ (S.trans S1) (d2.unset2 i) hc1 h1⟩
  ·cases fl with
   | next =>
    obtain⟨σ6,H6,I6,q6⟩:=vg
    exact Hx (I6.unsuite ok) hN hi hk λs7 I7=>⟨_,H6,I7,q6⟩
   | brk =>
    obtain⟨σ6,H6,I6,q6⟩:=vg
    exact Hx (I6.unsuite ok) hN hi hk λs7 I7=>⟨_,H6,I7,q6⟩
   | cont =>
    obtain⟨σ6,H6,I6,q6⟩:=vg
    exact Hx (I6.unsuite ok) hN hi hk λs7 I7=>⟨_,H6,I7,q6⟩
   | ret u =>
    obtain⟨v,σ6,H6,I6,rv,q6⟩:=vg
    exact Hx (I6.unsuite ok) hN hi hk λs7 I7=>⟨v,_,H6,I7,rv,q6⟩
 refine Yby (hb xe (X.pn++aa) _ hXA [] s σ H D I.take ⟨τ,μ,_,_,_,_,hs,hc,h,hq.kp I.kp0⟩) (λfl s1 hf=>?_) (λe s1 he=>?_)
 ·cases fl with
  | next =>
   obtain⟨σ',H',I1,q⟩:=hf
   exact Ydg ⟨σ',H',I1.untake ok,q⟩
  | brk =>
   obtain⟨σ',H',I1,q⟩:=hf
   exact⟨σ',H',I1.untake ok,q⟩
  | cont =>
   obtain⟨σ',H',I1,q⟩:=hf
   exact⟨σ',H',I1.untake ok,q⟩
  | ret u =>
   obtain⟨v,σ',H',I1,rv,q⟩:=hf
   exact⟨v,σ',H',I1.untake ok,rv,q⟩
 ·exact he
end
theorem Fun.vok0{P:Program}{w:World}{K:PySem.W.Frag}{mg:Str->Option Value}{base:Heap}{x qual:Str}{st:Stmt}{f:Addr}{fd:FuncData}{N ps:List Str}{k:Nat}{sp:ASp}(F:Fun K x qual st f fd)(S:FnScope N ps (Ai st))
  (cq:∀(aw:Value) (A:Around) (outer:List Env) (s:Shared) (H:Hp) (E:XK),Room k (A.deeper (envOfC qual (Ai st) s.heap.objs.size f aw)) ->
   ∃t,X2 (Ht Fh P w K mg base N qual (Ai st) f aw A outer s H E).nox (Bb st) t/\∀xs μ R,xs.length=ps.length->sp xs μ R->t (aNx R) (Wq R) aNo aNo (C3 N xs) μ):FnOk P w K mg base Fh (k+1) f fd ps (Ji K ps.length sp):=by
 refine F.ok S (λvs H Q E h=>?_) (λaw A outer s H vs Q E hr h=>?_)
 ·obtain⟨xs,μ,R,hl,rs,_⟩:=h
  rw [<- rs.length];exact hl
 ·obtain⟨xs,μ,R,hl,rs,hc,gl,hq⟩:=h
  obtain⟨t,ht,h⟩:=cq aw A outer s H E hr
  refine⟨_,ht,C3 N xs,μ,_,_,_,_,C0.begin rs,hc,h xs μ R hl gl,⟨fun τ μ' σ H' S' _ c zz83=>Ql zz83 fun ν hν r=>?_,λv μ' u H' S' c rv zz84=>Ql zz84 fun ν hν r=>?_,λ_ _ _ _ _ _ _ h=>h.elim,λ_ _ _ _ _ _ _ h=>h.elim⟩⟩
  ·exact hq _ _ _ _ S' (c.sub hν) Jc r
  ·exact hq _ _ _ _ S' (c.sub hν) rv r
section
variable {X:Cx}{a:Expr}{ta:AE}{pos p p2:Pos}{x:Str}
def U4(K:PySem.W.Frag)(c:Value)(te:AE):AE:=fun τ μ R=>te τ μ λx μ1=>match x with
 | .X C _=>XIs K C/\opt (PySem.W.kitOne K (.ref C) c) λb=>R (.D (.bool b)) μ1
 | _=>False
theorem Pr{c:Value}{τ:ASt}{σ:St}{H:Hp}{μ:M}{R:AV->M->Prop}{Q:VK}{s:Shared}{aa:List (Addr×Obj)}{W:Value->Shared->Prop}(he:VE X a ta)(I:Inv X aa σ H s)(hs:C0 X.K H τ σ)(hc:Cn X.K μ H)(h:U4 X.K c ta τ μ R)(hq:LV X.K H R Q)
  (k:∀e C fs H1 s1 b,Inv X aa σ H1 s1->RelA X.K H1 (.X C fs) (.ref e)->XIs X.K C->PySem.W.kitOne X.K (.ref C) c=some b->Q (.bl b) H1->W (.ref e) s1):wpAny (model X.prog X.w) X.A (eval a X.env) W X.xe s:=by
 refine thn (he aa s σ H (λv H1=>∃C fs μ1 b,Kp H H1/\Cn X.K μ1 H1/\RelA X.K H1 (.X C fs) v/\XIs X.K C/\PySem.W.kitOne X.K (.ref C) c=some b/\R (.D (.bool b)) μ1) I ⟨τ,μ,_,hs,hc,h,λx μ1 v H1 S1 c1 rx hx=>?_⟩) λu s1 sf=>?_
 ·split at hx
  ·obtain⟨xi,hx⟩:=hx
   obtain⟨b,kb,hx⟩:=A6 hx
   exact⟨_,_,μ1,b,S1,c1,rx,xi,kb,hx⟩
  ·exact hx.elim
 ·obtain⟨v,H1,I1,r1,C,fs,μ1,b,S1,c1,rx,xi,kb,q1⟩:=sf
  obtain⟨e,o,d,ev,q⟩:=id rx
  subst ev
  obtain rfl:u=Value.ref e:=r1
  exact k e C fs H1 s1 b I1 rx xi kb (hq _ _ _ _ S1 c1 Cv q1)
theorem X4{D:Addr}(hg:Gl X "isinstance") (hm:X.mg "isinstance" = none) (fk:Gl X x) (fe:X.mg x=some (.ref D)) (he:VE X a ta) (dj:(x==("__debug__" : Str))=false:=by decide)
  (hs:starEach [a,.Name x p2] X.env=(false,eval a X.env) :: starEach [.Name x p2] X.env:=by rfl) (dw:starEach [.Name x p2] X.env=[(false,eval (.Name x p2) X.env)]:=by rfl) (hpl:(backTo pos (starEach [.Name x p2] X.env)).any (·.1)=false:=by rfl) :
  VE X (.Call (.Name "isinstance" p) [a,.Name x p2] [] pos) (U4 X.K (.ref D) ta):=by
 intro aa s σ H Q I zz85
 refine B9 zz85 fun τ μ R bg hc h hq=>?_
 refine Ybq (De I hg hm Yee ?_)
 refine Yb1 ?_ hs hpl
 rw [hs]
 refine Ybl (Pr he I bg hc h hq λe C fs H1 s1 b I1 rx xi kb q=>?_)
 rw [dw]
 refine Ybl (Gs I1 fk fe (Yb7 ?_) dj)
 obtain⟨ox,od,J,_⟩:=xinst I1 rx
 exact Ybt (Ja xi) I1.kIn ⟨ox,od,J⟩ kb (λz=>nomatch z) λtk=>⟨.bl b,H1,I1.tok _,rfl,q⟩
theorem U5{T:String}(hg:Gl X "isinstance") (hm:X.mg "isinstance" = none) (fk:Gl X x) (fe:X.mg x=none) (jo:bootBuiltins x=some (.type T)) (he:VE X a ta) (iq:x ≠ "__name__" := by decide) (dj:(x==("__debug__" : Str))=false:=by decide)
  (hs:starEach [a,.Name x p2] X.env=(false,eval a X.env) :: starEach [.Name x p2] X.env:=by rfl) (dw:starEach [.Name x p2] X.env=[(false,eval (.Name x p2) X.env)]:=by rfl) (hpl:(backTo pos (starEach [.Name x p2] X.env)).any (·.1)=false:=by rfl) :
  VE X (.Call (.Name "isinstance" p) [a,.Name x p2] [] pos) (U4 X.K (.type T) ta):=by
 intro aa s σ H Q I zz86
 refine B9 zz86 fun τ μ R bg hc h hq=>?_
 refine Ybq (De I hg hm Yee ?_)
 refine Yb1 ?_ hs hpl
 rw [hs]
 refine Ybl (Pr he I bg hc h hq λe C fs H1 s1 b I1 rx xi kb q=>?_)
 rw [dw]
 refine Ybl (De I1 fk fe jo (Yb7 ?_) iq dj)
 obtain⟨ox,od,J,_⟩:=xinst I1 rx
 exact Ybt (Ja xi) I1.kIn ⟨ox,od,J⟩ kb (λz=>nomatch z) λtk=>⟨.bl b,H1,I1.tok _,rfl,q⟩
def Y7(K:PySem.W.Frag)(f:Str)(te:AE):AE:=fun τ μ R=>te τ μ λx μ1=>match x with
 | .X C fs=>XCls K C/\Ha K C f/\opt (fs.lookup f) λd=>R (.D d) μ1
 | _=>False
theorem X5{f:Str}(he:VE X a ta)(hb:attributeBase a f X.env (eval a X.env)=eval a X.env):VE X (.Attribute a f pos) (Y7 X.K f ta):=by
 intro aa s σ H Q I zz87
 refine B9 zz87 fun τ μ R bg hc h hq=>?_
 refine W6 hb (thn (he aa s σ H (λv H1=>∃C fs μ1 d,Kp H H1/\Cn X.K μ1 H1/\RelA X.K H1 (.X C fs) v/\XCls X.K C/\Ha X.K C f/\fs.lookup f=some d/\R (.D d) μ1) I ⟨τ,μ,_,bg,hc,h,λx μ1 v H1 S1 c1 rx hx=>?_⟩) λu s1 rq=>?_)
 ·split at hx
  ·obtain⟨z1,z2,z3⟩:=hx
   obtain⟨d,e,z⟩:=A6 z3
   exact⟨_,_,μ1,d,S1,c1,rx,z1,z2,e,z⟩
  ·exact hx.elim
 ·obtain⟨v,H1,I1,r1,C,fs,μ1,d,S1,c1,rx,xc,na,el,q1⟩:=rq
  obtain⟨e,o,d',ev,q⟩:=id rx
  subst ev
  obtain rfl:u=Value.ref e:=r1
  obtain⟨ox,od,J,hl⟩:=xinst I1 rx
  obtain⟨kz,u,v,rfl,hu,ru,dk⟩:=hl f d el
  exact N8 I1.kIn J xc.mb xc.ga xc.gn (PySem.W.findObj_own xc.hd na rfl hu) (Qu ru) ⟨v,H1,I1.tok _,ru,hq _ _ _ _ S1 c1 (M8 dk) q1⟩
def tGl(cs:List Addr):TA:=λ_ H Q=>Q (cs.map V.ref) H
theorem Qcb:PA X [] (tGl []):=Nz
theorem Jn{D:Addr}{cs:List Addr}{es:List Expr}(hg:Gl X x)(hm:X.mg x=some (.ref D))(h:PA X es (tGl cs))(hd:(x==("__debug__" : Str))=false:=by decide) (hs:starEach (.Name x p :: es) X.env=(false,eval (.Name x p) X.env) :: starEach es X.env:=by rfl):PA X (.Name x p :: es) (tGl (D :: cs)) :=
 Lo (Ll (v:=.ref D) hg hm rfl hd) h hs
def Y8(K:PySem.W.Frag)(cs:List Addr)(te:AE):AE:=fun τ μ R=>te τ μ λx μ1=>match x with
 | .X C _=>XIs K C/\opt (PySem.W.kitAny K (.ref C) (cs.map Value.ref)) λb=>R (.D (.bool b)) μ1
 | _=>False
theorem K8:∀{cs:List Addr} {us:List Value},Vals (cs.map V.ref) us->us=cs.map Value.ref
 | [],_,h=>by cases h;rfl
 | c :: cs,_,h=>by
  rw [Ya7]at h
  cases h with
  | cons r t=>rw [K8 t];cases r;rfl
theorem Rp{es:List Expr}{cs:List Addr}{k:Nat}(hg:Gl X "isinstance") (hm:X.mg "isinstance" = none) (hT:PA X es (tGl cs)) (he:VE X a ta) (hl:cs.length<=sizeLine:=by decide)
  (hs:starEach [a,.Tuple es k p2] X.env=(false,eval a X.env) :: starEach [.Tuple es k p2] X.env:=by rfl) (dw:starEach [.Tuple es k p2] X.env=[(false,eval (.Tuple es k p2) X.env)]:=by rfl) (hpl:(backTo pos (starEach [.Tuple es k p2] X.env)).any (·.1)=false:=by rfl) :
  VE X (.Call (.Name "isinstance" p) [a,.Tuple es k p2] [] pos) (Y8 X.K cs ta):=by
 intro aa s σ H Q I zz88
 refine B9 zz88 fun τ μ R bg hc h hq=>?_
 refine Ybq (De I hg hm Yee ?_)
 refine Yb1 ?_ hs hpl
 rw [hs]
 refine Ybl (thn (he aa s σ H (λv H1=>∃C fs μ1 b,Kp H H1/\Cn X.K μ1 H1/\RelA X.K H1 (.X C fs) v/\XIs X.K C/\PySem.W.kitAny X.K (.ref C) (cs.map Value.ref)=some b/\R (.D (.bool b)) μ1) I ⟨τ,μ,_,bg,hc,h,λx μ1 v H1 S1 c1 rx hx=>?_⟩) λu s1 my=>?_)
 ·split at hx
  ·obtain⟨xi,hx⟩:=hx
   obtain⟨b,kb,hx⟩:=A6 hx
   exact⟨_,_,μ1,b,S1,c1,rx,xi,kb,hx⟩
  ·exact hx.elim
 obtain⟨v,H1,I1,r1,C,fs,μ1,b,S1,c1,rx,xi,kb,q1⟩:=my
 obtain⟨e,o,d,ev,q⟩:=id rx
 subst ev
 obtain rfl:u=Value.ref e:=r1
 rw [dw]
 refine Ybl (thn (N0 (pos:=p2) (x1:=k) hT aa s1 σ H1 (λv H2=>∃p,v=.ref p/\H1 p=none/\H2=upd H1 p (.tup (cs.map V.ref))) I1 ⟨by rw [Yaa];exact hl,λp hp=>⟨p,rfl,hp,rfl⟩⟩) λu s2 oz=>Yb7 ?_)
 obtain⟨v,H2,I2,r2,p,ev,hp,eH⟩:=oz
 subst ev eH
 obtain rfl:u=Value.ref p:=r2
 obtain⟨ae,rv,⟨⟨cl,dd,da,sl⟩,ht,cr,n,hda⟩,_⟩:=I2.tuple (Hm.of (Bc (H:=H1) (a:=p) (o:=.tup (cs.map V.ref))))
 dsimp only at cr hda
 subst cr hda
 rw [K8 rv]at ht
 have S2:Kp H1 (upd H1 p (.tup (cs.map V.ref))):=Kp.new hp _
 obtain⟨ox,od,J,_⟩:=xinst I2 (rx.kp S2)
 exact PySem.W.kia_tup (Ja xi) I2.kIn ⟨ox,od,J⟩ ht kb (λz=>nomatch z) λtk=>⟨.bl b,_,I2.tok _,rfl,hq _ _ _ _ (S1.trans S2) (c1.over hp) Cv q1⟩
end
end L2
namespace L2
open PySem PySem.Spec PyProof.Rows
def Ez:Nat->List PyData->List AV
 | _,[]=>[]
 | i,d :: ds=>.D (.tuple [.int i,d]) :: Ez (i+1) ds
theorem Cf:∀(ds:List PyData) (k:Nat),(Ez k ds).length=ds.length
 | [],_=>rfl
 | _ :: ds,k=>by rw [Ez,Yba,Cf ds,Yba]
theorem Fk:∀{ds:List PyData} {k i:Nat} {x:AV},(Ez k ds)[i]?=some x->∃d,ds[i]?=some d/\x=.D (.tuple [.int ((k+i:Nat):Int),d])
 | [],_,_,_,h=>by simp [Ez]at h
 | d :: ds,k,0,_,h=>by simp [Ez]at h;exact⟨d,rfl,by rw [<- h];simp⟩
 | _ :: ds,k,i+1,_,h=>by
  rw [Ez,List.getElem?_cons_succ]at h
  obtain⟨d,e,q⟩:=Fk h
  refine⟨d,by simpa using e,?_⟩
  rw [q]
  have e2:k+1+i=k+(i+1):=by omega
  rw [e2]
theorem Oh{K:PySem.W.Frag}{H0:Hp}{a:Addr}{ys:List AV}{ds:List PyData}{kp:M->Prop}(hd:dats ys=some ds)(h:∀H μ,Kp H0 H->Cn K μ H->kp μ->∃vs,Hm K H a vs/\Ax K H ys vs):ItOk K H0 (Ien K a) (Ez 0 ds) kp:=by
 have hn:ds.length=ys.length:=by rw [Gx hd,Yaa]
 refine⟨λi H μ S c k hi=>?_,λi H μ v H' x S c k e y=>?_,λH μ S c k=>?_⟩
 ·obtain⟨vs,q,r⟩:=h H μ S c k
  rw [Cf,hn]at hi
  exact⟨vs,vs[i]'(by rw [<- r.length];exact hi),q,List.getElem?_eq_getElem _⟩
 ·obtain⟨vs,q,r⟩:=h H μ S c k
  obtain⟨T,z,hT,rfl,rfl,y⟩:=y
  obtain⟨d,e1,rfl⟩:=Fk e
  obtain⟨u,eu,ru⟩:=(r.dats hd).get e1
  rw [y vs q]at eu
  cases eu
  refine⟨Kp.new hT _,c.over hT,L6 Bc ?_⟩
  rw [Yek]
  exact Bl Df (Bl (Dk.kp (Kp.new hT _) _ _ ru) Ct)
 ·obtain⟨vs,q,r⟩:=h H μ S c k
  exact⟨vs,q,by rw [Cf,hn,r.length]⟩
theorem Oi{K:PySem.W.Frag}{H0:Hp}{a:Addr}{ys:List AV}{ds:List PyData}{kp:M->Prop}(hd:dats ys=some ds)(h:∀H μ,Kp H0 H->Cn K μ H->kp μ->∃vs,Ei K H a vs/\Ax K H ys vs):ItOk K H0 (Iel K a) (Ez 0 ds) kp:=by
 have hn:ds.length=ys.length:=by rw [Gx hd,Yaa]
 refine⟨λi H μ S c k hi=>?_,λi H μ v H' x S c k e y=>?_,λH μ S c k=>?_⟩
 ·obtain⟨vs,q,r⟩:=h H μ S c k
  rw [Cf,hn]at hi
  exact⟨vs,vs[i]'(by rw [<- r.length];exact hi),q,List.getElem?_eq_getElem _⟩
 ·obtain⟨vs,q,r⟩:=h H μ S c k
  obtain⟨T,z,hT,rfl,rfl,y⟩:=y
  obtain⟨d,e1,rfl⟩:=Fk e
  obtain⟨u,eu,ru⟩:=(r.dats hd).get e1
  rw [y vs q]at eu
  cases eu
  refine⟨Kp.new hT _,c.over hT,L6 Bc ?_⟩
  rw [Yek]
  exact Bl Df (Bl (Dk.kp (Kp.new hT _) _ _ ru) Ct)
 ·obtain⟨vs,q,r⟩:=h H μ S c k
  exact⟨vs,q,by rw [Cf,hn,r.length]⟩
def Qfl(t:AE):AI:=fun τ μ R=>t τ μ λx μ1=>opt (items μ1 x) λys=>opt (dats ys) λds=>R (Ez 0 ds) (fun μ=>items μ x=some ys) μ1
section
variable {X:Cx}{a:Expr}{ta:AE}{pos p:Pos}
theorem Ps{fo:List Expr}{k:Nat}{kj:Pos}(hg:Gl X "enumerate") (hm:X.mg "enumerate" = none) (hl:VE X a ta) (hs:starEach [a] X.env=[(false,eval a X.env)]:=by rfl):VI X (.Tuple fo k kj) (.Call (.Name "enumerate" p) [a] [] pos) (Qfl ta):=by
 intro aa s σ H R I zz91
 refine B9 zz91 fun τ μ R' bg hc h hq=>?_
 refine Ybq (De I hg hm boot_enumerate ?_)
 refine Yb2 ?_ hs rfl
 rw [hs]
 refine Ybl (thn (hl aa s σ H (λv H1=>∃x μ1 ys ds,Kp H H1/\Cn X.K μ1 H1/\RelA X.K H1 x v/\items μ1 x=some ys/\dats ys=some ds/\R' (Ez 0 ds) (fun μ=>items μ x=some ys) μ1) I ⟨τ,μ,_,bg,hc,h,λx μ1 v H1 S1 c1 rx hx=>?_⟩) λu s1 sv=>Yb7 ?_)
 ·obtain⟨ys,e,hx⟩:=A6 hx
  obtain⟨ds,ed,hx⟩:=A6 hx
  exact⟨x,μ1,ys,ds,S1,c1,rx,e,ed,hx⟩
 obtain⟨xv,H1,I1,r1,x,μ1,ys,ds,S1,c1,rx,e,ed,hx⟩:=sv
 obtain⟨p,vs,rfl,hp,rs⟩:=Ci c1 rx e
 cases r1
 have fin:∀b∈[s1.heap.objs.size+1,s1.heap.objs.size],Gd X aa H1 b:=λb hb=>by
  have mh:s1.heap.objs.size<=b:=by
   rcases Ybb.mp hb with rfl | hb
   ·exact Ydv _
   ·have e:b=s1.heap.objs.size:=by simpa using hb
    exact Nat.le_of_eq e.symm
  exact I1.fpOk mh (I1.hok.fresh mh)
 rcases hp with⟨k,hp⟩ | ⟨k,hp⟩
 ·obtain⟨ae,rv,pl,hz⟩:=I1.list hp
  refine call_enumerate_list pl.isList λh' he cy hsz kk=>?_
  refine Ydx he ?_
  refine⟨s1.heap.objs.size+1,[s1.heap.objs.size+1,s1.heap.objs.size],_,_,H1,rfl,I1.kept (t':=s1.toks) kk,N7 p _ _ (Nat.succ_ne_self _),⟨⟨_,he⟩,cy⟩,fin,hq _ _ _ _ _ S1 c1 (Oi ed λH μ S c k2=>?_) hx⟩
  obtain⟨q,ws,e,hw,rw⟩:=Ci c (rx.kp S) k2
  cases e
  rcases hw with⟨_,hw⟩ | ⟨k3,_⟩
  ·exact⟨ws,hw,rw⟩
  ·rw [k]at k3;cases k3
 ·obtain⟨ae,rv,pl,hz⟩:=I1.tuple hp
  refine Gg pl λh' he cy hsz kk=>?_
  refine Ydx he ?_
  refine⟨s1.heap.objs.size+1,[s1.heap.objs.size+1,s1.heap.objs.size],_,_,H1,rfl,I1.kept (t':=s1.toks) kk,Re p _ _ (Nat.succ_ne_self _),⟨⟨_,he⟩,cy⟩,fin,hq _ _ _ _ _ S1 c1 (Oh ed λH μ S c k2=>?_) hx⟩
  obtain⟨q,ws,e,hw,rw⟩:=Ci c (rx.kp S) k2
  cases e
  rcases hw with⟨k3,_⟩ | ⟨_,hw⟩
  ·rw [k]at k3;cases k3
  ·exact⟨ws,hw,rw⟩
end
theorem Oj{kvs:List (Key×V)}{k:Key}{v:V}(h:k∉kvs.map (·.1)):D8 kvs k v=kvs++[(k,v)]:=by
 unfold D8
 rw [Yar]
 intro q
 rw [Yd9]at q
 obtain⟨x,hx,e⟩:=q
 exact h (Yaz.mpr ⟨x,hx,Yaf e⟩)
theorem G4:∀(more kvs:List (Key×V)),((kvs++more).map (·.1)).Nodup->Ge kvs more=kvs++more
 | [],kvs,_=>by rw [Ybi];rfl
 | (k,v) :: more,kvs,h=>by
  show Ge (D8 kvs k v) more=_
  have hk:k∉kvs.map (·.1):=λz=>by
   rw [Yac,Ydz]at h
   exact h.2.2 k z k (by simp) rfl
  rw [Oj hk,G4 more,Ybk]
  ·rfl
  ·rw [Ybk];exact h
def vPs:List AE->ASt->M->(List AV->M->Prop)->Prop
 | [],_,μ,R=>R [] μ
 | t :: ts,τ,μ,R=>t τ μ λx μ1=>vPs ts τ μ1 λxs μ2=>R (x :: xs) μ2
def Y9(K:PySem.W.Frag)(ks:List Key)(ts:List AE):List (TE×TE):=(ks.zip ts).map λp=>(tC (kV p.1),cE K p.2)
theorem Nj{K:PySem.W.Frag}:∀{ks:List Key} {ts:List AE} {τ:ASt} {μ:M} {R:List AV->M->Prop} {σ:St} {H:Hp} {Q:List (V×V)->Hp->Prop},ks.length=ts.length->C0 K H τ σ->Cn K μ H->vPs ts τ μ R ->
  (∀xs μ' vs H',Kp H H'->Cn K μ' H'->Ax K H' xs vs->xs.length=ts.length->R xs μ'->Q ((ks.zip vs).map λkv=>(kV kv.1,kv.2)) H')->Lx (Y9 K ks ts) σ H Q
 | [],[],τ,μ,R,σ,H,Q,_,hs,hc,h,q=>q [] μ [] H Kp.refl hc .nil rfl h
 | k :: ks,t :: ts,τ,μ,R,σ,H,Q,hl,hs,hc,h,q =>
  ⟨τ,μ,_,hs,hc,h,λx μ1 v H1 S1 c1 rx hx=>Nj (ks:=ks) (ts:=ts) (by simpa using hl) (hs.kp S1) c1 hx λxs μ2 vs H2 S2 c2 rs hn hr=>q (x :: xs) μ2 (v :: vs) H2 (S1.trans S2) c2 (.cons (rx.kp S2) rs) (by simp [hn]) hr⟩
def VPs(X:Cx)(pos:Pos)(keys:List (Option Expr))(bf:List Expr)(ks:List Key)(ts:List AE):Prop:=PPs X pos keys bf (Y9 X.K ks ts)
def Qfm(ks:List Key)(ts:List AE):AE:=fun τ μ R=>∀p,μ p=none->vPs ts τ (Aj μ p (.dk [])) λxs μ1=>μ1 p=some (.dk [])/\R (.R p) (Aj μ1 p (.dk (ks.zip xs)))
section
variable {X:Cx}{pos:Pos}{keys:List (Option Expr)}{bf:List Expr}{ks:List Key}{ts:List AE}
theorem X6:VPs X pos [] [] [] []:=Xh
theorem Mc{z:Str}{j}{p:Pos}{v:Expr}{t:AE}(hv:VE X v t)(hr:VPs X pos keys bf ks ts):VPs X pos (some (.Constant (.str z) j p) :: keys) (v :: bf) (.inr z :: ks) (t :: ts):=Ti (tk:=tC (kV (.inr z))) Si hv hr
theorem Ax.zipK{K:PySem.W.Frag}{H:Hp}:∀(ks:List Key) {xs:List AV} {vs:List V},Ax K H xs vs->Ee K H (ks.zip xs) (ks.zip vs)
 | [],_,_,_=>.nil
 | _ :: _,_,_,.nil=>.nil
 | _ :: ks,_,_,.cons r t=>.cons ⟨rfl,r⟩ (Ax.zipK ks t)
theorem X7(h:VPs X pos keys bf ks ts)(hk:ks.Nodup)(hkl:ks.length=ts.length:=by rfl)(zbn:ks.length<=15:=by decide)(il:keys.all (·.isSome)=true:=by rfl)(hl:keys.length=bf.length:=by rfl)(h0:keys≠[]:=by intro z;cases z)(zm:keys.length<=15:=by decide):VE X (.Dict keys bf pos) (Qfm ks ts) :=
 (Xi h il hl h0 zm).imp fun σ H Q zz92=>B9 zz92 fun τ μ R hs hc h hq=>by
  intro p hp
  refine Nj hkl (hs.kp (Kp.new hp _)) (hc.new hp (U0 .nil)) (h p (hc.none hp)) λxs μ1 vs H1 S1 c1 rs hn hx=>?_
  obtain⟨o,ho,ws,rfl,rk⟩:=c1 _ _ hx.1
  cases rk
  have iq:ks.length=vs.length:=by rw [<- rs.length,hn];exact hkl
  refine⟨ho,ks.zip vs,rfl,by rw [List.length_zip];omega,?_⟩
  rw [G4 _ _ (by rw [Yc3,List.map_fst_zip (by omega)];exact hk),Yc3]
  exact hq _ _ _ _ ((Kp.new hp _).trans (S1.trans (Kp.put ho trivial _))) (c1.put ho trivial (U0 (rs.zipK ks))) Em hx.2
end
theorem Fl{κ:Type} [DecidableEq κ]{k:κ}{v:AV}{r:List (κ×AV)}:Er ((k,v) :: r) k=some v:=by
 unfold Er
 simp only [List.find?_cons,decide_eq_true (rfl:k=k)];rfl
theorem Fm{κ:Type} [DecidableEq κ]{k k':κ}{v:AV}{r:List (κ×AV)}(h:k'≠k):Er ((k',v) :: r) k=Er r k:=by
 unfold Er
 simp only [List.find?_cons,decide_eq_false h]
theorem U6{α:Type}(g:α->Bool)(xs:List α):bools (xs.map λx=>.D (.bool (g x)))=some (xs.map g):=by
 rw [show(xs.map λx=>AV.D (.bool (g x)))=(xs.map g).map λb=>.D (.bool b) by rw [Ya0];rfl]
 exact K3 _
theorem Rq{μ:M}{p:Addr}{m:MO}(h:μ p=some m):Aj μ p m=μ:=by
 funext b
 unfold Aj
 split
 ·rename_i e;rw [e,h]
 ·rfl
theorem cmapf{α:Type}{p:Addr}{g:AG}{tst:AT}{te:AE}{kp:M->Prop}{R:M->Prop}{τ:ASt}{μ:M}(as:List α)(g0:α->AV)(b:α->Bool)(f:α->AV)(Sh:ASt->Prop)(h0:Sh τ)(hp:μ p=some (.lst []))(hn:as.length<=sizeLine)(hk:∀ah,kp (Aj μ p (.lst ah)))
  (step:∀(i:Nat) (x:α) (τ':ASt) (ah:List AV) (W:ASt->AV->M->Prop) (W2:ASt->M->Prop),as[i]?=some x->Sh τ'->(b x=true->∀ τ1,Sh τ1->W τ1 (f x) (Aj μ p (.lst ah)))->(b x=false->∀ τ1,Sh τ1->W2 τ1 (Aj μ p (.lst ah))) ->
   g (g0 x) τ' (Aj μ p (.lst ah)) fun τ1 μ1=>tst τ1 μ1 λk μ2=>brP k (te τ1 μ2 (W τ1)) (W2 τ1 μ2))
  (done:R (Aj μ p (.lst ((as.filter b).map f)))):cl p g tst te kp R (as.map g0) [] τ μ:=by
 refine Hf (λi ah τ' μ'=>Sh τ'/\ah=((as.take i).filter b).map f/\μ'=Aj μ p (.lst ah)) ⟨h0,by simp,(Rq hp).symm⟩ (λi ah τ μ' ⟨_,_,e⟩=>by rw [e];exact hk _) ?_ ?_
 ·rintro i y ah τ' μ' W hy ⟨sh,rfl,rfl⟩ hW
  rw [List.getElem?_map]at hy
  obtain⟨x,hx,rfl⟩:=Yax.mp hy
  have hi:i < as.length:=(List.getElem?_eq_some_iff.mp hx).1
  have ht:as.take (i+1)=as.take i++[x]:=by rw [Ycw,hx];rfl
  refine step i x τ' _ (fun τ1 v μ3=>μ3 p=some (.lst (((as.take i).filter b).map f))/\(((as.take i).filter b).map f).length < sizeLine/\W ((((as.take i).filter b).map f)++[v]) τ1 (Aj μ3 p (.lst ((((as.take i).filter b).map f)++[v])))) (fun τ1 μ2=>W (((as.take i).filter b).map f) τ1 μ2) hx sh (λhb τ1 s1=>⟨Ac,?_,hW _ _ _ ⟨s1,?_,Bw⟩⟩) (λhb τ1 s1=>hW _ _ _ ⟨s1,?_,rfl⟩)
  ·rw [Yaa]
   have h1:=List.length_filter_le b (as.take i)
   rw [Ybd]at h1
   omega
  ·rw [ht,List.filter_append,Yac,List.filter_cons,Yaw hb];rfl
  ·rw [ht,List.filter_append,Yac,List.filter_cons,Yar (by rw [hb];exact Yak)];simp
 ·rintro ah τ' μ' ⟨_,rfl,rfl⟩
  rw [Yaa,Ycb]
  exact done
theorem cmap{α:Type}{p:Addr}{g:AG}{te:AE}{kp:M->Prop}{R:M->Prop}{τ:ASt}{μ:M}(as:List α)(g0 f:α->AV)(Sh:ASt->Prop)(h0:Sh τ)(hp:μ p=some (.lst []))(hn:as.length<=sizeLine)(hk:∀ah,kp (Aj μ p (.lst ah)))
  (step:∀(i:Nat) (x:α) (τ':ASt) (ah:List AV) (W:ASt->AV->M->Prop),as[i]?=some x->Sh τ'->(∀ τ1,Sh τ1->W τ1 (f x) (Aj μ p (.lst ah)))->g (g0 x) τ' (Aj μ p (.lst ah)) fun τ1 μ1=>te τ1 μ1 (W τ1))
  (done:R (Aj μ p (.lst (as.map f)))):cl p g Xz te kp R (as.map g0) [] τ μ:=by
 refine cmapf as g0 (λ_=>true) f Sh h0 hp hn hk (λi x τ' ah W W2 hx sh h1 _=>?_) (by rw [List.filter_eq_self.mpr (λ_ _=>rfl)];exact done)
 have:=step i x τ' ah W hx sh (h1 rfl)
 simp only [Xz,Ug]
 exact this
theorem Pt{α:Type}{g:α->Bool}{as:List α}{μ:M}{p:Addr}{R:AV->M->Prop}(h:μ p=some (.lst (as.map λx=>.D (.bool (g x)))))(q:R (.D (.bool (as.all g))) μ):Qbu [.R p] μ R:=by
 refine Aa h (Aa (U6 g as) ?_)
 rw [List.all_map]
 exact q
theorem Qcc{K:PySem.W.Frag}:Kits K "tuple" := by
 intro S hS
 simp only [List.mem_cons,List.not_mem_nil,or_false]at hS
 rcases hS with rfl | rfl | rfl | rfl | rfl | rfl | rfl <;> rfl
theorem U7{K:PySem.W.Frag}:Kits K "int" := by
 intro S hS
 simp only [List.mem_cons,List.not_mem_nil,or_false]at hS
 rcases hS with rfl | rfl | rfl | rfl | rfl | rfl | rfl <;> rfl
def U8(K:PySem.W.Frag)(C:Addr):Bool :=
 PySem.W.findIn K (.ref C) "__getattribute__" == some (some (.builtin "BaseException.__getattribute__")) && PySem.W.findIn K (.ref C) "__getattr__" == some none && PySem.W.findIn K (.ref C) "__setattr__" == some (some (.builtin "object.__setattr__")) && PySem.W.hasDictIn K C &&
 PySem.W.mroIn K C (.type "BaseException")==some true && PySem.W.mroIn K C (.type "object")==some true && Oa K C && PySem.W.findIn K (.ref C) "__class__" == some (some (.builtin "object.__class__")) &&
 PySem.W.specialIn K (.builtin "object.__class__") "__get__" == some (some (.builtin "getset_descriptor.__get__")) && PySem.W.takesIn K (.builtin "object.__class__")==some true && Gh K C && PySem.W.keepIn K (.ref C)
theorem Qcd{K:PySem.W.Frag}{C:Addr}(h:U8 K C=true):XIs K C/\Gh K C=true/\PySem.W.keepIn K (.ref C)=true:=by
 unfold U8 at h
 simp only [Bool.and_eq_true,beq_iff_eq]at h
 obtain⟨⟨⟨⟨⟨⟨⟨⟨⟨⟨⟨h1,h2⟩,h3⟩,h4⟩,h5⟩,h6⟩,h7⟩,h8⟩,h9⟩,h10⟩,h11⟩,h12⟩:=h
 exact⟨⟨⟨h1,h2,h3,h4,h5,h6,h7⟩,h8,h9,h10⟩,h11,h12⟩
def U9(K:PySem.W.Frag)(C D:Addr)(cs:List Addr):Bool :=
 U8 K C && PySem.W.mroIn K C (.ref D)==some true && PySem.W.kitOne K (.ref C) (.ref D)==some true && PySem.W.kitOne K (.ref C) (.type "ValueError")==some true && PySem.W.kitAny K (.ref C) (cs.map Value.ref)==some false && Gh K D && PySem.W.mroIn K D (.type "BaseException")==some true && PySem.W.mroIn K C (.ref C)==some true
structure Err(K:PySem.W.Frag)(C D:Addr)(cs:List Addr):Prop where
 xi:XIs K C
 xc:Gh K C=true
 kp:PySem.W.keepIn K (.ref C)=true
 un:PySem.W.mroIn K C (.ref D)=some true
 iD:PySem.W.kitOne K (.ref C) (.ref D)=some true
 iV:PySem.W.kitOne K (.ref C) (.type "ValueError")=some true
 no:PySem.W.kitAny K (.ref C) (cs.map Value.ref)=some false
 xD:Gh K D=true
 mD:PySem.W.mroIn K D (.type "BaseException")=some true
 me:PySem.W.mroIn K C (.ref C)=some true
theorem Qce{K:PySem.W.Frag}{C D:Addr}{cs:List Addr}(h:U9 K C D cs=true):Err K C D cs:=by
 unfold U9 at h
 simp only [Bool.and_eq_true,beq_iff_eq]at h
 obtain⟨⟨⟨⟨⟨⟨⟨h1,h2⟩,h3⟩,h4⟩,h5⟩,h6⟩,h7⟩,h8⟩:=h
 obtain⟨a,b,c⟩:=Qcd h1
 exact⟨a,b,c,h2,h3,h4,h5,h6,h7,h8⟩
def cdef:Stmt->Stmt
 | .ClassDef _ _ _ (b :: _) _ _ _ _ _ _ _=>b
 | s=>s
section
variable {X:Cx}{K:PySem.W.Frag}{a:Expr}{ta:AE}{pos p p2:Pos}{x:Str}
theorem X8{D:Addr}(hK:X.K=K)(hg:Gl X "isinstance") (hm:X.mg "isinstance" = none) (fk:Gl X x) (fe:X.mg x=some (.ref D)) (he:VE X a ta) (dj:(x==("__debug__" : Str))=false:=by decide)
  (hs:starEach [a,.Name x p2] X.env=(false,eval a X.env) :: starEach [.Name x p2] X.env:=by rfl) (dw:starEach [.Name x p2] X.env=[(false,eval (.Name x p2) X.env)]:=by rfl) (hpl:(backTo pos (starEach [.Name x p2] X.env)).any (·.1)=false:=by rfl) :
  VE X (.Call (.Name "isinstance" p) [a,.Name x p2] [] pos) (U4 K (.ref D) ta):=by subst hK;exact X4 hg hm fk fe he dj hs dw hpl
theorem Va{T:String}(hK:X.K=K)(hg:Gl X "isinstance") (hm:X.mg "isinstance" = none) (fk:Gl X x) (fe:X.mg x=none) (jo:bootBuiltins x=some (.type T)) (he:VE X a ta) (iq:x ≠ "__name__" := by decide) (dj:(x==("__debug__" : Str))=false:=by decide)
  (hs:starEach [a,.Name x p2] X.env=(false,eval a X.env) :: starEach [.Name x p2] X.env:=by rfl) (dw:starEach [.Name x p2] X.env=[(false,eval (.Name x p2) X.env)]:=by rfl) (hpl:(backTo pos (starEach [.Name x p2] X.env)).any (·.1)=false:=by rfl) :
  VE X (.Call (.Name "isinstance" p) [a,.Name x p2] [] pos) (U4 K (.type T) ta):=by subst hK;exact U5 hg hm fk fe jo he iq dj hs dw hpl
theorem X9{f:Str}(hK:X.K=K)(he:VE X a ta)(hb:attributeBase a f X.env (eval a X.env)=eval a X.env):VE X (.Attribute a f pos) (Y7 K f ta):=by subst hK;exact X5 he hb
theorem Rr{es:List Expr}{cs:List Addr}{k:Nat}(hK:X.K=K)(hg:Gl X "isinstance") (hm:X.mg "isinstance" = none) (hT:PA X es (tGl cs)) (he:VE X a ta) (hl:cs.length<=sizeLine:=by decide)
  (hs:starEach [a,.Tuple es k p2] X.env=(false,eval a X.env) :: starEach [.Tuple es k p2] X.env:=by rfl) (dw:starEach [.Tuple es k p2] X.env=[(false,eval (.Tuple es k p2) X.env)]:=by rfl) (hpl:(backTo pos (starEach [.Tuple es k p2] X.env)).any (·.1)=false:=by rfl) :
  VE X (.Call (.Name "isinstance" p) [a,.Tuple es k p2] [] pos) (Y8 K cs ta):=by subst hK;exact Rp hg hm hT he hl hs dw hpl
end
def rk:PyData->Nat
 | .none=>0 | .bool _=>1 | .int _=>2 | .str _=>3 | .list _=>4 | .tuple _=>5 | .dict _=>6
end L2
namespace L2
open PySem PySem.W PyProof.Rows
section
variable {n:Nat}{lt:Nat->Nat->Bool}
variable {p:Array Nat}{s:Shared}
end
section
variable {n:Nat}{lt:Nat->Nat->Bool}
variable {p:Array Nat}{s:Shared}
end
section
variable {prog:Program}{w:World}{A:Around}{E:Value->Shared->Prop}{s:Shared}{κ:SortKind}{it:Array Keyed}{n:Nat}{lt:Nat->Nat->Bool}
end
section
variable {prog:Program}{w:World}{A:Around}{E:Value->Shared->Prop}{s:Shared}{κ:SortKind}{it:Array Keyed}{n:Nat}{lt:Nat->Nat->Bool}
abbrev at0(p:Array Nat)(i:Nat):Nat:=p.getD i 0
def In(n:Nat)(p:Array Nat):Prop:=∀i,i < p.size->at0 p i < n
abbrev LoS:=Option (Array Keyed)×Array Keyed×Nat×Nat×Nat×Nat×Nat
section
variable {a b:Array Nat}{st:SortSt}{Qd Qy:LoS->SortSt->Prop}{out:Array Nat}{ia ib mg ac bc:Nat}
end
end
section
variable {prog:Program}{w:World}{A:Around}{E:Value->Shared->Prop}{s:Shared}{κ:SortKind}{it:Array Keyed}{n:Nat}{lt:Nat->Nat->Bool}
section
variable {a b out:Array Nat}{na nb:Nat}
end
abbrev HiS:=Option (Array Keyed)×Nat×Nat×Array Keyed×Nat×Nat×Nat
section
variable {a b:Array Nat}{st:SortSt}{Qd Qy:HiS->SortSt->Prop}{out:Array Nat}{na nb mg ac bc:Nat}
end
end
section
variable {prog:Program}{w:World}{A:Around}{E:Value->Shared->Prop}{s:Shared}{κ:SortKind}{it:Array Keyed}{n:Nat}{lt:Nat->Nat->Bool}
def SS(κ:SortKind)(it:Array Keyed)(p:Array Nat)(pd:Array (Nat×Nat×Nat))(g:Nat):SortSt:=SortSt.mk' κ (p.map (kas_item it)) pd g none
def wr{α:Type}(off:Nat):List α->Nat->Array α->Array α
 | [],_,p=>p
 | x :: xs,k,p=>wr off xs (k+1) (p.setIfInBounds (off+k) x)
end
section
variable {prog:Program}{w:World}{A:Around}{E:Value->Shared->Prop}{s:Shared}{κ:SortKind}{it:Array Keyed}{n:Nat}{lt:Nat->Nat->Bool}{p:Array Nat}{pd:Array (Nat×Nat×Nat)}{g:Nat}
end
section
variable {prog:Program}{w:World}{A:Around}{E:Value->Shared->Prop}{s:Shared}{κ:SortKind}{it:Array Keyed}{n:Nat}{lt:Nat->Nat->Bool}{p:Array Nat}{pd:Array (Nat×Nat×Nat)}{g:Nat}
end
section
variable {prog:Program}{w:World}{A:Around}{E:Value->Shared->Prop}{s:Shared}{κ:SortKind}{it:Array Keyed}{n:Nat}{lt:Nat->Nat->Bool}{p:Array Nat}{pd:Array (Nat×Nat×Nat)}{g:Nat}
end
end L2
namespace L2
open PySem
section
variable {prog:Program}{w:World}{A:Around}{E:Value->Shared->Prop}{s:Shared}
end
end L2
namespace L2
open PySem PySem.W PyProof.Rows
section
variable {prog:Program}{w:World}{A:Around}{E:Value->Shared->Prop}{s:Shared}
end
end L2
namespace L2
open PySem PySem.Spec PyProof.Rows
section
variable {X:Cx}{k:Nat}
end
section
variable {prog:Program}{w:World}{A:Around}{E:Value->Shared->Prop}{s:Shared}
end
section
variable {X:Cx}{tg a:Expr}{ta:AE}{pos p:Pos}
end
def Qjh:MO->Prop
 | .dk _=>True
 | .dt _=>True
 | _=>False
section
variable {X:Cx}{o e f:Expr}{bh aq:Pos}{td ty tx:AE}
def Qji(td ty tx:AE):AE:=fun τ μ R=>td τ μ λx μ1=>match x with
 | .R a=>(∃m,μ1 a=some m/\Qjh m)/\ty τ μ1 λy μ2=>tx τ μ2 λz μ3=>match y with
  | .D d=>opt (μ3 a) λm=>opt (dget m d) λr=>R (r.getD z) μ3
  | _=>False
 | _=>False
end
section
variable {X:Cx}{e:Expr}{te:AE}{p p2 pos fw:Pos}
def Qfn(te:AE):AE:=fun τ μ R=>te τ μ λx μ1=>match x with
 | .R a=>opt (μ1 a) λm=>match m with
  | .lst xs=>∀l,μ1 l=none->R (.R l) (Aj μ1 l (.lst xs.reverse))
  | _=>False
 | _=>False
theorem Ya(hc:X.calm=true)(hg:Gl X "list") (hm:X.mg "list" = none) (fk:Gl X "reversed") (fe:X.mg "reversed" = none) (he:VE X e te)
  (hs:starEach [.Call (.Name "reversed" p2) [e] [] fw] X.env=[(false,eval (.Call (.Name "reversed" p2) [e] [] fw) X.env)]:=by rfl) (dw:starEach [e] X.env=[(false,eval e X.env)]:=by rfl) :
  VE X (.Call (.Name "list" p) [.Call (.Name "reversed" p2) [e] [] fw] [] pos) (Qfn te):=(Xo hc hg hm fk fe he hs dw).imp fun σ H Q zz95=>B9 zz95 fun τ μ R hs hc h hq =>
 ⟨τ,μ,_,hs,hc,h,λx μ1 v H1 S1 c1 rx hx=>by
  split at hx
  ·rename_i a
   obtain⟨m,em,hx⟩:=A6 hx
   split at hx
   ·obtain⟨ob,ho,ws,rfl,rs⟩:=c1 _ _ em
    cases rx
    exact⟨a,ws,rfl,Ei.of ho,λl hl=>hq _ _ _ _ (S1.trans (Kp.new hl _)) (c1.new hl (C2 rs.rev)) Em (hx l (c1.none hl))⟩
   ·exact hx.elim
  ·exact hx.elim⟩
end
end L2
namespace L2
open PySem
section
variable {prog:Program}{w:World}{Kt:Type} [DecidableEq Kt]{knd:KeyKind prog w Kt}{A:Around}{E:Value->Shared->Prop}{s:Shared}{a:Addr}{led:Bool}
end
section
variable {prog:Program}{w:World}{Kt:Type} [DecidableEq Kt]{knd:KeyKind prog w Kt}{A:Around}{R:Result->Shared->Prop}{sa it t:Addr}{led:Bool}
end
section
variable {prog:Program}{w:World}{A:Around}{E:Value->Shared->Prop}{s:Shared}
end
section
end
section
variable {prog:Program}{w:World}{Kt:Type} [DecidableEq Kt]{knd:KeyKind prog w Kt}{A:Around}{E:Value->Shared->Prop}{s:Shared}{sa t:Addr}{led:Bool}
end
section
variable {prog:Program}{w:World}{A:Around}{E:Value->Shared->Prop}{s:Shared}
end
end L2
namespace L2
open PySem PySem.Spec PyProof.Rows PySem.W
section
variable {prog:Program}{w:World}{A:Around}{E:Value->Shared->Prop}{s:Shared}
end
end L2
namespace L2
open PySem PySem.Spec PyProof.Rows
section
variable {X:Cx}{aa:List (Addr×Obj)}{σ:St}{H:Hp}{s:Shared}
end
noncomputable instance decPD:DecidableEq PyData:=λa b=>Classical.propDecidable (a=b)
section
variable {prog:Program}{w:World}
variable(prog w) in
end
section
variable {X:Cx}{aa:List (Addr×Obj)}{σ:St}{H:Hp}{s:Shared}{a:Addr}{e:Expr}{te:AE}{τ:ASt}{μ:M}
variable {o i value:Expr}{pos bu:Pos}{td ty tv:AE}
end
section
variable {prog:Program}{w:World}{A:Around}{E:Value->Shared->Prop}{s:Shared}
end
section
variable {X:Cx}{aa:List (Addr×Obj)}{σ:St}{s:Shared}
def Qkg(ta tb:AE):AE:=fun τ μ R=>ta τ μ λx μ1=>tb τ μ1 λy μ2=>match x,y with
 | .R a,.R b=>opt (μ2 a) λm=>opt (μ2 b) λn=>match m,n with
  | .lst us,.lst vs=>opt (dats us) λds=>opt (dats vs) λes=>(ds.length=es.length/\ds.length<=1000)/\R (.D (.tuple (List.zipWith (λd e=>PyData.tuple [d,e]) ds es))) μ2
  | _,_=>False
 | _,_=>False
def Qjj:AC:=λxs μ R=>match xs with
 | [.D (.bool b)]=>R (.D (.int (if b then 1 else 0))) μ
 | [.D (.int i)]=>R (.D (.int i)) μ
 | _=>False
theorem Qfo:VCall X (.type "int") Qjj:=by
 intro aa s σ H xs us Q I r zz202
 refine B9 zz202 λas μ R ra hc h hq=>?_
 cases ra with
 | nil=>exact False.elim h
 | @cons x v xs' fq r1 r2 =>
  cases r2 with
  | nil =>
   cases x with
   | D d =>
    cases d with
    | bool b =>
     cases RelA.bl r1
     exact Ki aa s σ H _ us Q I r (.inr ⟨_,rfl,hq _ _ _ _ Kp.refl hc Cu h⟩)
    | int i =>
     cases RelA.int r1
     exact Ki aa s σ H _ us Q I r (.inl ⟨_,rfl,hq _ _ _ _ Kp.refl hc Cu h⟩)
    | _=>exact False.elim h
   | _=>exact False.elim h
  | cons _ _ =>
   refine False.elim ?_
   cases x with
   | D d=>cases d <;> exact h
   | _=>exact h
def txts:List AV->Option (List Str)
 | []=>some []
 | .D (.str z) :: xs=>(txts xs).map (z :: ·)
 | _ :: _=>none
theorem Nk{K:PySem.W.Frag}{H:Hp}:∀{xs:List AV} {vs:List V} {zs:List Str},Ax K H xs vs->txts xs=some zs->vs=zs.map V.str
 | [],_,zs,r,e=>by cases r;cases e;rfl
 | x :: xs,_,zs,r,e=>by
  cases r with
  | cons r1 r2 =>
   unfold txts at e
   split at e
   ·rename_i h;cases h
   ·rename_i z xs' h
    cases h
    obtain⟨ys,ey,rfl⟩:=Yax.mp e
    cases RelA.str r1
    rw [Nk r2 ey];rfl
   ·cases e
def Za:AV->AC:=λx xs μ R=>match x,xs with
 | .D (.str z),[.R p]=>opt (μ p) λm=>match m with
  | .lst ys=>opt (txts ys) λzs=>(zs.map (·.length)).sum+zs.length * z.length<=16777216/\R (.D (.str (Txt.join z zs))) μ
  | _=>False
 | _,_=>False
theorem Hh:VMt X "str.join" Za:=by
 intro aa s σ H x xs v us Q I rx r zz203
 refine Dl zz203 λa as μ R ra rs hc h hq=>?_
 unfold Za at h
 split at h
 ·obtain⟨m,em,h⟩:=A6 h
  split at h
  ·obtain⟨zs,ez,h⟩:=A6 h
   obtain⟨o,ho,ws,rfl,rr⟩:=hc _ _ em
   cases RelA.str ra
   cases rs with
   | cons r1 r2 =>
    cases r2
    cases r1
    rw [Nk rr ez]at ho
    exact Rf aa s σ H _ _ v us Q I rx r ⟨_,_,zs,rfl,rfl,ho,h.1,hq _ _ _ _ Kp.refl hc Gi h.2⟩
  ·exact h.elim
 ·exact h.elim
end
section
variable {prog:Program}{w:World}{A:Around}{E:Value->Shared->Prop}{s:Shared}
end
section
variable {X:Cx}{e st:Expr}{te ts:AE}{p2 pos:Pos}
end
section
variable {X:Cx}{tg:Expr}
end
def lets(z:Str):Prop:=∀c∈z.cps.toList,97<=c/\c<=122
abbrev Zb:List Str:=["place","letter","rule","own","arrow","ends","one","other"]
abbrev Hi:List Str:=["place","rule","own","arrow","ends","one","other"]
structure NameOk(z:Str):Prop where
 l:lets z
 a:1<=z.length
 b:z.length<=6
 k:z∉Zb
theorem Cg(a b:Str):(a++b).cps.toList=a.cps.toList++b.cps.toList:=by
 show(a.cps++b.cps).toList=_
 simp
theorem Bj(z:Str):z.length=z.cps.toList.length:=by simp [Str.length]
theorem Jo{a b:Str}(ha:lets a)(hb:lets b):lets (a++b):=λc hc=>by
 rw [Cg]at hc
 rcases Ya5.mp hc with h | h
 ·exact ha c h
 ·exact hb c h
theorem Jp{x:Str}{j:Int}(h0:0<=j)(h1:j<=(x.length:Int)):(Txt.slice x none (some j)).cps.toList=x.cps.toList.take j.toNat:=by
 have:=StrLaws.sliceText_to (x:=x) (j:=j) ⟨h0,by rw [<- Bj];exact h1⟩
 show(StrLaws.sliceText x none (some j)).cps.toList=_
 rw [this]
 simp
theorem Jq{x:Str}{j:Int}(h0:0<=j)(h1:j<=(x.length:Int)):(Txt.slice x (some j) none).cps.toList=x.cps.toList.drop j.toNat:=by
 have h1':j<=(x.cps.toList.length:Int):=by rw [<- Bj];exact h1
 have:=StrLaws.sliceText_from (x:=x) (i:=j) ⟨h0,h1'⟩
 show(StrLaws.sliceText x (some j) none).cps.toList=_
 rw [this]
 show(((x.cps.toList.drop j.toNat).take ((x.cps.toList.length:Int) - j).toNat).toArray).toList=_
 rw [List.toList_toArray,Ycx (by rw [Ybj];omega)]
theorem Vb:("" : Str).cps.toList=[]:=by decide +kernel
theorem Rs:∀{zs:List Str},(∀z∈zs,lets z)->lets (Txt.join "" zs):=λ{zs} h=>by
 show lets (PySem.Builtin.Str.glued "" zs)
 rw [Yd4]
 induction zs with
 | nil=>exact λc hc=>by simp [Str.join,Str.empty]at hc
 | cons x zs ih =>
  cases zs with
  | nil=>exact h x Yao
  | cons y zs =>
   show lets (x ++ "" ++ Str.join "" (y :: zs))
   exact Jo (Jo (h x Yao) (λc hc=>by rw [Vb]at hc;simp at hc)) (ih λz hz=>h z (Yae _ hz))
def Cc(ai:Str)(at' turn:Int)(lg:Str)(k:Nat):Str:=Txt.slice ai none (some at')++⟨#[97+((turn+7 * (0+(k:Int))) % 26).toNat]⟩++Txt.slice ai (some at') none++lg
def Md(ai:Str)(at' turn:Int)(lg:Str)(k:Nat):Str:=if Cc ai at' turn lg k∈Hi then Cc ai at' turn lg k ++ "q" else Cc ai at' turn lg k
section
variable {ai lg:Str}{at' turn:Int}
theorem Es(h0:0<=at')(h1:at'<=(ai.length:Int))(k:Nat):(Cc ai at' turn lg k).cps.toList=ai.cps.toList.take at'.toNat++[97+((turn+7 * (0+(k:Int))) % 26).toNat]++ai.cps.toList.drop at'.toNat++lg.cps.toList:=by
 unfold Cc
 rw [Cg,Cg,Cg,Jp h0 h1,Jq h0 h1]
theorem Et(h0:0<=at')(h1:at'<=(ai.length:Int))(k:Nat):(Cc ai at' turn lg k).length=ai.length+1+lg.length:=by
 rw [Bj,Es h0 h1,Bj ai,Bj lg]
 rw [Bj]at h1
 simp only [List.length_append,List.length_take,List.length_drop,List.length_singleton]
 omega
theorem Hs(h0:0<=at')(h1:at'<=(ai.length:Int))(hc:lets ai)(hl:lets lg)(k:Nat):lets (Cc ai at' turn lg k):=λc hm=>by
 rw [Es h0 h1]at hm
 simp only [List.mem_append,List.mem_singleton]at hm
 rcases hm with((h | h) | h) | h
 ·exact hc c (Yb3 h)
 ·have:=Yef (turn+7 * (0+(k:Int))) (show(26:Int)≠0 by decide)
  have:=Ydo (turn+7 * (0+(k:Int))) (show(0:Int) < 26 by decide)
  omega
 ·exact hc c (Yci h)
 ·exact hl c h
theorem Ol(h0:0<=at')(h1:at'<=(ai.length:Int)){i j:Nat}(hi:i < 26)(hj:j < 26)(e:Cc ai at' turn lg i=Cc ai at' turn lg j):i=j:=by
 have e:=Ybo (λs:Str=>s.cps.toList) e
 simp only [Es h0 h1]at e
 have e:=Ydf (Ydf e)
 have e:=List.append_cancel_left e
 injection e with e
 omega
theorem Qcf:∀z∈Hi,z.length<=5:=by decide +kernel
theorem Qcg:∀z∈Zb,z.cps.toList.getLast?≠some 113:=by decide +kernel
theorem Pu:("q" : Str).cps.toList=[113]:=by decide +kernel
theorem z_cps:("z" : Str).cps.toList=[122]:=by decide +kernel
theorem Om:("letter" : Str).cps.toList=[108,101,116,116,101,114]:=by decide +kernel
theorem Qfp(h0:0<=at')(h1:at'<=(ai.length:Int))(hc:lets ai)(wv:ai.length<=4)(hl:lg=Str.empty\/lg = "z") (k:Nat):NameOk (Md ai at' turn lg k):=by
 have vc:lg.length<=1:=by rcases hl with rfl | rfl <;> decide +kernel
 have ma:lets lg:=by
  rcases hl with rfl | rfl
  ·exact λc h=>by simp [Str.empty]at h
  ·exact λc h=>by rw [z_cps,Ya3]at h;omega
 have hb:=Et (lg:=lg) (turn:=turn) h0 h1 k
 have u6:=Hs (turn:=turn) h0 h1 hc ma k
 unfold Md
 split
 ·rename_i hm
  have h5:=Qcf _ hm
  have eq:(Cc ai at' turn lg k ++ "q").length=(Cc ai at' turn lg k).length+1:=by rw [Bj,Cg,Pu,Yai,<- Bj];rfl
  refine⟨Jo u6 (λc h=>by rw [Pu,Ya3]at h;omega),by omega,by omega,λhk=>?_⟩
  refine Qcg _ hk ?_
  rw [Cg,Pu,List.getLast?_append]
  rfl
 ·rename_i hm
  refine⟨u6,by omega,by omega,λhk=>?_⟩
  have oe:Cc ai at' turn lg k = "letter" := by
   simp only [List.mem_cons,List.not_mem_nil,or_false]at hk hm
   rcases hk with h | h | h | h | h | h | h | h
   ·exact absurd (Or.inl h) hm
   ·exact h
   ·exact absurd (Or.inr (Or.inl h)) hm
   ·exact absurd (Or.inr (Or.inr (Or.inl h))) hm
   ·exact absurd (Or.inr (Or.inr (Or.inr (Or.inl h)))) hm
   ·exact absurd (Or.inr (Or.inr (Or.inr (Or.inr (Or.inl h))))) hm
   ·exact absurd (Or.inr (Or.inr (Or.inr (Or.inr (Or.inr (Or.inl h)))))) hm
   ·exact absurd (Or.inr (Or.inr (Or.inr (Or.inr (Or.inr (Or.inr h)))))) hm
  have e6:("letter" : Str).length=6:=by decide +kernel
  rw [oe,e6]at hb
  rcases hl with rfl | rfl
  ·have:Str.empty.length=0:=rfl
   omega
  ·have e:=Ybo (λs:Str=>s.cps.toList.getLast?) oe
   simp only [Es h0 h1,z_cps,Om,List.getLast?_append]at e
   simp at e
theorem Vc(h0:0<=at')(h1:at'<=(ai.length:Int)){n:Nat}(hn:n<=26):((List.range n).map (Md ai at' turn lg)).Nodup:=by
 unfold List.Nodup
 rw [List.pairwise_map]
 refine List.Pairwise.imp_of_mem (λ{a b} ha hb db e=>?_) List.pairwise_lt_range
 have ha:=Yc9.mp ha
 have hb:=Yc9.mp hb
 have la:=Et (lg:=lg) (turn:=turn) h0 h1 a
 have lb:=Et (lg:=lg) (turn:=turn) h0 h1 b
 have lq:∀z:Str,(z ++ "q").length=z.length+1:=λz=>by rw [Bj,Cg,Pu,Yai,<- Bj];rfl
 have fi:Cc ai at' turn lg a=Cc ai at' turn lg b:=by
  unfold Md at e
  split at e <;> split at e
  ·have e:=Ybo (λs:Str=>s.cps.toList) e
   simp only [Cg]at e
   exact El (Ydf e)
  ·have:=Ybo Str.length e
   rw [lq]at this;omega
  ·have:=Ybo Str.length e
   rw [lq]at this;omega
  ·exact e
 have:=Ol h0 h1 (by omega) (by omega) fi
 omega
end
end L2
namespace L2
open PySem PySem.SetTable
def Qjk(mask:Nat)(p:Probe):Probe :=
 if p.more > 0 then { p with j:=p.j+1,more:=p.more - 1 } else
 { p with j:=(leap mask p.i p.perturb).1,more:=runEnd mask (leap mask p.i p.perturb).1 - (leap mask p.i p.perturb).1,i:=(leap mask p.i p.perturb).1,perturb:=(leap mask p.i p.perturb).2 }
def Qjl(mask i perturb l:Nat):Probe:={ j:=i+l,more:=runEnd mask i - i - l,i:=i,perturb:=perturb,dummy:=none }
def pAt(mask:Nat)(h:Int):Nat->Probe
 | 0=>Qjl mask (bits h % (mask+1)) (bits h) 0
 | n+1=>Qjk mask (pAt mask h n)
def sq(mask:Nat)(h:Int)(n:Nat):Nat:=(pAt mask h n).j
def rn(mask:Nat)(h:Int):Nat->Nat×Nat
 | 0=>(bits h % (mask+1),bits h)
 | r+1=>leap mask (rn mask h r).1 (rn mask h r).2
def nr(mask:Nat)(h:Int):Nat->Nat
 | 0=>0
 | r+1=>nr mask h r+(runEnd mask (rn mask h r).1 - (rn mask h r).1)+1
end L2
namespace L2
open PySem
section
variable {prog:Program}{w:World}
variable {A:Around}{E:Value->Shared->Prop}{s:Shared}
end
end L2
namespace L2
open PySem PySem.Spec PyProof.Rows
section
variable {prog:Program}{w:World}{A:Around}{R:Result->Shared->Prop}{sa it t:Addr}{led:Bool}
end
section
variable {X:Cx}{aa:List (Addr×Obj)}{σ:St}{H:Hp}{s:Shared}{k:Nat}
end
section
variable {X:Cx}{tg:Expr}
def chA(c:Nat):AV:=.D (.str ⟨#[c]⟩)
theorem Vd{K:PySem.W.Frag}{H0:Hp}{z:Str}:ItOk K H0 (Its z) (z.cps.toList.map chA) (λ_=>True):=by
 refine⟨λi H μ S c k hi=>?_,λi H μ v H' x S c k e y=>?_,λH μ S c k=>?_⟩
 ·rw [Yaa,Ydd]at hi
  exact hi
 ·obtain⟨rfl,d,e1,rfl⟩:=y
  rw [List.getElem?_map,Array.getElem?_toList,e1]at e
  cases e
  exact⟨Kp.refl,c,M8 Cs⟩
 ·show(List.map chA z.cps.toList).length=z.cps.size
  rw [Yaa,Ydd]
def Qjm(tl:AE):AI:=fun τ μ R=>tl τ μ λx μ1=>match x with
 | .D (.str z)=>R (z.cps.toList.map chA) (λ_=>True) μ1
 | _=>False
theorem Ve{l:Expr}{tl:AE}(hl:VE X l tl):VI X tg l (Qjm tl) :=
 (Qbh hl).imp fun σ H Q zz111=>B9 zz111 fun τ μ R hs hc h hq=>⟨τ,μ,_,hs,hc,h,λx μ1 v H1 S1 c1 rx hx=>by
  split at hx
  ·cases RelA.str rx
   exact⟨_,rfl,hq _ _ _ _ _ S1 c1 Vd hx⟩
  ·exact hx.elim⟩
end
section
variable {prog:Program}{w:World}{A:Around}{E:Value->Shared->Prop}
end
section
variable {X:Cx}{pos:Pos}
end
section
variable {prog:Program}{w:World}{Kt:Type} [DecidableEq Kt]{knd:KeyKind prog w Kt}{A:Around}{R:Result->Shared->Prop}{sa it t:Addr}{led:Bool}
variable {E:Value->Shared->Prop}{s:Shared}
end
section
variable {X:Cx}{aa:List (Addr×Obj)}{σ:St}{H:Hp}{s:Shared}{k:Nat}
end
section
variable {X:Cx}{k:Nat}
end
end L2
namespace L2
open PySem PySem.Spec PySem.Calls PyProof.Rows
section
variable {prog:Program}{w:World}{A:Around}{E:Value->Shared->Prop}{s:Shared}{K:PySem.W.Frag}{env:Env}
end
section
variable {M:Model}{A A1:Around}{E E1:Value->Shared->Prop}{s:Shared}{base:Heap}{env:Env}{outer:List Env}{L e:Addr}{cls:Value}{d:Option Addr}{vs:Array Value}
end
section
variable {X:Cx}{y:Str}{p pos bu:Pos}{C:Addr}{EX:AX}
end
section
variable {P:Program}{w:World}{K:PySem.W.Frag}{mg:Str->Option Value}{base:Heap}
end
def Zc:AC:=λxs μ R=>match xs with
 | [x]=>opt (see μ x) λd=>OkD d/\R (.D (.str d.shown)) μ
 | _=>False
section
variable {X:Cx}{k:Nat}
theorem Me(hr:Room k X.A):VCall X (.builtin "repr") Zc:=by
 intro aa s σ H xs us Q I r zz114
 refine B9 zz114 λas μ R ra hc h hq=>?_
 unfold Zc at h
 split at h
 ·cases ra with
  | cons r1 r2 =>
   cases r2
   obtain⟨u,rfl,ru⟩:=Dp r
   obtain⟨d,ed,ok,h⟩:=A6 h
   obtain⟨bs,rd⟩:=Cl I hc r1 ru ed
   have hsz:d.shown.length<=sizeLine:=Yap (PyProof.Rows.shown_le13 ok.lay ok.sh) (by decide)
   have hn:d.hasDict=false:=PyData.hasDict_of_layable ok.lay
   have hu:=hr.un
   have hdp:=ok.depth
   have fin:∀(h':Heap) (t:Tok) (tk:Nat),(∀b o,s.heap.get? b=some o->h'.get? b=some o)->EP X aa σ Q (.str d.shown t) { s with heap:=h',toks:=tk }:=λh' t tk hk =>
    ⟨.str d.shown,H,I.kept hk,⟨_,rfl⟩,hq _ _ _ _ Kp.refl hc Gi h⟩
   cases rd with
   | none=>exact P.repr_of_none (by simpa only [PyData.shown] using fin s.heap s.toks (s.toks+1) λ_ _ e=>e)
   | bool b=>exact P.repr_of_bool (by simpa only [PyData.shown] using fin s.heap s.toks (s.toks+1) λ_ _ e=>e)
   | int i t =>
    have hs:decide (i.natAbs.log2 < 1920)=true:=by simpa only [PyData.showable] using ok.sw
    exact P.repr_of_int (Yaf hs) (by simpa only [PyData.shown] using fin s.heap s.toks (s.toks+1) λ_ _ e=>e)
   | str z t=>exact P.repr_of_str (by simpa only [PyData.shown] using fin s.heap s.toks (s.toks+1) λ_ _ e=>e) (by simpa only [PyData.shown] using hsz)
   | list h1 h2 h3 h4=>exact repr_of_reads' (.list h1 h2 h3 h4) ok.sw (PyData.noDict_hsm hn) hr.gd (by omega) (λ_ _ e=>e) (λh' u tk hk=>fin h' u tk hk) hsz
   | tuple h1 h2 h3 h4=>exact repr_of_reads' (.tuple h1 h2 h3 h4) ok.sw (PyData.noDict_hsm hn) hr.gd (by omega) (λ_ _ e=>e) (λh' u tk hk=>fin h' u tk hk) hsz
   | dict h1 h2 h3 h4 h5=>simp [PyData.hasDict]at hn
 ·exact h.elim
end
section
variable {X:Cx}{x:Str}{p pos:Pos}{e:Expr}{es:List Expr}{t:AA}{k:Nat}{ps:List Str}{sp:ASp}
end
theorem On{h:Heap}{e:PyData}:∀{ds:List PyData} {us:List Value} {as:List Addr},ReadsAll h us ds as->PyData.canLayAll0 ds=true->us.length=ds.length/\∀(m:Nat) (h1:m < us.length) (h2:m < ds.length),Iw h e us[m]=PyData.eqv ds[m] e
 | [],_,_,r,_=>by
  cases r
  exact⟨rfl,λm h1 _=>nomatch h1⟩
 | d :: ds,_,_,r,c=>by
  cases r with
  | cons r1 r2 =>
   simp only [PyData.canLayAll0,Bool.and_eq_true]at c
   obtain⟨i1,i2⟩:=On (e:=e) r2 c.2
   refine⟨by simp only [List.length_cons,i1],λm h1 h2=>?_⟩
   cases m with
   | zero=>exact Ts r1 c.1
   | succ m=>exact i2 m (Nat.lt_of_succ_lt_succ h1) (Nat.lt_of_succ_lt_succ h2)
def Qci:AV->AC:=λx xs μ R=>match x,xs with
 | .R a,[y]=>opt (see μ y) λd=>opt (μ a) λm=>match m with
  | .lst ys=>opt (dats ys) λds=>B7 d/\B7 (.tuple ds)/\opt (ds.findIdx? λe=>PyData.eqv e d) λj=>R (.D (.int (j:Nat))) μ
  | _=>False
 | _,_=>False
section
variable {X:Cx}{k:Nat}
theorem Ib(hr:Room k X.A):VMt X "list.index" Qci:=by
 intro aa s σ H x xs v us Q I rx r zq
 refine Dl zq λa as μ R ra rs hc h hq=>?_
 cases a with
 | R a =>
  cases rs with
  | nil=>exact False.elim h
  | cons r1 r2 =>
   cases r2 with
   | cons _ _=>exact False.elim h
   | nil =>
    obtain⟨d,ed,h⟩:=A6 h
    obtain⟨m,em,h⟩:=A6 h
    cases m with
    | lst ys =>
     obtain⟨ds,eds,ok1,ok2,h⟩:=A6 h
     obtain⟨j,ej,h⟩:=A6 h
     obtain⟨o,ho,vs,rfl,rl⟩:=hc _ _ em
     cases (show x=.ref a from ra)
     obtain⟨u,rfl,ru⟩:=Dp r
     cases rx
     obtain⟨bs,rd⟩:=Cl I hc r1 ru ed
     obtain⟨ae,r',pl,hz⟩:=I.list (Ei.of ho)
     obtain⟨c1,c2⟩:=Gy ok2
     obtain⟨cs,rb⟩:=Aq.reads I ds vs ae (rl.dats eds) r'
     obtain⟨el,ea⟩:=On (e:=d) rb c1
     obtain⟨hj,e1,e2⟩:=List.findIdx?_eq_some_iff_getElem.mp ej
     have hl:=r'.length
     have hsl:sizeLine < 2 ^ 63 - 1:=by decide
     have hu:=hr.un
     obtain⟨⟨cls,dd,data,sl⟩,ho2,hc2,n,dj⟩:=id pl.isList
     simp only at hc2 dj
     subst hc2 dj
     refine Ydu Ycd ⟨_,ho2,rfl⟩ PySem.F.entry_list_index (PySem.F.args_list_index_2 _ _)
      (SeqAt.list_indexAt a ae.toArray n dd sl u (Iw s.heap d) j (by rw [Yal];omega) (by omega) ?_ ?_) ⟨ho2,λy hy=>(C1 (A:=X.A.in1) rd ok1.1 (by show X.A.units+1+64 < _;omega) rb c1 c2).1 y (by simpa using hy),?_⟩
     ·show Iw s.heap d ae[j]=true
      rw [ea j (by omega) hj];exact e1
     ·intro m hm db
      show Iw s.heap d ae[m]=false
      rw [ea m (by simpa using hm) (by omega)]
      have:=e2 m db
      simpa using this
     ·exact⟨.int j,H,I.tok _,⟨_,rfl⟩,hq _ _ _ _ Kp.refl hc Cu h⟩
    | _=>exact False.elim h
 | _=>exact False.elim h
def Qjn:A2:=λx y μ R=>match x,y with
 | .D (.str i),.D (.str j)=>R (.D (.bool (!decide (i=j)))) μ
 | _,_=>False
theorem K9:VOp X (compareOp .NotEq) Qjn:=by
 intro aa s σ H x y v u Q I rx ry zq
 refine Dl zq λa b μ R ra rb hc h hq=>?_
 cases a with
 | D d =>
  cases d with
  | str i =>
   cases b with
   | D e =>
    cases e with
    | str j =>
     cases RelA.str ra
     cases RelA.str rb
     obtain⟨t,rfl⟩:=rx
     obtain⟨t',rfl⟩:=ry
     exact ne_str (Ln I (hq _ _ _ _ Kp.refl hc Cv h) (by rw [Yed];simp))
    | _=>exact False.elim h
   | _=>exact False.elim h
  | _=>exact False.elim h
 | _=>exact False.elim h
end
end L2
namespace L2
open PySem PySem.Spec PySem.Calls PyProof.Rows PySem.W
section
variable {prog:Program}{w:World}{A:Around}{E:Value->Shared->Prop}{s:Shared}
end
end L2
namespace L2
open PySem PySem.Spec PySem.Calls PyProof.Rows
section
variable {X:Cx}{k:Nat}
theorem Pw{K:PySem.W.Frag}{H:Hp}:∀(zs:List Str),Ax K H (zs.map λz=>AV.D (.str z)) (zs.map V.str)
 | []=>.nil
 | _ :: zs=>.cons Gi (Pw zs)
def Vf:AV->AC:=λx xs μ R=>match x,xs with
 | .D (.str z),[.D (.str y)]=>(y.length==0)=false/\z.length<=1000000/\∀p,μ p=none->R (.R p) (Aj μ p (.lst ((Txt.split z y).map λw=>.D (.str w))))
 | _,_=>False
theorem G5:VMt X "str.split" Vf:=by
 intro aa s σ H x xs v us Q I rx r zz
 refine Dl zz λa as μ R ra rs hc h hq=>?_
 unfold Vf at h
 split at h
 ·cases RelA.str ra
  cases rs with
  | cons r1 r2 =>
   cases r2
   cases RelA.str r1
   exact Tu aa s σ H _ _ v us Q I rx r ⟨_,_,rfl,rfl,h.1,h.2.1,λl hl=>hq _ _ _ _ (Kp.new hl _) (hc.new hl (C2 (Pw _))) Em (h.2.2 l (hc.none hl))⟩
 ·exact h.elim
end
end L2
namespace L2
open PySem PySem.Spec PySem.Calls PyProof.Rows PySem.W
section
variable {prog:Program}{w:World}{A:Around}{E:Value->Shared->Prop}{s:Shared}{R:Result->Shared->Prop}
variable {I:Addr}{fp wr:List Addr}{G:Array GenState->Array GenState->Prop}{n:Nat}{P:Nat->Value->Prop}{St:Nat->Shared->Prop}
end
section
variable {X:Cx}
end
end L2
namespace L2
open PySem
section
variable {prog:Program}{w:World}{A:Around}{E:Value->Shared->Prop}{s:Shared}
end
end L2
namespace L2
open PySem PySem.Spec PySem.Calls PyProof.Rows
section
variable {X:Cx}{k:Nat}
end
section
variable {X:Cx}{k:Nat}
end
theorem Rt{M:Model}{A:Around}{E:Value->Shared->Prop}{s:Shared}{β:Type}(f:Nat->β->Sem (ForInStep β))(k:Nat)(I:Nat->β->Shared->Prop)(Q:β->Shared->Prop)
  (turn:∀i b s',i < k->I i b s'->wpAny M A (f i b) (λr s2=>match r with | .done c=>Q c s2 | .yield c=>I (i+1) c s2) E s') (fin:∀b s',I k b s'->Q b s') (b:β) (h:I 0 b s):wpAny M A (forIn [:k] b f) Q E s:=by
 rw [Std.Legacy.Range.forIn_eq_forIn_range']
 simp only [Std.Legacy.Range.size,Nat.sub_zero,Nat.add_sub_cancel,Nat.div_one]
 refine wpAny_forIn_list _ (λrest q s'=>∃i,rest=List.range' i (k - i)/\i<=k/\I i q s') _ ?_ ?_ _ _ ⟨0,by simp,Yb0 _,h⟩
 ·rintro x rest q s' ⟨i,hr,hi,hI⟩
  rcases Nat.lt_or_ge i k with db | hge
  ·rw [show k - i=(k - (i+1))+1 by omega,List.range'_succ]at hr
   obtain⟨rfl,rfl⟩:=Yea hr
   refine Yby (turn x q s' db hI) (λr s2 gp=>?_) λ_ _ z=>z
   cases r with
   | done c=>exact gp
   | yield c=>exact⟨x+1,rfl,db,gp⟩
  ·rw [Nat.sub_eq_zero_of_le hge]at hr
   cases hr
 ·rintro q s' ⟨i,hr,hi,hI⟩
  have:i=k:=by
   have:=Ybo List.length hr
   rw [List.length_range']at this
   simp at this
   omega
  subst this
  exact fin q s' hI
theorem Nl(l:Addr)(ae:Array Value)(n:Nat)(dd:Option Addr)(sl:Array (Option Value))(x:Value)(e:Value->Bool)(j:Nat)(hj:j < ae.size)(cy:e ae[j]=true)(hno:∀m (hm:m < ae.size),m < j->e ae[m]=false) :
  Meets (Builtin.«tuple.index» ⟨[.ref l,x],[]⟩) (λA R s=>s.heap.get? l=some { cls:=.type "tuple",dict:=dd,data:=.seq ae n,slots:=sl }/\(∀y,y∈ae->SeqAt.EqAt A.in1 s y x (e y))/\R (.ok (.ret (.int j s.toks))) { s with toks:=s.toks+1 }) :=
 .of_wp λprog w A R s hh=>by
  obtain⟨hp,g,dl,tk,os⟩:=s
  obtain⟨hl,he,hR⟩:=hh
  wp_walk using Yc2 hl,Rt _ _ (λi b s'=>s'=⟨hp,g,dl,tk,os⟩/\b=(none,())/\i<=j) _
  case turn =>
   rintro i b s' hi ⟨rfl,rfl,jk⟩
   have db:i < ae.size:=by omega
   rw [Array.getElem?_eq_getElem db]
   refine Yab (he _ (Array.getElem_mem db) prog w _ _ ?_)
   by_cases c:i=j
   ·subst c
    rw [cy]
    wp_walk
    exact⟨_,rfl,hR⟩
   ·rw [hno i db (by omega)]
    wp_walk
    exact⟨rfl,rfl,by omega⟩
  case fin =>
   rintro b s' ⟨rfl,rfl,jk⟩
   exfalso
   omega
  case h=>exact⟨rfl,rfl,Yb0 _⟩
def Mf:AV->AC:=λx xs μ R=>match x,xs with
 | .D (.tuple ds),[y]=>opt (see μ y) λd=>B7 d/\B7 (.tuple ds)/\opt (ds.findIdx? λe=>PyData.eqv e d) λj=>R (.D (.int (j:Nat))) μ
 | _,_=>False
section
variable {X:Cx}{k:Nat}
theorem Vg(hr:Room k X.A):VMt X "tuple.index" Mf:=by
 intro aa s σ H x xs v us Q I rx r zq
 refine Dl zq λa as μ R ra rs hc h hq=>?_
 unfold Mf at h
 split at h
 ·rename_i ds y
  cases rs with
  | cons r1 r2 =>
   cases r2 with
   | nil =>
    obtain⟨d,ed,ok1,ok2,h⟩:=A6 h
    obtain⟨j,ej,h⟩:=A6 h
    obtain⟨a,vs,rfl,ha,hd⟩:=Dk.tup (K:=X.K) (H:=H) ra
    obtain⟨u,rfl,ru⟩:=Dp r
    cases rx
    obtain⟨bs,rd⟩:=Cl I hc r1 ru ed
    obtain⟨ae,r',pl,hz⟩:=I.tuple ha.sq
    obtain⟨c1,c2⟩:=Gy ok2
    obtain⟨cs,rb⟩:=Aq.reads I ds vs ae hd r'
    obtain⟨el,ea⟩:=On (e:=d) rb c1
    obtain⟨hj,e1,e2⟩:=List.findIdx?_eq_some_iff_getElem.mp ej
    have hu:=hr.un
    obtain⟨⟨cls,dd,data,sl⟩,ho2,hc2,n,dj⟩:=id pl
    simp only at hc2 dj
    subst hc2 dj
    refine Ydu PySem.F.slot_tuple_index ⟨_,ho2,rfl⟩ PySem.F.entry_tuple_index (PySem.F.args_tuple_index_2 _ _)
     (Nl a ae.toArray n dd sl u (Iw s.heap d) j (by rw [Yal];omega) ?_ ?_) ⟨ho2,λy hy=>(C1 (A:=X.A.in1) rd ok1.1 (by show X.A.units+1+64 < _;omega) rb c1 c2).1 y (by simpa using hy),?_⟩
    ·show Iw s.heap d ae[j]=true
     rw [ea j (by omega) hj];exact e1
    ·intro m hm db
     show Iw s.heap d ae[m]=false
     rw [ea m (by simpa using hm) (by omega)]
     have:=e2 m db
     simpa using this
    ·exact⟨.int j,H,I.tok _,⟨_,rfl⟩,hq _ _ _ _ Kp.refl hc Cu h⟩
 ·exact h.elim
end
def kyD:Key->PyData
 | .inl i=>.int i
 | .inr z=>.str z
def prD(p:Key×PyData):PyData:=.tuple [kyD p.1,p.2]
def Qjo(te:AE):AE:=fun τ μ R=>te τ μ λx μ1=>match x with
 | .R a=>opt (μ1 a) λm=>match m with
  | .dk kvs=>opt (dats (kvs.map (·.2))) λds=>R (.D (.tuple (((kvs.map (·.1)).zip ds).map prD))) μ1
  | _=>False
 | _=>False
theorem Zd{K:PySem.W.Frag}{H:Hp}(k:Key):Dk K H (kyD k) (kV k):=by
 cases k with
 | inl i=>exact Df
 | inr z=>exact Cs
theorem Ru{x:AV}{xs:List AV}{ds:List PyData}(h:dats (x :: xs)=some ds):∃d lh,x=.D d/\ds=d :: lh/\dats xs=some lh:=by
 have e:=Gx h
 cases ds with
 | nil=>cases e
 | cons d lh =>
  obtain⟨e1,e2⟩:=Yea e
  exact⟨d,lh,e1,rfl,by rw [e2];exact Ch lh⟩
theorem Ze{K:PySem.W.Frag}{H H':Hp}(S:Kp H H'):∀{kvs:List (Key×AV)} {ws:List (Key×V)} {ds:List PyData} {as:List Addr},Ee K H kvs ws->dats (kvs.map (·.2))=some ds->Pc H' as ws->Aq K H' (((kvs.map (·.1)).zip ds).map prD) (as.map V.ref)
 | [],_,ds,as,r,e,hp=>by
  cases r
  have:as=[]:=Yct hp.1
  subst this
  exact Ct
 | kv :: kvs,_,ds,as,r,e,hp=>by
  cases r with
  | cons r1 r2 =>
   rename_i w ws
   obtain⟨k0,x⟩:=kv
   obtain⟨k1,v⟩:=w
   obtain⟨e1,e2⟩:=r1
   simp only at e1 e2
   subst e1
   cases as with
   | nil=>exact absurd hp.1 (by simp)
   | cons a as =>
    obtain⟨d,lh,rfl,rfl,e'⟩:=Ru e
    have ha:=hp.2 0 a (k0,v) rfl rfl
    have ih:=Ze S r2 e' ⟨Nat.succ.inj hp.1,λj b q h1 h2=>hp.2 (j+1) b q (by simpa using h1) (by simpa using h2)⟩
    exact Bl (Jb ha (Bl (Zd k0) (Bl (Dk.kp S _ _ e2) Ct))) ih
section
variable {X:Cx}{k:Nat}
theorem Rv{o:Expr}{to:AE}{p pos bh aq:Pos}(hc:X.calm=true)(hg:Gl X "tuple") (hm:X.mg "tuple" = none) (ho:VE X o to)
  (bq:attributeBase o "items" X.env (eval o X.env)=eval o X.env:=by rfl) (bt:(bh.endLine==aq.line)=true:=by rfl)
  (hs:starEach [.Call (.Attribute o "items" bh) [] [] aq] X.env=[(false,eval (.Call (.Attribute o "items" bh) [] [] aq) X.env)]:=by rfl) :
  VE X (.Call (.Name "tuple" p) [.Call (.Attribute o "items" bh) [] [] aq] [] pos) (Qjo to):=by
 have h1:=Tc PySem.F.plainAttrs_dict PySem.F.slot_dict_items PySem.F.type_dict_items (Tv (X:=X)) ho bq bt
 refine(Ko (Hd hc) hg hm boot_tuple (Lo h1 Nz hs) (by decide) (by decide) hs rfl).imp fun σ H Q zz=>B9 zz fun τ μ R bg hcn h hq=>?_
 refine⟨τ,μ,_,bg,hcn,h,λx μ1 v H1 S1 c1 rx hx=>?_⟩
 split at hx
 ·rename_i a
  obtain⟨m,em,hx⟩:=A6 hx
  split at hx
  ·rename_i kvs
   obtain⟨ds,eds,hx⟩:=A6 hx
   obtain⟨oo,ho2,ws,rfl,rk⟩:=c1 _ _ em
   cases (show v=.ref a from rx)
   refine⟨.inr (.inr (.inl ⟨rfl,.inl ⟨ws,ho2⟩⟩)),a,ws,rfl,rfl,ho2,λw hw=>?_⟩
   have ls:a≠w:=by rintro rfl;rw [hw]at ho2;cases ho2
   refine⟨w,a,ws,rfl,Bc,by rw [Az ls];exact ho2,λt as H' S' ht hp=>?_⟩
   have kk:Kp H1 H':=(Kp.new hw _).trans (Kp.same S')
   refine hq (.D (.tuple (((kvs.map (·.1)).zip ds).map prD))) μ1 (.ref t) H' (S1.trans kk) ((c1.over hw).same S') ?_ hx
   exact Jb ht (Ze kk rk eds hp)
  ·exact hx.elim
 ·exact hx.elim
def Qfr:A2:=λx y μ R=>match x,y with
 | .D (.str i),.D (.str j)=>R (.D (.bool (!decide (j.cps.toList < i.cps.toList)))) μ
 | _,_=>False
theorem Zf:VOp X (compareOp .LtE) Qfr:=by
 intro aa s σ H x y v u Q I rx ry zq
 refine Dl zq λa b μ R ra rb hc h hq=>?_
 unfold Qfr at h
 split at h
 ·cases RelA.str ra
  cases RelA.str rb
  exact Rc aa s σ H _ _ v u Q I rx ry ⟨_,_,rfl,rfl,hq _ _ _ _ Kp.refl hc Cv h⟩
 ·exact h.elim
def Qjp(ds:List PyData)(t:AA):AE:=fun τ μ R=>t τ μ λxs μ2=>Mf (.D (.tuple ds)) xs μ2 R
theorem Vh{x:Str}{kw:Addr}{ds:List PyData}{e:Expr}{es:List Expr}{t:AA}{p bh aq:Pos}(hr:Room k X.A)(hg:Gl X x)(hm:X.mg x=some (.ref kw))(hd:∀H,Dk X.K H (.tuple ds) (.ref kw))(hk:∃o,X.K.lookup kw=some o/\o.cls=.type "tuple" /\ o.dict=none) (ha:VA X (e :: es) t)
  (hx:(x==("__debug__" : Str))=false:=by decide) (bq:attributeBase (.Name x p) "index" X.env (eval (.Name x p) X.env)=eval (.Name x p) X.env:=by rfl)
  (fu:((backTo aq (starEach (e :: es) X.env)).all (λx=>!x.1) && (backToKw aq (keywordEach [] X.env)).all (λx=>x.1.isSome)
   && decide ((e :: es).length+([]:List Keyword).length+(if([]:List Keyword).isEmpty then 0 else 1) < 30))=true:=by rfl)
  (bt:(bh.endLine==aq.line)=true:=by rfl) (hs:starEach (e :: es) X.env=(false,eval e X.env) :: starEach es X.env:=by rfl) (cm:(backTo aq (starEach es X.env)).any (·.1)=false:=by rfl) :
  VE X (.Call (.Attribute (.Name x p) "index" bh) (e :: es) [] aq) (Qjp ds t) :=
 (Td PySem.F.plainAttrs_tuple PySem.F.slot_tuple_index PySem.F.type_tuple_index (Vg hr) (Ll (v:=.ref kw) hg hm rfl hx) ha bq fu bt hs cm).imp fun σ H Q zz=>B9 zz fun τ μ R bg hc h hq =>
  ⟨.inr (.inl ⟨rfl,hk⟩),τ,μ,_,bg,hc,h,λxs μ2 vs H2 S2 c2 rs hl gh=>⟨.D (.tuple ds),xs,μ2,R,hd H2,rs,c2,gh,hq.kp S2⟩⟩
def Vi:AC:=λxs μ R=>match xs with
 | [.R a]=>opt (μ a) λm=>match m with
  | .dk kvs=>∀p,μ p=none->R (.R p) (Aj μ p (.lst (kvs.map λq=>.D (kyD q.1))))
  | _=>False
 | _=>False
theorem Vj{K:PySem.W.Frag}{H:Hp}:∀{kvs:List (Key×AV)} {ws:List (Key×V)},Ee K H kvs ws->Ax K H (kvs.map λq=>.D (kyD q.1)) (ws.map λp=>kV p.1)
 | [],_,r=>by cases r;exact .nil
 | _ :: _,_,r=>by
  cases r with
  | cons r1 r2 =>
   refine .cons ?_ (Vj r2)
   dsimp only
   rw [r1.1]
   exact Zd _
theorem Px(ir:X.calm=true):VCall X (.type "list") Vi:=by
 intro aa s σ H xs us Q I r zz
 refine B9 zz λas μ R ra hcn h hq=>?_
 unfold Vi at h
 split at h
 ·rename_i a
  obtain⟨m,em,h⟩:=A6 h
  split at h
  ·rename_i kvs
   obtain⟨o,ho,ws,rfl,rk⟩:=hcn _ _ em
   cases ra with
   | cons r1 r2 =>
    cases r2
    cases r1
    exact L5 ir aa s σ H _ us Q I r ⟨a,ws,rfl,ho,λl hl=>hq (.R l) _ _ _ (Kp.new hl _) (hcn.new hl (C2 (Vj rk))) rfl (h l (hcn.none hl))⟩
  ·exact h.elim
 ·exact h.elim
end
section
variable {X:Cx}
def Qfs(g:AGs)(t:AA):AS:=λk _ _ _ τ μ=>t τ μ λxs μ1=>g xs τ μ1 k
theorem Yb{ts es:List Expr}{t:AA}{g:AGs}{kt k2:Nat}{pt d5 pos:Pos}(ir:X.calm=true)(ha:VA X es t)(hg:VGs X ts g)(hn:es.length<=sizeLine:=by decide)
  (hl:(assignEach ts X.env).length=es.length:=by rfl) (bg:(assignEach ts X.env).findIdx? (·.1)=none:=by rfl)
  (hs:swapsWithSole [.Tuple ts kt pt] (.Tuple es k2 d5) pos.line X.env=pure false:=by rfl) (hw:swappedStores [.Tuple ts kt pt] (.Tuple es k2 d5) X.env=pure none:=by rfl)
  (h1:(assignEach [.Tuple ts kt pt] X.env).map (·.2)=[assign (.Tuple ts kt pt) X.env]:=by rfl) :
  VS X (.Assign [.Tuple ts kt pt] (.Tuple es k2 d5) pos) (Qfs g t) :=
 (So (N0 ha) (Sn ir hg hl bg) hs hw h1).imp λD σ H zz=>E4 zz fun τ μ nk nr nb nc hs hc h hq =>
  ⟨τ,μ,_,hs,hc,h,λxs μ1 vs H1 S1 c1 rs ft hx=>⟨by rw [<- rs.length,ft];exact hn,λp hp =>
   ⟨p,vs,rfl,Hm.of Bc,by rw [<- rs.length,ft],xs,τ,μ1,nk,Ax.kp (Kp.new hp _) rs,hs.kp (S1.trans (Kp.new hp _)),c1.over hp,hx,hq.nx.kp (S1.trans (Kp.new hp _))⟩⟩⟩
end
end L2
namespace L2
open PySem PySem.Spec PyProof.Rows
section
variable {prog:Program}{w:World}{A:Around}{E:Value->Shared->Prop}{s:Shared}{z TI TO i1 i2 l1 l2:Addr}{xs ys:Array Value}{St1 St2:Nat->Heap->Prop}{k:Nat}
end
section
variable {prog:Program}{w:World}{A:Around}{E:Value->Shared->Prop}{s:Shared}
end
section
variable {X:Cx}{aa:List (Addr×Obj)}{σ:St}{H:Hp}{s:Shared}{b:Bool}{a c:Addr}{xs ys:List V}
end
section
variable {X:Cx}{e1 e2:Expr}{ta tb:AE}{pos p:Pos}
end
end L2
namespace K14
open PySem L2
def top(i:Nat):Stmt:=PySem.Challenge.pw_pileduel_k14_texts_refused.main.body.getD i (.Pass ⟨0,0,0,0⟩)
abbrev sIn:Stmt:=top 13
abbrev sNn:Stmt:=top 14
abbrev sRg:Stmt:=top 18
abbrev sRp:Stmt:=top 19
abbrev sRl:Stmt:=top 20
abbrev sRr:Stmt:=top 21
abbrev Zg:Stmt:=top 22
abbrev Zh:Stmt:=top 24
abbrev sDr:Stmt:=top 25
abbrev sNa:Stmt:=top 26
abbrev sPt:Stmt:=top 27
abbrev sAg:Stmt:=top 28
abbrev Zi:Stmt:=top 29
abbrev sOr:Stmt:=top 30
abbrev sOd:Stmt:=top 31
abbrev sSq:Stmt:=top 32
abbrev sLi:Stmt:=top 33
abbrev Yc:Stmt:=top 34
abbrev Zj:Stmt:=top 35
abbrev sTo:Stmt:=top 36
abbrev Jr:Stmt:=top 37
section
variable {P:Program}{w:World}{K:PySem.W.Frag}{mg:Str->Option Value}{base:Heap}{f:Addr}{fd:FuncData}
abbrev Rw:Stmt:=cdef (top 2)
abbrev Qjq:List Str:=["self","row"]
theorem Qft:FnScope Qjq ["self","row"] (Ai Rw):=⟨rfl,rfl,rfl,by decide +kernel,rfl,by decide +kernel,by decide +kernel⟩
theorem Qcp{n:Nat}{C:Addr}(F:Fun K "__init__" "NoText.__init__" Rw f fd) (c:XCls K C) (na0:Ha K C "row"):FnOk P w K mg base Fh (n+1) f fd ["self","row"] (spI C ["row"]):=by
 refine F.ok Qft (λvs H Q E h=>?_) (λaw A outer s H vs Q E hr h=>?_)
 ·obtain⟨e,t,ys,rfl,hl,_⟩:=h
  rw [Yba,hl];rfl
 obtain⟨e,t,ys,rfl,hl,he,q⟩:=h
 obtain⟨y0,rfl⟩:=Pq hl
 refine⟨_,Lm (Qez (pv 0) (pv 1) rfl),?_⟩
 refine⟨_,rfl,_,rfl,e,C,t,rfl,he,c,na0,λdx vt bo=>?_⟩
 refine q _ t dx (λb o hb e'=>?_) (by rw [Az (Ydc bo),Bc]) Bc bo
 rw [Az (Bz e' vt),Az hb]
 exact e'
end
section
variable {P:Program}{w:World}{K:PySem.W.Frag}{mg:Str->Option Value}{base:Heap}{f:Addr}{fd:FuncData}
def Fv(i:Int):AV:=.D (.int i)
def Ga(sd nm:Int)(l:Addr):MO:=.dk [(.inr "seed",.D (.int sd)),(.inr "number",.D (.int nm)),(.inr "left",.R l)]
structure PotAt(μ:M)(a l:Addr)(sd nm:Int)(ns:List Int):Prop where
 ha:μ a=some (Ga sd nm l)
 hl:μ l=some (.lst (ns.map Fv))
 s0:0<=sd
 s1:sd < 2147483648
 n0:0<=nm
 p0:∀n∈ns,0<=n
 ne:a≠l
def Pot(μ:M)(a l:Addr):Prop:=∃sd nm ns,PotAt μ a l sd nm ns
theorem Qjr:(.inr "seed" : Key)≠.inr "number" := by decide +kernel
theorem Qjs:(.inr "seed" : Key)≠.inr "left" := by decide +kernel
theorem Qjt:(.inr "number" : Key)≠.inr "left" := by decide +kernel
theorem Qfu:("seed" : Str) ≠ "number" := by decide +kernel
theorem Qju:("seed" : Str) ≠ "left" := by decide +kernel
theorem Qjv:("number" : Str) ≠ "left" := by decide +kernel
theorem Oo{sd nm:Int}{l:Addr}:dget (Ga sd nm l) (.str "seed")=some (some (.D (.int sd))):=Ybo some Fl
theorem Zk{sd nm:Int}{l:Addr}:dget (Ga sd nm l) (.str "number")=some (some (.D (.int nm))):=Ybo some ((Fm Qjr).trans Fl)
theorem Vk{sd nm:Int}{l:Addr}:dget (Ga sd nm l) (.str "left")=some (some (.R l)):=Ybo some ((Fm Qjs).trans ((Fm Qjt).trans Fl))
theorem Qcq{sd nm v:Int}{l:Addr}:dput (Ga sd nm l) (.str "seed") (.D (.int v))=some (Ga v nm l):=by
 refine Ybo some (Ybo MO.dk ?_)
 simp [Hg,Qfu.symm,Qju.symm]
theorem Zl{sd nm v:Int}{l:Addr}:dput (Ga sd nm l) (.str "number") (.D (.int v))=some (Ga sd v l):=by
 refine Ybo some (Ybo MO.dk ?_)
 simp [Hg,Qfu,Qjv.symm]
theorem Mg{sd nm:Int}{l:Addr}:dsize (Ga sd nm l) < sizeLine:=Bt (n:=3) (by decide)
def A5(a l:Addr)(μ μ':M):Prop:=∀b m,b≠a->b≠l->μ b=some m->μ' b=some m
theorem A5.refl{a l:Addr}{μ:M}:A5 a l μ μ:=λ_ _ _ _ h=>h
theorem A5.trans{a l:Addr}{μ ν ρ:M}(h:A5 a l μ ν)(k:A5 a l ν ρ):A5 a l μ ρ:=λb m h1 h2 e=>k b m h1 h2 (h b m h1 h2 e)
theorem A5.new{a l p:Addr}{μ ν:M}{o:MO}(h:A5 a l μ ν)(e:ν p=none):A5 a l μ (Aj ν p o):=λb m h1 h2 q=>by
 have:=h b m h1 h2 q
 rw [Am (by intro z;subst z;rw [e]at this;cases this)];exact this
theorem A5.put{a l p:Addr}{μ ν:M}{o:MO}(h:A5 a l μ ν)(e:μ p=none):A5 a l μ (Aj ν p o):=λb m h1 h2 q=>by
 rw [Am (by intro z;subst z;rw [e]at q;cases q)];exact h b m h1 h2 q
theorem A5.a{a l:Addr}{μ ν:M}{o:MO}(h:A5 a l μ ν):A5 a l μ (Aj ν a o):=λb m h1 h2 q=>by rw [Am h1];exact h b m h1 h2 q
theorem A5.l{a l:Addr}{μ ν:M}{o:MO}(h:A5 a l μ ν):A5 a l μ (Aj ν l o):=λb m h1 h2 q=>by rw [Am h2];exact h b m h1 h2 q
theorem A5.none{a l p:Addr}{μ ν:M}(h:A5 a l μ ν)(h1:a≠p)(h2:l≠p)(e:ν p=none):μ p=none:=by
 cases q:μ p with
 | none=>rfl
 | some m=>rw [h p m h1.symm h2.symm q]at e;cases e
theorem PotAt.other{μ:M}{a l p:Addr}{sd nm:Int}{ns:List Int}{o:MO}(h:PotAt μ a l sd nm ns)(h1:a≠p)(h2:l≠p):PotAt (Aj μ p o) a l sd nm ns :=
 ⟨by rw [Am h1];exact h.ha,by rw [Am h2];exact h.hl,h.s0,h.s1,h.n0,h.p0,h.ne⟩
theorem Pot.other{μ:M}{a l p:Addr}{o:MO}(h:Pot μ a l)(h1:a≠p)(h2:l≠p):Pot (Aj μ p o) a l:=let⟨sd,nm,ns,h⟩:=h;⟨sd,nm,ns,h.other h1 h2⟩
theorem Pot.ne{μ:M}{a l p:Addr}(h:Pot μ a l)(e:μ p=none):a≠p/\l≠p:=by
 obtain⟨sd,nm,ns,h⟩:=h
 exact⟨λz=>by(subst z;rw [h.ha]at e;cases e),λz=>by(subst z;rw [h.hl]at e;cases e)⟩
theorem Pot.new{μ:M}{a l p:Addr}{o:MO}(h:Pot μ a l)(e:μ p=none):Pot (Aj μ p o) a l:=h.other (h.ne e).1 (h.ne e).2
abbrev nDr:List Str:=["_law_deal_here","_law_many","_law_number","_law_one","_law_other"]
theorem Yd:FnScope nDr ["_law_deal_here","_law_many"] (Ai sDr):=⟨rfl,rfl,rfl,by decide +kernel,rfl,by decide +kernel,by decide +kernel⟩
def Js:ASp:=λxs μ R=>∃(a l:Addr) (many:Nat),xs=[.R a,.D (.int many)]/\Pot μ a l/\0 < many/\many<=1000000/\∀(v:Nat) (μ':M),v < many->Pot μ' a l->A5 a l μ μ'->R (.D (.int v)) μ'
theorem Vl{v:Int}{many:Nat}(h0:0<=v)(h1:v < many):∃n:Nat,v=n/\n < many:=⟨v.toNat,by omega,by omega⟩
theorem Vm(x:Int){m:Int}(h:0 < m):0<=x % m:=Yef x (by omega)
theorem Vn(x:Int){m:Int}(h:0 < m)(h2:m<=2147483648):x % m < 2147483648:=Int.lt_of_lt_of_le (Ydo x h) h2
theorem Zm{x:Int}{many:Nat}{Q:Int->Prop}(h0:0 < many)(h:∀v:Nat,v < many->Q v):Q (x % many):=by
 obtain⟨v,ev,hv⟩:=Vl (Yef x (show(many:Int)≠0 by omega)) (Ydo x (show 0 < (many:Int) by omega))
 rw [ev];exact h v hv
theorem Qfv{n:Nat}(F:Fun K "_law_draw" "_law_draw" sDr f fd) (af:mg "len" = none):FnOk P w K mg base Fh (n+1) f fd ["_law_deal_here","_law_many"] (Ji K 2 Js):=by
 refine F.vok Yd λaw A outer s H E hr=>⟨_,(Af (Ut Ybu (VW.pt (Od (Bf (Dv hr) (Cy (Co hr) (vv 0) Ah) Ag (nomark _)) (L8 (Bf Qbs (Ar Bo rfl af Yan (Ab (Cy (Co hr) (vv 0) Ah) Ae)) Ag (nomark _))))) (An (Fj (Co hr) (vv 0) Ah (Qbw PySem.F.slot_list_pop PySem.F.type_list_pop Qe9 (Cy (Co hr) (vv 0) Ah)))))
   (Af (Aw (i:=2) Yd.nd rfl (Or.inl rfl) (Cy (Co hr) (vv 0) Ah))
   (Af (B1 (Bf Qbs (vv 2) Ag (nomark _)) (Af (Fj (Co hr) (vv 0) Ah (Ay Qbq (vv 2) (vv 1)))
   (An (Bd (Ay Gz (vv 2) (vv 1))))) A9)
   (Af (Aw (i:=3) Yd.nd rfl (Or.inl rfl) (Ay Gz (Ay Al (Ay Hr (Cy (Co hr) (vv 0) Ah) Ag) Ag) Ag))
   (Af (Fj (Co hr) (vv 0) Ah (Ay Gz (Ay Al (Ay Hr (vv 3) Ag) Ag) Ag))
   (Af (Aw (i:=4) Yd.nd rfl (Or.inl rfl) (Ay Gz (Ay Hr (Cy (Co hr) (vv 0) Ah) (Cy (Co hr) (vv 0) Ah)) Ag))
   (An (Bd (Ay Gz (Ay Al (Ay Hr (Ay Gz (Ay Hr (vv 3) (vv 3)) Ag) Ag) (vv 4)) (vv 1)))))))))),?_⟩
 rintro xs μ R _ ⟨a,l,many,rfl,⟨sd,nm,ns,D0⟩,h0,h1,q⟩
 refine Ap (fun τ μ'=>∃sd nm ns,τ=[some (.R a),some (.D (.int many)),none,none,none]/\PotAt μ' a l sd nm ns/\A5 a l μ μ') (λW' hW'=>?_) ?_
 ·refine X0 (λm τ μ'=>∃sd nm ns,τ=[some (.R a),some (.D (.int many)),none,none,none]/\m=ns.length/\PotAt μ' a l sd nm ns/\A5 a l μ μ') ns.length ⟨sd,nm,ns,rfl,rfl,D0,A5.refl⟩ ?_
  rintro m τ μ' W ⟨sd,nm,ns,rfl,rfl,D,S⟩ hW
  refine Aa D.ha (Aa Zk (Aa rfl (ieq (λc=>?_) (λc=>Uf rfl (hW' _ _ ⟨sd,nm,ns,rfl,D,S⟩)))))
  refine Aa D.ha (Aa Vk (Aa rfl (Aa D.hl (dif (λc2=>?_) (λc2=>hW' _ _ ⟨sd,nm,ns,rfl,D,S⟩)))))
  have bo:ns≠[]:=by rintro rfl;exact absurd c2 (by decide)
  have hgl:(ns.map Fv)[(ns.map Fv).length - 1]?=some (Fv (ns.getLast bo)):=by rw [<- List.getLast?_eq_getElem?,List.getLast?_map,List.getLast?_eq_some_getLast bo];rfl
  have d3:(ns.map Fv).dropLast=ns.dropLast.map Fv:=by rw [List.map_dropLast]
  have ha2:Aj μ' l (.lst (ns.map Fv).dropLast) a=some (Ga sd nm l):=by rw [Am D.ne];exact D.ha
  have zbi:0 < ns.length:=List.length_pos_iff.mpr bo
  refine Aa D.ha (Aa Vk (Aa rfl ⟨Aa D.hl trivial,Aa D.hl (Aa hgl (Aa ha2 (Aa Zl ⟨Mg,hW ns.dropLast.length _ _ (by rw [List.length_dropLast];omega) ⟨sd,ns.getLast bo,ns.dropLast,rfl,rfl,?_,S.l.a⟩⟩)))⟩))
  exact⟨Ac,by rw [Am D.ne.symm,Ac,d3],D.s0,D.s1,D.p0 _ (List.getLast_mem bo),λz hz=>D.p0 z ((List.dropLast_sublist ns).subset hz),D.ne⟩
 ·rintro τ μ' ⟨sd,nm,ns,rfl,D,S⟩
  refine Cj (Aa D.ha (Aa Zk (Aa rfl (Cj (dif (λc=>?_) (λc=>?_))))))
  ·refine Cj ⟨⟨by omega,by omega⟩,Aa D.ha (Aa Zl ⟨Mg,(by show(0:Int) < _;omega),_,Sub.refl,?_⟩)⟩
   refine Zm (Q:=λi=>R (.D (.int i)) _) h0 λv hv=>?_
   exact q v _ hv ⟨sd,nm / many,ns,Ac,by rw [Am D.ne.symm];exact D.hl,D.s0,D.s1,Int.ediv_nonneg D.n0 (by omega),D.p0,D.ne⟩ S.a
  ·refine Ap (fun τ μ1=>∃one:Int,τ=[some (.R a),some (.D (.int many)),some (.D (.int nm)),some (.D (.int one)),none]/\μ'=μ1/\0<=one/\one < 2147483648) (λW hW=>?_) ?_
   ·exact Aa D.ha (Aa Oo (Aa rfl ⟨.inr ⟨by decide,by decide⟩,(by show(0:Int) < _;decide),hW _ _ ⟨_,rfl,rfl,Vm _ (by decide),Vn _ (by decide) (by decide)⟩⟩))
   rintro τ μ1 ⟨one,rfl,rfl,o0,o1⟩
   refine Ap (fun τ μ1=>∃two:Int,τ=[some (.R a),some (.D (.int many)),some (.D (.int nm)),some (.D (.int one)),none]/\PotAt μ1 a l two nm ns/\A5 a l μ μ1) (λW hW=>?_) ?_
   ·exact⟨.inr ⟨by decide,by decide⟩,(by show(0:Int) < _;decide),Aa D.ha (Aa Qcq ⟨Mg,hW _ _ ⟨_,rfl,⟨Ac,by rw [Am D.ne.symm];exact D.hl,Vm _ (by decide),Vn _ (by decide) (by decide),D.n0,D.p0,D.ne⟩,S.a⟩⟩)⟩
   rintro τ μ2 ⟨two,rfl,D2,S2⟩
   have w0:=D2.s0
   have w1:=D2.s1
   refine Cj (Aa D2.ha (Aa Oo (Aa rfl (Aa D2.ha (Aa Oo (Aa rfl ⟨.inl ⟨by omega,by omega⟩,(by show(0:Int) < _;decide),?_⟩))))))
   refine⟨.inl ⟨by omega,by omega⟩,(by show(0:Int) < _;decide),.inr ⟨by decide,by decide⟩,(by show(0:Int) < _;omega),_,Sub.refl,?_⟩
   exact Zm (Q:=λi=>R (.D (.int i)) _) h0 λv hv=>q v _ hv ⟨two,nm,ns,D2⟩ S2
abbrev nDe:List Str:=["_law_script","_law_base","_law_cell","_law_cells","_law_number"]
theorem Vo:FnScope nDe ["_law_script","_law_base"] (Ai Zh):=⟨rfl,rfl,rfl,by decide +kernel,rfl,by decide +kernel,by decide +kernel⟩
theorem Qfw:(["_law_cell"]:List Str).Nodup:=by decide +kernel
theorem Qfx:(["_law_cell"]:List Str).Nodup:=by decide +kernel
def Fd(ns:List Int):PyData:=.list (ns.map .int)
theorem La(μ:M)(ns:List Int):items μ (.D (Fd ns))=some (ns.map Fv):=by
 show some ((ns.map PyData.int).map AV.D)=_
 rw [Ya0];rfl
theorem Nm{α:Type}(g:α->AV)(xs:List α)(lo hi:Option Int):∃ys:List α,En (xs.map g) lo hi=ys.map g/\ys.length<=xs.length:=by
 refine⟨(xs.drop (HT.sIx (xs.map g).length 0 lo)).take (HT.sIx (xs.map g).length (xs.map g).length hi - HT.sIx (xs.map g).length 0 lo),?_,?_⟩
 ·unfold En
  rw [<- List.map_drop,<- List.map_take]
 ·rw [Ybd,Ybj];omega
def Qcr:ASp:=λxs μ R=>∃(ns:List Int) (b:Nat),xs=[.D (Fd ns),.D (.int b)]/\b < 1000/\ns.length<=63/\∀(a l:Addr) (μ':M),μ a=none->μ l=none->Pot μ' a l->Sub μ μ'->R (.R a) μ'
def Op(i:Int):Int:=if 0 - i > i then 0 - i else i
theorem Qcs(i:Int):0<=Op i:=by unfold Op;split <;> omega
theorem Qfy{n:Nat}(F:Fun K "_law_deal" "_law_deal" Zh f fd) (gz:mg "max" = none) (bd:mg "list" = none) (cj:mg "reversed" = none):FnOk P w K mg base Fh (n+1) f fd ["_law_script","_law_base"] (Ji K 2 Qcr):=by
 refine F.vok Vo λaw A outer s H E hr=>⟨_,(Af (G3 (i:=3) (N':=["_law_cell"]) (mp:=[none]) rfl Vo.nd rfl rfl (Cb (A8 (vv 0) (Be (vv 1)) (Be Ag))) (λ_ _ _ _=>(Av (i:=0) Qfw rfl (Or.inl rfl) (Or.inr rfl))) (λ_ _ _ _=>Br) (λ_ _ _ _=>(Ar (Qbv rfl) rfl gz PyProof.Rows.boot_max (Ab (vv 0) (Ab (Ay Y3 Ag (vv 0)) Ae)))) (Bk (N:=nDe) (pn:=(Ai Zh).names) (by decide +kernel)))
   (Af (Aw (i:=4) Vo.nd rfl (Or.inl rfl) (Ay Al Ag (vv 1)))
   (Af (Di Ybu rfl (Cb (vv 3)) (Av (i:=2) Vo.nd rfl (Or.inl rfl)) (An (Aw (i:=4) Vo.nd rfl (Or.inl rfl) (Ay Gz (Ay Al (Ay Hr (vv 4) Ag) (Ay Gz (vv 2) Ag)) Ag))))
   (An (Bd (X7 (Mc (vv 4) (Mc Ag (Mc (Ya rfl rfl bd rfl cj (Cm (N':=["_law_cell"]) (mp:=[none]) rfl (Cb (vv 3)) (λ_ _ _ _=>(Av (i:=0) Qfx rfl (Or.inl rfl) (Or.inr rfl))) (λ_ _ _ _=>(Uw (Bf Qiy (vv 0) (Ay Qe5 Ag Ag) (nomark _)))) (λ_ _ _ _=>(vv 0)) (Bk (N:=nDe) (pn:=(Ai Zh).names) (by decide +kernel)))) X6))) (by decide +kernel))))))),?_⟩
 rintro xs μ R _ ⟨ns,b,rfl,hb,hn,q⟩
 obtain⟨cs,ecs,cr⟩:=Nm Fv ns (some (b:Int)) (some 63)
 refine Ap (fun τ μ'=>∃pc,τ=[some (.D (Fd ns)),some (.D (.int b)),none,some (.R pc),none]/\μ pc=none/\μ' pc=some (.lst ((cs.map Op).map Fv))/\Sub μ μ') (λW hW=>?_) ?_
 ·refine Aa (La _ ns) λp hp=>?_
  rw [ecs]
  refine Aa (Ak Ac) λpc jh=>?_
  have bo:p≠pc:=by intro z;subst z;rw [Ac]at jh;cases jh
  have lu:μ pc=none:=by rw [Am bo.symm]at jh;exact jh
  refine cmap cs Fv (λi=>Fv (Op i)) (fun τ=>∃o,τ=[o]) ⟨_,rfl⟩ Ac (seven (by omega)) (λah=>Ak (by rw [Am bo,Am bo,Ac])) ?_ ?_
  ·rintro i x τ' ah W2 hi ⟨o,rfl⟩ hW2
   exact hW2 _ ⟨_,rfl⟩
  ·refine hW _ _ ⟨pc,rfl,lu,?_,((Sub.refl.new hp).new lu).new lu⟩
   rw [Ac,Ya0];rfl
 rintro τ μ1 ⟨pc,rfl,bn,jh,S1⟩
 refine Ap (fun τ μ2=>∃sd:Int,τ=[some (.D (Fd ns)),some (.D (.int b)),none,some (.R pc),some (.D (.int sd))]/\μ1=μ2/\0<=sd/\sd < 2147483648) (λW hW=>id (hW _ _ ⟨_,rfl,rfl,by omega,by omega⟩)) ?_
 rintro τ μ2 ⟨sd0,rfl,rfl,z0,z1⟩
 refine Ap (fun τ μ2=>∃(o2:Option AV) (sd:Int),τ=[some (.D (Fd ns)),some (.D (.int b)),o2,some (.R pc),some (.D (.int sd))]/\μ1=μ2/\0<=sd/\sd < 2147483648) (λW hW=>?_) ?_
 ·refine Aa (Ak jh) ?_
  refine Ey (λi τ μ2=>∃(o2:Option AV) (sd:Int),τ=[some (.D (Fd ns)),some (.D (.int b)),o2,some (.R pc),some (.D (.int sd))]/\μ1=μ2/\0<=sd/\sd < 2147483648) ⟨none,sd0,rfl,rfl,z0,z1⟩ ?_ ?_ ?_
  ·rintro i τ μ2 ⟨o2,sd,rfl,rfl,_⟩
   exact Ak jh
  ·rintro i y τ μ2 W2 hy ⟨o2,sd,rfl,rfl,h0,h1⟩ hW2
   rw [List.getElem?_map]at hy
   obtain⟨c,hc,rfl⟩:=Yax.mp hy
   exact⟨.inr ⟨by decide,by decide⟩,(by show(0:Int) < _;decide),(by show(0:Int) < _;decide),hW2 _ _ ⟨_,_,rfl,rfl,Vm _ (by decide),Vn _ (by decide) (by decide)⟩⟩
  ·rintro τ μ2 ⟨o2,sd,rfl,rfl,h0,h1⟩
   exact hW _ _ ⟨_,_,rfl,rfl,h0,h1⟩
 rintro τ μ2 ⟨o2,sd,rfl,rfl,h0,h1⟩
 intro a ha
 have hac:a≠pc:=by intro z;subst z;rw [jh]at ha;cases ha
 have ku:Aj μ1 a (.dk []) pc=some (.lst ((cs.map Op).map Fv)):=by rw [Am hac.symm];exact jh
 refine Aa (Ak ku) λpl hpl=>?_
 have jl:a≠pl:=by intro z;subst z;rw [Ac]at hpl;cases hpl
 have t8:pc≠pl:=by intro z;subst z;rw [ku]at hpl;cases hpl
 have nh:μ1 pl=none:=by rw [Am jl.symm]at hpl;exact hpl
 refine cmapf (cs.map Op) Fv (λx=>decide ((10:Int) ^ (18:Int).toNat<=x)) Fv (fun τ=>∃o,τ=[o]) ⟨none,rfl⟩ Ac (seven (by rw [Yaa];omega)) (λah=>Ak (by rw [Am t8,Am t8];exact ku)) ?_ ?_
 ·rintro i x τ' ah W2 W3 hi ⟨o,rfl⟩ h2 h3
  exact⟨⟨by decide,by decide,by decide⟩,br (λc=>h2 c _ ⟨_,rfl⟩) (λc=>h3 c _ ⟨_,rfl⟩)⟩
 generalize gh:(cs.map Op).filter (λx=>decide ((10:Int) ^ (18:Int).toNat<=x))=xs
 have hx0:∀x∈xs,0<=x:=λx hx=>by
  rw [<- gh]at hx
  obtain⟨z,_,rfl⟩:=Yaz.mp (List.mem_filter.mp hx).1
  exact Qcs z
 refine Aa Ac λl hl=>?_
 have ft:pl≠l:=by intro z;subst z;rw [Ac]at hl;cases hl
 have ur:a≠l:=by
  intro z;subst z
  rw [Am jl,Am jl,Ac]at hl;cases hl
 have xl:μ1 l=none:=by rw [Am ft.symm,Am ft.symm,Am ur.symm]at hl;exact hl
 refine⟨by rw [Am ur,Am jl,Am jl,Ac],_,Sub.refl,q a l _ (S1.none ha) (S1.none xl) ⟨sd,0,xs.reverse,Ac,?_,h0,h1,Int.le_refl 0,λz hz=>hx0 z (List.mem_reverse.mp hz),ur⟩ ?_⟩
 ·rw [Am ur.symm,Ac,List.map_reverse]
 ·exact((((S1.new (S1.none ha)).new (S1.none nh)).new (S1.none nh)).new (S1.none xl)).new (S1.none ha)
end
section
variable {P:Program}{w:World}{K:PySem.W.Frag}{mg:Str->Option Value}{base:Heap}{f:Addr}{fd:FuncData}
def E2(ns:List Nat):PyData:=.tuple (ns.map λ(n:Nat)=>.int n)
theorem Jt{μ:M}(ns:List Nat):items μ (.D (E2 ns))=some (ns.map λ(n:Nat)=>.D (.int n)):=by
 show some ((ns.map λ(n:Nat)=>PyData.int n).map AV.D)=_
 rw [Ya0];rfl
theorem Ic{ns:List Nat}:PyData.canLayAll0 (ns.map λ(n:Nat)=>.int n)=true/\PyData.depthAll (ns.map λ(n:Nat)=>.int n)<=1:=by
 induction ns with
 | nil=>exact⟨rfl,by simp [PyData.depthAll]⟩
 | cons n ns ih =>
  simp only [List.map_cons,PyData.canLayAll0,PyData.depthAll,ih.1,Bool.and_true]
  refine⟨rfl,?_⟩
  have:=ih.2
  simp only [PyData.depth];omega
theorem Rx{ns:List Nat}:B7 (E2 ns):=⟨by simp only [E2,PyData.canLay0];exact Ic.1,by have:=(Ic (ns:=ns)).2;simp only [E2,PyData.depth];omega⟩
def Qct(n:Nat):AV:=.D (.int n)
theorem Vp(ns:List Nat):dats (ns.map Qct)=some (ns.map λ(n:Nat)=>.int n):=by
 rw [show ns.map Qct=(ns.map λ(n:Nat)=>PyData.int n).map .D by rw [Ya0];rfl];exact Ch _
end
section
variable {P:Program}{w:World}{K:PySem.W.Frag}{mg:Str->Option Value}{base:Heap}{f:Addr}{fd:FuncData}
def Ad(z:Str):AV:=.D (.str z)
theorem big{n:Nat}(h:n<=20000):n<=sizeLine:=Yap h (by decide)
abbrev Gb:List Str:=["place","letter","rule","own","arrow","ends","one","other"]
theorem Lb:B7 (.tuple (Gb.map PyData.str)):=⟨by decide +kernel,by decide +kernel⟩
abbrev nIn:List Str:=["text"]
theorem Qjx:FnScope nIn ["text"] (Ai sIn):=⟨rfl,rfl,rfl,by decide +kernel,rfl,by decide +kernel,by decide +kernel⟩
theorem Qfz:(["sign"]:List Str).Nodup:=by decide +kernel
def abc(c:Nat):Bool:=decide (97<=c) && decide (c<=122)
def Bv(z:Str):Bool:=(decide (1<=z.length) && decide (z.length<=6)) && (!decide (z∈Gb) && z.cps.toList.all abc)
theorem Zn:("a" : Str).cps.toList=[97]:=by decide +kernel
theorem z_cps:("z" : Str).cps.toList=[122]:=by decide +kernel
theorem Oq(a b:Nat):decide ([a] < [b])=decide (a < b):=by
 refine Yb5.mpr ⟨λh=>?_,λh=>.rel h⟩
 cases h with
 | rel h=>exact h
 | cons h=>cases h
theorem C8(zs:List Str)(z:Str):((zs.map PyData.str).any λe=>PyData.eqv e (.str z))=decide (z∈zs):=by
 induction zs with
 | nil=>simp
 | cons x zs ih =>
  rw [Ya7,Ycn,ih,Dm,<- Yd1]
  refine Yb5.mpr ?_
  rw [Ybb]
  exact⟨λh=>h.elim (λe=>.inl e.symm) .inr,λh=>h.elim (λe=>.inl e.symm) .inr⟩
def Ye:ASp:=λxs μ R=>∃z:Str,xs=[.D (.str z)]/\PyData.canLay0 (.str z)=true/\z.length<=20000/\∀ μ',Sub μ μ'->R (.D (.bool (Bv z))) μ'
theorem Qf0{n:Nat}{kw:Addr}{t1:Tok}(F:Fun K "is_name" "is_name" sIn f fd) (af:mg "len" = none) (bw:mg "all" = none) (ya:mg "KEPT_WORDS" = some (.ref kw)) (hKW:∀H,Dk K H (.tuple (Gb.map PyData.str)) (.ref kw)) (yw:mg "MOST_SIGNS" = some (.int 6 t1)):FnOk P w K mg base Fh (n+1) f fd ["text"] (Ji K 1 Ye):=by
 refine F.vok Qjx λaw A outer s H E hr=>⟨_,(Af (B1 (VW.pt (Dx (Gm (Na Oe Oe Ag (Ar Bo rfl af Yan (Ab (vv 0) Ae)) (Hy rfl yw (v:=.int 6) ⟨_,rfl⟩ (λ_=>Df)))) (Fc (Bf (Nd hr) (vv 0) (Hy rfl ya (v:=.ref kw) rfl hKW) (by with_unfolding_all rfl))))) (An (Bd Je)) A9)
   (An (Bd (Ar (Pk rfl) rfl bw Yc4 (Ab (Cm (N':=["sign"]) (mp:=[none]) rfl (Ve (vv 0)) (λ_ _ _ _=>(Av (i:=0) Qfz rfl (Or.inl rfl) (Or.inr rfl))) (λ_ _ _ _=>Br) (λ_ _ _ _=>(M9 Zf Zf Ah (vv 0) Ah)) (Bk (N:=nIn) (pn:=(Ai sIn).names) (by decide +kernel))) Ae))))),?_⟩
 rintro xs μ R _ ⟨z,rfl,hz,hl,q⟩
 have ft:z.length<=sizeLine:=big (by omega)
 have no:Bv z=false->Wq R (.D (.bool false)) μ:=λe=>⟨_,Sub.refl,by have:=q μ Sub.refl;rw [e]at this;exact this⟩
 refine Ap (fun τ μ'=>τ=[some (.D (.str z))]/\(Bv z=z.cps.toList.all abc/\z.length<=6)/\μ=μ') (λZ hZ=>?_) ?_
 ·refine⟨ft,dif (λc1=>br (λc2=>?_) (λc2=>?_)) (λc1=>?_)⟩
  ·rw [Yay,Ybe]at c2
   refine Gr rfl (no ?_)
   unfold Bv
   rw [Yah (show ¬z.length<=6 by omega),Yaq,Yat]
  ·rw [Ya1,Ya8]at c2
   have e1:Bv z=(!decide (z∈Gb) && z.cps.toList.all abc):=by
    unfold Bv
    rw [Yaj (show 1<=z.length by omega),Yaj (show z.length<=6 by omega),Ya4,Ya4]
   refine Aa rfl ⟨A0 hz,Lb,?_⟩
   rw [C8]
   refine br (λc3=>no ?_) (λc3=>hZ _ _ ⟨rfl,⟨?_,by omega⟩,rfl⟩)
   ·have c3:decide (z∈Gb)=true:=c3
    rw [e1,c3];rfl
   ·have c3:decide (z∈Gb)=false:=c3
    rw [e1,c3];rfl
  ·refine Gr rfl (Gr rfl (no ?_))
   unfold Bv
   rw [Yah (show ¬ 1<=z.length by omega),Yat,Yat]
 rintro τ _ ⟨rfl,⟨hn,h6⟩,rfl⟩
 rw [hn]at q
 refine λpl hpl=>?_
 refine cmap z.cps.toList chA (λc=>.D (.bool (abc c))) (fun τ=>∃o,τ=[o]) ⟨none,rfl⟩ Ac (seven (by rw [<- Bj];omega)) (λ_=>trivial) ?_ ?_
 ·rintro i c τ' ah W hi ⟨o,rfl⟩ hW
  have hw:=hW [some (chA c)] ⟨_,rfl⟩
  refine br (λd=>?_) (λd=>?_)
  ·have d:(!decide ([c] < ("a" : Str).cps.toList))=true:=d
   rw [Zn,Oq,Yay,Ybe]at d
   show W _ (.D (.bool (!decide (("z" : Str).cps.toList < [c])))) _
   rw [z_cps,Oq]
   have e:abc c=!decide (122 < c):=by
    unfold abc
    rw [Yaj (show 97<=c by omega),Ya4,<- decide_not]
    exact Yb5.mpr ⟨λh=>by omega,λh=>by omega⟩
   rw [e]at hw
   exact hw
  ·have d:(!decide ([c] < ("a" : Str).cps.toList))=false:=d
   rw [Zn,Oq,Ya1,Ya8]at d
   have e:abc c=false:=by
    unfold abc
    rw [Yah (show ¬ 97<=c by omega),Yat]
   rw [e]at hw
   exact hw
 ·dsimp only [Nb]
  exact Pt (g:=abc) Ac ⟨_,Sub.refl,q _ ((Sub.refl.new hpl).new hpl)⟩
theorem Vq:("abcdefghijklmnopqrstuvwxyz" : Str).cps.toList=List.range' 97 26:=by decide +kernel
theorem Yf(c:Nat):(!(Builtin.Str.occurrences "abcdefghijklmnopqrstuvwxyz" ⟨#[c]⟩ 0 ("abcdefghijklmnopqrstuvwxyz" : Str).length 1).isEmpty)=abc c:=by
 rw [StrLaws.found_one,Vq]
 unfold abc
 rw [<- Ydp]
 refine Yb5.mpr ?_
 rw [List.mem_range'_1]
 exact⟨λh=>by omega,λh=>by omega⟩
abbrev nLi:List Str:=["_law_word"]
theorem Qjy:FnScope nLi ["_law_word"] (Ai sLi):=⟨rfl,rfl,rfl,by decide +kernel,rfl,by decide +kernel,by decide +kernel⟩
theorem Qf1:(["_law_sign"]:List Str).Nodup:=by decide +kernel
def Qf2:ASp:=Ye
theorem Qf3{n:Nat}(F:Fun K "_law_is_name" "_law_is_name" sLi f fd) (af:mg "len" = none) (bw:mg "all" = none):FnOk P w K mg base Fh (n+1) f fd ["_law_word"] (Ji K 1 Qf2):=by
 refine F.vok Qjy λaw A outer s H E hr=>⟨_,(Af (B1 (Bf (Nd hr) (vv 0) (Dh (Ab Ah (Ab Ah (Ab Ah (Ab Ah (Ab Ah (Ab Ah (Ab Ah (Ab Ah Ae))))))))) (by with_unfolding_all rfl)) (An (Bd Je)) A9)
   (An (Bd (Dg (M9 Oe Oe Ag (Ar Bo rfl af Yan (Ab (vv 0) Ae)) Ag) (Gn (Ar (Pk rfl) rfl bw Yc4 (Ab (Cm (N':=["_law_sign"]) (mp:=[none]) rfl (Ve (vv 0)) (λ_ _ _ _=>(Av (i:=0) Qf1 rfl (Or.inl rfl) (Or.inr rfl))) (λ_ _ _ _=>Br) (λ_ _ _ _=>(C4 (Nd hr) (vv 0) Ah (by with_unfolding_all rfl))) (Bk (N:=nLi) (pn:=(Ai sLi).names) (by decide +kernel))) Ae))))))),?_⟩
 rintro xs μ R _ ⟨z,rfl,hz,hl,q⟩
 have ft:z.length<=sizeLine:=big (by omega)
 have no:Bv z=false->∀{μ':M},Sub μ μ'->Wq R (.D (.bool false)) μ':=λe μ' S'=>⟨_,Sub.refl,by have:=q μ' S';rw [e]at this;exact this⟩
 refine Ap (fun τ μ'=>τ=[some (.D (.str z))]/\decide (z∈Gb)=false/\μ=μ') (λZ hZ=>?_) ?_
 ·refine Aa rfl ⟨A0 hz,Lb,?_⟩
  have e:=C8 Gb z
  refine br (λc3=>no ?_ Sub.refl) (λc3=>hZ _ _ ⟨rfl,?_,rfl⟩)
  ·have c3:decide (z∈Gb)=true:=by rw [<- e];exact c3
   unfold Bv
   rw [c3,Yeb,Yat,Yaq]
  ·rw [<- e];exact c3
 rintro τ _ ⟨rfl,hk,rfl⟩
 have e0:Bv z=((decide (1<=z.length) && decide (z.length<=6)) && z.cps.toList.all abc):=by
  unfold Bv
  rw [hk,Yd2,Ya4]
 refine⟨ft,dif (λc1=>br (λc2=>?_) (λc2=>?_)) (λc1=>?_)⟩
 ·rw [Ya8]at c2
  have e1:Bv z=z.cps.toList.all abc:=by
   rw [e0,Yaj (show 1<=z.length by omega),Yaj (show z.length<=6 by omega),Ya4,Ya4]
  rw [e1]at q
  refine λpl hpl=>?_
  refine cmap z.cps.toList chA (λc=>.D (.bool (abc c))) (fun τ=>∃o,τ=[o]) ⟨none,rfl⟩ Ac (seven (by rw [<- Bj];omega)) (λ_=>trivial) ?_ ?_
  ·rintro i c τ' ah W hi ⟨o,rfl⟩ hW
   have hw:=hW [some (chA c)] ⟨_,rfl⟩
   rw [<- Yf]at hw
   exact hw
  ·dsimp only [Nb]
   exact Pt (g:=abc) Ac ⟨_,Sub.refl,q _ ((Sub.refl.new hpl).new hpl)⟩
 ·rw [Ybe]at c2
  refine no ?_ Sub.refl
  rw [e0,Yah (show ¬z.length<=6 by omega),Yaq,Yat]
 ·refine Uf rfl (no ?_ Sub.refl)
  rw [e0,Yah (show ¬ 1<=z.length by omega),Yat,Yat]
def Yg(z:Str):Prop:=PyData.canLay0 (.str z)=true/\z.length<=20000
def Dj(z:Str):Bool:=decide (z=("one" : Str)) || decide (z=("other" : Str))
def hndN(z:Str):Nat:=if z=("other" : Str) then 1 else 0
def Ie(P:List (Str×Nat))(w:List Str):Bool:=decide (w.length=3) && (decide (w[0]?=some ("place" : Str)) && (w[2]?.any Dj && (w[1]?.any Bv && !w[1]?.any λn=>decide (n∈P.map (·.1)))))
def rp:List (Str×Nat)->List (List Str)->List (Str×Nat)
 | P,[]=>P
 | P,w :: ws=>if Ie P w then rp (P++[(w[1]?.getD ("" : Str),hndN (w[2]?.getD ("" : Str)))]) ws else P
def J1(L:List Str)(w:List Str):Bool:=decide (w.length=2) && (decide (w[0]?=some ("letter" : Str)) && (w[1]?.any Bv && !w[1]?.any λn=>decide (n∈L)))
def rl:List Str->List (List Str)->List Str
 | L,[]=>L
 | L,w :: ws=>if J1 L w then rl (L++[w[1]?.getD ("" : Str)]) ws else L
structure RowsAt(μ:M)(ps:List Addr)(W:List (List Str)):Prop where
 l:ps.length=W.length
 a:∀(i:Nat) p w,ps[i]?=some p->W[i]?=some w->μ p=some (.lst (w.map Ad))
theorem RowsAt.sub{μ ν:M}{ps:List Addr}{W:List (List Str)}(h:RowsAt μ ps W)(S:Sub μ ν):RowsAt ν ps W:=⟨h.l,λi p w e1 e2=>S _ _ (h.a i p w e1 e2)⟩
def Py(p:Str×Nat):Key×AV:=(.inr p.1,.D (.int p.2))
end
section
variable {P:Program}{w:World}{K:PySem.W.Frag}{mg:Str->Option Value}{base:Heap}{f:Addr}{fd:FuncData}
theorem Bu{μ μ':M}{x:AV}{us:List AV}(h:items μ x=some us)(S:Sub μ μ'):items μ' x=some us:=by
 cases x with
 | R a =>
  have h:(match μ a with | some (.lst xs)=>some xs | _=>none)=some us:=h
  cases e:μ a with
  | none=>rw [e]at h;cases h
  | some m =>
   rw [e]at h
   cases m with
   | lst xs=>cases h;exact Ak (S a _ e)
   | _=>cases h
 | D d=>cases d <;> exact h
 | _=>exact h
theorem three{v:List Str}(h:v.length=3):∃a b c,v=[a,b,c]:=by
 match v,h with
 | [a,b,c],_=>exact⟨a,b,c,rfl⟩
theorem Vr:B7 (.tuple ((["one","other"]:List Str).map PyData.str)):=⟨by decide +kernel,by decide +kernel⟩
theorem Vs(n:Str):∀P:List (Str×Nat),(Er (P.map Py) (.inr n)).isSome=decide (n∈P.map (·.1))
 | []=>by simp [Er]
 | (m,k) :: P=>by
  rw [Ya7,Ya7]
  show(Er ((.inr m,.D (.int k)) :: P.map Py) (.inr n)).isSome=decide (n∈m :: P.map (·.1))
  by_cases e:m=n
  ·subst e
   rw [Fl]
   simp
  ·rw [Fm (λh=>e (Yds h)),Vs n P]
   refine Yb5.mpr ⟨λh=>Yae _ h,λh=>?_⟩
   rcases Ybb.mp h with h | h
   ·exact absurd h.symm e
   ·exact h
theorem Qcu{n:Str}{k:Nat}{P:List (Str×Nat)}(h:n∉P.map (·.1)):Hg (P.map Py) (.inr n) (.D (.int k))=(P++[(n,k)]).map Py:=by
 unfold Hg
 rw [Yar,Yac]
 ·rfl
 ·intro z
  obtain⟨kv,h1,h2⟩:=Yd9.mp z
  obtain⟨p,hp,rfl⟩:=Yaz.mp h1
  exact h (Yaz.mpr ⟨p,hp,Yds (Yaf h2)⟩)
theorem Qcv{h:Str}(hh:Dj h=true):((["one","other"]:List Str).map PyData.str).findIdx? (λe=>PyData.eqv e (.str h))=some (hndN h):=by
 unfold Dj at hh
 rw [Ydk,Ya8,Ya8]at hh
 rcases hh with rfl | rfl
 ·decide +kernel
 ·decide +kernel
abbrev nRp:List Str:=["rows","hands","words"]
theorem Qcw:FnScope nRp ["rows"] (Ai sRp):=⟨rfl,rfl,rfl,by decide +kernel,rfl,by decide +kernel,by decide +kernel⟩
abbrev hw2:List Str:=["one","other"]
def Qf4:ASp:=λxs μ R=>∃(x:AV) (ps:List Addr) (W:List (List Str)),xs=[x]/\items μ x=some (ps.map .R)/\RowsAt μ ps W/\W.length<=900/\(∀w∈W,w≠[]/\w.length<=900/\∀z∈w,Yg z)/\∀d μ',μ d=none->μ' d=some (.dk ((rp [] W).map Py))->Sub μ μ'->R (.R d) μ'
theorem Qf5{n:Nat}{hw:Addr}(F:Fun K "read_places" "read_places" sRp f fd) (xk:VCal P w K mg base n "is_name" ["text"] Ye) (af:mg "len" = none) (uq:mg "HAND_WORDS" = some (.ref hw)) (vf:∀H,Dk K H (.tuple (hw2.map PyData.str)) (.ref hw)) (kHW:∃o,K.lookup hw=some o/\o.cls=.type "tuple" /\ o.dict=none):FnOk P w K mg base Fh (n+1) f fd ["rows"] (Ji K 1 Qf4):=by
 refine F.vok Qcw λaw A outer s H E hr=>⟨_,(Af (Aw (i:=1) Qcw.nd rfl (Or.inl rfl) Jm)
   (Af (Di Ybu rfl (Cb (vv 0)) (Av (i:=2) Qcw.nd rfl (Or.inl rfl)) (Af (B1 (VW.pt (Dx (Bf (Ui hr) (Ar Bo rfl af Yan (Ab (vv 2) Ae)) Ag (nomark _)) (Dx (Bf K9 (Ba Bm (vv 2) Ag) Ah (nomark _)) (Fc (Bf (Ia hr) (Ba Bm (vv 2) Ag) (Hy rfl uq (v:=.ref hw) rfl vf) (by with_unfolding_all rfl)))))) (An G1) A9)
   (Af (B1 (VW.pt (Dx (Gm (Gk (Au xk hr rfl (Ab (Ba Bm (vv 2) Ag) Ae)))) (Fc (Uz (Co hr) (Ba Bm (vv 2) Ag) (vv 1))))) (An G1) A9)
   (An (Fj (Co hr) (vv 1) (Ba Bm (vv 2) Ag) (Vh hr rfl uq vf kHW (Ab (Ba Bm (vv 2) Ag) Ae)))))))
   (An (Bd (vv 1))))),?_⟩
 rintro xs μ R _ ⟨x,ps,W,rfl,hx,hR,hl,hW,q⟩
 intro d hd
 refine Ap (fun τ μ'=>∃o2,τ=[some x,some (.R d),o2]/\μ' d=some (.dk ((rp [] W).map Py))/\Sub μ μ') (λZ hZ=>?_) ?_
 ·have ko:items (Aj μ d (.dk [])) x=some (ps.map .R):=Bu hx (Sub.refl.new hd)
  refine Aa ko ?_
  refine Ey (λi τ μ'=>∃o2 P,τ=[some x,some (.R d),o2]/\μ' d=some (.dk (P.map Py))/\P.length<=i/\rp P (W.drop i)=rp [] W/\Sub μ μ') ⟨none,[],rfl,Ac,Yb0 _,rfl,Sub.refl.new hd⟩ (λ_ _ _ ⟨_,_,_,_,_,_,S⟩=>Bu hx S) ?_ ?_
  ·rintro i y τ μ1 Z2 hy ⟨o2,P,rfl,e1,hP,hr1,S1⟩ hZ2
   rw [List.getElem?_map]at hy
   obtain⟨p,hp,rfl⟩:=Yax.mp hy
   have hi:i < W.length:=by rw [<- hR.l];exact(List.getElem?_eq_some_iff.mp hp).1
   have hw:=List.getElem?_eq_getElem hi
   have dz:W.drop i=W[i] :: W.drop (i+1):=Ybn hi
   generalize W[i]=v at hw dz
   have ep:=S1 _ _ (hR.a i p v hp hw)
   obtain⟨h0,h5,hz⟩:=hW v (Ya9 hw)
   rw [dz,rp]at hr1
   have brk:Ie P v=false->Z [some x,some (.R d),some (.R p)] μ1:=λe=>by
    rw [e,Yar Yak]at hr1
    subst hr1
    exact hZ _ _ ⟨_,rfl,e1,S1⟩
   refine Ap (fun τ μ'=>τ=[some x,some (.R d),some (.R p)]/\(∃n h,v=[("place" : Str),n,h]/\Dj h=true)/\μ1=μ') (λZ3 bi=>?_) ?_
   ·refine Aa ep ⟨Ck _,Ck _,?_⟩
    rw [Fi,Yaa]
    refine br (λc=>Gr rfl (brk ?_)) (λc=>?_)
    ·rw [Yay,Ybe]at c
     unfold Ie
     rw [Yah (show ¬v.length=3 by omega),Yat]
    rw [Ya1,Ya8]at c
    obtain⟨b,n,h,rfl⟩:=three (v:=v) (by omega)
    refine Aa ep (Aa rfl (br (λc2=>Gr rfl (brk ?_)) (λc2=>?_)))
    ·have c2:(!decide (b=("place" : Str)))=true:=c2
     rw [Yay,Ybe]at c2
     unfold Ie
     rw [show decide (([b,n,h]:List Str)[0]?=some ("place" : Str))=false from Yah λe=>c2 (Yas e),Yat,Yaq]
    have c2:(!decide (b=("place" : Str)))=false:=c2
    rw [Ya1,Ya8]at c2
    subst c2
    refine Aa ep (Aa rfl (Aa rfl ⟨A0 (hz h (by simp)).1,Vr,?_⟩))
    have eh:decide (h∈(["one","other"]:List Str))=Dj h:=by
     unfold Dj
     rw [<- Yd1]
     exact Yb5.mpr ⟨λh=>by simpa using h,λh=>by simpa using h⟩
    rw [C8,eh]
    refine br (λc3=>brk ?_) (λc3=>bi _ _ ⟨rfl,⟨n,h,rfl,?_⟩,rfl⟩)
    ·have c3:(!Dj h)=true:=c3
     rw [Yay]at c3
     unfold Ie
     rw [show(([("place" : Str),n,h]:List Str)[2]?.any Dj)=Dj h from rfl,c3,Yat,Yaq,Yaq]
    ·have c3:(!Dj h)=false:=c3
     rwa [Ya1]at c3
   rintro τ _ ⟨rfl,⟨n,h,rfl,hh⟩,rfl⟩
   have fj:Ie P [("place" : Str),n,h]=(Bv n && !decide (n∈P.map (·.1))):=by
    unfold Ie
    rw [show(([("place" : Str),n,h]:List Str)[2]?.any Dj)=Dj h from rfl,hh]
    simp
   have hn:=hz n (by simp)
   refine Ap (fun τ μ'=>τ=[some x,some (.R d),some (.R p)]/\Ie P [("place" : Str),n,h]=true/\μ' d=some (.dk (P.map Py))/\μ' p=some (.lst ([("place" : Str),n,h].map Ad))/\Sub μ μ') (λZ3 bi=>?_) ?_
   ·refine Aa ep (Aa rfl ⟨n,rfl,hn.1,hn.2,fun μ2 S2=>?_⟩)
    have S3:Sub μ μ2:=λb m hb=>S2 b m (S1 b m hb)
    have se:Ie P [("place" : Str),n,h]=false->Z [some x,some (.R d),some (.R p)] μ2:=λe=>by
     rw [e,Yar Yak]at hr1
     subst hr1
     exact hZ _ _ ⟨_,rfl,S2 _ _ e1,S3⟩
    refine br (λc=>Gr rfl (se ?_)) (λc=>?_)
    ·rw [Yay]at c
     rw [fj,c,Yat]
    ·rw [Ya1]at c
     refine Aa (S2 _ _ ep) (Aa rfl (Aa (S2 _ _ e1) (Aa rfl ?_)))
     have ev:=Vs n P
     refine br (λc3=>se ?_) (λc3=>bi _ _ ⟨rfl,?_,S2 _ _ e1,S2 _ _ ep,S3⟩)
     ·have c3:decide (n∈P.map (·.1))=true:=by rw [<- ev];exact c3
      rw [fj,c3,Yeb,Yaq]
     ·have c3:decide (n∈P.map (·.1))=false:=by rw [<- ev];exact c3
      rw [fj,c3,c];rfl
   rintro τ μ2 ⟨rfl,hpl,e2,ep2,S2⟩
   rw [fj,Ya2,Yay,Ybe]at hpl
   rw [fj,hpl.1,Yah hpl.2,Yd2,Ya4,Yaw rfl]at hr1
   refine Aa ep2 (Aa rfl (Aa rfl ⟨A0 (hz h (by simp)).1,Vr,Aa (Qcv hh) (Aa ep2 (Aa rfl (Aa e2 (Aa rfl ⟨?_,hZ2 _ _ ⟨_,P++[(n,hndN h)],rfl,?_,?_,hr1,?_⟩⟩))))⟩))
   ·exact Bt (show(P.map Py).length<=1000 by rw [Yaa];omega)
   ·rw [Ac,<- Qcu hpl.2]
   ·rw [Yai];show P.length+1<=_;omega
   ·exact S2.new hd
  ·rintro τ μ1 ⟨o2,P,rfl,e1,hP,hr1,S1⟩
   rw [Yaa,hR.l,Yb4,rp]at hr1
   subst hr1
   exact hZ _ _ ⟨_,rfl,e1,S1⟩
 rintro τ μ1 ⟨o2,rfl,e1,S1⟩
 exact⟨_,Sub.refl,q d μ1 hd e1 S1⟩
abbrev nRl:List Str:=["rows","letters","words"]
theorem Qcx:FnScope nRl ["rows"] (Ai sRl):=⟨rfl,rfl,rfl,by decide +kernel,rfl,by decide +kernel,by decide +kernel⟩
def Qf6:ASp:=λxs μ R=>∃(x:AV) (ps:List Addr) (W:List (List Str)),xs=[x]/\items μ x=some (ps.map .R)/\RowsAt μ ps W/\W.length<=900/\(∀w∈W,w≠[]/\w.length<=900/\∀z∈w,Yg z)/\∀l μ',μ l=none->μ' l=some (.lst ((rl [] W).map Ad))->Sub μ μ'->R (.R l) μ'
def Zo(z:Str):Key×AV:=(.inr z,.D (.bool true))
theorem two{v:List Str}(h:v.length=2):∃a b,v=[a,b]:=by
 match v,h with
 | [a,b],_=>exact⟨a,b,rfl⟩
theorem Vt(n:Str):∀P:List Str,(Er (P.map Zo) (.inr n)).isSome=decide (n∈P)
 | []=>by simp [Er]
 | m :: P=>by
  rw [Ya7]
  show(Er ((.inr m,.D (.bool true)) :: P.map Zo) (.inr n)).isSome=decide (n∈m :: P)
  by_cases e:m=n
  ·subst e
   rw [Fl]
   simp
  ·rw [Fm (λh=>e (Yds h)),Vt n P]
   refine Yb5.mpr ⟨λh=>Yae _ h,λh=>?_⟩
   rcases Ybb.mp h with h | h
   ·exact absurd h.symm e
   ·exact h
theorem Qcy{n:Str}{P:List Str}(h:n∉P):Hg (P.map Zo) (.inr n) (.D (.bool true))=(P++[n]).map Zo:=by
 unfold Hg
 rw [Yar,Yac]
 ·rfl
 ·intro z
  obtain⟨kv,h1,h2⟩:=Yd9.mp z
  obtain⟨p,hp,rfl⟩:=Yaz.mp h1
  exact h (by rw [<- show p=n from Yds (Yaf h2)];exact hp)
theorem Qf7{n:Nat}(F:Fun K "read_letters" "read_letters" sRl f fd) (xk:VCal P w K mg base n "is_name" ["text"] Ye) (af:mg "len" = none) (bd:mg "list" = none):FnOk P w K mg base Fh (n+1) f fd ["rows"] (Ji K 1 Qf6):=by
 refine F.vok Qcx λaw A outer s H E hr=>⟨_,(Af (Aw (i:=1) Qcx.nd rfl (Or.inl rfl) Jm)
   (Af (Di Ybu rfl (Cb (vv 0)) (Av (i:=2) Qcx.nd rfl (Or.inl rfl)) (Af (B1 (VW.pt (Dx (Bf (Ui hr) (Ar Bo rfl af Yan (Ab (vv 2) Ae)) Ag (nomark _)) (Dx (Bf K9 (Ba Bm (vv 2) Ag) Ah (nomark _)) (Dx (Gm (Gk (Au xk hr rfl (Ab (Ba Bm (vv 2) Ag) Ae)))) (Fc (Uz (Co hr) (Ba Bm (vv 2) Ag) (vv 1))))))) (An G1) A9)
   (An (Fj (Co hr) (vv 1) (Ba Bm (vv 2) Ag) Je))))
   (An (Bd (Bp (Px rfl) rfl bd Ydr (Ab (vv 1) Ae)))))),?_⟩
 rintro xs μ R _ ⟨x,ps,W,rfl,hx,hR,hl,hW,q⟩
 intro d hd
 refine Ap (fun τ μ'=>∃o2,τ=[some x,some (.R d),o2]/\μ' d=some (.dk ((rl [] W).map Zo))/\Sub μ μ') (λZ hZ=>?_) ?_
 ·refine Aa (Bu hx (Sub.refl.new hd)) ?_
  refine Ey (λi τ μ'=>∃o2 P,τ=[some x,some (.R d),o2]/\μ' d=some (.dk (P.map Zo))/\P.length<=i/\rl P (W.drop i)=rl [] W/\Sub μ μ') ⟨none,[],rfl,Ac,Yb0 _,rfl,Sub.refl.new hd⟩ (λ_ _ _ ⟨_,_,_,_,_,_,S⟩=>Bu hx S) ?_ ?_
  ·rintro i y τ μ1 Z2 hy ⟨o2,P,rfl,e1,hP,hr1,S1⟩ hZ2
   rw [List.getElem?_map]at hy
   obtain⟨p,hp,rfl⟩:=Yax.mp hy
   have hi:i < W.length:=by rw [<- hR.l];exact(List.getElem?_eq_some_iff.mp hp).1
   have hw:=List.getElem?_eq_getElem hi
   have dz:W.drop i=W[i] :: W.drop (i+1):=Ybn hi
   generalize W[i]=v at hw dz
   have ep:=S1 _ _ (hR.a i p v hp hw)
   obtain⟨h0,h5,hz⟩:=hW v (Ya9 hw)
   rw [dz,rl]at hr1
   have brk:J1 P v=false->∀{μ2:M},Sub μ1 μ2->Z [some x,some (.R d),some (.R p)] μ2:=λe μ2 S2=>by
    rw [e,Yar Yak]at hr1
    subst hr1
    exact hZ _ _ ⟨_,rfl,S2 _ _ e1,λb m hb=>S2 b m (S1 b m hb)⟩
   refine Ap (fun τ μ'=>τ=[some x,some (.R d),some (.R p)]/\(∃n,v=[("letter" : Str),n]/\Bv n=true/\n∉P)/\μ' d=some (.dk (P.map Zo))/\μ' p=some (.lst (v.map Ad))/\Sub μ μ') (λZ3 bi=>?_) ?_
   ·refine Aa ep ⟨Ck _,Ck _,?_⟩
    rw [Fi,Yaa]
    refine br (λc=>Gr rfl (brk ?_ Sub.refl)) (λc=>?_)
    ·rw [Yay,Ybe]at c
     unfold J1
     rw [Yah (show ¬v.length=2 by omega),Yat]
    rw [Ya1,Ya8]at c
    obtain⟨b,n,rfl⟩:=two (v:=v) (by omega)
    refine Aa ep (Aa rfl (br (λc2=>Gr rfl (brk ?_ Sub.refl)) (λc2=>?_)))
    ·have c2:(!decide (b=("letter" : Str)))=true:=c2
     rw [Yay,Ybe]at c2
     unfold J1
     rw [show decide (([b,n]:List Str)[0]?=some ("letter" : Str))=false from Yah λe=>c2 (Yas e),Yat,Yaq]
    have c2:(!decide (b=("letter" : Str)))=false:=c2
    rw [Ya1,Ya8]at c2
    subst c2
    have fj:J1 P [("letter" : Str),n]=(Bv n && !decide (n∈P)):=by
     unfold J1
     simp
    have hn:=hz n (by simp)
    refine Aa ep (Aa rfl ⟨n,rfl,hn.1,hn.2,fun μ2 S2=>br (λc=>Gr rfl (brk ?_ S2)) (λc=>?_)⟩)
    ·rw [Yay]at c
     rw [fj,c,Yat]
    ·rw [Ya1]at c
     refine Aa (S2 _ _ ep) (Aa rfl (Aa (S2 _ _ e1) (Aa rfl ?_)))
     have ev:=Vt n P
     refine br (λc3=>brk ?_ S2) (λc3=>bi _ _ ⟨rfl,⟨n,rfl,c,?_⟩,S2 _ _ e1,S2 _ _ ep,λb m hb=>S2 b m (S1 b m hb)⟩)
     ·have c3:decide (n∈P)=true:=by rw [<- ev];exact c3
      rw [fj,c3,Yeb,Yaq]
     ·have c3:decide (n∈P)=false:=by rw [<- ev];exact c3
      exact Ybh c3
   rintro τ μ2 ⟨rfl,⟨n,rfl,ke,hnP⟩,e2,ep2,S2⟩
   have fj:J1 P [("letter" : Str),n]=true:=by
    unfold J1
    simp [ke,hnP]
   rw [fj,Yaw rfl]at hr1
   refine Aa ep2 (Aa rfl (Aa e2 (Aa rfl ⟨?_,hZ2 _ _ ⟨_,P++[n],rfl,?_,?_,hr1,?_⟩⟩)))
   ·exact Bt (show(P.map Zo).length<=1000 by rw [Yaa];omega)
   ·rw [Ac,<- Qcy hnP]
   ·rw [Yai];show P.length+1<=_;omega
   ·exact S2.new hd
  ·rintro τ μ1 ⟨o2,P,rfl,e1,hP,hr1,S1⟩
   rw [Yaa,hR.l,Yb4,rl]at hr1
   subst hr1
   exact hZ _ _ ⟨_,rfl,e1,S1⟩
 rintro τ μ1 ⟨o2,rfl,e1,S1⟩
 refine Aa e1 λl hl=>⟨_,Sub.refl,q l _ (S1.none hl) ?_ (S1.new (S1.none hl))⟩
 rw [Ac,Ya0]
 rfl
end
section
variable {P:Program}{w:World}{K:PySem.W.Frag}{mg:Str->Option Value}{base:Heap}{f:Addr}{fd:FuncData}
theorem Vu{zs:List Str}{i:Nat}{x:AV}(h:(Ez 0 (zs.map PyData.str))[i]?=some x):∃z,zs[i]?=some z/\x=.D (.tuple [.int i,.str z]):=by
 obtain⟨d,hd,rfl⟩:=Fk h
 rw [List.getElem?_map]at hd
 obtain⟨z,hz,rfl⟩:=Yax.mp hd
 exact⟨z,hz,by simp⟩
theorem Qf8{a b:PyData}{i j:Nat}{τ:ASt}{μ:M}{R:ASt->M->Prop}(h:R ((τ.set i (some (.D a))).set j (some (.D b))) μ):Ex (Ca i) (Ex (Ca j) Uq) (List.map AV.D [a,b]) τ μ R:=h
theorem Bs(zs:List Str):dats (zs.map Ad)=some (zs.map PyData.str):=by
 rw [show zs.map Ad=(zs.map PyData.str).map .D by rw [Ya0];rfl];exact Ch _
def Kd(zs:List Str):List (Key×AV):=zs.zipIdx.map λp=>(.inr p.1,.D (.int (p.2:Nat)))
theorem Yh(zs:List Str)(z:Str):Kd (zs++[z])=Kd zs++[(.inr z,.D (.int (zs.length:Nat)))]:=by
 unfold Kd
 rw [List.zipIdx_append,Yac]
 simp
theorem Yi(zs:List Str):(Kd zs).length=zs.length:=by unfold Kd;rw [Yaa,List.length_zipIdx]
theorem Qcz{zs:List Str}{z:Str}{v:AV}(h:z∉zs):Hg (Kd zs) (.inr z) v=Kd zs++[(.inr z,v)]:=by
 unfold Hg
 rw [Yar]
 intro y
 obtain⟨kv,h1,h2⟩:=Yd9.mp y
 unfold Kd at h1
 obtain⟨p,hp,rfl⟩:=Yaz.mp h1
 have e:p.1=z:=Yds (Yaf h2)
 rw [<- e]at h
 exact h (List.fst_mem_of_mem_zipIdx hp)
abbrev nNn:List Str:=["names","numbers","number","name"]
theorem Yj:FnScope nNn ["names"] (Ai sNn):=⟨rfl,rfl,rfl,by decide +kernel,rfl,by decide +kernel,by decide +kernel⟩
def Qf9:ASp:=λxs μ R=>∃(x:AV) (zs:List Str),xs=[x]/\items μ x=some (zs.map Ad)/\zs.Nodup/\zs.length<=900/\∀d μ',μ d=none->μ' d=some (.dk (Kd zs))->Sub μ μ'->R (.R d) μ'
theorem Qga{n:Nat}(F:Fun K "numbers_by_name" "numbers_by_name" sNn f fd) (ba:mg "enumerate" = none):FnOk P w K mg base Fh (n+1) f fd ["names"] (Ji K 1 Qf9):=by
 refine F.vok Yj λaw A outer s H E hr=>⟨_,(Af (Aw (i:=1) Yj.nd rfl (Or.inl rfl) Jm)
   (Af (Di Ybu rfl (Ps rfl ba (vv 0)) (Ep (n:=2) rfl (Bg (Av (i:=2) Yj.nd rfl (Or.inl rfl)) (Bg (Av (i:=3) Yj.nd rfl (Or.inl rfl)) C7))) (An (Fj (Co hr) (vv 1) (vv 3) (vv 2))))
   (An (Bd (vv 1))))),?_⟩
 rintro xs μ R _ ⟨x,zs,rfl,hx,hn,hl,q⟩
 intro d hd
 have S1:Sub μ (Aj μ d (.dk [])):=Sub.refl.new hd
 refine Ap (fun τ μ'=>∃o2 o3,τ=[some x,some (.R d),o2,o3]/\μ' d=some (.dk (Kd zs))/\Sub μ μ') (λZ hZ=>?_) (fun τ μ' ⟨o2,o3,e,D,S⟩=>by subst e;exact⟨_,Sub.refl,q d μ' hd D S⟩)
 refine Aa (Bu hx S1) (Aa (Bs zs) ?_)
 refine Ey (λi τ μ'=>∃o2 o3,τ=[some x,some (.R d),o2,o3]/\μ'=Aj μ d (.dk (Kd (zs.take i)))) ⟨none,none,rfl,rfl⟩ ?_ ?_ ?_
 ·rintro i τ μ' ⟨o2,o3,rfl,rfl⟩
  exact Bu hx (Sub.refl.new hd)
 ·rintro i y τ μ' Z2 hy ⟨o2,o3,rfl,rfl⟩ hZ2
  obtain⟨z,hz,rfl⟩:=Vu hy
  obtain⟨hi,ez⟩:=List.getElem?_eq_some_iff.mp hz
  have ge:zs.take (i+1)=zs.take i++[z]:=by rw [Ycw,hz];rfl
  have ft:(zs.take i).length=i:=by rw [Ybd];omega
  have mx:z∉zs.take i:=λhm=>by
   obtain⟨j,hj,e⟩:=List.mem_iff_getElem.mp hm
   rw [List.getElem_take]at e
   have:=(List.getElem?_inj (i:=j) (j:=i) (by omega) hn).mp (by rw [hz,<- e];exact List.getElem?_eq_getElem _)
   omega
  refine⟨rfl,Qf8 ?_⟩
  refine Aa Ac (Aa (x:=MO.dk (Hg (Kd (zs.take i)) (.inr z) (.D (.int (i:Nat))))) rfl ⟨Bt (show(Kd (zs.take i)).length<=1000 by rw [Yi];omega),hZ2 _ _ ⟨_,_,rfl,?_⟩⟩)
  rw [Bw,Qcz mx,ge,Yh,ft]
 ·rintro τ μ' ⟨o2,o3,rfl,rfl⟩
  rw [Cf,Yaa,Ycb]
  exact hZ _ _ ⟨_,_,rfl,Ac,Sub.refl.new hd⟩
end
section
variable {P:Program}{w:World}{K:PySem.W.Frag}{mg:Str->Option Value}{base:Heap}{f:Addr}{fd:FuncData}
theorem B6{α:Type}(g:α->AV)(xs:List α)(n:Nat):En (xs.map g) none (some (n:Int))=(xs.take n).map g:=by
 unfold En
 rw [HT.sIx_none,HT.sIx_nat,List.drop_zero,Nat.sub_zero,<- List.map_take,Yaa]
 by_cases h:n<=xs.length
 ·rw [Yeg h]
 ·rw [Nat.min_eq_right (by omega),Ycb,Ycx (by omega)]
theorem Bx{α:Type}(g:α->AV)(xs:List α)(n:Nat):En (xs.map g) (some (n:Int)) none=(xs.drop n).map g:=by
 unfold En
 rw [HT.sIx_none,HT.sIx_nat,<- List.map_drop,Yaa]
 by_cases h:n<=xs.length
 ·rw [Yeg h,Ycx (by rw [Yaa,Ybj];exact Yag _)]
 ·rw [Nat.min_eq_right (by omega),Yb4,List.drop_of_length_le (by omega)];simp
def ixN(zs:List Str)(z:Str):Nat:=zs.idxOf z
def Mk(Z L:List Str)(w:List Str):Bool:=(decide (5<=w.length) && decide (w.length<=7)) && (decide (w[0]?=some ("rule" : Str)) && (decide (w[3]?=some (":" : Str)) && ((w[1]?.any λn=>decide (n∈Z)) && ((w[4]?.any λn=>decide (n∈Z)) && ((w[2]?.any λn=>decide (n∈L)) && (w.drop 5).all λn=>decide (n∈L))))))
structure Rl where
 p:Nat
 x:Nat
 q:Nat
 w:List Nat
def Ml(r:Rl):PyData:=.tuple [.int r.p,.int r.x,.int r.q,E2 r.w]
def Vv(Z L:List Str)(w:List Str):Rl:=⟨ixN Z (w[1]?.getD ("" : Str)),ixN L (w[2]?.getD ("" : Str)),ixN Z (w[4]?.getD ("" : Str)),(w.drop 5).map (ixN L)⟩
theorem Pz(z:Str):∀(zs:List Str) (k:Nat),Er ((zs.zipIdx k).map λp=>((.inr p.1:Key),AV.D (.int (p.2:Nat)))) (.inr z)=if z∈zs then some (.D (.int ((k+ixN zs z:Nat)))) else none
 | [],k=>by simp [Er]
 | x :: zs,k=>by
  rw [List.zipIdx_cons,Ya7]
  by_cases e:x=z
  ·subst e
   rw [Fl,Yaw Yao]
   simp [ixN]
  ·rw [Fm (λh=>e (Yds h)),Pz z zs (k+1)]
   by_cases h:z∈zs
   ·rw [Yaw h,Yaw (Yae _ h)]
    unfold ixN
    rw [List.idxOf_cons,show(x==z)=false from Ycl.mpr e,cond_false,show k+1+List.idxOf z zs=k+(List.idxOf z zs+1) by omega]
   ·rw [Yar h,Yar]
    intro hm
    rcases Ybb.mp hm with hm | hm
    ·exact e hm.symm
    ·exact h hm
theorem Ju(zs:List Str)(z:Str):Er (Kd zs) (.inr z)=if z∈zs then some (.D (.int (ixN zs z:Nat))) else none:=by
 have:=Pz z zs 0
 rw [Yek]at this
 exact this
theorem Os(zs:List Str)(z:Str):(Er (Kd zs) (.inr z)).isSome=decide (z∈zs):=by
 rw [Ju]
 by_cases h:z∈zs
 ·rw [Yaw h,Yaj h];rfl
 ·rw [Yar h,Yah h];rfl
theorem five{v:List Str}(h:5<=v.length):∃a b c d e r,v=a :: b :: c :: d :: e :: r:=by
 match v,h with
 | a :: b :: c :: d :: e :: r,_=>exact⟨a,b,c,d,e,r,rfl⟩
theorem ru5(Z L:List Str)(a b c d e:Str)(r:List Str):Mk Z L (a :: b :: c :: d :: e :: r)=(decide (r.length<=2) && (decide (a=("rule" : Str)) && (decide (d=(":" : Str)) && (decide (b∈Z) && (decide (e∈Z) && (decide (c∈L) && r.all λn=>decide (n∈L))))))):=by
 unfold Mk
 simp
abbrev nRu:List Str:=["words","place_numbers","letter_numbers","put"]
theorem Qgb:FnScope nRu ["words","place_numbers","letter_numbers"] (Ai Zg):=⟨rfl,rfl,rfl,by decide +kernel,rfl,by decide +kernel,by decide +kernel⟩
theorem Qgc:(["word","letter_numbers"]:List Str).Nodup:=by decide +kernel
theorem Qgd:(["word","letter_numbers"]:List Str).Nodup:=by decide +kernel
def Qge:ASp:=λxs μ R=>∃(p d e:Addr) (w Z L:List Str),xs=[.R p,.R d,.R e]/\μ p=some (.lst (w.map Ad))/\μ d=some (.dk (Kd Z))/\μ e=some (.dk (Kd L))/\w.length<=900/\(∀z∈w,Yg z)/\∀ μ',Sub μ μ'->R (.D (if Mk Z L w then Ml (Vv Z L w) else .none)) μ'
theorem Qgf{n:Nat}{t1:Tok}(F:Fun K "read_rule" "read_rule" Zg f fd) (af:mg "len" = none) (bw:mg "all" = none) (aj:mg "tuple" = none) (z4:mg "MOST_PUT" = some (.int 2 t1)):FnOk P w K mg base Fh (n+1) f fd ["words","place_numbers","letter_numbers"] (Ji K 3 Qge):=by
 refine F.vok Qgb λaw A outer s H E hr=>⟨_,(Af (B1 (VW.pt (Dx (Gm (Na Oe Oe Ag (Ar Bo rfl af Yan (Ab (vv 0) Ae)) (Ay Al Ag (Hy rfl z4 (v:=.int 2) ⟨_,rfl⟩ (λ_=>Df))))) (Dx (Bf K9 (Ba Bm (vv 0) Ag) Ah (nomark _)) (Fc (Bf K9 (Ba Bm (vv 0) Ag) Ah (nomark _)))))) (An (Bd L7)) A9)
   (Af (B1 (VW.pt (Dx (K5 (Co hr) (Ba Bm (vv 0) Ag) (vv 1)) (Fc (K5 (Co hr) (Ba Bm (vv 0) Ag) (vv 1))))) (An (Bd L7)) A9)
   (Af (B1 (Gm (Gk (Ar (Pk rfl) rfl bw Yc4 (Ab (Cm (N':=["word","letter_numbers"]) (mp:=[none,some 2]) rfl (Cb (Ay Al (Bq (Ab (Ba Bm (vv 0) Ag) Ae)) (A8 (vv 0) (Be Ag) A7))) (λ_ _ _ _=>(Av (i:=0) Qgc rfl (Or.inl rfl) (Or.inr rfl))) (λ_ _ _ _=>Br) (λ_ _ _ _=>(Qb6 (Co hr) (vv 0) (vv 1))) (Bk (N:=nRu) (pn:=(Ai Zg).names) (by decide +kernel))) Ae)))) (An (Bd L7)) A9)
   (Af (Aw (i:=3) Qgb.nd rfl (Or.inl rfl) (Bp Cw rfl aj Ybc (Ab (Cm (N':=["word","letter_numbers"]) (mp:=[none,some 2]) rfl (Cb (A8 (vv 0) (Be Ag) A7)) (λ_ _ _ _=>(Av (i:=0) Qgd rfl (Or.inl rfl) (Or.inr rfl))) (λ_ _ _ _=>Br) (λ_ _ _ _=>(Cy (Co hr) (vv 1) (vv 0))) (Bk (N:=nRu) (pn:=(Ai Zg).names) (by decide +kernel))) Ae)))
   (An (Bd (Dh (Ab (Cy (Co hr) (vv 1) (Ba Bm (vv 0) Ag)) (Ab (Cy (Co hr) (vv 2) (Ba Bm (vv 0) Ag)) (Ab (Cy (Co hr) (vv 1) (Ba Bm (vv 0) Ag)) (Ab (vv 3) Ae))))))))))),?_⟩
 rintro xs μ R _ ⟨p,d,e,v,Z,L,rfl,ep,ed,ee,hv,hz,q⟩
 have no:Mk Z L v=false->∀{μ':M},Sub μ μ'->Wq R (.D .none) μ':=λh μ' S'=>⟨_,Sub.refl,by have:=q μ' S';rw [h,Yar Yak]at this;exact this⟩
 refine Ap (fun τ μ'=>τ=[some (.R p),some (.R d),some (.R e),none]/\(∃b c e5 r,v=("rule" : Str) :: b :: c :: (":" : Str) :: e5 :: r/\r.length<=2)/\μ=μ') (λZ1 fz=>?_) ?_
 ·refine Aa ep (dif (λc1=>br (λc2=>Gr rfl (no ?_ Sub.refl)) (λc2=>?_)) (λc1=>Gr rfl (Gr rfl (no ?_ Sub.refl))))
  ·rw [Yay,Ybe,Yaa]at c2
   unfold Mk
   rw [Yah (show ¬v.length<=7 by omega),Yaq,Yat]
  ·rw [Ya1,Ya8,Yaa]at c2
   rw [Yaa]at c1
   obtain⟨a,b,c,d4,e5,r,rfl⟩:=five (v:=v) (by omega)
   rw [ru5]at no
   have gp:r.length<=2:=by simp only [List.length_cons]at c2;omega
   rw [Yaj gp,Ya4]at no
   refine Aa ep (Aa (Ao (j:=0) rfl) (br (λc3=>Gr rfl (no ?_ Sub.refl)) (λc3=>?_)))
   ·have c3:(!decide (a=("rule" : Str)))=true:=c3
    rw [Yay]at c3
    rw [c3,Yat]
   have c3:(!decide (a=("rule" : Str)))=false:=c3
   rw [Ya1,Ya8]at c3
   refine Aa ep (Aa (Ao (j:=3) rfl) (br (λc4=>no ?_ Sub.refl) (λc4=>fz _ _ ⟨rfl,⟨b,c,e5,r,?_,gp⟩,rfl⟩)))
   ·have c4:(!decide (d4=(":" : Str)))=true:=c4
    rw [Yay]at c4
    rw [c4,Yat,Yaq]
   ·have c4:(!decide (d4=(":" : Str)))=false:=c4
    rw [Ya1,Ya8]at c4
    rw [c3,c4]
  ·rw [Yaa]at c1
   unfold Mk
   rw [Yah (show ¬ 5<=v.length by omega),Yat,Yat]
 rintro τ _ ⟨rfl,⟨b,c,e5,r,rfl,gp⟩,rfl⟩
 have e1:Mk Z L (("rule" : Str) :: b :: c :: (":" : Str) :: e5 :: r)=(decide (b∈Z) && (decide (e5∈Z) && (decide (c∈L) && r.all λn=>decide (n∈L)))):=by
  rw [ru5,Yaj gp,Yaj (rfl:("rule" : Str) = "rule"),Yaj (rfl:(":" : Str) = ":"),Ya4,Ya4,Ya4]
 rw [e1]at no
 refine Ap (fun τ μ'=>τ=[some (.R p),some (.R d),some (.R e),none]/\(b∈Z/\e5∈Z)/\μ=μ') (λZ1 fz=>?_) ?_
 ·refine Aa ep (Aa (Ao (j:=1) rfl) (Aa ed (Aa rfl ?_)))
  have ev:=Os Z b
  refine br (λc1=>Gr rfl (no ?_ Sub.refl)) (λc1=>?_)
  ·have c1:(!decide (b∈Z))=true:=by rw [<- ev];exact c1
   rw [Yay]at c1
   rw [c1,Yat]
  have c1:(!decide (b∈Z))=false:=by rw [<- ev];exact c1
  rw [Ya1,Ya8]at c1
  refine Aa ep (Aa (Ao (j:=4) rfl) (Aa ed (Aa rfl ?_)))
  have ev5:=Os Z e5
  refine br (λc2=>no ?_ Sub.refl) (λc2=>fz _ _ ⟨rfl,⟨c1,?_⟩,rfl⟩)
  ·have c2:(!decide (e5∈Z))=true:=by rw [<- ev5];exact c2
   rw [Yay]at c2
   rw [c2,Yat,Yaq]
  ·have c2:(!decide (e5∈Z))=false:=by rw [<- ev5];exact c2
   rw [Ya1,Ya8]at c2
   exact c2
 rintro τ _ ⟨rfl,⟨hb,h5⟩,rfl⟩
 rw [Yaj hb,Yaj h5,Ya4,Ya4]at no
 have e2:En (List.map Ad (("rule" : Str) :: b :: c :: (":" : Str) :: e5 :: r)) (some 5) none=r.map Ad:=Bx Ad _ 5
 refine Ap (fun τ μ'=>τ=[some (.R p),some (.R d),some (.R e),none]/\(c∈L/\∀z∈r,z∈L)/\Sub μ μ') (λZ1 fz=>?_) ?_
 ·refine Aa ep (Aa (Ao (j:=2) rfl) λp1 au=>?_)
  have S1:Sub μ (Aj μ p1 (.lst [Ad c])):=Sub.refl.new au
  generalize hm1:Aj μ p1 (.lst [Ad c])=μ1 at S1
  have e1:μ1 p1=some (.lst [Ad c]):=by rw [<- hm1,Ac]
  refine Aa (Ak (S1 _ _ ep)) λp2 av=>?_
  rw [e2]
  have S2:Sub μ1 (Aj μ1 p2 (.lst (r.map Ad))):=Sub.refl.new av
  generalize fe:Aj μ1 p2 (.lst (r.map Ad))=μ2 at S2
  have e3:μ2 p2=some (.lst (r.map Ad)):=by rw [<- fe,Ac]
  refine Aa (S2 _ _ e1) (Aa e3 ⟨?_,λp3 bj=>?_⟩)
  ·rw [Yaa];exact seven (show 1+r.length<=1000 by omega)
  have S3:Sub μ2 (Aj μ2 p3 (.lst ([Ad c]++r.map Ad))):=Sub.refl.new bj
  generalize hm3:Aj μ2 p3 (.lst ([Ad c]++r.map Ad))=μ3 at S3
  have e4:μ3 p3=some (.lst ((c :: r).map Ad)):=by rw [<- hm3,Ac];rfl
  have S:Sub μ μ3:=λa m ha=>S3 a m (S2 a m (S1 a m ha))
  refine Aa (Ak e4) λpl hpl=>?_
  have ne:pl≠p3:=by rintro rfl;rw [e4]at hpl;cases hpl
  have nd:pl≠e:=by rintro rfl;rw [S _ _ ee]at hpl;cases hpl
  refine cmap (c :: r) Ad (λz=>.D (.bool (decide (z∈L)))) (fun τ=>∃o,τ=[o,some (.R e)]) ⟨none,rfl⟩ Ac (seven (by rw [Yba];omega)) (λah=>Bu (Ak e4) (by rw [Bw];exact Sub.refl.new hpl)) ?_ ?_
  ·rintro i z τ' ah W hi ⟨o,rfl⟩ hW
   have hw:=hW [some (Ad z),some (.R e)] ⟨_,rfl⟩
   rw [<- Os]at hw
   refine Aa (x:=MO.dk (Kd L)) (by rw [Bw,Am nd.symm];exact S _ _ ee) (Aa rfl hw)
  ·dsimp only [Nb]
   refine Pt (g:=λz=>decide (z∈L)) Ac ?_
   refine br (λh=>no ?_ ?_) (λh=>fz _ _ ⟨rfl,?_,?_⟩)
   ·rw [Yay,List.all_cons]at h
    exact h
   ·exact λa m ha=>((Sub.refl.new hpl).new hpl) a m (S a m ha)
   ·rw [Ya1,Ybs]at h
    exact⟨Yaf (h c (by simp)),λz hz=>Yaf (h z (Yae _ hz))⟩
   ·exact λa m ha=>((Sub.refl.new hpl).new hpl) a m (S a m ha)
 rintro τ μ1 ⟨rfl,⟨hc,hrL⟩,S1⟩
 have q:=fun μ' S'=>q μ' S'
 rw [e1,Yaj hb,Yaj h5,Yaj hc,show(r.all λn=>decide (n∈L))=true from Ybs.mpr λz hz=>Yaj (hrL z hz),Ya4,Ya4,Ya4,Yaw rfl]at q
 refine Ap (fun τ μ'=>τ=[some (.R p),some (.R d),some (.R e),some (.D (E2 (r.map (ixN L))))]/\Sub μ μ') (λZ1 fz=>?_) ?_
 ·refine Aa (Ak (S1 _ _ ep)) λp2 av=>?_
  rw [e2]
  have S2:Sub μ1 (Aj μ1 p2 (.lst (r.map Ad))):=Sub.refl.new av
  generalize fe:Aj μ1 p2 (.lst (r.map Ad))=μ2 at S2
  have e3:μ2 p2=some (.lst (r.map Ad)):=by rw [<- fe,Ac]
  have S:Sub μ μ2:=λa m ha=>S2 a m (S1 a m ha)
  refine Aa (Ak e3) λpl hpl=>?_
  have nd:pl≠e:=by rintro rfl;rw [S _ _ ee]at hpl;cases hpl
  refine cmap r Ad (λz=>.D (.int (ixN L z:Nat))) (fun τ=>∃o,τ=[o,some (.R e)]) ⟨none,rfl⟩ Ac (seven (by omega)) (λah=>Bu (Ak e3) (by rw [Bw];exact Sub.refl.new hpl)) ?_ ?_
  ·rintro i z τ' ah W hi ⟨o,rfl⟩ hW
   have hw:=hW [some (Ad z),some (.R e)] ⟨_,rfl⟩
   have hv:=Ju L z
   rw [Yaw (hrL z (Ya9 hi))]at hv
   exact Aa (x:=MO.dk (Kd L)) (by rw [Bw,Am nd.symm];exact S _ _ ee) (Aa rfl (Aa hv hw))
  ·refine Aa (Ak Ac) (Aa (x:=(r.map (ixN L)).map λ(n:Nat)=>PyData.int n) ?_ (fz _ _ ⟨rfl,?_⟩))
   ·rw [show(r.map λz=>AV.D (.int (ixN L z:Nat)))=((r.map (ixN L)).map λ(n:Nat)=>PyData.int n).map .D by rw [Ya0,Ya0];rfl]
    exact Ch _
   ·exact λa m ha=>((Sub.refl.new hpl).new hpl) a m (S a m ha)
 rintro τ μ2 ⟨rfl,S2⟩
 have v1:=Ju Z b
 have v2:=Ju L c
 have v4:=Ju Z e5
 rw [Yaw hb]at v1
 rw [Yaw hc]at v2
 rw [Yaw h5]at v4
 refine Aa (S2 _ _ ep) (Aa (Ao (j:=1) rfl) (Aa (S2 _ _ ed) (Aa rfl (Aa v1 (Aa (S2 _ _ ep) (Aa (Ao (j:=2) rfl) (Aa (S2 _ _ ee) (Aa rfl (Aa v2 (Aa (S2 _ _ ep) (Aa (Ao (j:=4) rfl) (Aa (S2 _ _ ed) (Aa rfl (Aa v4 ⟨_,Sub.refl,?_⟩))))))))))))))
 exact q _ S2
end
section
variable {P:Program}{w:World}{K:PySem.W.Frag}{mg:Str->Option Value}{base:Heap}{f:Addr}{fd:FuncData}
def rr(Z L:List Str):List (List Str)->List Rl
 | []=>[]
 | w :: ws=>if Mk Z L w then Vv Z L w :: rr Z L ws else []
theorem Vw(Z L:List Str):∀W:List (List Str),(rr Z L W).length<=W.length
 | []=>Yag _
 | w :: ws=>by
  rw [rr]
  split
  ·have:=Vw Z L ws
   simp only [List.length_cons];omega
  ·exact Yb0 _
def Mm(r:Rl):AV:=.D (Ml r)
abbrev nRr:List Str:=["rows","places","letters","place_numbers","letter_numbers","rules","words","rule"]
theorem Ry:FnScope nRr ["rows","places","letters"] (Ai sRr):=⟨rfl,rfl,rfl,by decide +kernel,rfl,by decide +kernel,by decide +kernel⟩
def Qgg:ASp:=λxs μ R=>∃(x y z:AV) (ps:List Addr) (W:List (List Str)) (Z L:List Str),xs=[x,y,z]/\items μ x=some (ps.map .R)/\items μ y=some (Z.map Ad)/\items μ z=some (L.map Ad)/\RowsAt μ ps W/\W.length<=900/\(∀w∈W,w≠[]/\w.length<=900/\∀z∈w,Yg z)/\(Z.Nodup/\Z.length<=900)/\(L.Nodup/\L.length<=900)/\∀l μ',μ l=none->μ' l=some (.lst ((rr Z L W).map Mm))->Sub μ μ'->R (.R l) μ'
theorem Qgh{n:Nat}(F:Fun K "read_rules" "read_rules" sRr f fd) (cNn:VCal P w K mg base n "numbers_by_name" ["names"] Qf9) (cRu:VCal P w K mg base n "read_rule" ["words","place_numbers","letter_numbers"] Qge):FnOk P w K mg base Fh (n+1) f fd ["rows","places","letters"] (Ji K 3 Qgg):=by
 refine F.vok Ry λaw A outer s H E hr=>⟨_,(Af (Aw (i:=3) Ry.nd rfl (Or.inl rfl) (Au cNn hr rfl (Ab (vv 1) Ae)))
   (Af (Aw (i:=4) Ry.nd rfl (Or.inl rfl) (Au cNn hr rfl (Ab (vv 2) Ae)))
   (Af (Aw (i:=5) Ry.nd rfl (Or.inl rfl) (Bq Ae))
   (Af (Di Ybu rfl (Cb (vv 0)) (Av (i:=6) Ry.nd rfl (Or.inl rfl)) (Af (Aw (i:=7) Ry.nd rfl (Or.inl rfl) (Au cRu hr rfl (Ab (vv 6) (Ab (vv 3) (Ab (vv 4) Ae)))))
   (Af (B1 (Bf Qe3 (vv 7) L7 (nomark _)) (An G1) A9)
   (An (Dy (Ew Ybw Ybx Dr (vv 5) (Ab (vv 7) Ae)))))))
   (An (Bd (vv 5))))))),?_⟩
 rintro xs μ R _ ⟨x,y,z,ps,W,Z,L,rfl,hx,hy,hz,hR,hl,hW,hZ,hL,q⟩
 refine Cj ⟨y,Z,rfl,hy,hZ.1,hZ.2,λd μ1 hd ed S1=>?_⟩
 refine Cj ⟨z,L,rfl,Bu hz S1,hL.1,hL.2,λe μ2 he ee S2=>?_⟩
 have S:Sub μ μ2:=λa m ha=>S2 a m (S1 a m ha)
 have ed:=S2 _ _ ed
 refine Cj λl jq=>?_
 have S3:Sub μ2 (Aj μ2 l (.lst [])):=Sub.refl.new jq
 have S0:Sub μ (Aj μ2 l (.lst [])):=λa m ha=>S3 a m (S a m ha)
 have hlm:μ l=none:=S.none jq
 have ed:=S3 _ _ ed
 have ee:=S3 _ _ ee
 have nd:d≠l:=by rintro rfl;rw [Ac]at ed;cases ed
 have ne:e≠l:=by rintro rfl;rw [Ac]at ee;cases ee
 dsimp only [Ca]
 refine Ap (fun τ μ'=>∃o6 o7,τ=[some x,some y,some z,some (.R d),some (.R e),some (.R l),o6,o7]/\μ' l=some (.lst ((rr Z L W).map Mm))/\Sub μ μ') (λZ0 hZ0=>?_) ?_
 ·refine Aa (Bu hx S0) ?_
  refine Ey (λi τ μ'=>∃o6 o7 A,τ=[some x,some y,some z,some (.R d),some (.R e),some (.R l),o6,o7]/\μ' l=some (.lst (A.map Mm))/\A.length<=i/\A++rr Z L (W.drop i)=rr Z L W/\μ' d=some (.dk (Kd Z))/\μ' e=some (.dk (Kd L))/\Sub μ μ') ⟨none,none,[],rfl,Ac,Yb0 _,rfl,ed,ee,S0⟩ (λ_ _ _ ⟨_,_,_,_,_,_,_,_,_,S⟩=>Bu hx S) ?_ ?_
  ·rintro i yy τ μ4 Z2 hy ⟨o6,o7,A,rfl,e1,hA,hr1,km,ee4,S4⟩ hZ2
   rw [List.getElem?_map]at hy
   obtain⟨p,hp,rfl⟩:=Yax.mp hy
   have hi:i < W.length:=by rw [<- hR.l];exact(List.getElem?_eq_some_iff.mp hp).1
   have hw:=List.getElem?_eq_getElem hi
   have dz:W.drop i=W[i] :: W.drop (i+1):=Ybn hi
   generalize W[i]=v at hw dz
   have ep:=S4 _ _ (hR.a i p v hp hw)
   obtain⟨h0,h5,hz⟩:=hW v (Ya9 hw)
   rw [dz,rr]at hr1
   refine Cj ⟨p,d,e,v,Z,L,rfl,ep,km,ee4,by omega,hz,fun μ5 S5=>?_⟩
   dsimp only [Ca]
   by_cases hru:Mk Z L v=true
   ·rw [Yaw hru]
    rw [Yaw hru]at hr1
    refine Cj (Uf rfl ?_)
    refine⟨Aa (S5 _ _ e1) trivial,Aa (S5 _ _ e1) ⟨?_,hZ2 _ _ ⟨_,_,A++[Vv Z L v],rfl,?_,?_,?_,?_,?_,?_⟩⟩⟩
    ·exact Bt (by rw [Yaa];omega)
    ·rw [Ac,Yac];rfl
    ·rw [Yai];show A.length+1<=_;omega
    ·rw [Ybk];exact hr1
    ·rw [Am nd];exact S5 _ _ km
    ·rw [Am ne];exact S5 _ _ ee4
    ·exact λa m ha=>by
      rw [Am (by rintro rfl;rw [hlm]at ha;cases ha)];exact S5 a m (S4 a m ha)
   ·rw [Yar hru]
    rw [Yar hru,Ybi]at hr1
    subst hr1
    exact Cj (Gr rfl (hZ0 _ _ ⟨_,_,rfl,S5 _ _ e1,λa m ha=>S5 a m (S4 a m ha)⟩))
  ·rintro τ μ4 ⟨o6,o7,A,rfl,e1,hA,hr1,km,ee4,S4⟩
   rw [Yaa,hR.l,Yb4,rr,Ybi]at hr1
   subst hr1
   exact hZ0 _ _ ⟨_,_,rfl,e1,S4⟩
 rintro τ μ4 ⟨o6,o7,rfl,e1,S4⟩
 exact⟨_,Sub.refl,q l μ4 hlm e1 S4⟩
theorem Ld{xs:List Str}{x:Str}(h:xs.Nodup)(hx:x∉xs):(xs++[x]).Nodup:=by
 rw [Ydz]
 refine⟨h,Ydh.mpr ⟨by simp,List.nodup_nil⟩,λa ha b hb e=>?_⟩
 rw [Ya3.mp hb]at e
 exact hx (e ▸ ha)
def asc(z:Str):Prop:=∀c∈z.cps.toList,c<=126
theorem Qc0{z:Str}(h:asc z):PyData.canLay0 (.str z)=true:=by
 show PyData.strOk z=true
 unfold PyData.strOk
 rw [Array.all_eq_true]
 intro i hi
 have:=h z.cps[i] (by simp)
 simp
 omega
theorem Le{c:Nat}{p:Str}:∀{A:List Str},p∈A->(∀k∈p.cps.toList,k∈(Str.join ⟨#[c]⟩ A).cps.toList)/\p.cps.toList.length<=(Str.join ⟨#[c]⟩ A).cps.toList.length
 | [x],h=>by
  rw [Ya3.mp h]
  exact⟨λk hk=>hk,Yag _⟩
 | x :: y :: r,h=>by
  rw [Db]
  rcases Ybb.mp h with rfl | h
  ·exact⟨λk hk=>Yc7 _ hk,by simp⟩
  ·have:=Le (c:=c) h
   refine⟨λk hk=>Ybf _ (Yae _ (this.1 k hk)),?_⟩
   simp only [List.length_append,List.length_cons]
   have:=this.2
   omega
theorem Nn{c:Nat}:∀(A:List Str),A.length<=(Str.join ⟨#[c]⟩ A).cps.toList.length+1
 | []=>Yb0 _
 | [x]=>by simp
 | x :: y :: r=>by
  rw [Db]
  have:=Nn (c:=c) (y :: r)
  simp only [List.length_append,List.length_cons]at this ⊢
  omega
theorem Eh(t:Str)(c:Nat):(Txt.split t ⟨#[c]⟩).length<=t.length+1:=by
 have:=Nn (c:=c) (Txt.split t ⟨#[c]⟩)
 rw [Ydn,<- Bj]at this
 exact this
theorem C5{t:Str}{c:Nat}{p:Str}(h:p∈Txt.split t ⟨#[c]⟩):(asc t->asc p)/\p.length<=t.length:=by
 have:=Le (c:=c) h
 rw [Ydn,<- Bj,<- Bj]at this
 exact⟨λha k hk=>ha k (this.1 k hk),this.2⟩
theorem Hj:("\n" : Str)=⟨#[10]⟩:=by decide +kernel
theorem Eu:(" " : Str)=⟨#[32]⟩:=by decide +kernel
theorem Vx:(("\n" : Str).length==0)=false:=by decide +kernel
theorem Ot:((" " : Str).length==0)=false:=by decide +kernel
structure Gt where
 pl:List (Str×Nat)
 le:List Str
 rs:List Rl
def Fw(p:Str×Nat):PyData:=.tuple [.str p.1,.int (p.2:Nat)]
def Ig(g:Gt):PyData:=.tuple [.tuple (g.pl.map Fw),.tuple (g.le.map .str),.tuple (g.rs.map Ml)]
def Ih(P:List (Str×Nat))(W:List (List Str)):List Str:=if P.length=0 then [] else rl [] (W.drop P.length)
def Go(W:List (List Str)):Gt:=⟨rp [] W,Ih (rp [] W) W,rr ((rp [] W).map (·.1)) (Ih (rp [] W) W) (W.drop ((rp [] W).length+(Ih (rp [] W) W).length))⟩
def gtN(g:Gt):Nat:=g.pl.length+g.le.length+g.rs.length
def Mn(W:List (List Str))(g:Gt):Bool:=!(decide (gtN g < W.length) || decide (g.le.length=0))
theorem Ou{t r:Str}{N:Nat}(ht:asc t)(hl:t.length<=N)(hr:r∈Txt.split t "\n"):asc r/\r.length<=N:=by
 rw [Hj]at hr
 exact⟨(C5 hr).1 ht,Yap (C5 hr).2 hl⟩
theorem P0{r:Str}{N:Nat}(ht:asc r)(hl:r.length<=N)(hN:N<=20000):Txt.split r " " ≠ []/\(Txt.split r " ").length<=N+1/\∀z∈Txt.split r " ",Yg z:=by
 refine⟨Gw _ _,?_,λz hz=>?_⟩
 ·have:=Eh r 32
  rw [<- Eu]at this;omega
 ·rw [Eu]at hz
  exact⟨Qc0 ((C5 hz).1 ht),Yap (C5 hz).2 (by omega)⟩
def wrd(t:Str):List (List Str):=(Txt.split t "\n").map λr=>Txt.split r " "
theorem Zp:∀(W:List (List Str)) (P:List (Str×Nat)),(P.map (·.1)).Nodup->((rp P W).map (·.1)).Nodup/\(rp P W).length<=P.length+W.length
 | [],P,h=>⟨h,Yag _⟩
 | w :: ws,P,h=>by
  rw [rp]
  by_cases hp:Ie P w=true
  ·rw [Yaw hp]
   have h2:=Zp ws (P++[(w[1]?.getD ("" : Str),hndN (w[2]?.getD ("" : Str)))]) ?_
   ·refine⟨h2.1,Yap h2.2 ?_⟩
    rw [Yai,Yba];simp;omega
   ·rw [Yac]
    unfold Ie at hp
    simp only [Bool.and_eq_true,Bool.not_eq_true']at hp
    have h5:=hp.2.2.2.2
    have h3:=Yaf hp.1
    obtain⟨a,b,c,rfl⟩:=three h3
    have h5:decide (b∈P.map (·.1))=false:=h5
    exact Ld h (Ybh h5)
  ·rw [Yar hp]
   exact⟨h,Nat.le_add_right _ _⟩
theorem Zq:∀(W:List (List Str)) (L:List Str),L.Nodup->(rl L W).Nodup/\(rl L W).length<=L.length+W.length
 | [],P,h=>⟨h,Yag _⟩
 | w :: ws,P,h=>by
  rw [rl]
  by_cases hp:J1 P w=true
  ·rw [Yaw hp]
   have h2:=Zq ws (P++[w[1]?.getD ("" : Str)]) ?_
   ·refine⟨h2.1,Yap h2.2 ?_⟩
    rw [Yai,Yba];simp;omega
   ·unfold J1 at hp
    simp only [Bool.and_eq_true,Bool.not_eq_true']at hp
    have h5:=hp.2.2.2
    have h3:=Yaf hp.1
    obtain⟨a,b,rfl⟩:=two h3
    have h5:decide (b∈P)=false:=h5
    exact Ld h (Ybh h5)
  ·rw [Yar hp]
   exact⟨h,Nat.le_add_right _ _⟩
theorem RowsAt.drop{μ:M}{ps:List Addr}{W:List (List Str)}(h:RowsAt μ ps W)(n:Nat):RowsAt μ (ps.drop n) (W.drop n):=⟨by rw [Ybj,Ybj,h.l],λi p w e1 e2=>h.a (n+i) p w (by rw [<- List.getElem?_drop];exact e1) (by rw [<- List.getElem?_drop];exact e2)⟩
theorem Yk(P:List (Str×Nat)):dats ((P.map Py).map (·.2))=some (P.map λp=>PyData.int (p.2:Nat)):=by
 rw [show(P.map Py).map (·.2)=(P.map λp=>PyData.int (p.2:Nat)).map .D by rw [Ya0,Ya0];rfl];exact Ch _
theorem Vy:∀(P:List (Str×Nat)),(((P.map Py).map (·.1)).zip (P.map λp=>PyData.int (p.2:Nat))).map prD=P.map Fw
 | []=>rfl
 | p :: P=>by
  have:=Vy P
  simp only [List.map_cons,List.zip_cons_cons]at this ⊢
  rw [this];rfl
theorem Ii(A:List Rl):dats (A.map Mm)=some (A.map Ml):=by
 rw [show A.map Mm=(A.map Ml).map .D by rw [Ya0];rfl];exact Ch _
abbrev nRg:List Str:=["text","rows","hands","letters","rules","at"]
theorem Ov:FnScope nRg ["text"] (Ai sRg):=⟨rfl,rfl,rfl,by decide +kernel,rfl,by decide +kernel,by decide +kernel⟩
theorem Qgi:(["row"]:List Str).Nodup:=by decide +kernel
def Qgj(C:Addr):Og:=λxs μ R EX=>∃(t:Str),xs=[.D (.str t)]/\asc t/\t.length<=800/\(Mn (wrd t) (Go (wrd t))=true->R (.D (Ig (Go (wrd t)))) μ)/\(Mn (wrd t) (Go (wrd t))=false->EX C [("row",.int (gtN (Go (wrd t)):Nat))] μ)
theorem Qgk{n:Nat}{C:Addr}(F:Fun K "read_game" "read_game" sRg f fd) (cRl:VCal P w K mg base (n+1) "read_letters" ["rows"] Qf6) (cRp:VCal P w K mg base (n+1) "read_places" ["rows"] Qf4) (cRr:VCal P w K mg base (n+1) "read_rules" ["rows","places","letters"] Qgg) (af:mg "len" = none) (bd:mg "list" = none) (aj:mg "tuple" = none) (ji:XCal P w K mg base n "NoText" C ["row"]) :
  FnOk P w K mg base (Y2 P w) (n+1+1) f fd ["text"] (Qb9 K 1 (Qgj C)):=by
 refine F.vokX Ov λaw A outer s H E EX hr hX=>⟨_,(Af (G3 (i:=1) (N':=["row"]) (mp:=[none]) rfl Ov.nd rfl rfl (Cb (Jh Yce Ycf G5 (vv 0) (Ab Ah Ae))) (λ_ _ _ _=>(Av (i:=0) Qgi rfl (Or.inl rfl) (Or.inr rfl))) (λ_ _ _ _=>Br) (λ_ _ _ _=>(Jh Yce Ycf G5 (vv 0) (Ab Ah Ae))) (Bk (N:=nRg) (pn:=(Ai sRg).names) (by decide +kernel)))
   (Af (Aw (i:=2) Ov.nd rfl (Or.inl rfl) (Au cRp hr rfl (Ab (vv 1) Ae)))
   (Af (Aw (i:=3) Ov.nd rfl (Or.inl rfl) (Bq Ae))
   (Af (B1 (Bf Qbs (Ar Bo rfl af Yan (Ab (vv 2) Ae)) Ag (nomark _)) (An (Aw (i:=3) Ov.nd rfl (Or.inl rfl) (Au cRl hr rfl (Ab (A8 (vv 1) (Be (Ar Bo rfl af Yan (Ab (vv 2) Ae))) A7) Ae)))) A9)
   (Af (Aw (i:=4) Ov.nd rfl (Or.inl rfl) (Au cRr hr rfl (Ab (A8 (vv 1) (Be (Ay Al (Ar Bo rfl af Yan (Ab (vv 2) Ae)) (Ar Bo rfl af Yan (Ab (vv 3) Ae)))) A7) (Ab (Bp (Px rfl) rfl bd Ydr (Ab (vv 2) Ae)) (Ab (vv 3) Ae)))))
   (Af (Aw (i:=5) Ov.nd rfl (Or.inl rfl) (Ay Al (Ay Al (Ar Bo rfl af Yan (Ab (vv 2) Ae)) (Ar Bo rfl af Yan (Ab (vv 3) Ae))) (Ar Bo rfl af Yan (Ab (vv 4) Ae))))
   (Af (B1 (VW.pt (Dx (Bf Qbr (vv 5) (Ar Bo rfl af Yan (Ab (vv 1) Ae)) (nomark _)) (Fc (Bf (Dv hr) (Ar Bo rfl af Yan (Ab (vv 3) Ae)) Ag (nomark _))))) (An (U1 ji hr rfl hX rfl (Ab (vv 5) Ae))) A9)
   (An (Bd (Dh (Ab (Rv rfl rfl aj (vv 2)) (Ab (Bp Cw rfl aj Ybc (Ab (vv 3) Ae)) (Ab (Bp Cw rfl aj Ybc (Ab (vv 4) Ae)) Ae))))))))))))),?_⟩
 rintro xs μ R _ ⟨t,rfl,ht,hl,q1,q2⟩
 have jp:(Txt.split t "\n").length<=801:=by
  have:=Eh t 10
  rw [<- Hj]at this;omega
 have hWl:(wrd t).length<=801:=by unfold wrd;rw [Yaa];exact jp
 have v8:∀w∈wrd t,w≠[]/\w.length<=900/\∀z∈w,Yg z:=λw hw=>by
  unfold wrd at hw
  obtain⟨r,hr,rfl⟩:=Yaz.mp hw
  obtain⟨h1,h2⟩:=Ou ht hl hr
  obtain⟨h3,h4,h5⟩:=P0 h1 h2 (by decide)
  exact⟨h3,by omega,h5⟩
 refine Ap (fun τ μ'=>∃pr qs,τ=[some (.D (.str t)),some (.R pr),none,none,none,none]/\μ' pr=some (.lst (qs.map .R))/\RowsAt μ' qs (wrd t)/\Sub μ μ') (λZ hZ=>?_) ?_
 ·refine⟨trivial,Vx,by omega,λp0 je=>Aa (Ak Ac) λpr cb=>?_⟩
  have S1:Sub μ (Aj μ p0 (.lst ((Txt.split t "\n").map λw=>AV.D (PyData.str w)))):=Sub.refl.new je
  have e1:Aj μ p0 (.lst ((Txt.split t "\n").map λw=>AV.D (PyData.str w))) p0=some (.lst ((Txt.split t "\n").map λw=>AV.D (PyData.str w))):=Ac
  generalize Aj μ p0 (.lst ((Txt.split t "\n").map λw=>AV.D (PyData.str w)))=μ1 at S1 e1 cb ⊢
  have n1:p0≠pr:=by rintro rfl;rw [e1]at cb;cases cb
  refine Hf (λi ah τ μ'=>∃(o:Option AV) (qs:List Addr),τ=[o]/\ah=qs.map .R/\μ' pr=some (.lst ah)/\RowsAt μ' qs ((wrd t).take i)/\(∀q∈qs,q≠pr)/\∀b m,b≠pr->μ1 b=some m->μ' b=some m) ⟨none,[],rfl,rfl,Ac,⟨by simp,λi p w h=>by cases h⟩,(λ_ h=>nomatch h),λb m hb h=>by rw [Am hb];exact h⟩ (λi ah τ μ' ⟨_,_,_,_,_,_,_,S⟩=>Ak (S _ _ n1 e1)) ?_ ?_
  ·rintro i y ah τ μ2 W hy ⟨o,qs,rfl,rfl,e2,A2,N2,S2⟩ hW
   rw [List.getElem?_map]at hy
   obtain⟨r,hr,rfl⟩:=Yax.mp hy
   have hwr:(wrd t)[i]?=some (Txt.split r " "):=by unfold wrd;rw [List.getElem?_map,hr];rfl
   have hrl:=(Ou ht hl (Ya9 hr)).2
   have y8:qs.length<=801:=by rw [A2.l,Ybd];omega
   have ge:(wrd t).take (i+1)=(wrd t).take i++[Txt.split r " "]:=by rw [Ycw,hwr];rfl
   refine Gr rfl ⟨trivial,Ot,by omega,λq' dh=>?_⟩
   have k1:pr≠q':=by rintro rfl;rw [e2]at dh;cases dh
   refine⟨by rw [Am k1];exact e2,Bt (by rw [Yaa];omega),hW _ _ _ ⟨_,qs++[q'],rfl,by rw [Yac];rfl,Ac,?_,?_,?_⟩⟩
   ·rw [ge]
    refine⟨by rw [Yai,Yai,A2.l];rfl,λj p w h1 h2=>?_⟩
    by_cases hj:j < qs.length
    ·rw [List.getElem?_append_left hj]at h1
     rw [List.getElem?_append_left (by rw [<- A2.l];exact hj)]at h2
     have h3:=A2.a j p w h1 h2
     rw [Am (N2 p (Ya9 h1)),Am (by rintro rfl;rw [h3]at dh;cases dh)]
     exact h3
    ·rw [List.getElem?_append_right (by omega)]at h1
     rw [List.getElem?_append_right (by rw [<- A2.l];omega),<- A2.l]at h2
     have hj0:j - qs.length=0:=by
      have:=(List.getElem?_eq_some_iff.mp h1).1
      simp at this;omega
     rw [hj0]at h1 h2
     cases h1
     cases h2
     rw [Am k1.symm,Ac];rfl
   ·intro q hq
    rcases Ya5.mp hq with h | h
    ·exact N2 q h
    ·rw [Ya3.mp h];exact k1.symm
   ·intro b m hb hm
    have h3:=S2 b m hb hm
    rw [Am hb,Am (by rintro rfl;rw [h3]at dh;cases dh)];exact h3
  ·rintro ah τ μ2 ⟨o,qs,rfl,rfl,e2,A2,N2,S2⟩
   have:(List.map (λw=>AV.D (PyData.str w)) (Txt.split t "\n")).length=(wrd t).length:=by unfold wrd;rw [Yaa,Yaa]
   rw [this,Ycb]at A2
   exact hZ _ _ ⟨pr,qs,rfl,e2,A2,λb m hb=>S2 b m (by rintro rfl;rw [S1 _ _ hb]at cb;cases cb) (S1 b m hb)⟩
 generalize wrd t=W at hWl v8 q1 q2
 rintro τ μ1 ⟨pr,qs,rfl,e1,A1,S1⟩
 have hrp:=Zp W [] List.nodup_nil
 rw [Yck,Yek]at hrp
 have hrl:(Ih (rp [] W) W).Nodup/\(Ih (rp [] W) W).length<=801:=by
  unfold Ih
  split
  ·exact⟨List.nodup_nil,Yb0 _⟩
  ·have:=Zq (W.drop (rp [] W).length) [] List.nodup_nil
   rw [Yck,Yek,Ybj]at this
   exact⟨this.1,by omega⟩
 have hrr:=Vw ((rp [] W).map (·.1)) (Ih (rp [] W) W) (W.drop ((rp [] W).length+(Ih (rp [] W) W).length))
 rw [Ybj]at hrr
 have hd:∀n,∀w∈W.drop n,w≠[]/\w.length<=900/\∀z∈w,Yg z:=λn w hw=>v8 w (Yci hw)
 refine Cj ⟨.R pr,qs,W,rfl,Ak e1,A1,by omega,v8,λd μ2 hd0 ed S2=>?_⟩
 refine Cj λl0 jq=>?_
 dsimp only [Ca,List.set,C3]
 have S3:Sub μ2 (Aj μ2 l0 (.lst [])):=Sub.refl.new jq
 have el0:Aj μ2 l0 (.lst []) l0=some (.lst []):=Ac
 generalize Aj μ2 l0 (.lst [])=μ3 at S3 el0
 have S13:Sub μ1 μ3:=λa m ha=>S3 a m (S2 a m ha)
 refine Ap (fun τ μ'=>∃l,τ=[some (.D (.str t)),some (.R pr),some (.R d),some (.R l),none,none]/\μ' l=some (.lst ((Ih (rp [] W) W).map Ad))/\Sub μ3 μ') (λZ hZ=>?_) ?_
 ·refine Aa (S3 _ _ ed) (dif (λc=>?_) (λc=>hZ _ _ ⟨l0,rfl,?_,Sub.refl⟩))
  ·rw [Yaa]at c
   refine Aa (S3 _ _ ed) (Aa (Ak (S13 _ _ e1)) λp hp=>?_)
   rw [Yaa]
   have S4:Sub μ3 (Aj μ3 p (.lst (En (qs.map .R) (some ((rp [] W).length:Int)) none))):=Sub.refl.new hp
   refine⟨.R p,qs.drop (rp [] W).length,W.drop (rp [] W).length,rfl,Ak ?_,((A1.sub S13).sub S4).drop _,by rw [Ybj];omega,hd _,λl μ4 xl el S5=>hZ _ _ ⟨l,rfl,?_,λa m ha=>S5 a m (S4 a m ha)⟩⟩
   ·rw [Ac,Bx AV.R qs]
   ·unfold Ih
    rw [Yar (by omega)];exact el
  ·rw [Yaa]at c
   unfold Ih
   rw [Yaw (by omega)];exact el0
 rintro τ μ4 ⟨l,rfl,el,S4⟩
 have S14:Sub μ1 μ4:=λa m ha=>S4 a m (S13 a m ha)
 have km:=S4 _ _ (S3 _ _ ed)
 have vh:((rp [] W).map Py).length=(rp [] W).length:=Yaa _
 have jz:((Ih (rp [] W) W).map Ad).length=(Ih (rp [] W) W).length:=Yaa _
 refine Ap (fun τ μ'=>∃rr',τ=[some (.D (.str t)),some (.R pr),some (.R d),some (.R l),some (.R rr'),none]/\μ' rr'=some (.lst ((Go W).rs.map Mm))/\Sub μ4 μ') (λZ hZ=>?_) ?_
 ·refine Aa km (Aa el (Aa (Ak (S14 _ _ e1)) λp hp=>?_))
  rw [vh,jz,<- Int.natCast_add]
  have S5:Sub μ4 (Aj μ4 p (.lst (En (qs.map .R) (some (((rp [] W).length+(Ih (rp [] W) W).length:Nat):Int)) none))):=Sub.refl.new hp
  have ep:Aj μ4 p (.lst (En (qs.map .R) (some (((rp [] W).length+(Ih (rp [] W) W).length:Nat):Int)) none)) p=some (.lst ((qs.drop ((rp [] W).length+(Ih (rp [] W) W).length)).map .R)):=by rw [Ac,Bx AV.R qs]
  generalize Aj μ4 p (.lst (En (qs.map .R) (some (((rp [] W).length+(Ih (rp [] W) W).length:Nat):Int)) none))=μ5 at S5 ep
  refine Aa (S5 _ _ km) λp2 av=>?_
  have S6:Sub μ5 (Aj μ5 p2 (.lst (((rp [] W).map Py).map λq=>.D (kyD q.1)))):=Sub.refl.new av
  refine⟨.R p,.R p2,.R l,qs.drop ((rp [] W).length+(Ih (rp [] W) W).length),W.drop ((rp [] W).length+(Ih (rp [] W) W).length),(rp [] W).map (λp:Str×Nat=>p.1),Ih (rp [] W) W,rfl,Ak (S6 _ _ ep),Ak ?_,Ak (S6 _ _ (S5 _ _ el)),(((A1.sub S14).sub S5).sub S6).drop _,by rw [Ybj];omega,hd _,⟨hrp.1,by rw [Yaa];omega⟩,⟨hrl.1,by omega⟩,λr μ6 _ er S7=>hZ _ _ ⟨r,rfl,er,λa m ha=>S7 a m (S6 a m (S5 a m ha))⟩⟩
  rw [Ac,Ya0,Ya0];rfl
 rintro τ μ5 ⟨r,rfl,er,S5⟩
 have ed5:=S5 _ _ km
 have el5:=S5 _ _ el
 have e15:=S5 _ _ (S14 _ _ e1)
 have SS:Sub μ μ5:=λa m ha=>S5 a m (S14 a m (S1 a m ha))
 have ci:((Go W).rs.map Mm).length=(Go W).rs.length:=Yaa _
 have hq:(qs.map AV.R).length=W.length:=by rw [Yaa,A1.l]
 refine Ap (fun τ μ'=>τ=[some (.D (.str t)),some (.R pr),some (.R d),some (.R l),some (.R r),some (.D (.int (gtN (Go W):Nat)))]/\μ5=μ') (λZ hZ=>?_) ?_
 ·refine Aa ed5 (Aa el5 (Aa er (hZ _ _ ⟨?_,rfl⟩)))
  rw [vh,jz,ci];rfl
 rintro τ _ ⟨rfl,rfl⟩
 refine Ap (fun τ μ'=>τ=[some (.D (.str t)),some (.R pr),some (.R d),some (.R l),some (.R r),some (.D (.int (gtN (Go W):Nat)))]/\Mn W (Go W)=true/\μ5=μ') (λZ hZ=>?_) ?_
 ·refine Aa e15 (dif (λc=>Gr rfl ?_) (λc=>?_))
  ·rw [hq]at c
   refine Aa rfl ⟨rfl,μ,SS,q2 ?_⟩
   unfold Mn
   rw [Yaj (show gtN (Go W) < W.length by omega)];rfl
  ·rw [hq]at c
   have e0:Mn W (Go W)=!decide ((Go W).le.length=0):=by
    unfold Mn
    rw [Yah (show ¬gtN (Go W) < W.length by omega),Bool.false_or]
   refine Aa el5 (ieq (λc2=>?_) (λc2=>hZ _ _ ⟨rfl,?_,rfl⟩))
   ·rw [jz]at c2
    refine Aa rfl ⟨rfl,μ,SS,q2 ?_⟩
    rw [e0,Yaj (show(Go W).le.length=0 by show(Ih (rp [] W) W).length=0;omega)];rfl
   ·rw [jz]at c2
    rw [e0,Yah (show ¬(Go W).le.length=0 by show ¬(Ih (rp [] W) W).length=0;omega)];rfl
 rintro τ _ ⟨rfl,hok,rfl⟩
 refine Aa ed5 (Aa (Yk _) (Aa (Ak el5) (Aa (Bs _) (Aa (Ak er) (Aa (Ii _) ⟨μ,SS,?_⟩)))))
 rw [Vy]
 exact q1 hok
end
section
variable {P:Program}{w:World}{K:PySem.W.Frag}{mg:Str->Option Value}{base:Heap}{f:Addr}{fd:FuncData}
def Sd(p:Str×Nat):AV:=.D (Fw p)
def E5(g:Gt)(w:List Str):Bool :=
 if w[0]?=some ("place" : Str) then decide (g.le=[]) && Ie g.pl w
 else if w[0]?=some ("letter" : Str) then decide (g.rs=[]) && (!decide (g.pl=[]) && J1 g.le w)
 else !decide (g.le=[]) && Mk (g.pl.map (·.1)) g.le w
def G7(g:Gt)(w:List Str):Gt :=
 if w[0]?=some ("place" : Str) then { g with pl:=g.pl++[(w[1]?.getD ("" : Str),hndN (w[2]?.getD ("" : Str)))] }
 else if w[0]?=some ("letter" : Str) then { g with le:=g.le++[w[1]?.getD ("" : Str)] }
 else { g with rs:=g.rs++[Vv (g.pl.map (·.1)) g.le w] }
structure GtAt(μ:M)(p l r:Addr)(g:Gt):Prop where
 p:μ p=some (.lst (g.pl.map Sd))
 l:μ l=some (.lst (g.le.map Ad))
 r:μ r=some (.lst (g.rs.map Mm))
theorem GtAt.sub{μ ν:M}{p l r:Addr}{g:Gt}(h:GtAt μ p l r g)(S:Sub μ ν):GtAt ν p l r g:=⟨S _ _ h.p,S _ _ h.l,S _ _ h.r⟩
theorem Ow{k:Nat}:∀{ds:List PyData},(∀d∈ds,d.canLay0=true/\d.depth<=k)->PyData.canLayAll0 ds=true/\PyData.depthAll ds<=k
 | [],_=>⟨rfl,by simp [PyData.depthAll]⟩
 | d :: ds,h=>by
  have h1:=h d Yao
  have h2:=Ow λe he=>h e (Yae _ he)
  simp only [PyData.canLayAll0,PyData.depthAll,h1.1,h2.1,Bool.and_true]
  exact⟨trivial,by omega⟩
theorem Hk{ds:List PyData}(h:∀d∈ds,d.canLay0=true/\d.depth<=60):B7 (.list ds):=by
 have:=Ow h
 exact⟨by simp only [PyData.canLay0];exact this.1,by simp only [PyData.depth];omega⟩
theorem Gp{ds:List PyData}(h:∀d∈ds,d.canLay0=true/\d.depth<=60):B7 (.tuple ds):=by
 have:=Ow h
 exact⟨by simp only [PyData.canLay0];exact this.1,by simp only [PyData.depth];omega⟩
def lay(z:Str):Prop:=PyData.canLay0 (.str z)=true
theorem C9{zs:List Str}(h:∀z∈zs,lay z):∀d∈zs.map PyData.str,d.canLay0=true/\d.depth<=60:=λd hd=>by
 obtain⟨z,hz,rfl⟩:=Yaz.mp hd
 exact⟨h z hz,by simp [PyData.depth]⟩
structure GtOk(g:Gt):Prop where
 p:∀x∈g.pl,lay x.1
 l:∀z∈g.le,lay z
theorem Qgl{P:List (Str×Nat)}(h:∀x∈P,lay x.1):∀d∈P.map Fw,d.canLay0=true/\d.depth<=60:=λd hd=>by
 obtain⟨x,hx,rfl⟩:=Yaz.mp hd
 have h1:=h x hx
 unfold lay at h1
 unfold Fw
 simp only [PyData.canLay0,PyData.canLayAll0,PyData.depth,PyData.depthAll,Bool.and_true]at h1 ⊢
 exact⟨h1,by omega⟩
theorem Qgm(A:List Rl):∀d∈A.map Ml,d.canLay0=true/\d.depth<=60:=λd hd=>by
 obtain⟨r,hr,rfl⟩:=Yaz.mp hd
 have h1:=Rx (ns:=r.w)
 have h2:=(Ic (ns:=r.w)).2
 unfold Ml E2
 have h3:=(Ic (ns:=r.w)).1
 simp only [PyData.canLay0,PyData.canLayAll0,PyData.depth,PyData.depthAll,Bool.and_true]at h1 ⊢
 exact⟨by rw [h3];rfl,by omega⟩
theorem Jv(P:List (Str×Nat)):dats (P.map Sd)=some (P.map Fw):=by
 rw [show P.map Sd=(P.map Fw).map .D by rw [Ya0];rfl];exact Ch _
theorem Fo{μ:M}{l:Addr}{xs:List AV}{ds:List PyData}(e:μ l=some (.lst xs))(hd:dats xs=some ds):see μ (.R l)=some (.list ds):=by
 show(match μ l with | some (.lst xs)=>(match dats xs with | some ds=>some (PyData.list ds) | none=>none) | _=>none)=some (PyData.list ds)
 rw [e]
 dsimp only
 rw [hd]
theorem Qa(ds:List PyData):PyData.eqv (.list ds) (.list [])=ds.isEmpty:=by
 cases ds <;> simp [PyData.eqv,PyData.eqvAll]
theorem Vz:B7 (.list []):=Hk (λ_ h=>nomatch h)
theorem eq0{μ:M}{l pn:Addr}{xs:List AV}{ds:List PyData}{R:AV->M->Prop}(e:μ l=some (.lst xs))(hd:dats xs=some ds)(ok:B7 (.list ds))(hp:μ pn=none)(q:R (.D (.bool ds.isEmpty)) (Aj μ pn (.lst []))):aEq (.R l) (.R pn) (Aj μ pn (.lst [])) R:=by
 refine Aa (Fo (Sub.refl.new hp _ _ e) hd) (Aa (Fo Ac rfl) ⟨ok,Vz,?_⟩)
 rw [Qa];exact q
theorem ne0{μ:M}{l pn:Addr}{xs:List AV}{ds:List PyData}{R:AV->M->Prop}(e:μ l=some (.lst xs))(hd:dats xs=some ds)(ok:B7 (.list ds))(hp:μ pn=none)(q:R (.D (.bool (!ds.isEmpty))) (Aj μ pn (.lst []))):aNe (.R l) (.R pn) (Aj μ pn (.lst [])) R:=by
 refine Aa (Fo (Sub.refl.new hp _ _ e) hd) (Aa (Fo Ac rfl) ⟨ok,Vz,?_⟩)
 rw [Qa];exact q
theorem G6{α β:Type}(f:α->β)(xs:List α) [Decidable (xs=[])]:(xs.map f).isEmpty=decide (xs=[]):=by
 cases xs <;> simp
theorem V0{α:Type}(g:α->AV)(xs:List α)(i n:Nat)(h:i+n<=xs.length):En (xs.map g) (some (i:Int)) (some ((i+n:Nat):Int))=((xs.drop i).take n).map g:=by
 unfold En
 rw [HT.sIx_nat,HT.sIx_nat,Yaa,Yeg h,Yeg (show i<=xs.length by omega),<- List.map_drop,<- List.map_take,Nat.add_sub_cancel_left]
theorem Qc1{g:Gt}{v2:List Str}(h:("letter" : Str) ≠ "place"):E5 g (("letter" : Str) :: v2)=(decide (g.rs=[]) && (!decide (g.pl=[]) && J1 g.le (("letter" : Str) :: v2))):=by
 unfold E5
 simp only [List.getElem?_cons_zero,Option.some.injEq]
 rw [Yar h,Yaw trivial]
theorem Qc2{g:Gt}{b:Str}{v2:List Str}(h:b≠("place" : Str)) (h2:b≠("letter" : Str)):E5 g (b :: v2)=(!decide (g.le=[]) && Mk (g.pl.map (·.1)) g.le (b :: v2)):=by
 unfold E5
 simp only [List.getElem?_cons_zero,Option.some.injEq]
 rw [Yar h,Yar h2]
theorem Yl:B7 (.tuple [.int 5,.int 6,.int 7]):=⟨rfl,by simp [PyData.depth,PyData.depthAll]⟩
theorem V1(m:Int):([PyData.int 5,.int 6,.int 7].any λe=>PyData.eqv e (.int m))=(decide (5<=m) && decide (m<=7)):=by
 simp only [List.any_cons,List.any_nil,Fi,Bool.or_false]
 rw [<- Yd1,<- Yd1,<- Ydp]
 exact Yb5.mpr ⟨λh=>by omega,λh=>by omega⟩
abbrev nSt:List Str:=["_law_words","_law_places","_law_letters","_law_rules","_law_word","_law_good","_law_names_here"]
theorem V2:FnScope nSt ["_law_words","_law_places","_law_letters","_law_rules"] (Ai Yc):=⟨rfl,rfl,rfl,by decide +kernel,rfl,by decide +kernel,by decide +kernel⟩
theorem Zr:(["_law_name","_law_hand"]:List Str).Nodup:=by decide +kernel
theorem Zs:(["_law_name","_law_hand"]:List Str).Nodup:=by decide +kernel
theorem Qgn:(["_law_one","_law_letters"]:List Str).Nodup:=by decide +kernel
def Qgo:ASp:=λxs μ R=>∃(a p l r:Addr) (w:List Str) (g:Gt),xs=[.R a,.R p,.R l,.R r]/\μ a=some (.lst (w.map Ad))/\GtAt μ p l r g/\GtOk g/\(w≠[]/\w.length<=20001/\∀z∈w,Yg z)/\gtN g<=20001/\∀ μ',Sub μ μ'->R (.D (.bool (E5 g w))) μ'
theorem Qgp{n:Nat}(F:Fun K "_law_stands" "_law_stands" Yc f fd) (cLi:VCal P w K mg base n "_law_is_name" ["_law_word"] Qf2) (af:mg "len" = none) (bw:mg "all" = none):FnOk P w K mg base Fh (n+1) f fd ["_law_words","_law_places","_law_letters","_law_rules"] (Ji K 4 Qgo):=by
 refine F.vok V2 λaw A outer s H E hr=>⟨_,(Af (Aw (i:=4) V2.nd rfl (Or.inl rfl) (Ba Bm (vv 0) Ag))
   (Af (B1 (Bf (Dv hr) (vv 4) Ah (nomark _)) (Af (Aw (i:=5) V2.nd rfl (Or.inl rfl) (Dg (C4 (Dv hr) (vv 2) (Bq Ae) (nomark _)) (Dg (C4 (Dv hr) (Ar Bo rfl af Yan (Ab (vv 0) Ae)) Ag (nomark _)) (Gn (C4 (Nd hr) (Ba Bm (vv 0) Ag) (Dh (Ab Ah (Ab Ah Ae))) (by with_unfolding_all rfl))))))
   (An (Bd (Dg (vv 5) (Dg (Au cLi hr rfl (Ab (Ba Bm (vv 0) Ag) Ae)) (Gn (C4 (Ia hr) (Ba Bm (vv 0) Ag) (Cm (N':=["_law_name","_law_hand"]) (mp:=[none,none]) rfl (Cb (vv 1)) (λ_ _ _ _=>(Ep (n:=2) rfl (Bg (Av (i:=0) Zr rfl (Or.inl rfl) (Or.inr rfl)) (Bg (Av (i:=1) Zr rfl (Or.inl rfl) (Or.inr rfl)) C7)))) (λ_ _ _ _=>Br) (λ_ _ _ _=>(vv 0)) (Bk (N:=nSt) (pn:=(Ai Yc).names) (by decide +kernel))) (by with_unfolding_all rfl)))))))) A9)
   (Af (B1 (Bf (Dv hr) (vv 4) Ah (nomark _)) (Af (Aw (i:=5) V2.nd rfl (Or.inl rfl) (Dg (C4 (Dv hr) (vv 3) (Bq Ae) (nomark _)) (Dg (C4 (Ui hr) (vv 1) (Bq Ae) (nomark _)) (Gn (C4 (Dv hr) (Ar Bo rfl af Yan (Ab (vv 0) Ae)) Ag (nomark _))))))
   (An (Bd (Dg (vv 5) (Dg (Au cLi hr rfl (Ab (Ba Bm (vv 0) Ag) Ae)) (Gn (C4 (Ia hr) (Ba Bm (vv 0) Ag) (vv 2) (by with_unfolding_all rfl)))))))) A9)
   (Af (G3 (i:=6) (N':=["_law_name","_law_hand"]) (mp:=[none,none]) rfl V2.nd rfl rfl (Cb (vv 1)) (λ_ _ _ _=>(Ep (n:=2) rfl (Bg (Av (i:=0) Zs rfl (Or.inl rfl) (Or.inr rfl)) (Bg (Av (i:=1) Zs rfl (Or.inl rfl) (Or.inr rfl)) C7)))) (λ_ _ _ _=>Br) (λ_ _ _ _=>(vv 0)) (Bk (N:=nSt) (pn:=(Ai Yc).names) (by decide +kernel)))
   (Af (B1 (VW.pt (Dx (Bf (Ui hr) (vv 4) Ah (nomark _)) (Dx (Bf (Ia hr) (Ar Bo rfl af Yan (Ab (vv 0) Ae)) (Dh (Ab Ag (Ab Ag (Ab Ag Ae)))) (by with_unfolding_all rfl)) (Dx (Bf (Ui hr) (Ba Bm (vv 0) Ag) Ah (nomark _)) (Fc (Bf (Dv hr) (vv 2) (Bq Ae) (nomark _))))))) (An (Bd Je)) A9)
   (An (Bd (Dg (C4 (Nd hr) (Ba Bm (vv 0) Ag) (vv 6) (by with_unfolding_all rfl)) (Dg (C4 (Nd hr) (Ba Bm (vv 0) Ag) (vv 6) (by with_unfolding_all rfl)) (Gn (Ar (Pk rfl) rfl bw Yc4 (Ab (Cm (N':=["_law_one","_law_letters"]) (mp:=[none,some 2]) rfl (Cb (Ay Al (A8 (vv 0) (Be Ag) (Be Ag)) (A8 (vv 0) (Be Ag) A7))) (λ_ _ _ _=>(Av (i:=0) Qgn rfl (Or.inl rfl) (Or.inr rfl))) (λ_ _ _ _=>Br) (λ_ _ _ _=>(C4 (Nd hr) (vv 0) (vv 1) (by with_unfolding_all rfl))) (Bk (N:=nSt) (pn:=(Ai Yc).names) (by decide +kernel))) Ae)))))))))))),?_⟩
 rintro xs μ R _ ⟨a,p,l,r,v,g,rfl,ea,hg,hG,⟨hv0,hv1,hz⟩,hn,q⟩
 obtain⟨b,v2,rfl⟩:∃b v2,v=b :: v2:=by
  cases v with
  | nil=>exact absurd rfl hv0
  | cons b v2=>exact⟨b,v2,rfl⟩
 unfold gtN at hn
 have hpl:g.pl.length<=sizeLine:=Yap (show g.pl.length<=20001 by omega) (by decide)
 have hbo:=A0 (hz b (by simp)).1
 refine Cj (Aa ea (Aa (Ao (j:=0) rfl) ?_))
 dsimp only [Ca,List.set,C3]
 have gq:∀{x:Bool} {μ':M},E5 g (b :: v2)=x->Sub μ μ'->Wq R (.D (.bool x)) μ':=λ{x μ'} e S'=>⟨_,Sub.refl,by have:=q μ' S';rw [e]at this;exact this⟩
 have names:∀{μ1:M} {p1:Addr} {kp:M->Prop} {R1:M->Prop},(∀ μ2,Sub μ1 μ2->kp μ2)->μ1 p1=none->R1 (Aj (Aj μ1 p1 (.lst [])) p1 (.lst ((g.pl.map (·.1)).map Ad)))->cl p1 (Qb0 2 (Ex (Ca 0) (Ex (Ca 1) Uq))) Xz (Gj 0) kp R1 (g.pl.map Sd) [] [none,none] (Aj μ1 p1 (.lst [])):=by
  intro μ1 p1 kp R1 hk au h1
  refine cmap g.pl Sd (λp=>Ad p.1) (fun τ=>∃o1 o2,τ=[o1,o2]) ⟨none,none,rfl⟩ Ac hpl (λah=>hk _ (by rw [Bw];exact Sub.refl.new au)) ?_ ?_
  ·rintro i x τ' ah W hi ⟨o1,o2,rfl⟩ hW
   exact⟨rfl,hW _ ⟨_,_,rfl⟩⟩
  ·rw [Ya0]at h1
   exact h1
 have ke:∀z∈g.pl.map (·.1),lay z:=λz hz=>by
  obtain⟨x,hx,rfl⟩:=Yaz.mp hz
  exact hG.p x hx
 refine Ap (fun τ μ'=>τ=[some (.R a),some (.R p),some (.R l),some (.R r),some (.D (.str b)),none,none]/\b≠("place" : Str)/\μ=μ') (λZ hZ=>?_) ?_
 ·refine⟨hbo,A0 (by decide +kernel),?_⟩
  rw [Dm]
  refine br (λc=>?_) (λc=>hZ _ _ ⟨rfl,Ybh c,rfl⟩)
  have c:=Yaf c
  subst c
  have du:E5 g (("place" : Str) :: v2)=(decide (g.le=[]) && Ie g.pl (("place" : Str) :: v2)):=Yaw rfl
  refine Ap (fun τ μ'=>∃gb,τ=[some (.R a),some (.R p),some (.R l),some (.R r),some (.D (.str ("place" : Str))),some (.D (.bool gb)),none]/\(gb=false->E5 g (("place" : Str) :: v2)=false)/\(gb=true->g.le=[]/\∃n h,v2=[n,h]/\Dj h=true)/\Sub μ μ') (λZ1 fz=>?_) ?_
  ·refine λpn bn=>eq0 hg.l (Bs _) (Hk (C9 hG.l)) bn ?_
   rw [G6]
   have S1:Sub μ (Aj μ pn (.lst [])):=Sub.refl.new bn
   generalize Aj μ pn (.lst [])=μ1 at S1
   refine br (λc1=>?_) (λc1=>fz _ _ ⟨false,rfl,λ_=>by rw [du,c1];rfl,(λh=>nomatch h),S1⟩)
   refine Aa (S1 _ _ ea) ⟨Ck _,Ck _,?_⟩
   rw [Fi,Yaa]
   refine br (λc2=>?_) (λc2=>fz _ _ ⟨false,rfl,λ_=>?_,(λh=>nomatch h),S1⟩)
   ·have c2:=Yaf c2
    obtain⟨x,n,h,e⟩:=three (v:=("place" : Str) :: v2) (by omega)
    obtain⟨rfl,rfl⟩:=Yea e
    refine Aa (S1 _ _ ea) (Aa (Ao (j:=2) rfl) (Aa rfl ⟨A0 (hz h (by simp)).1,Vr,?_⟩))
    have eh:decide (h∈(["one","other"]:List Str))=Dj h:=by
     unfold Dj
     rw [<- Yd1]
     exact Yb5.mpr ⟨λh=>by simpa using h,λh=>by simpa using h⟩
    have ki:=C8 ["one","other"] h
    rw [eh]at ki
    refine fz _ _ ⟨Dj h,by rw [<- ki];rfl,λe=>?_,λe=>⟨Yaf c1,n,h,rfl,e⟩,S1⟩
    rw [du]
    unfold Ie
    rw [show(([("place" : Str),n,h]:List Str)[2]?.any Dj)=Dj h from rfl,e,Yat,Yaq,Yaq,Yaq]
   ·have c2:=Ybh c2
    rw [du]
    unfold Ie
    rw [Yah (show ¬(("place" : Str) :: v2).length=3 by omega),Yat,Yaq]
  rintro τ μ1 ⟨gb,rfl,h0,h1,S1⟩
  refine br (λc=>?_) (λc=>gq (h0 c) S1)
  obtain⟨ud,n,h,rfl,hh⟩:=h1 c
  have fj:E5 g [("place" : Str),n,h]=(Bv n && !decide (n∈g.pl.map (·.1))):=by
   rw [du,Yaj ud,Ya4]
   unfold Ie
   rw [show(([("place" : Str),n,h]:List Str)[2]?.any Dj)=Dj h from rfl,hh]
   simp
  have kl:=hz n (by simp)
  refine Aa (S1 _ _ ea) (Aa (Ao (j:=1) rfl) ⟨n,rfl,kl.1,kl.2,fun μ2 S2=>?_⟩)
  have S02:Sub μ μ2:=λa m ha=>S2 a m (S1 a m ha)
  refine br (λc1=>?_) (λc1=>gq (by rw [fj,c1];rfl) S02)
  refine Aa (S02 _ _ ea) (Aa (Ao (j:=1) rfl) (Aa (Ak (S02 _ _ hg.p)) λp1 au=>?_))
  refine names (fun μ3 S3=>Ak (S3 _ _ (S02 _ _ hg.p))) au ?_
  refine Aa rfl (Aa (Ak Ac) (Aa (Bs _) ⟨A0 kl.1,Gp (C9 ke),?_⟩))
  refine gq ?_ ?_
  ·rw [fj,c1,C8];rfl
  ·exact λa m ha=>((Sub.refl.new au).new au) a m (S02 a m ha)
 rintro τ _ ⟨rfl,hb1,rfl⟩
 refine Ap (fun τ μ'=>τ=[some (.R a),some (.R p),some (.R l),some (.R r),some (.D (.str b)),none,none]/\b≠("letter" : Str)/\μ=μ') (λZ hZ=>?_) ?_
 ·refine⟨hbo,A0 (by decide +kernel),?_⟩
  rw [Dm]
  refine br (λc=>?_) (λc=>hZ _ _ ⟨rfl,Ybh c,rfl⟩)
  have c:=Yaf c
  subst c
  have du:=Qc1 (g:=g) (v2:=v2) hb1
  refine Ap (fun τ μ'=>∃gb,τ=[some (.R a),some (.R p),some (.R l),some (.R r),some (.D (.str ("letter" : Str))),some (.D (.bool gb)),none]/\(gb=false->E5 g (("letter" : Str) :: v2)=false)/\(gb=true->g.rs=[]/\g.pl≠[]/\∃n,v2=[n])/\Sub μ μ') (λZ1 fz=>?_) ?_
  ·refine λpn bn=>eq0 hg.r (Ii _) (Hk (Qgm _)) bn ?_
   rw [G6]
   have S1:Sub μ (Aj μ pn (.lst [])):=Sub.refl.new bn
   generalize Aj μ pn (.lst [])=μ1 at S1
   refine br (λc1=>?_) (λc1=>fz _ _ ⟨false,rfl,λ_=>by rw [du,c1];rfl,(λh=>nomatch h),S1⟩)
   refine λpm lu=>ne0 (S1 _ _ hg.p) (Jv _) (Hk (Qgl hG.p)) lu ?_
   rw [G6]
   have S2:Sub μ (Aj μ1 pm (.lst [])):=λa m ha=>Sub.refl.new lu a m (S1 a m ha)
   generalize Aj μ1 pm (.lst [])=μ2 at S2
   refine br (λc2=>?_) (λc2=>fz _ _ ⟨false,rfl,λ_=>by rw [du,c2,Yat,Yaq],(λh=>nomatch h),S2⟩)
   refine Aa (S2 _ _ ea) ⟨Ck _,Ck _,?_⟩
   rw [Fi,Yaa]
   refine fz _ _ ⟨_,rfl,λe=>?_,λe=>⟨Yaf c1,?_,?_⟩,S2⟩
   ·have e:=Ybh e
    rw [du]
    unfold J1
    rw [Yah (show ¬(("letter" : Str) :: v2).length=2 by omega),Yat,Yaq,Yaq]
   ·rw [Yay,Ybe]at c2
    exact c2
   ·have e:=Yaf e
    obtain⟨x,n,e2⟩:=two (v:=("letter" : Str) :: v2) (by omega)
    obtain⟨rfl,rfl⟩:=Yea e2
    exact⟨n,rfl⟩
  rintro τ μ1 ⟨gb,rfl,h0,h1,S1⟩
  refine br (λc=>?_) (λc=>gq (h0 c) S1)
  obtain⟨hrs,bn,n,rfl⟩:=h1 c
  have fj:E5 g [("letter" : Str),n]=(Bv n && !decide (n∈g.le)):=by
   rw [du,Yaj hrs,Yah bn,Ya4,Yd2,Ya4]
   unfold J1
   simp
  have kl:=hz n (by simp)
  refine Aa (S1 _ _ ea) (Aa (Ao (j:=1) rfl) ⟨n,rfl,kl.1,kl.2,fun μ2 S2=>?_⟩)
  have S02:Sub μ μ2:=λa m ha=>S2 a m (S1 a m ha)
  refine br (λc1=>?_) (λc1=>gq (by rw [fj,c1];rfl) S02)
  refine Aa (S02 _ _ ea) (Aa (Ao (j:=1) rfl) (Aa rfl (Aa (Ak (S02 _ _ hg.l)) (Aa (Bs _) ⟨A0 kl.1,Gp (C9 hG.l),?_⟩))))
  refine gq ?_ S02
  rw [fj,c1,C8];rfl
 rintro τ _ ⟨rfl,hb2,rfl⟩
 have du:=Qc2 (g:=g) (v2:=v2) hb1 hb2
 refine Ap (fun τ μ'=>∃p1,τ=[some (.R a),some (.R p),some (.R l),some (.R r),some (.D (.str b)),none,some (.R p1)]/\μ' p1=some (.lst ((g.pl.map (·.1)).map Ad))/\Sub μ μ') (λZ hZ=>?_) ?_
 ·refine Aa (Ak hg.p) λp1 au=>?_
  refine names (fun μ3 S3=>Ak (S3 _ _ hg.p)) au (hZ _ _ ⟨p1,rfl,Ac,(Sub.refl.new au).new au⟩)
 rintro τ μ1 ⟨p1,rfl,e1,S1⟩
 refine Ap (fun τ μ'=>τ=[some (.R a),some (.R p),some (.R l),some (.R r),some (.D (.str b)),none,some (.R p1)]/\(b=("rule" : Str)/\(∃x1 c e5 r,v2=x1 :: c :: (":" : Str) :: e5 :: r/\r.length<=2)/\g.le≠[])/\Sub μ1 μ') (λZ hZ=>?_) ?_
 ·refine⟨hbo,A0 (by decide +kernel),?_⟩
  rw [Dm]
  refine br (λc=>Gr rfl (gq ?_ S1)) (λc=>?_)
  ·rw [Yay]at c
   rw [du]
   unfold Mk
   rw [show decide ((b :: v2)[0]?=some ("rule" : Str))=false from Yah λe=>(Ybh c) (Yas e),Yat,Yaq,Yaq]
  rw [Ya1]at c
  have c:=Yaf c
  subst c
  refine Aa (S1 _ _ ea) (Aa rfl ⟨Ck _,Yl,?_⟩)
  rw [V1,Yaa]
  refine br (λc2=>Gr rfl (gq ?_ S1)) (λc2=>?_)
  ·rw [Yay,<- Ydp]at c2
   have c2:=Ybh c2
   rw [du]
   unfold Mk
   rw [show(decide (5<=(("rule" : Str) :: v2).length) && decide ((("rule" : Str) :: v2).length<=7))=false by rw [<- Ydp];exact Yah λh=>c2 (by omega),Yat,Yaq]
  rw [Ya1,<- Ydp]at c2
  have c2:=Yaf c2
  obtain⟨x0,x1,c,d4,e5,r5,e⟩:=five (v:=("rule" : Str) :: v2) (by omega)
  obtain⟨e0,rfl⟩:=Yea e
  have gp:r5.length<=2:=by simp only [List.length_cons]at c2;omega
  rw [ru5]at du
  refine Aa (S1 _ _ ea) (Aa (Ao (j:=3) rfl) ⟨A0 (hz d4 (by simp)).1,A0 (by decide +kernel),?_⟩)
  rw [Dm]
  refine br (λc3=>Gr rfl (gq ?_ S1)) (λc3=>?_)
  ·rw [Yay]at c3
   rw [du,c3,Yat,Yaq,Yaq,Yaq]
  rw [Ya1]at c3
  have c3:=Yaf c3
  subst c3
  refine λpn bn=>eq0 (S1 _ _ hg.l) (Bs _) (Hk (C9 hG.l)) bn ?_
  rw [G6]
  have S2:Sub μ1 (Aj μ1 pn (.lst [])):=Sub.refl.new bn
  refine br (λc4=>gq ?_ (λa m ha=>S2 a m (S1 a m ha))) (λc4=>hZ _ _ ⟨rfl,⟨rfl,⟨x1,c,e5,r5,rfl,gp⟩,Ybh c4⟩,S2⟩)
  rw [du,c4];rfl
 rintro τ μ2 ⟨rfl,⟨rfl,⟨x1,c,e5,r5,rfl,gp⟩,ud⟩,S2⟩
 rw [ru5,Yah ud,Yaj gp,Yaj (rfl:("rule" : Str) = "rule"),Yaj (rfl:(":" : Str) = ":"),Yd2,Ya4,Ya4,Ya4,Ya4]at du
 have S02:Sub μ μ2:=λa m ha=>S2 a m (S1 a m ha)
 have ki:=S02 _ _ ea
 have e12:=S2 _ _ e1
 refine Aa ki (Aa (Ao (j:=1) rfl) (Aa rfl (Aa (Ak e12) (Aa (Bs _) ⟨A0 (hz x1 (by simp)).1,Gp (C9 ke),?_⟩))))
 rw [C8]
 refine br (λc1=>?_) (λc1=>gq (by have c1:decide (x1∈g.pl.map (·.1))=false:=c1;rw [du,c1];rfl) S02)
 refine Aa ki (Aa (Ao (j:=4) rfl) (Aa rfl (Aa (Ak e12) (Aa (Bs _) ⟨A0 (hz e5 (by simp)).1,Gp (C9 ke),?_⟩))))
 rw [C8]
 refine br (λc2=>?_) (λc2=>gq (by have c2:decide (e5∈g.pl.map (·.1))=false:=c2;rw [du,c2,Yat,Yaq]) S02)
 have c1:decide (x1∈g.pl.map (·.1))=true:=c1
 have c2:decide (e5∈g.pl.map (·.1))=true:=c2
 rw [c1,c2,Ya4,Ya4]at du
 have k1:En (List.map Ad (("rule" : Str) :: x1 :: c :: (":" : Str) :: e5 :: r5)) (some 2) (some 3)=[c].map Ad:=V0 Ad _ 2 1 (by simp)
 have k2:En (List.map Ad (("rule" : Str) :: x1 :: c :: (":" : Str) :: e5 :: r5)) (some 5) none=r5.map Ad:=Bx Ad _ 5
 refine Aa (Ak ki) λq1 hq1=>?_
 rw [k1]
 have T1:Sub μ2 (Aj μ2 q1 (.lst ([c].map Ad))):=Sub.refl.new hq1
 have f1:Aj μ2 q1 (.lst ([c].map Ad)) q1=some (.lst ([c].map Ad)):=Ac
 generalize Aj μ2 q1 (.lst ([c].map Ad))=μ3 at T1 f1
 refine Aa (Ak (T1 _ _ ki)) λq2 hq2=>?_
 rw [k2]
 have T2:Sub μ3 (Aj μ3 q2 (.lst (r5.map Ad))):=Sub.refl.new hq2
 have f2:Aj μ3 q2 (.lst (r5.map Ad)) q2=some (.lst (r5.map Ad)):=Ac
 generalize Aj μ3 q2 (.lst (r5.map Ad))=μ4 at T2 f2
 refine Aa (T2 _ _ f1) (Aa f2 ⟨?_,λq3 hq3=>?_⟩)
 ·rw [Yaa];exact seven (show 1+(r5.map Ad).length<=1000 by rw [Yaa];omega)
 have T3:Sub μ4 (Aj μ4 q3 (.lst ([c].map Ad++r5.map Ad))):=Sub.refl.new hq3
 have f3:Aj μ4 q3 (.lst ([c].map Ad++r5.map Ad)) q3=some (.lst ((c :: r5).map Ad)):=by rw [Ac];rfl
 generalize Aj μ4 q3 (.lst ([c].map Ad++r5.map Ad))=μ5 at T3 f3
 have T:Sub μ μ5:=λa m ha=>T3 a m (T2 a m (T1 a m (S02 a m ha)))
 refine Aa (Ak f3) λpl im=>?_
 have nl:l≠pl:=by rintro rfl;rw [T _ _ hg.l]at im;cases im
 refine cmap (c :: r5) Ad (λz=>.D (.bool (decide (z∈g.le)))) (fun τ=>∃o,τ=[o,some (.R l)]) ⟨none,rfl⟩ Ac (seven (by rw [Yba];omega)) (λah=>Bu (Ak f3) (by rw [Bw];exact Sub.refl.new im)) ?_ ?_
 ·rintro i z τ' ah W hi ⟨o,rfl⟩ hW
  have hw:=hW [some (Ad z),some (.R l)] ⟨_,rfl⟩
  have hzk:=hz z (by
   rcases Ybb.mp (Ya9 hi) with rfl | h
   ·simp
   ·simp [h])
  rw [<- C8]at hw
  refine Aa rfl (Aa (Ak (by rw [Bw,Am nl];exact T _ _ hg.l)) (Aa (Bs _) ⟨A0 hzk.1,Gp (C9 hG.l),hw⟩))
 ·dsimp only [Nb]
  refine Pt (g:=λz=>decide (z∈g.le)) Ac (gq ?_ ?_)
  ·rw [du];rfl
  ·exact λa m ha=>((Sub.refl.new im).new im) a m (T a m ha)
end
section
variable {P:Program}{w:World}{K:PySem.W.Frag}{mg:Str->Option Value}{base:Heap}{f:Addr}{fd:FuncData}
abbrev nDu:List Str:=["_law_text","_law_places","_law_letters","_law_rules","_law_rows_here","_law_at","_law_row","_law_words","_law_names_here","_law_w"]
theorem Ke:FnScope nDu ["_law_text"] (Ai Zj):=⟨rfl,rfl,rfl,by decide +kernel,rfl,by decide +kernel,by decide +kernel⟩
theorem Zt:(["_law_name","_law_hand"]:List Str).Nodup:=by decide +kernel
theorem Qgq:(["_law_one","_law_letters"]:List Str).Nodup:=by decide +kernel
def gw:Gt->List (List Str)->Gt
 | g,[]=>g
 | g,w :: ws=>if E5 g w then gw (G7 g w) ws else g
def g0:Gt:=⟨[],[],[]⟩
def duD(W:List (List Str))(g:Gt):PyData:=if Mn W g then Ig g else .int (gtN g:Nat)
theorem Fe:∀{l:List Str} {q:Str},q∈l->(l.map PyData.str).findIdx? (λe=>PyData.eqv e (.str q))=some (ixN l q)
 | x :: l,q,h=>by
  unfold ixN
  rw [Ya7,List.findIdx?_cons,Dm,List.idxOf_cons]
  by_cases e:x=q
  ·rw [Yaj e,show(x==q)=true from beq_iff_eq.mpr e];rfl
  ·rw [Yah e,show(x==q)=false from Ycl.mpr e,Yar Yak,Fe (by
    rcases Ybb.mp h with h | h
    ·exact absurd h.symm e
    ·exact h)]
   rfl
theorem Qgs(g:Gt)(w:List Str):gtN (G7 g w)=gtN g+1:=by
 unfold G7
 split
 ·unfold gtN;simp;omega
 ·split
  ·unfold gtN;simp;omega
  ·unfold gtN;simp;omega
theorem V3{g:Gt}{w:List Str}(h:GtOk g)(hw:∀z∈w,Yg z)(h2:2<=w.length):GtOk (G7 g w):=by
 have h1:lay (w[1]?.getD ("" : Str)):=by
  rw [List.getElem?_eq_getElem (show 1 < w.length by omega)]
  exact(hw _ (Ybg _)).1
 unfold G7
 split
 ·refine⟨λx hx=>?_,h.l⟩
  rcases Ya5.mp hx with hx | hx
  ·exact h.p x hx
  ·rw [Ya3.mp hx];exact h1
 ·split
  ·refine⟨h.p,λx hx=>?_⟩
   rcases Ya5.mp hx with hx | hx
   ·exact h.l x hx
   ·rw [Ya3.mp hx];exact h1
  ·exact⟨h.p,h.l⟩
structure Du(μ:M)(μ':M)(p l r:Addr)(g:Gt):Prop where
 at':GtAt μ' p l r g
 ok:GtOk g
 pl:p≠l
 pr:p≠r
 lr:l≠r
 np:μ p=none
 nl:μ l=none
 nr:μ r=none
 s:Sub μ μ'
theorem Du.sub{μ μ' μ2:M}{p l r:Addr}{g:Gt}(h:Du μ μ' p l r g)(S:Sub μ' μ2):Du μ μ2 p l r g:=⟨h.at'.sub S,h.ok,h.pl,h.pr,h.lr,h.np,h.nl,h.nr,λa m ha=>S a m (h.s a m ha)⟩
theorem Du.putP{μ μ':M}{p l r:Addr}{g:Gt}{x:Str×Nat}(D:Du μ μ' p l r g)(h:GtOk { g with pl:=g.pl++[x] }):Du μ (Aj μ' p (.lst (g.pl.map Sd++[Sd x]))) p l r { g with pl:=g.pl++[x] } :=
 ⟨⟨by rw [Ac,Yac];rfl,by rw [Am D.pl.symm];exact D.at'.l,by rw [Am D.pr.symm];exact D.at'.r⟩,h,D.pl,D.pr,D.lr,D.np,D.nl,D.nr,λa m ha=>by
  rw [Am (by rintro rfl;rw [D.np]at ha;cases ha)];exact D.s a m ha⟩
theorem Du.putL{μ μ':M}{p l r:Addr}{g:Gt}{x:Str}(D:Du μ μ' p l r g)(h:GtOk { g with le:=g.le++[x] }):Du μ (Aj μ' l (.lst (g.le.map Ad++[Ad x]))) p l r { g with le:=g.le++[x] } :=
 ⟨⟨by rw [Am D.pl];exact D.at'.p,by rw [Ac,Yac];rfl,by rw [Am D.lr.symm];exact D.at'.r⟩,h,D.pl,D.pr,D.lr,D.np,D.nl,D.nr,λa m ha=>by
  rw [Am (by rintro rfl;rw [D.nl]at ha;cases ha)];exact D.s a m ha⟩
theorem Du.putR{μ μ':M}{p l r:Addr}{g:Gt}{x:Rl}(D:Du μ μ' p l r g)(h:GtOk { g with rs:=g.rs++[x] }):Du μ (Aj μ' r (.lst (g.rs.map Mm++[Mm x]))) p l r { g with rs:=g.rs++[x] } :=
 ⟨⟨by rw [Am D.pr];exact D.at'.p,by rw [Am D.lr];exact D.at'.l,by rw [Ac,Yac];rfl⟩,h,D.pl,D.pr,D.lr,D.np,D.nl,D.nr,λa m ha=>by
  rw [Am (by rintro rfl;rw [D.nr]at ha;cases ha)];exact D.s a m ha⟩
theorem V4(z:Str):PyData.eqv (.str z) (.str z)=true:=by rw [Dm];exact Yaj rfl
theorem Ox{x z:Str}(h:x≠z):PyData.eqv (.str x) (.str z)=false:=by rw [Dm];exact Yah h
theorem Zu{g:Gt}{v:List Str}(h:E5 g v=true)(hp:v[0]?=some ("place" : Str)):∃n h,v=[("place" : Str),n,h]/\(h=("one" : Str)\/h=("other" : Str)):=by
 unfold E5 at h
 rw [Yaw hp,Ya2]at h
 have h:=h.2
 unfold Ie at h
 simp only [Bool.and_eq_true]at h
 obtain⟨a,n,z,rfl⟩:=three (Yaf h.1)
 have e:a=("place" : Str):=Yas hp
 subst e
 have hz:Dj z=true:=h.2.2.1
 unfold Dj at hz
 rw [Ydk,Ya8,Ya8]at hz
 exact⟨n,z,rfl,hz⟩
theorem Zv{g:Gt}{v:List Str}(h:E5 g v=true)(h1:¬v[0]?=some ("place" : Str)) (hp:v[0]?=some ("letter" : Str)):∃n,v=[("letter" : Str),n]:=by
 unfold E5 at h
 rw [Yar h1,Yaw hp,Ya2,Ya2]at h
 have h:=h.2.2
 unfold J1 at h
 simp only [Bool.and_eq_true]at h
 obtain⟨a,n,rfl⟩:=two (Yaf h.1)
 have e:a=("letter" : Str):=Yas hp
 subst e
 exact⟨n,rfl⟩
theorem Zw{g:Gt}{v:List Str}(h:E5 g v=true)(h1:¬v[0]?=some ("place" : Str)) (hp:¬v[0]?=some ("letter" : Str)):∃b c e r,v=("rule" : Str) :: b :: c :: (":" : Str) :: e :: r/\r.length<=2/\b∈g.pl.map (·.1)/\e∈g.pl.map (·.1)/\c∈g.le/\∀z∈r,z∈g.le:=by
 unfold E5 at h
 rw [Yar h1,Yar hp,Ya2]at h
 have h:=h.2
 have h5:5<=v.length:=by
  unfold Mk at h
  simp only [Bool.and_eq_true]at h
  exact Yaf h.1.1
 obtain⟨a,b,c,d,e,r,rfl⟩:=five h5
 rw [ru5]at h
 simp only [Bool.and_eq_true,decide_eq_true_iff,List.all_eq_true]at h
 obtain⟨h2,rfl,rfl,hb,he,hc,hr⟩:=h
 exact⟨b,c,e,r,rfl,h2,hb,he,hc,hr⟩
theorem Ym{h:Str}(hh:h=("one" : Str)\/h=("other" : Str)):(if PyData.eqv (.str h) (.str "other") then(1:Int) else 0)=((hndN h:Nat):Int):=by
 rw [Dm]
 unfold hndN
 by_cases e:h=("other" : Str)
 ·rw [Yaj e,Yaw rfl,Yaw e];rfl
 ·rw [Yah e,Yar Yak,Yar e];rfl
def Qc3:ASp:=λxs μ R=>∃(t:Str),xs=[.D (.str t)]/\asc t/\t.length<=20000/\∀ μ',Sub μ μ'->R (.D (duD (wrd t) (gw g0 (wrd t)))) μ'
theorem Qgt{n:Nat}(F:Fun K "_law_due" "_law_due" Zj f fd) (cSt:VCal P w K mg base n "_law_stands" ["_law_words","_law_places","_law_letters","_law_rules"] Qgo) (ba:mg "enumerate" = none) (af:mg "len" = none) (cz:mg "int" = none) (aj:mg "tuple" = none):FnOk P w K mg base Fh (n+1) f fd ["_law_text"] (Ji K 1 Qc3):=by
 refine F.vok Ke λaw A outer s H E hr=>⟨_,(Af (Yb rfl (Ab (Bq Ae) (Ab (Bq Ae) (Ab (Bq Ae) Ae))) (Bg (Av (i:=1) Ke.nd rfl (Or.inl rfl)) (Bg (Av (i:=2) Ke.nd rfl (Or.inr rfl)) (Bg (Av (i:=3) Ke.nd rfl (Or.inl rfl)) C7))))
   (Af (Aw (i:=4) Ke.nd rfl (Or.inl rfl) (Jh Yce Ycf G5 (vv 0) (Ab Ah Ae)))
   (Af (Di Ybu rfl (Ps rfl ba (vv 4)) (Ep (n:=2) rfl (Bg (Av (i:=5) Ke.nd rfl (Or.inl rfl)) (Bg (Av (i:=6) Ke.nd rfl (Or.inl rfl)) C7))) (Af (Aw (i:=7) Ke.nd rfl (Or.inl rfl) (Jh Yce Ycf G5 (vv 6) (Ab Ah Ae)))
   (Af (B1 (Gm (Gk (Au cSt hr rfl (Ab (vv 7) (Ab (vv 1) (Ab (vv 2) (Ab (vv 3) Ae))))))) (An (Bd (vv 5))) A9)
   (An (B1 (Bf (Dv hr) (Ba Bm (vv 7) Ag) Ah (nomark _)) (An (Dy (Ew Ybw Ybx Dr (vv 1) (Ab (Dh (Ab (Ba Bm (vv 7) Ag) (Ab (Bp Qfo rfl cz PyProof.Rows.boot_int (Ab (C4 (Dv hr) (Ba Bm (vv 7) Ag) Ah (nomark _)) Ae)) Ae))) Ae)))) (An (B1 (Bf (Dv hr) (Ba Bm (vv 7) Ag) Ah (nomark _)) (An (Dy (Ew Ybw Ybx Dr (vv 2) (Ab (Ba Bm (vv 7) Ag) Ae)))) (Af (G3 (i:=8) (N':=["_law_name","_law_hand"]) (mp:=[none,none]) rfl Ke.nd rfl rfl (Cb (vv 1)) (λ_ _ _ _=>(Ep (n:=2) rfl (Bg (Av (i:=0) Zt rfl (Or.inl rfl) (Or.inr rfl)) (Bg (Av (i:=1) Zt rfl (Or.inl rfl) (Or.inr rfl)) C7)))) (λ_ _ _ _=>Br) (λ_ _ _ _=>(vv 0)) (Bk (N:=nDu) (pn:=(Ai Zj).names) (by decide +kernel)))
   (Af (Aw (i:=9) Ke.nd rfl (Or.inl rfl) (Bp Cw rfl aj Ybc (Ab (Cm (N':=["_law_one","_law_letters"]) (mp:=[none,some 2]) rfl (Cb (A8 (vv 7) (Be Ag) A7)) (λ_ _ _ _=>(Av (i:=0) Qgq rfl (Or.inl rfl) (Or.inr rfl))) (λ_ _ _ _=>Br) (λ_ _ _ _=>(Ew Ycd Ycr (Ib hr) (vv 1) (Ab (vv 0) Ae))) (Bk (N:=nDu) (pn:=(Ai Zj).names) (by decide +kernel))) Ae)))
   (An (Dy (Ew Ybw Ybx Dr (vv 3) (Ab (Dh (Ab (Ew Ycd Ycr (Ib hr) (vv 8) (Ab (Ba Bm (vv 7) Ag) Ae)) (Ab (Ew Ycd Ycr (Ib hr) (vv 2) (Ab (Ba Bm (vv 7) Ag) Ae)) (Ab (Ew Ycd Ycr (Ib hr) (vv 8) (Ab (Ba Bm (vv 7) Ag) Ae)) (Ab (vv 9) Ae))))) Ae)))))))))))))
   (Af (B1 (Bf (Dv hr) (vv 2) (Bq Ae) (nomark _)) (An (Bd (Ar Bo rfl af Yan (Ab (vv 4) Ae)))) A9)
   (An (Bd (Dh (Ab (Bp Cw rfl aj Ybc (Ab (vv 1) Ae)) (Ab (Bp Cw rfl aj Ybc (Ab (vv 2) Ae)) (Ab (Bp Cw rfl aj Ybc (Ab (vv 3) Ae)) Ae)))))))))),?_⟩
 rintro xs μ R _ ⟨t,rfl,ht,hl,q⟩
 have jp:(Txt.split t "\n").length<=20001:=by
  have:=Eh t 10
  rw [<- Hj]at this;omega
 have hWn:(wrd t).length=(Txt.split t "\n").length:=by unfold wrd;rw [Yaa]
 refine Ap (fun τ μ'=>∃p l r,τ=[some (.D (.str t)),some (.R p),some (.R l),some (.R r),none,none,none,none,none,none]/\Du μ μ' p l r g0) (λZ hZ=>?_) ?_
 ·intro p hp l hl r hr
  have e1:Aj (Aj (Aj μ p (.lst [])) l (.lst [])) r (.lst []) r=some (.lst []):=Ac
  have e2:Aj (Aj μ p (.lst [])) l (.lst []) l=some (.lst []):=Ac
  have e3:Aj μ p (.lst []) p=some (.lst []):=Ac
  have S1:Sub μ (Aj μ p (.lst [])):=Sub.refl.new hp
  have S2:Sub (Aj μ p (.lst [])) (Aj (Aj μ p (.lst [])) l (.lst [])):=Sub.refl.new hl
  have S3:Sub (Aj (Aj μ p (.lst [])) l (.lst [])) (Aj (Aj (Aj μ p (.lst [])) l (.lst [])) r (.lst [])):=Sub.refl.new hr
  have S12:Sub μ (Aj (Aj μ p (.lst [])) l (.lst [])):=λa m ha=>S2 a m (S1 a m ha)
  refine hZ _ _ ⟨p,l,r,rfl,⟨⟨S3 _ _ (S2 _ _ e3),S3 _ _ e2,e1⟩,⟨(λ_ h=>nomatch h),(λ_ h=>nomatch h)⟩,?_,?_,?_,hp,S1.none hl,S12.none hr,λa m ha=>S3 a m (S2 a m (S1 a m ha))⟩⟩
  ·rintro rfl;rw [e3]at hl;cases hl
  ·rintro rfl;rw [S2 _ _ e3]at hr;cases hr
  ·rintro rfl;rw [e2]at hr;cases hr
 rintro τ μ1 ⟨p,l,r,rfl,D1⟩
 refine Ap (fun τ μ'=>∃cu,τ=[some (.D (.str t)),some (.R p),some (.R l),some (.R r),some (.R cu),none,none,none,none,none]/\μ' cu=some (.lst ((Txt.split t "\n").map Ad))/\(p≠cu/\l≠cu/\r≠cu)/\μ cu=none/\Du μ μ' p l r g0) (λZ hZ=>?_) ?_
 ·refine⟨trivial,Vx,by omega,λq' dh=>hZ _ _ ⟨q',rfl,Ac,⟨?_,?_,?_⟩,D1.s.none dh,D1.sub (Sub.refl.new dh)⟩⟩
  ·rintro rfl;rw [D1.at'.p]at dh;cases dh
  ·rintro rfl;rw [D1.at'.l]at dh;cases dh
  ·rintro rfl;rw [D1.at'.r]at dh;cases dh
 rintro τ μ2 ⟨cu,rfl,e2,⟨n1,n2,n3⟩,hrw,D2⟩
 refine Ap (fun τ μ'=>∃o5 o6 o7 o8 o9 g,τ=[some (.D (.str t)),some (.R p),some (.R l),some (.R r),some (.R cu),o5,o6,o7,o8,o9]/\μ' cu=some (.lst ((Txt.split t "\n").map Ad))/\gw g0 (wrd t)=g/\gtN g=(wrd t).length/\Du μ μ' p l r g) (λZ hZ=>?_) ?_
 ·refine Aa (Ak e2) (Aa (Bs _) ?_)
  refine Ey (λi τ μ'=>∃o5 o6 o7 o8 o9 g,τ=[some (.D (.str t)),some (.R p),some (.R l),some (.R r),some (.R cu),o5,o6,o7,o8,o9]/\μ' cu=some (.lst ((Txt.split t "\n").map Ad))/\gw g ((wrd t).drop i)=gw g0 (wrd t)/\gtN g=i/\Du μ μ' p l r g) ⟨none,none,none,none,none,g0,rfl,e2,rfl,rfl,D2⟩ (λ_ _ _ ⟨_,_,_,_,_,_,_,e,_⟩=>Ak e) ?_ ?_
  ·rintro i y τ μ3 Z2 hy ⟨o5,o6,o7,o8,o9,g,rfl,e3,hgw,gv,D3⟩ hZ2
   obtain⟨z,hz,rfl⟩:=Vu hy
   have hwz:(wrd t)[i]?=some (Txt.split z " "):=by unfold wrd;rw [List.getElem?_map,hz];rfl
   obtain⟨hi,ew⟩:=List.getElem?_eq_some_iff.mp hwz
   have dz:(wrd t).drop i=Txt.split z " " :: (wrd t).drop (i+1):=by rw [Ybn hi,ew]
   obtain⟨h1,h2⟩:=Ou ht hl (Ya9 hz)
   obtain⟨h3,h4,h5⟩:=P0 h1 h2 (by decide)
   rw [dz,gw]at hgw
   refine⟨rfl,Qf8 ?_⟩
   dsimp only [List.set]
   refine Cj ⟨trivial,Ot,by omega,λq' dh=>?_⟩
   dsimp only [Ca,List.set]
   generalize Txt.split z " " = v at hgw h3 h4 h5
   have S3:Sub μ3 (Aj μ3 q' (.lst (v.map λw=>AV.D (PyData.str w)))):=Sub.refl.new dh
   have pg:Aj μ3 q' (.lst (v.map λw=>AV.D (PyData.str w))) q'=some (.lst (v.map Ad)):=Ac
   have e4:=S3 _ _ e3
   have D4:=D3.sub S3
   generalize Aj μ3 q' (.lst (v.map λw=>AV.D (PyData.str w)))=μ4 at S3 pg e4 D4 ⊢
   refine Ap (fun τ μ'=>τ=[some (.D (.str t)),some (.R p),some (.R l),some (.R r),some (.R cu),some (.D (.int i)),some (.D (.str z)),some (.R q'),o8,o9]/\E5 g v=true/\Sub μ4 μ') (λZ3 bi=>?_) ?_
   ·refine⟨q',p,l,r,v,g,rfl,pg,D4.at',D4.ok,⟨h3,by omega,h5⟩,by omega,fun μ5 S5=>br (λc=>?_) (λc=>bi _ _ ⟨rfl,by rwa [Ya1]at c,S5⟩)⟩
    rw [Yay]at c
    rw [c,Yar Yak]at hgw
    refine⟨_,Sub.refl,?_⟩
    have:=q _ (λa m ha=>S5 a m (D4.s a m ha))
    rw [<- hgw]at this
    unfold duD at this
    rw [show Mn (wrd t) g=false by unfold Mn;rw [Yaj (show gtN g < (wrd t).length by omega)];rfl,Yar Yak,gv]at this
    exact this
   rintro τ μ5 ⟨rfl,bg,S5⟩
   rw [bg,Yaw rfl]at hgw
   have gc:=Qgs g v
   rw [gv]at gc
   have D5:=D4.sub S5
   have jd:=S5 _ _ pg
   have e5:=S5 _ _ e4
   have i9:∀k,k<=20001->k < sizeLine:=λk hk=>Ycz hk (by decide)
   have zbl:g.pl.length+g.le.length+g.rs.length=i:=gv
   by_cases je:v[0]?=some ("place" : Str)
   ·obtain⟨nm,h,rfl,hh⟩:=Zu bg je
    have fg:=V3 D5.ok h5 (show 2<=([("place" : Str),nm,h]:List Str).length by simp)
    have sg:G7 g [("place" : Str),nm,h]={ g with pl:=g.pl++[(nm,hndN h)] }:=Yaw rfl
    refine Aa jd (Aa (Ao (j:=0) rfl) ⟨A0 (by decide +kernel),A0 (by decide +kernel),Gr (V4 _) ?_⟩)
    refine⟨Aa D5.at'.p trivial,Aa jd (Aa (Ao (j:=1) rfl) (Aa jd (Aa (Ao (j:=2) rfl) ⟨A0 (h5 h (by simp)).1,A0 (by decide +kernel),Aa D5.at'.p ⟨i9 _ (by rw [Yaa];omega),?_⟩⟩)))⟩
    rw [Ym hh]
    rw [sg]at hgw gc fg
    exact hZ2 _ _ ⟨_,_,_,_,_,_,rfl,by rw [Am n1.symm];exact e5,hgw,gc,D5.putP fg⟩
   by_cases au:v[0]?=some ("letter" : Str)
   ·obtain⟨nm,rfl⟩:=Zv bg je au
    have fg:=V3 D5.ok h5 (show 2<=([("letter" : Str),nm]:List Str).length by simp)
    have sg:G7 g [("letter" : Str),nm]={ g with le:=g.le++[nm] }:=by unfold G7;rw [Yar je,Yaw au];rfl
    refine Aa jd (Aa (Ao (j:=0) rfl) ⟨A0 (by decide +kernel),A0 (by decide +kernel),Uf (Ox λe=>je (Ybo some e)) ?_⟩)
    refine Aa jd (Aa (Ao (j:=0) rfl) ⟨A0 (by decide +kernel),A0 (by decide +kernel),Gr (V4 _) ?_⟩)
    rw [sg]at hgw gc fg
    refine⟨Aa D5.at'.l trivial,Aa jd (Aa (Ao (j:=1) rfl) (Aa D5.at'.l ⟨i9 _ (by rw [Yaa];omega),hZ2 _ _ ⟨_,_,_,_,_,_,rfl,by rw [Am n2.symm];exact e5,hgw,gc,D5.putL fg⟩⟩))⟩
   ·obtain⟨b,c,e5',r5,rfl,gp,hb,h5',hc,hrL⟩:=Zw bg je au
    have fg:=V3 D5.ok h5 (show 2<=(("rule" : Str) :: b :: c :: (":" : Str) :: e5' :: r5).length by simp)
    have sg:G7 g (("rule" : Str) :: b :: c :: (":" : Str) :: e5' :: r5)={ g with rs:=g.rs++[Vv (g.pl.map (·.1)) g.le (("rule" : Str) :: b :: c :: (":" : Str) :: e5' :: r5)] }:=by unfold G7;rw [Yar je,Yar au]
    rw [sg]at hgw gc fg
    refine Aa jd (Aa (Ao (j:=0) rfl) ⟨A0 (by decide +kernel),A0 (by decide +kernel),Uf (Ox λe=>je (Ybo some e)) ?_⟩)
    refine Aa jd (Aa (Ao (j:=0) rfl) ⟨A0 (by decide +kernel),A0 (by decide +kernel),Uf (Ox λe=>au (Ybo some e)) ?_⟩)
    have ke:∀z∈g.pl.map (·.1),lay z:=λz hz=>by
     obtain⟨x,hx,rfl⟩:=Yaz.mp hz
     exact D5.ok.p x hx
    have tl:=Gp (C9 D5.ok.l)
    have tp:=Gp (C9 ke)
    refine Ap (fun τ μ'=>∃p1,τ=[some (.D (.str t)),some (.R p),some (.R l),some (.R r),some (.R cu),some (.D (.int i)),some (.D (.str z)),some (.R q'),some (.R p1),o9]/\μ' p1=some (.lst ((g.pl.map (·.1)).map Ad))/\Sub μ5 μ') (λZ3 bi=>?_) ?_
    ·refine Aa (Ak D5.at'.p) λp1 au=>?_
     refine cmap g.pl Sd (λp=>Ad p.1) (fun τ=>∃o1 o2,τ=[o1,o2]) ⟨none,none,rfl⟩ Ac (Yc0 (i9 _ (by omega))) (λah=>Bu (Ak D5.at'.p) (by rw [Bw];exact Sub.refl.new au)) ?_ ?_
     ·rintro i x τ' ah W hi ⟨o1,o2,rfl⟩ hW
      exact⟨rfl,hW _ ⟨_,_,rfl⟩⟩
     ·exact bi _ _ ⟨p1,rfl,by rw [Ac,Ya0];rfl,(Sub.refl.new au).new au⟩
    rintro τ μ6 ⟨p1,rfl,f6,S6⟩
    have D6:=D5.sub S6
    have eq6:=S6 _ _ jd
    have e6:=S6 _ _ e5
    have k2:En (List.map Ad (("rule" : Str) :: b :: c :: (":" : Str) :: e5' :: r5)) (some 5) none=r5.map Ad:=Bx Ad _ 5
    refine Ap (fun τ μ'=>τ=[some (.D (.str t)),some (.R p),some (.R l),some (.R r),some (.R cu),some (.D (.int i)),some (.D (.str z)),some (.R q'),some (.R p1),some (.D (E2 (r5.map (ixN g.le))))]/\Sub μ6 μ') (λZ3 bi=>?_) ?_
    ·refine Aa (Ak eq6) λp2 av=>?_
     rw [k2]
     have T2:Sub μ6 (Aj μ6 p2 (.lst (r5.map Ad))):=Sub.refl.new av
     have f2:Aj μ6 p2 (.lst (r5.map Ad)) p2=some (.lst (r5.map Ad)):=Ac
     generalize Aj μ6 p2 (.lst (r5.map Ad))=μ7 at T2 f2
     refine Aa (Ak f2) λpl hpl=>?_
     have nl:l≠pl:=by rintro rfl;rw [T2 _ _ D6.at'.l]at hpl;cases hpl
     refine cmap r5 Ad (λz=>.D (.int (ixN g.le z:Nat))) (fun τ=>∃o,τ=[o,some (.R l)]) ⟨none,rfl⟩ Ac (seven (by omega)) (λah=>Bu (Ak f2) (by rw [Bw];exact Sub.refl.new hpl)) ?_ ?_
     ·rintro i z τ' ah W hi ⟨o,rfl⟩ hW
      have uz:=Ya9 hi
      have el:(Aj (Aj μ7 pl (.lst [])) pl (.lst ah)) l=some (.lst (g.le.map Ad)):=by rw [Bw,Am nl];exact T2 _ _ D6.at'.l
      exact⟨Aa el trivial,Aa rfl (Aa el (Aa (Bs _) ⟨A0 (h5 z (by simp [uz])).1,tl,Aa (Fe (hrL z uz)) (hW _ ⟨_,rfl⟩)⟩))⟩
     ·refine Aa (Ak Ac) (Aa (x:=(r5.map (ixN g.le)).map λ(n:Nat)=>PyData.int n) ?_ (bi _ _ ⟨rfl,?_⟩))
      ·rw [show(r5.map λz=>AV.D (.int (ixN g.le z:Nat)))=((r5.map (ixN g.le)).map λ(n:Nat)=>PyData.int n).map .D by rw [Ya0,Ya0];rfl]
       exact Ch _
      ·exact λa m ha=>((Sub.refl.new hpl).new hpl) a m (T2 a m ha)
    rintro τ μ7 ⟨rfl,S7⟩
    have D7:=D6.sub S7
    have yd:=S7 _ _ eq6
    have f7:=S7 _ _ f6
    refine⟨Aa D7.at'.r trivial,⟨Aa f7 trivial,Aa yd (Aa (Ao (j:=1) rfl) (Aa rfl (Aa f7 (Aa (Bs _) ⟨A0 (h5 b (by simp)).1,tp,Aa (Fe hb) ⟨Aa D7.at'.l trivial,Aa yd (Aa (Ao (j:=2) rfl) (Aa rfl (Aa D7.at'.l (Aa (Bs _) ⟨A0 (h5 c (by simp)).1,tl,Aa (Fe hc) ⟨Aa f7 trivial,Aa yd (Aa (Ao (j:=4) rfl) (Aa rfl (Aa f7 (Aa (Bs _) ⟨A0 (h5 e5' (by simp)).1,tp,Aa (Fe h5') (Aa D7.at'.r ⟨i9 _ (by rw [Yaa];omega),hZ2 _ _ ⟨_,_,_,_,_,_,rfl,by rw [Am n3.symm];exact S7 _ _ e6,hgw,gc,D7.putR fg⟩⟩)⟩))))⟩⟩))))⟩⟩))))⟩⟩
  ·rintro τ μ3 ⟨o5,o6,o7,o8,o9,g,rfl,e3,hgw,gv,D3⟩
   rw [Cf,Yaa,<- hWn]at gv hgw
   rw [Yb4,gw]at hgw
   exact hZ _ _ ⟨_,_,_,_,_,g,rfl,e3,hgw.symm,gv,D3⟩
 rintro τ μ3 ⟨o5,o6,o7,o8,o9,g,rfl,e3,hgw,gv,D3⟩
 rw [hgw]at q
 unfold duD at q
 have e0:Mn (wrd t) g=!decide (g.le.length=0):=by
  unfold Mn
  rw [Yah (show ¬gtN g < (wrd t).length by omega),Bool.false_or]
 refine Ap (fun τ μ'=>τ=[some (.D (.str t)),some (.R p),some (.R l),some (.R r),some (.R cu),o5,o6,o7,o8,o9]/\Mn (wrd t) g=true/\Sub μ3 μ') (λZ hZ=>?_) ?_
 ·refine λpn bn=>eq0 D3.at'.l (Bs _) (Hk (C9 D3.ok.l)) bn ?_
  rw [G6]
  have S4:Sub μ3 (Aj μ3 pn (.lst [])):=Sub.refl.new bn
  refine br (λc=>?_) (λc=>hZ _ _ ⟨rfl,?_,S4⟩)
  ·have c:=Yaf c
   refine Aa (S4 _ _ e3) ⟨_,Sub.refl,?_⟩
   have:=q _ (λa m ha=>S4 a m (D3.s a m ha))
   rw [e0,Yaj (show g.le.length=0 by rw [c];rfl),Yeb,Yar Yak,gv,hWn]at this
   rw [Yaa]
   exact this
  ·have c:=Ybh c
   rw [e0,Yah (λh=>c (Ycq.mp h))];rfl
 rintro τ μ4 ⟨rfl,hok,S4⟩
 rw [Yaw hok]at q
 have A4:=D3.at'.sub S4
 exact Aa (Ak A4.p) (Aa (Jv _) (Aa (Ak A4.l) (Aa (Bs _) (Aa (Ak A4.r) (Aa (Ii _) ⟨_,Sub.refl,q _ λa m ha=>S4 a m (D3.s a m ha)⟩)))))
end
section
variable {P:Program}{w:World}{K:PySem.W.Frag}{mg:Str->Option Value}{base:Heap}{f:Addr}{fd:FuncData}
theorem Zx:∀(W:List (List Str)) (P:List (Str×Nat)),P.length<=(rp P W).length/\gw ⟨P,[],[]⟩ W=gw ⟨rp P W,[],[]⟩ (W.drop ((rp P W).length - P.length))/\∀w,(W.drop ((rp P W).length - P.length)).head?=some w->Ie (rp P W) w=false
 | [],P=>⟨Yag _,by rw [List.drop_nil];rfl,λw h=>by rw [List.drop_nil]at h;cases h⟩
 | w :: ws,P=>by
  rw [rp]
  by_cases hp:Ie P w=true
  ·rw [Yaw hp]
   obtain⟨h1,h2,h3⟩:=Zx ws (P++[(w[1]?.getD ("" : Str),hndN (w[2]?.getD ("" : Str)))])
   have hpl:w[0]?=some ("place" : Str):=by
    unfold Ie at hp
    simp only [Bool.and_eq_true,decide_eq_true_iff]at hp
    exact hp.2.1
   rw [Yai]at h1 h2 h3
   have h1:P.length+1<=_:=h1
   rw [show(w :: ws).drop ((rp (P++[(w[1]?.getD ("" : Str),hndN (w[2]?.getD ("" : Str)))]) ws).length - P.length)=ws.drop ((rp (P++[(w[1]?.getD ("" : Str),hndN (w[2]?.getD ("" : Str)))]) ws).length - (P.length+1)) by
    rw [show(rp (P++[(w[1]?.getD ("" : Str),hndN (w[2]?.getD ("" : Str)))]) ws).length - P.length=((rp (P++[(w[1]?.getD ("" : Str),hndN (w[2]?.getD ("" : Str)))]) ws).length - (P.length+1))+1 by omega];rfl]
   refine⟨by omega,?_,h3⟩
   rw [gw,show E5 ⟨P,[],[]⟩ w=true by unfold E5;rw [Yaw hpl,hp];rfl,Yaw rfl,show G7 ⟨P,[],[]⟩ w=⟨P++[(w[1]?.getD ("" : Str),hndN (w[2]?.getD ("" : Str)))],[],[]⟩ by unfold G7;rw [Yaw hpl]]
   exact h2
  ·rw [Yar hp,Nat.sub_self,List.drop_zero]
   refine⟨Yag _,rfl,λw' h=>?_⟩
   cases h
   exact Ydy.mpr hp
theorem Zy:("letter" : Str)≠("place" : Str):=by decide +kernel
theorem Zz:("rule" : Str)≠("place" : Str):=by decide +kernel
theorem Z5:("rule" : Str)≠("letter" : Str):=by decide +kernel
theorem Z6{P:List (Str×Nat)}(hP:P≠[]):∀(W:List (List Str)) (L:List Str),L.length<=(rl L W).length/\gw ⟨P,L,[]⟩ W=gw ⟨P,rl L W,[]⟩ (W.drop ((rl L W).length - L.length))/\∀w,(W.drop ((rl L W).length - L.length)).head?=some w->J1 (rl L W) w=false
 | [],L=>⟨Yag _,by rw [List.drop_nil];rfl,λw h=>by rw [List.drop_nil]at h;cases h⟩
 | w :: ws,L=>by
  rw [rl]
  by_cases hp:J1 L w=true
  ·rw [Yaw hp]
   obtain⟨h1,h2,h3⟩:=Z6 hP ws (L++[w[1]?.getD ("" : Str)])
   have hpl:w[0]?=some ("letter" : Str):=by
    unfold J1 at hp
    simp only [Bool.and_eq_true,decide_eq_true_iff]at hp
    exact hp.2.1
   have bn:¬w[0]?=some ("place" : Str):=by rw [hpl];exact λh=>Zy (Yas h)
   rw [Yai]at h1 h2 h3
   have h1:L.length+1<=_:=h1
   rw [show(w :: ws).drop ((rl (L++[w[1]?.getD ("" : Str)]) ws).length - L.length)=ws.drop ((rl (L++[w[1]?.getD ("" : Str)]) ws).length - (L.length+1)) by
    rw [show(rl (L++[w[1]?.getD ("" : Str)]) ws).length - L.length=((rl (L++[w[1]?.getD ("" : Str)]) ws).length - (L.length+1))+1 by omega];rfl]
   refine⟨by omega,?_,h3⟩
   rw [gw,show E5 ⟨P,L,[]⟩ w=true by unfold E5;rw [Yar bn,Yaw hpl,hp,Yah hP];rfl,Yaw rfl,show G7 ⟨P,L,[]⟩ w=⟨P,L++[w[1]?.getD ("" : Str)],[]⟩ by unfold G7;rw [Yar bn,Yaw hpl]]
   exact h2
  ·rw [Yar hp,Nat.sub_self,List.drop_zero]
   refine⟨Yag _,rfl,λw' h=>?_⟩
   cases h
   exact Ydy.mpr hp
theorem Z7{P:List (Str×Nat)}{L:List Str}(hL:L≠[]):∀(W:List (List Str)) (R:List Rl),(R≠[]\/∀w,W.head?=some w->J1 L w=false)->gw ⟨P,L,R⟩ W=⟨P,L,R++rr (P.map (·.1)) L W⟩
 | [],R,_=>by rw [gw,rr,Ybi]
 | w :: ws,R,h=>by
  rw [gw,rr]
  by_cases hr:Mk (P.map (·.1)) L w=true
  ·have hpl:w[0]?=some ("rule" : Str):=by
    unfold Mk at hr
    simp only [Bool.and_eq_true,decide_eq_true_iff]at hr
    exact hr.2.1
   have h1:¬w[0]?=some ("place" : Str):=by rw [hpl];exact λh=>Zz (Yas h)
   have h2:¬w[0]?=some ("letter" : Str):=by rw [hpl];exact λh=>Z5 (Yas h)
   rw [Yaw hr,show E5 ⟨P,L,R⟩ w=true by unfold E5;rw [Yar h1,Yar h2,hr,Yah hL];rfl,Yaw rfl,show G7 ⟨P,L,R⟩ w=⟨P,L,R++[Vv (P.map (·.1)) L w]⟩ by unfold G7;rw [Yar h1,Yar h2]]
   rw [Z7 hL ws (R++[Vv (P.map (·.1)) L w]) (.inl (by simp)),Ybk];rfl
  ·rw [Yar hr,Ybi,Yar]
   unfold E5
   split
   ·rw [Yah hL];exact Yak
   ·split
    ·rcases h with h | h
     ·rw [Yah h];exact Yak
     ·rw [h w rfl,Yaq,Yaq];exact Yak
    ·rw [Ydy.mpr hr,Yaq];exact Yak
theorem V5(Z:List Str):∀W:List (List Str),rr Z [] W=[]
 | []=>rfl
 | w :: ws=>by
  rw [rr,Yar]
  intro h
  unfold Mk at h
  simp only [Bool.and_eq_true]at h
  have:=h.2.2.2.2.2.1
  cases e:w[2]? with
  | none=>rw [e]at this;cases this
  | some z =>
   rw [e]at this
   have this:decide (z∈([]:List Str))=true:=this
   exact absurd (Yaf this) List.not_mem_nil
theorem Qb{P:List (Str×Nat)}:∀{V:List (List Str)},(∀w,V.head?=some w->Ie P w=false/\(P=[]\/J1 [] w=false))->gw ⟨P,[],[]⟩ V=⟨P,[],[]⟩
 | [],_=>rfl
 | w :: ws,h=>by
  obtain⟨h1,h2⟩:=h w rfl
  rw [gw,Yar]
  unfold E5
  split
  ·rw [h1,Yaq];exact Yak
  ·split
   ·rcases h2 with h2 | h2
    ·rw [Yaj h2,Yeb,Yat,Yaq];exact Yak
    ·rw [h2,Yaq,Yaq];exact Yak
   ·exact Yak
theorem V6(W:List (List Str)):gw g0 W=Go W:=by
 obtain⟨_,h2,h3⟩:=Zx W []
 rw [Yck,Nat.sub_zero]at h2 h3
 unfold g0 Go
 rw [h2]
 generalize rp [] W=P at h3
 by_cases hP:P.length=0
 ·have eP:=Ycq.mp hP
  rw [Qb λw hw=>⟨h3 w hw,.inl eP⟩]
  unfold Ih
  rw [Yaw hP,V5]
 ·have nP:P≠[]:=λe=>hP (by rw [e];rfl)
  obtain⟨_,h5,h6⟩:=Z6 nP (W.drop P.length) []
  rw [Yck,Nat.sub_zero,List.drop_drop]at h5 h6
  unfold Ih
  rw [Yar hP]
  by_cases hL:rl [] (W.drop P.length)=[]
  ·rw [hL]at h6 ⊢
   rw [Qb λw hw=>⟨h3 w hw,.inr (h6 w hw)⟩,V5]
  ·rw [h5,Z7 hL _ _ (.inr h6)];rfl
end
section
variable {P:Program}{w:World}{K:PySem.W.Frag}{mg:Str->Option Value}{base:Heap}{f:Addr}{fd:FuncData}
theorem Qc{z:Str}(h:lets z):PyData.canLay0 (.str z)=true:=by
 show PyData.strOk z=true
 unfold PyData.strOk
 rw [Array.all_eq_true]
 intro i hi
 have:=h z.cps[i] (by simp)
 simp
 omega
theorem Rz{z:Str}(h:lets z):B7 (.str z):=A0 (Qc h)
theorem Ds:∀(zs:List Str),txts (zs.map Ad)=some zs
 | []=>rfl
 | z :: zs=>by simp only [List.map_cons,Ad,txts,Option.map_eq_some_iff];exact⟨zs,Ds zs,rfl⟩
theorem Yn:("abcdefghijklmnopqrstuvwxyz" : Str).length=26:=by decide +kernel
theorem Yo:∀i:Fin 26,∃c,("abcdefghijklmnopqrstuvwxyz" : Str).cps.toList[i.val]?=some c/\97<=c/\c<=122:=by decide +kernel
theorem V7{v:Nat}(h:v < 26):∃c,atI ("abcdefghijklmnopqrstuvwxyz" : Str).cps.toList (v:Int)=some c/\97<=c/\c<=122:=by
 obtain⟨c,e,h1⟩:=Yo ⟨v,h⟩
 exact⟨c,Ao e,h1⟩
theorem V8{c:Nat}(h:97<=c/\c<=122):lets ⟨#[c]⟩:=λd hd=>by
 have:d=c:=by simpa using hd
 rw [this];exact h
theorem V9:("abcdefghijklmnopqrstuvwxyz" : Str).length<=sizeLine:=by decide +kernel
theorem Wa:("" : Str).length=0:=by decide +kernel
theorem A3(x y:Str):(x++y).length=x.length+y.length:=by rw [Bj,Bj,Bj,Cg,Yai]
theorem No:∀{zs:List Str},(∀z∈zs,z.length=1)->(zs.map (·.length)).sum=zs.length
 | [],_=>rfl
 | z :: zs,h=>by
  simp only [List.map_cons,List.sum_cons,List.length_cons]
  rw [h z Yao,No λy hy=>h y (Yae _ hy)];omega
theorem R0(zs:List Str):(Txt.join "" zs).length=(zs.map (·.length)).sum:=by
 show(PySem.Builtin.Str.glued "" zs).length=_
 rw [Yd4]
 induction zs with
 | nil=>rfl
 | cons x zs ih =>
  cases zs with
  | nil=>simp [Str.join]
  | cons y zs =>
   have e:Str.join "" (x :: y :: zs)=x ++ "" ++ Str.join "" (y :: zs):=rfl
   rw [e,A3,A3,Wa,ih]
   simp
theorem Qht{x:Str}{j:Nat}(h:lets x)(hj:j<=x.length):lets (Txt.slice x none (some (j:Int))):=λc hc=>by
 rw [Jp (by omega) (by omega)]at hc
 exact h c (Yb3 hc)
theorem Qc4{x:Str}{j:Nat}(hj:j<=x.length):(Txt.slice x none (some (j:Int))).length=j:=by
 rw [Bj,Jp (by omega) (by omega),Ybd,<- Bj];omega
theorem Wb{x:Str}{j:Nat}(hj:j<=x.length):(Txt.slice x (some (j:Int)) none).length=x.length - j:=by
 rw [Bj,Jq (by omega) (by omega),Ybj,<- Bj];omega
theorem Qgu{x:AV}{i:Nat}{u:AS}{k:ASt->M->Prop}{r:AV->M->Prop}{b c:ASt->M->Prop}{τ:ASt}{μ:M}(h:u k r b c (τ.set i (some x)) μ):Up (Kc (vC x) (Ca i)) u k r b c τ μ:=h
theorem Qc5:∀i:Fin 26,("abcdefghijklmnopqrstuvwxyz" : Str).cps.toList[i.val]?=some (97+i.val):=by decide +kernel
theorem Qc6:B7 (.tuple (Hi.map PyData.str)):=⟨by decide +kernel,by decide +kernel⟩
theorem R3{α:Type}(f:Nat->α)(i:Nat):(List.range (i+1)).map f=(List.range i).map f++[f i]:=by rw [List.range_succ,Yac];rfl
abbrev nNa:List Str:=["_law_deal_here","_law_many","_law_letters","_law_k","_law_core","_law_at","_law_turn","_law_longer","_law_found","_law_sign","_law_name"]
theorem Jw:FnScope nNa ["_law_deal_here","_law_many"] (Ai sNa):=⟨rfl,rfl,rfl,by decide +kernel,rfl,by decide +kernel,by decide +kernel⟩
theorem Qgv:(["_law_k","_law_letters","_law_deal_here"]:List Str).Nodup:=by decide +kernel
def Qgw:ASp:=λxs μ R=>∃(a l:Addr) (many:Nat),xs=[.R a,.D (.int many)]/\many<=5/\Pot μ a l/\∀(zs:List Str) (p:Addr) μ',zs.length=many->(∀z∈zs,NameOk z)->zs.Nodup->μ p=none->μ' p=some (.lst (zs.map Ad))->Pot μ' a l->A5 a l μ μ'->R (.R p) μ'
theorem Qgx{n:Nat}(F:Fun K "_law_names" "_law_names" sNa f fd) (bp:VCal P w K mg base n "_law_draw" ["_law_deal_here","_law_many"] Js) (ao:mg "range" = none) (af:mg "len" = none):FnOk P w K mg base Fh (n+1) f fd ["_law_deal_here","_law_many"] (Ji K 2 Qgw):=by
 refine F.vok Jw λaw A outer s H E hr=>⟨_,(Af (Aw (i:=2) Jw.nd rfl (Or.inr rfl) Ah)
   (Af (Aw (i:=4) Jw.nd rfl (Or.inl rfl) (Jh Yb9 Yca Hh Ah (Ab (Cm (N':=["_law_k","_law_letters","_law_deal_here"]) (mp:=[none,some 2,some 0]) rfl (Dn rfl ao (Ab (Au bp hr rfl (Ab (vv 0) (Ab Ag Ae))) Ae)) (λ_ _ _ _=>(Av (i:=0) Qgv rfl (Or.inl rfl) (Or.inr rfl))) (λ_ _ _ _=>Br) (λ_ _ _ _=>(Ba Bm (vv 1) (Au bp hr rfl (Ab (vv 2) (Ab Ag Ae))))) (Bk (N:=nNa) (pn:=(Ai sNa).names) (by decide +kernel))) Ae)))
   (Af (Aw (i:=5) Jw.nd rfl (Or.inl rfl) (Au bp hr rfl (Ab (vv 0) (Ab (Ay Al (Ar Bo rfl af Yan (Ab (vv 4) Ae)) Ag) Ae))))
   (Af (Aw (i:=6) Jw.nd rfl (Or.inl rfl) (Au bp hr rfl (Ab (vv 0) (Ab Ag Ae))))
   (Af (Aw (i:=7) Jw.nd rfl (Or.inl rfl) (Ay Hr Ah (Au bp hr rfl (Ab (vv 0) (Ab Ag Ae)))))
   (Af (Aw (i:=8) Jw.nd rfl (Or.inl rfl) (Bq Ae))
   (Af (Di Ybu rfl (Dn rfl ao (Ab (vv 1) Ae)) (Av (i:=3) Jw.nd rfl (Or.inl rfl)) (Af (Aw (i:=9) Jw.nd rfl (Or.inl rfl) (Ba Bm (vv 2) (Ay Gz (Ay Al (vv 6) (Ay Hr Ag (vv 3))) Ag)))
   (Af (Aw (i:=10) Jw.nd rfl (Or.inl rfl) (Ay Al (Ay Al (Ay Al (A8 (vv 4) A7 (Be (vv 5))) (vv 9)) (A8 (vv 4) (Be (vv 5)) A7)) (vv 7)))
   (Af (B1 (Bf (Nd hr) (vv 10) (Dh (Ab Ah (Ab Ah (Ab Ah (Ab Ah (Ab Ah (Ab Ah (Ab Ah Ae)))))))) (by with_unfolding_all rfl)) (An (Aw (i:=10) Jw.nd rfl (Or.inl rfl) (Ay Al (vv 10) Ah))) A9)
   (An (Dy (Ew Ybw Ybx Dr (vv 8) (Ab (vv 10) Ae))))))))
   (An (Bd (vv 8)))))))))),?_⟩
 rintro xs μ R _ ⟨a,l,many,rfl,hm,hP,q⟩
 refine Qgu (Ap (fun τ μ'=>∃ai:Str,τ=[some (.R a),some (.D (.int many)),some (Ad "abcdefghijklmnopqrstuvwxyz"),none,some (Ad ai),none,none,none,none,none,none]/\lets ai/\ai.length<=4/\Pot μ' a l/\A5 a l μ μ') (λZ hZ=>?_) ?_)
 ·refine⟨trivial,a,l,5,rfl,hP,by decide,by decide,λc μ1 hc P1 S1=>⟨by omega,by omega,λpl hpl=>?_⟩⟩
  have bo:=P1.ne hpl
  have am:(G2 0 (c:Int).toNat).length=c:=by rw [Ce];omega
  refine Hf (λj ah τ μ'=>∃(o:Option AV) (zs:List Str),τ=[o,some (Ad "abcdefghijklmnopqrstuvwxyz"),some (.R a)]/\ah=zs.map Ad/\zs.length=j/\(∀z∈zs,lets z/\z.length=1)/\μ' pl=some (.lst ah)/\Pot μ' a l/\A5 a l μ1 μ') ⟨none,[],rfl,rfl,rfl,(λ_ z=>nomatch z),Ac,P1.new hpl,A5.refl.new hpl⟩ (λ_ _ _ _ _=>trivial) ?_ ?_
  ·rintro j x ah τ μ2 Z2 hx ⟨o,zs,rfl,rfl,hn,hb,e2,P2,S2⟩ hZ2
   refine Gr rfl ⟨a,l,26,rfl,P2,by decide,by decide,λv μ3 hv P3 S3=>?_⟩
   have e3:=S3 pl _ bo.1.symm bo.2.symm e2
   obtain⟨ch,ec,fy⟩:=V7 hv
   have hj:j < c:=by rw [<- am];exact(List.getElem?_eq_some_iff.mp hx).1
   refine⟨V9,Aa ec ⟨e3,Bt (by rw [Yaa];omega),hZ2 _ _ _ ⟨_,zs++[⟨#[ch]⟩],rfl,by rw [Yac];rfl,by rw [Yai,hn];rfl,λz hz=>?_,Ac,P3.other bo.1 bo.2,(S2.trans S3).put hpl⟩⟩⟩
   rcases Ya5.mp hz with h | h
   ·exact hb z h
   ·rw [Ya3.mp h];exact⟨V8 fy,rfl⟩
  ·rintro ah τ μ2 ⟨o,zs,rfl,rfl,hn,hb,e2,P2,S2⟩
   rw [am]at hn
   have o4:=No λz hz=>(hb z hz).2
   refine Aa e2 (Aa (Ds zs) ⟨?_,hZ _ _ ⟨Txt.join "" zs,rfl,Rs λz hz=>(hb z hz).1,?_,P2,S1.trans S2⟩⟩)
   ·rw [o4,Wa];omega
   ·rw [R0,o4];omega
 rintro τ μ1 ⟨ai,rfl,lc,wv,P1,S1⟩
 have js:ai.length<=sizeLine:=Yap wv (by decide)
 refine Ap (fun τ μ'=>∃at':Nat,τ=[some (.R a),some (.D (.int many)),some (Ad "abcdefghijklmnopqrstuvwxyz"),none,some (Ad ai),some (.D (.int at')),none,none,none,none,none]/\at'<=ai.length/\Pot μ' a l/\A5 a l μ μ') (λZ hZ=>?_) ?_
 ·exact⟨js,a,l,ai.length+1,rfl,P1,by omega,by omega,λv μ2 hv P2 S2=>hZ _ _ ⟨v,rfl,by omega,P2,S1.trans S2⟩⟩
 rintro τ μ2 ⟨at',rfl,gt,P2,S2⟩
 refine Ap (fun τ μ'=>∃tn:Nat,τ=[some (.R a),some (.D (.int many)),some (Ad "abcdefghijklmnopqrstuvwxyz"),none,some (Ad ai),some (.D (.int at')),some (.D (.int tn)),none,none,none,none]/\Pot μ' a l/\A5 a l μ μ') (λZ hZ=>?_) ?_
 ·exact⟨a,l,26,rfl,P2,by decide,by decide,λv μ3 hv P3 S3=>hZ _ _ ⟨v,rfl,P3,S2.trans S3⟩⟩
 rintro τ μ3 ⟨tn,rfl,P3,S3⟩
 refine Ap (fun τ μ'=>∃lg:Str,τ=[some (.R a),some (.D (.int many)),some (Ad "abcdefghijklmnopqrstuvwxyz"),none,some (Ad ai),some (.D (.int at')),some (.D (.int tn)),some (Ad lg),none,none,none]/\(lg=Str.empty\/lg = "z")/\Pot μ' a l/\A5 a l μ μ') (λZ hZ=>?_) ?_
 ·refine⟨a,l,2,rfl,P3,by decide,by decide,λv μ4 hv P4 S4=>⟨by omega,hZ _ _ ⟨_,rfl,?_,P4,S3.trans S4⟩⟩⟩
  split
  ·exact .inl rfl
  ·exact .inr rfl
 rintro τ μ4 ⟨lg,rfl,vc,P4,S4⟩
 have hl1:lg.length<=1:=by rcases vc with rfl | rfl <;> decide +kernel
 have h0:(0:Int)<=(at':Int):=by omega
 have h1:(at':Int)<=(ai.length:Int):=by omega
 intro pf u4
 have bo:=P4.ne u4
 have mz:μ pf=none:=S4.none bo.1 bo.2 u4
 refine Ap (fun τ μ'=>∃o3 o9 de,τ=[some (.R a),some (.D (.int many)),some (Ad "abcdefghijklmnopqrstuvwxyz"),o3,some (Ad ai),some (.D (.int at')),some (.D (.int tn)),some (Ad lg),some (.R pf),o9,de]/\μ' pf=some (.lst (((List.range many).map (Md ai at' tn lg)).map Ad))/\Pot μ' a l/\A5 a l μ μ') (λZ hZ=>?_) ?_
 ·refine⟨by omega,by omega,?_⟩
  have am:(G2 0 (many:Int).toNat).length=many:=by rw [Ce];omega
  refine Ey (λi τ μ'=>∃o3 o9 de,τ=[some (.R a),some (.D (.int many)),some (Ad "abcdefghijklmnopqrstuvwxyz"),o3,some (Ad ai),some (.D (.int at')),some (.D (.int tn)),some (Ad lg),some (.R pf),o9,de]/\μ' pf=some (.lst (((List.range i).map (Md ai at' tn lg)).map Ad))/\Pot μ' a l/\A5 a l μ μ') ⟨none,none,none,rfl,Ac,P4.new u4,S4.new u4⟩ (λ_ _ _ _=>trivial) ?_ ?_
  ·rintro i y τ μ5 Z2 hy ⟨o3,o9,de,rfl,e5,P5,S5⟩ hZ2
   have hi:i < many:=by rw [<- am];exact(List.getElem?_eq_some_iff.mp hy).1
   have ey:=Jj _ _ _ hy
   subst ey
   obtain⟨v,ev,hv⟩:=Vl (many:=26) (v:=((tn:Int)+7 * (0+(i:Int))) % 26) (Yef _ (by decide)) (Ydo _ (by decide))
   obtain⟨ch,ec,fy⟩:=V7 hv
   have hcv:ch=97+v:=by
    have:=Ao (Qc5 ⟨v,hv⟩)
    exact(Yas (ec.symm.trans this))
   rw [<- ev]at ec
   have lj:Txt.slice ai none (some (at':Int))++(⟨#[ch]⟩:Str)++Txt.slice ai (some (at':Int)) none++lg=Cc ai at' tn lg i:=by
    unfold Cc;rw [ev,Int.toNat_natCast,hcv]
   have u6:=Et (lg:=lg) (turn:=(tn:Int)) h0 h1 i
   have ln1:=Qc4 gt
   have ln2:=Wb gt
   refine Ap (fun τ μ'=>τ=[some (.R a),some (.D (.int many)),some (Ad "abcdefghijklmnopqrstuvwxyz"),some (.D (.int (0+(i:Int)))),some (Ad ai),some (.D (.int at')),some (.D (.int tn)),some (Ad lg),some (.R pf),some (Ad ⟨#[ch]⟩),de]/\μ5=μ') (λZ3 bi=>?_) ?_
   ·exact⟨.inl (by decide),(show(0:Int) < 26 by decide),V9,Aa ec (bi _ _ ⟨rfl,rfl⟩)⟩
   rintro τ _ ⟨rfl,rfl⟩
   refine Ap (fun τ μ'=>τ=[some (.R a),some (.D (.int many)),some (Ad "abcdefghijklmnopqrstuvwxyz"),some (.D (.int (0+(i:Int)))),some (Ad ai),some (.D (.int at')),some (.D (.int tn)),some (Ad lg),some (.R pf),some (Ad ⟨#[ch]⟩),some (Ad (Cc ai at' tn lg i))]/\μ5=μ') (λZ3 bi=>?_) ?_
   ·have l1:(Txt.slice ai none (some (at':Int))++(⟨#[ch]⟩:Str)).length=at'+1:=by rw [A3,ln1];rfl
    refine⟨js,?_,js,?_,?_,?_⟩
    ·rw [ln1];show _+1<=sizeLine
     exact seven (by omega)
    ·rw [l1,ln2];exact seven (by omega)
    ·rw [A3,l1,ln2];exact seven (by omega)
    ·rw [lj];exact bi _ _ ⟨rfl,rfl⟩
   rintro τ _ ⟨rfl,rfl⟩
   refine Ap (fun τ μ'=>τ=[some (.R a),some (.D (.int many)),some (Ad "abcdefghijklmnopqrstuvwxyz"),some (.D (.int (0+(i:Int)))),some (Ad ai),some (.D (.int at')),some (.D (.int tn)),some (Ad lg),some (.R pf),some (Ad ⟨#[ch]⟩),some (Ad (Md ai at' tn lg i))]/\μ5=μ') (λZ3 bi=>?_) ?_
   ·have lnm:=Hs (turn:=(tn:Int)) h0 h1 lc (show lets lg by
     rcases vc with rfl | rfl
     ·exact λc h=>by simp [Str.empty]at h
     ·exact λc h=>by rw [L2.z_cps,Ya3]at h;omega) i
    refine Aa rfl ⟨Rz lnm,Qc6,?_⟩
    have ea:=C8 Hi (Cc ai at' tn lg i)
    refine br (λc=>?_) (λc=>bi _ _ ⟨?_,rfl⟩)
    ·have c:decide (Cc ai at' tn lg i∈Hi)=true:=by rw [<- ea];exact c
     refine⟨?_,bi _ _ ⟨?_,rfl⟩⟩
     ·rw [u6];exact seven (show ai.length+1+lg.length+1<=1000 by omega)
     ·unfold Md
      rw [Yaw (Yaf c)];rfl
    ·have c:decide (Cc ai at' tn lg i∈Hi)=false:=by rw [<- ea];exact c
     unfold Md
     rw [Yar (Ybh c)]
   rintro τ _ ⟨rfl,rfl⟩
   refine⟨Aa e5 trivial,Aa e5 ⟨Bt (by rw [Yaa,Yaa,List.length_range];omega),hZ2 _ _ ⟨_,_,_,rfl,?_,P5.other bo.1 bo.2,S5.put mz⟩⟩⟩
   rw [Ac,R3,Yac];rfl
  ·rintro τ μ5 ⟨o3,o9,de,rfl,e5,P5,S5⟩
   rw [am]at e5
   exact hZ _ _ ⟨_,_,_,rfl,e5,P5,S5⟩
 rintro τ μ5 ⟨o3,o9,de,rfl,e5,P5,S5⟩
 refine⟨_,Sub.refl,q _ pf _ (by rw [Yaa,List.length_range]) (λz hz=>?_) (Vc h0 h1 (by omega)) mz e5 P5 S5⟩
 obtain⟨k,_,rfl⟩:=Yaz.mp hz
 exact Qfp h0 h1 lc wv vc k
abbrev nPt:List Str:=["_law_deal_here","_law_many"]
theorem Qj1:FnScope nPt ["_law_deal_here","_law_many"] (Ai sPt):=⟨rfl,rfl,rfl,by decide +kernel,rfl,by decide +kernel,by decide +kernel⟩
theorem Qgy:(["_law_k","_law_deal_here","_law_many"]:List Str).Nodup:=by decide +kernel
def Qgz:ASp:=λxs μ R=>∃(a l:Addr) (many:Nat),xs=[.R a,.D (.int many)]/\(1<=many/\many<=5)/\Pot μ a l/\∀(ws:List Nat) μ',ws.length<=2->(∀w∈ws,w < many)->Pot μ' a l->A5 a l μ μ'->R (.D (E2 ws)) μ'
theorem Qg0{n:Nat}(F:Fun K "_law_put" "_law_put" sPt f fd) (bp:VCal P w K mg base n "_law_draw" ["_law_deal_here","_law_many"] Js) (ao:mg "range" = none) (aj:mg "tuple" = none):FnOk P w K mg base Fh (n+1) f fd ["_law_deal_here","_law_many"] (Ji K 2 Qgz):=by
 refine F.vok Qj1 λaw A outer s H E hr=>⟨_,(An (Bd (Bp Cw rfl aj Ybc (Ab (Cm (N':=["_law_k","_law_deal_here","_law_many"]) (mp:=[none,some 0,some 1]) rfl (Dn rfl ao (Ab (Ba Bm (Bq (Ab Ag (Ab Ag (Ab Ag (Ab Ag (Ab Ag Ae)))))) (Au bp hr rfl (Ab (vv 0) (Ab Ag Ae)))) Ae)) (λ_ _ _ _=>(Av (i:=0) Qgy rfl (Or.inl rfl) (Or.inr rfl))) (λ_ _ _ _=>Br) (λ_ _ _ _=>(Au bp hr rfl (Ab (vv 1) (Ab (vv 2) Ae)))) (Bk (N:=nPt) (pn:=(Ai sPt).names) (by decide +kernel))) Ae)))),?_⟩
 rintro xs μ R _ ⟨a,l,many,rfl,hm,hP,q⟩
 refine λpz iy=>⟨a,l,5,rfl,hP.new iy,by decide,by decide,λv μ1 hv P1 S1=>?_⟩
 have ef:=hP.ne iy
 have hk:∃k:Nat,([0,1,2,2,1]:List Int)[v]?=some (k:Int)/\k<=2:=by
  match v,hv with
  | 0,_=>exact⟨0,rfl,by omega⟩
  | 1,_=>exact⟨1,rfl,by omega⟩
  | 2,_=>exact⟨2,rfl,by omega⟩
  | 3,_=>exact⟨2,rfl,by omega⟩
  | 4,_=>exact⟨1,rfl,by omega⟩
 obtain⟨k,ek,hk2⟩:=hk
 have eA:atI [AV.D (.int 0),.D (.int 1),.D (.int 2),.D (.int 2),.D (.int 1)] (v:Int)=some (.D (.int (k:Nat))):=by
  refine Ao ?_
  show(([0,1,2,2,1]:List Int).map λi=>AV.D (.int i))[v]?=_
  rw [List.getElem?_map,ek];rfl
 refine Aa (S1 pz _ ef.1.symm ef.2.symm Ac) (Aa eA ⟨by omega,by omega,λpl hpl=>?_⟩)
 have S1':=(A5.refl (a:=a) (l:=l) (μ:=μ)).new iy (o:=.lst (([0,1,2,2,1]:List Int).map λi=>AV.D (.int i))) |>.trans S1
 have bo:=P1.ne hpl
 have am:(G2 0 (k:Int).toNat).length=k:=by rw [Ce];omega
 refine Hf (λj ah τ μ'=>∃(o:Option AV) (ws:List Nat),τ=[o,some (.R a),some (.D (.int many))]/\ah=ws.map Qct/\ws.length=j/\(∀w∈ws,w < many)/\μ' pl=some (.lst ah)/\Pot μ' a l/\A5 a l μ1 μ') ⟨none,[],rfl,rfl,rfl,(λ_ z=>nomatch z),Ac,P1.new hpl,A5.refl.new hpl⟩ (λ_ _ _ _ _=>trivial) ?_ ?_
 ·rintro j x ah τ μ2 Z2 hx ⟨o,ws,rfl,rfl,hn,hb,e2,P2,S2⟩ hZ2
  refine Gr rfl ⟨a,l,many,rfl,P2,by omega,by omega,λv μ3 hv P3 S3=>?_⟩
  have e3:=S3 pl _ bo.1.symm bo.2.symm e2
  have hj:j < k:=by rw [<- am];exact(List.getElem?_eq_some_iff.mp hx).1
  refine⟨e3,Bt (by rw [Yaa];omega),hZ2 _ _ _ ⟨_,ws++[v],rfl,by rw [Yac];rfl,by rw [Yai,hn];rfl,λz hz=>?_,Ac,P3.other bo.1 bo.2,(S2.trans S3).put hpl⟩⟩
  rcases Ya5.mp hz with h | h
  ·exact hb z h
  ·rw [Ya3.mp h];exact hv
 ·rintro ah τ μ2 ⟨o,ws,rfl,rfl,hn,hb,e2,P2,S2⟩
  rw [am]at hn
  exact Aa (Ak e2) (Aa (Vp ws) ⟨_,Sub.refl,q ws μ2 (by omega) hb P2 (S1'.trans S2)⟩)
end
section
variable {P:Program}{w:World}{K:PySem.W.Frag}{mg:Str->Option Value}{base:Heap}{f:Addr}{fd:FuncData}
theorem Qe{n:Nat}(h:0 < n):L2.ixN n (-1)=some (n - 1):=by
 unfold L2.ixN
 rw [Yar (by decide),Yaw (by omega)]
 congr 1
 omega
def RK(np nl:Nat)(r:Rl):Prop:=r.p < np/\r.x < nl/\r.q < np/\r.w.length<=2/\∀k∈r.w,k < nl
structure GG(g:Gt):Prop where
 p1:1<=g.pl.length
 p5:g.pl.length<=5
 l1:1<=g.le.length
 l5:g.le.length<=5
 rn:g.rs.length<=12
 pn:∀p∈g.pl,NameOk p.1/\p.2 < 2
 pd:(g.pl.map (·.1)).Nodup
 ln:∀z∈g.le,NameOk z
 ld:g.le.Nodup
 r:∀r∈g.rs,r.p < g.pl.length/\r.x < g.le.length/\r.q < g.pl.length/\r.w.length<=2/\∀k∈r.w,k < g.le.length
abbrev nAg:List Str:=["_law_deal_here","_law_names_here","_law_places","_law_letters","_law_rules","_law_k","_law_p","_law_x","_law_q"]
theorem Oy:FnScope nAg ["_law_deal_here"] (Ai sAg):=⟨rfl,rfl,rfl,by decide +kernel,rfl,by decide +kernel,by decide +kernel⟩
theorem Qg1:(["_law_name","_law_deal_here"]:List Str).Nodup:=by decide +kernel
def Qc7:ASp:=λxs μ R=>∃(a l:Addr),xs=[.R a]/\Pot μ a l/\∀(g:Gt) μ',GG g->Pot μ' a l->A5 a l μ μ'->R (.D (Ig g)) μ'
theorem Qg2{n:Nat}(F:Fun K "_law_any_game" "_law_any_game" sAg f fd) (cNa:VCal P w K mg base n "_law_names" ["_law_deal_here","_law_many"] Qgw) (bp:VCal P w K mg base n "_law_draw" ["_law_deal_here","_law_many"] Js) (cPt:VCal P w K mg base n "_law_put" ["_law_deal_here","_law_many"] Qgz) (aj:mg "tuple" = none) (ao:mg "range" = none) (af:mg "len" = none):FnOk P w K mg base Fh (n+1) f fd ["_law_deal_here"] (Ji K 1 Qc7):=by
 refine F.vok Oy λaw A outer s H E hr=>⟨_,(Af (Aw (i:=1) Oy.nd rfl (Or.inl rfl) (Au cNa hr rfl (Ab (vv 0) (Ab Ag Ae))))
   (Af (Aw (i:=2) Oy.nd rfl (Or.inl rfl) (Bp Cw rfl aj Ybc (Ab (Cm (N':=["_law_name","_law_deal_here"]) (mp:=[none,some 0]) rfl (Cb (A8 (vv 1) A7 (Be (Ay Al Ag (Au bp hr rfl (Ab (vv 0) (Ab Ag Ae))))))) (λ_ _ _ _=>(Av (i:=0) Qg1 rfl (Or.inl rfl) (Or.inr rfl))) (λ_ _ _ _=>Br) (λ_ _ _ _=>(Dh (Ab (vv 0) (Ab (Au bp hr rfl (Ab (vv 1) (Ab Ag Ae))) Ae)))) (Bk (N:=nAg) (pn:=(Ai sAg).names) (by decide +kernel))) Ae)))
   (Af (Aw (i:=3) Oy.nd rfl (Or.inl rfl) (Bp Cw rfl aj Ybc (Ab (A8 (Ba Bm (Bq (Ab (vv 1) (Ab (Au cNa hr rfl (Ab (vv 0) (Ab Ag Ae))) Ae))) (Au bp hr rfl (Ab (vv 0) (Ab Ag Ae)))) A7 (Be (Ay Al Ag (Au bp hr rfl (Ab (vv 0) (Ab Ag Ae)))))) Ae)))
   (Af (Aw (i:=4) Oy.nd rfl (Or.inl rfl) (Bq Ae))
   (Af (Di Ybu rfl (Dn rfl ao (Ab (Au bp hr rfl (Ab (vv 0) (Ab Ag Ae))) Ae)) (Av (i:=5) Oy.nd rfl (Or.inl rfl)) (Af (Xy (i:=6) (j:=7) (l:=8) rfl Oy.nd rfl rfl rfl (by decide) (by decide) (by decide) rfl rfl rfl (Ab (Au bp hr rfl (Ab (vv 0) (Ab (Ar Bo rfl af Yan (Ab (vv 2) Ae)) Ae))) (Ab (Au bp hr rfl (Ab (vv 0) (Ab (Ar Bo rfl af Yan (Ab (vv 3) Ae)) Ae))) (Ab (Au bp hr rfl (Ab (vv 0) (Ab (Ar Bo rfl af Yan (Ab (vv 2) Ae)) Ae))) Ae))) rfl)
   (Af (Dy (Ew Ybw Ybx Dr (vv 4) (Ab (Dh (Ab (vv 6) (Ab (vv 7) (Ab (vv 8) (Ab (Au cPt hr rfl (Ab (vv 0) (Ab (Ar Bo rfl af Yan (Ab (vv 3) Ae)) Ae))) Ae))))) Ae)))
   (An (B1 (Bf (Dv hr) (Au bp hr rfl (Ab (vv 0) (Ab Ag Ae))) Ag (nomark _)) (An (Us (Ba Bm (vv 4) (Au bp hr rfl (Ab (vv 0) (Ab (Ar Bo rfl af Yan (Ab (vv 4) Ae)) Ae)))) (Qb2 (vv 4) (Qb5 Ag)))) A9)))))
   (An (Bd (Dh (Ab (vv 2) (Ab (vv 3) (Ab (Bp Cw rfl aj Ybc (Ab (vv 4) Ae)) Ae))))))))))),?_⟩
 rintro xs μ R _ ⟨a,l,rfl,hP,q⟩
 refine Cj ⟨a,l,5,rfl,by omega,hP,λzs pz μ1 hzn hzo hzd iy e1 P1 S1=>?_⟩
 have ef:=hP.ne iy
 dsimp only [Ca,List.set,C3]
 refine Ap (fun τ μ'=>∃Q:List (Str×Nat),τ=[some (.R a),some (.R pz),some (.D (.tuple (Q.map Fw))),none,none,none,none,none,none]/\(1<=Q.length/\Q.length<=5)/\(∀p∈Q,NameOk p.1/\p.2 < 2)/\(Q.map (·.1)).Nodup/\μ' pz=some (.lst (zs.map Ad))/\Pot μ' a l/\A5 a l μ μ') (λZ hZ=>?_) ?_
 ·refine⟨a,l,5,rfl,P1,by decide,by decide,λv μ2 hv P2 S2=>?_⟩
  have e2:=S2 pz _ ef.1.symm ef.2.symm e1
  refine Aa (Ak e2) λps iz=>?_
  rw [show(1+(v:Int))=((1+v:Nat):Int) by omega,B6]
  have et:=P2.ne iz
  have P3:=P2.new (o:=.lst ((zs.take (1+v)).map Ad)) iz
  have S3:A5 a l μ2 (Aj μ2 ps (.lst ((zs.take (1+v)).map Ad))):=A5.refl.new iz
  have e3:Aj μ2 ps (.lst ((zs.take (1+v)).map Ad)) ps=some (.lst ((zs.take (1+v)).map Ad)):=Ac
  have ez3:=S3 pz _ ef.1.symm ef.2.symm e2
  generalize Aj μ2 ps (.lst ((zs.take (1+v)).map Ad))=μ3 at P3 S3 e3 ez3
  have xz:(zs.take (1+v)).length=1+v:=by rw [Ybd,hzn];omega
  have pp:∀z∈zs.take (1+v),NameOk z:=λz hz=>hzo z (Yb3 hz)
  have uy:(zs.take (1+v)).Nodup:=hzd.sublist (List.take_sublist _ _)
  generalize zs.take (1+v)=ys at e3 xz pp uy
  refine Aa (Ak e3) λpl hpl=>?_
  have bo:=P3.ne hpl
  have nps:ps≠pl:=by rintro rfl;rw [e3]at hpl;cases hpl
  have npz:pz≠pl:=by rintro rfl;rw [ez3]at hpl;cases hpl
  refine Hf (λj ah τ μ'=>∃(o:Option AV) (Q:List (Str×Nat)),τ=[o,some (.R a)]/\ah=Q.map Sd/\Q.map (·.1)=ys.take j/\(∀p∈Q,p.2 < 2)/\μ' pl=some (.lst ah)/\μ' ps=some (.lst (ys.map Ad))/\μ' pz=some (.lst (zs.map Ad))/\Pot μ' a l/\A5 a l μ3 μ') ⟨none,[],rfl,rfl,rfl,(λ_ z=>nomatch z),Ac,by rw [Am nps];exact e3,by rw [Am npz];exact ez3,P3.new hpl,A5.refl.new hpl⟩ (λ_ _ _ _ ⟨_,_,_,_,_,_,_,e,_⟩=>Ak e) ?_ ?_
  ·rintro j x ah τ μ4 Z2 hx ⟨o,Q,rfl,rfl,hQ,hb,e4,f4,g4,P4,S4⟩ hZ2
   rw [List.getElem?_map]at hx
   obtain⟨y,hy,rfl⟩:=Yax.mp hx
   have hj:=(List.getElem?_eq_some_iff.mp hy).1
   have hQl:Q.length=j:=by
    have:=Ybo List.length hQ
    rw [Yaa,Ybd]at this;omega
   refine Gr rfl ⟨a,l,2,rfl,P4,by decide,by decide,λh μ5 hh P5 S5=>?_⟩
   have e5:=S5 pl _ bo.1.symm bo.2.symm e4
   refine⟨e5,Bt (by rw [Yaa];omega),hZ2 _ _ _ ⟨_,Q++[(y,h)],rfl,by rw [Yac];rfl,?_,λz hz=>?_,Ac,?_,?_,P5.other bo.1 bo.2,(S4.trans S5).put hpl⟩⟩
   ·rw [Yac,hQ,Ycw,hy];rfl
   ·rcases Ya5.mp hz with h | h
    ·exact hb z h
    ·rw [Ya3.mp h];exact hh
   ·rw [Am nps];exact S5 ps _ et.1.symm et.2.symm f4
   ·rw [Am npz];exact S5 pz _ ef.1.symm ef.2.symm g4
  ·rintro ah τ μ4 ⟨o,Q,rfl,rfl,hQ,hb,e4,f4,g4,P4,S4⟩
   rw [Yaa,Ycb]at hQ
   have hQl:Q.length=ys.length:=by rw [<- hQ,Yaa]
   refine Aa (Ak e4) (Aa (Jv Q) (hZ _ _ ⟨Q,rfl,⟨by omega,by omega⟩,λp hp=>⟨pp _ ?_,hb p hp⟩,by rw [hQ];exact uy,g4,P4,S1.trans (S2.trans (S3.trans S4))⟩))
   rw [<- hQ]
   exact Yaz.mpr ⟨p,hp,rfl⟩
 rintro τ μ2 ⟨Q,rfl,hQ5,hQo,hQd,e2,P2,S2⟩
 refine Ap (fun τ μ'=>∃L:List Str,τ=[some (.R a),some (.R pz),some (.D (.tuple (Q.map Fw))),some (.D (.tuple (L.map .str))),none,none,none,none,none]/\(1<=L.length/\L.length<=5)/\(∀z∈L,NameOk z)/\L.Nodup/\Pot μ' a l/\A5 a l μ μ') (λZ hZ=>?_) ?_
 ·refine⟨a,l,5,rfl,by omega,P2,λys py μ3 xz hyo uy hpy f3 P3 S3=>?_⟩
  have e3:=S3 pz _ ef.1.symm ef.2.symm e2
  have lm:=P2.ne hpy
  refine λp2 av=>⟨a,l,2,rfl,P3.new av,by decide,by decide,λv μ4 hv P4 S4=>?_⟩
  have iq:=P3.ne av
  have e4:=S4 pz _ ef.1.symm ef.2.symm (A5.refl.new av pz _ ef.1.symm ef.2.symm e3)
  have f4:=S4 py _ lm.1.symm lm.2.symm (A5.refl.new av py _ lm.1.symm lm.2.symm f3)
  have S04:=(S3.new av).trans S4
  refine Aa (S4 p2 _ iq.1.symm iq.2.symm Ac) ?_
  have fin:∀(q2:Addr) (ws:List Str),μ4 q2=some (.lst (ws.map Ad))->q2≠a->q2≠l->ws.length=5->(∀z∈ws,NameOk z)->ws.Nodup->vSl (λ_ μ R=>R (.R q2) μ) G0 (Nf (Sc L9 (vC (.D (.int 1))) (Uo 2 Js (K2 (Gj 0) (K2 (vC (.D (.int 5))) Nb))))) [some (.R a),some (.R pz),some (.D (.tuple (Q.map Fw))),none,none,none,none,none,none] μ4 λx μ'=>Jg [x] μ' λy μ''=>Z [some (.R a),some (.R pz),some (.D (.tuple (Q.map Fw))),some y,none,none,none,none,none] μ'':=by
   intro q2 ws eq nqa nql hw5 hwo we
   refine⟨a,l,5,rfl,P4,by decide,by decide,λu μ5 hu P5 S5=>?_⟩
   refine Aa (Ak (S5 q2 _ nqa nql eq)) λps iz=>?_
   rw [show(1+(u:Int))=((1+u:Nat):Int) by omega,B6]
   refine Aa (Ak Ac) (Aa (Bs _) (hZ _ _ ⟨ws.take (1+u),rfl,?_,λz hz=>hwo z (Yb3 hz),we.sublist (List.take_sublist _ _),P5.new iz,S2.trans ((S04.trans S5).new iz)⟩))
   rw [Ybd];omega
  rcases(show v=0\/v=1 by omega) with rfl | rfl
  ·exact Aa (Ao (j:=0) rfl) (fin pz zs e4 ef.1.symm ef.2.symm hzn hzo hzd)
  ·exact Aa (Ao (j:=1) rfl) (fin py ys f4 lm.1.symm lm.2.symm xz hyo uy)
 rintro τ μ3 ⟨L,rfl,hL5,hLo,hLd,P3,S3⟩
 refine Cj λpr cb=>?_
 have ci:=P3.ne cb
 have mm:=S3.none ci.1 ci.2 cb
 dsimp only [Ca,List.set]
 refine Ap (fun τ μ'=>∃o5 o6 o7 o8,∃A:List Rl,τ=[some (.R a),some (.R pz),some (.D (.tuple (Q.map Fw))),some (.D (.tuple (L.map .str))),some (.R pr),o5,o6,o7,o8]/\A.length<=12/\(∀r∈A,RK Q.length L.length r)/\μ' pr=some (.lst (A.map Mm))/\Pot μ' a l/\A5 a l μ μ') (λZ hZ=>?_) ?_
 ·refine⟨a,l,13,rfl,P3.new cb,by decide,by decide,λc μ4 hc P4 S4=>⟨by omega,by omega,?_⟩⟩
  have am:(G2 0 (c:Int).toNat).length=c:=by rw [Ce];omega
  refine Ey (λi τ μ'=>∃o5 o6 o7 o8,∃A:List Rl,τ=[some (.R a),some (.R pz),some (.D (.tuple (Q.map Fw))),some (.D (.tuple (L.map .str))),some (.R pr),o5,o6,o7,o8]/\A.length=i/\(∀r∈A,RK Q.length L.length r)/\μ' pr=some (.lst (A.map Mm))/\Pot μ' a l/\A5 a l μ μ') ⟨none,none,none,none,[],rfl,rfl,(λ_ z=>nomatch z),S4 pr _ ci.1.symm ci.2.symm Ac,P4,(S3.new cb).trans S4⟩ (λ_ _ _ _=>trivial) ?_ ?_
  ·rintro i y τ μ5 Z2 hy ⟨o5,o6,o7,o8,A,rfl,hA,hAo,e5,P5,S5⟩ hZ2
   have hi:i < c:=by rw [<- am];exact(List.getElem?_eq_some_iff.mp hy).1
   have y8:((Q.map Fw).length:Int)=(Q.length:Nat):=by rw [Yaa]
   have ma:((L.map PyData.str).length:Int)=(L.length:Nat):=by rw [Yaa]
   refine Ap (fun τ μ'=>∃p x q:Nat,τ=[some (.R a),some (.R pz),some (.D (.tuple (Q.map Fw))),some (.D (.tuple (L.map .str))),some (.R pr),some y,some (.D (.int p)),some (.D (.int x)),some (.D (.int q))]/\(p < Q.length/\x < L.length/\q < Q.length)/\μ' pr=some (.lst (A.map Mm))/\Pot μ' a l/\A5 a l μ μ') (λZ3 bi=>?_) ?_
   ·refine⟨a,l,Q.length,by rw [y8],P5,by omega,by omega,λp μ6 hp P6 S6=>⟨a,l,L.length,by rw [ma],P6,by omega,by omega,λx μ7 hx P7 S7=>⟨a,l,Q.length,by rw [y8],P7,by omega,by omega,λq' μ8 hq P8 S8=>bi _ _ ⟨p,x,q',rfl,⟨hp,hx,hq⟩,?_,P8,S5.trans (S6.trans (S7.trans S8))⟩⟩⟩⟩
    exact S8 pr _ ci.1.symm ci.2.symm (S7 pr _ ci.1.symm ci.2.symm (S6 pr _ ci.1.symm ci.2.symm e5))
   rintro τ μ6 ⟨p,x,q',rfl,⟨hp,hx,hq⟩,e6,P6,S6⟩
   refine Ap (fun τ μ'=>∃r:Rl,τ=[some (.R a),some (.R pz),some (.D (.tuple (Q.map Fw))),some (.D (.tuple (L.map .str))),some (.R pr),some y,some (.D (.int p)),some (.D (.int x)),some (.D (.int q'))]/\RK Q.length L.length r/\μ' pr=some (.lst ((A++[r]).map Mm))/\Pot μ' a l/\A5 a l μ μ') (λZ3 bi=>?_) ?_
   ·refine⟨Aa e6 trivial,a,l,L.length,by rw [ma],by omega,P6,λws μ7 hw2 hwk P7 S7=>?_⟩
    have e7:=S7 pr _ ci.1.symm ci.2.symm e6
    refine Aa e7 ⟨Bt (by rw [Yaa];omega),bi _ _ ⟨⟨p,x,q',ws⟩,rfl,⟨hp,hx,hq,hw2,hwk⟩,?_,P7.other ci.1 ci.2,(S6.trans S7).put mm⟩⟩
    rw [Ac,Yac];rfl
   rintro τ μ7 ⟨r,rfl,hr,e7,P7,S7⟩
   have hAr:∀s∈A++[r],RK Q.length L.length s:=λs hs=>by
    rcases Ya5.mp hs with h | h
    ·exact hAo s h
    ·rw [Ya3.mp h];exact hr
   have hn1:((A++[r]).map Mm).length=A.length+1:=by rw [Yaa,Yai];rfl
   refine⟨a,l,8,rfl,P7,by decide,by decide,λv μ8 hv P8 S8=>ieq (λc8=>?_) (λc8=>hZ2 _ _ ⟨_,_,_,_,A++[r],rfl,by rw [Yai,hA];rfl,hAr,S8 pr _ ci.1.symm ci.2.symm e7,P8,S7.trans S8⟩)⟩
   have e8:=S8 pr _ ci.1.symm ci.2.symm e7
   refine Aa e8 ⟨a,l,A.length+1,by rw [hn1],P8,by omega,by omega,λu μ9 hu P9 S9=>?_⟩
   have e9:=S9 pr _ ci.1.symm ci.2.symm e8
   have hu2:u < (A++[r]).length:=by rw [Yai];exact hu
   refine Aa e9 (Aa (x:=Mm (A++[r])[u]) (Ao (by rw [List.getElem?_map,List.getElem?_eq_getElem hu2];rfl)) (Aa e9 (Aa (x:=A.length) ?_ ?_)))
   ·rw [hn1]
    exact Qe (by omega)
   ·refine hZ2 _ _ ⟨_,_,_,_,A++[(A++[r])[u]],rfl,by rw [Yai,hA];rfl,λs hs=>?_,?_,P9.other ci.1 ci.2,(S7.trans (S8.trans S9)).put mm⟩
    ·rcases Ya5.mp hs with h | h
     ·exact hAo s h
     ·rw [Ya3.mp h];exact hAr _ (Ybg hu2)
    ·rw [Ac,Yac,Yac,show A.length=(A.map Mm).length from(Yaa _).symm,List.set_append_right _ _ (Yag _),Nat.sub_self];rfl
  ·rintro τ μ5 ⟨o5,o6,o7,o8,A,rfl,hA,hAo,e5,P5,S5⟩
   rw [am]at hA
   exact hZ _ _ ⟨_,_,_,_,A,rfl,by omega,hAo,e5,P5,S5⟩
 rintro τ μ4 ⟨o5,o6,o7,o8,A,rfl,hA,hAo,e4,P4,S4⟩
 exact Aa (Ak e4) (Aa (Ii A) ⟨_,Sub.refl,q ⟨Q,L,A⟩ μ4 ⟨hQ5.1,hQ5.2,hL5.1,hL5.2,hA,hQo,hQd,hLo,hLd,λr hr=>hAo r hr⟩ P4 S4⟩)
end
section
variable {P:Program}{w:World}{K:PySem.W.Frag}{mg:Str->Option Value}{base:Heap}{f:Addr}{fd:FuncData}
abbrev nRw:List Str:=["_law_game","_law_places","_law_letters","_law_rules","_law_rows_here","_law_p","_law_x","_law_q","_law_w","_law_row","_law_letter"]
theorem Hw:FnScope nRw ["_law_game"] (Ai Zi):=⟨rfl,rfl,rfl,by decide +kernel,rfl,by decide +kernel,by decide +kernel⟩
theorem Z8:(["_law_name","_law_hand"]:List Str).Nodup:=by decide +kernel
theorem Qg3:(["_law_name"]:List Str).Nodup:=by decide +kernel
def Lf(p:Str×Nat):List Str:=[("place" : Str),p.1,if p.2=0 then("one" : Str) else("other" : Str)]
def Lg(z:Str):List Str:=[("letter" : Str),z]
def J5(g:Gt)(k:Nat):Str:=(g.pl.map (·.1)).getD k ("" : Str)
def G8(g:Gt)(k:Nat):Str:=g.le.getD k ("" : Str)
def Mh(g:Gt)(r:Rl):List Str:=("rule" : Str) :: J5 g r.p :: G8 g r.x :: (":" : Str) :: J5 g r.q :: r.w.map (G8 g)
def Gc(g:Gt):List (List Str):=g.pl.map Lf++g.le.map Lg++g.rs.map (Mh g)
def rowsT(g:Gt):List Str:=(Gc g).map (Txt.join " ")
def Wc(z:Str):Prop:=32∉z.cps.toList/\10∉z.cps.toList
theorem Fp{z:Str}(h:lets z):Wc z:=⟨λc=>by have:=h _ c;omega,λc=>by have:=h _ c;omega⟩
theorem Lh{c d:Nat}(d9:c≠d):∀{ws:List Str},(∀z∈ws,c∉z.cps.toList)->c∉(Str.join ⟨#[d]⟩ ws).cps.toList
 | [],_=>by simp [Str.join,Str.empty]
 | [x],h=>h x Yao
 | x :: y :: r,h=>by
  rw [Db]
  intro hm
  rcases Ya5.mp hm with hm | hm
  ·exact h x Yao hm
  ·rcases Ybb.mp hm with hm | hm
   ·exact d9 hm
   ·exact Lh d9 (λz hz=>h z (Yae _ hz)) hm
theorem Dz(z:Str)(ws:List Str):Txt.join z ws=Str.join z ws:=Yd4 z ws
theorem Qj3{a b c:PyData}{i j k:Nat}{τ:ASt}{μ:M}{R:ASt->M->Prop}(h:R (((τ.set i (some (.D a))).set j (some (.D b))).set k (some (.D c))) μ):Ex (Ca i) (Ex (Ca j) (Ex (Ca k) Uq)) (List.map AV.D [a,b,c]) τ μ R:=h
theorem Qj4{a b c d:PyData}{i j k l:Nat}{τ:ASt}{μ:M}{R:ASt->M->Prop}(h:R ((((τ.set i (some (.D a))).set j (some (.D b))).set k (some (.D c))).set l (some (.D d))) μ):Ex (Ca i) (Ex (Ca j) (Ex (Ca k) (Ex (Ca l) Uq))) (List.map AV.D [a,b,c,d]) τ μ R:=h
theorem j2(s x y:Str)(r:List Str):Txt.join s (x :: y :: r)=x++s++Txt.join s (y :: r):=by rw [Dz,Dz];rfl
theorem j1(s x:Str):Txt.join s [x]=x:=by rw [Dz];rfl
theorem Yp:(" " : Str).cps.toList=[32]:=by decide +kernel
theorem Qg4:("place " : Str).cps.toList=("place" : Str).cps.toList++[32]:=by decide +kernel
theorem Qj5:(" one" : Str).cps.toList=[32]++("one" : Str).cps.toList:=by decide +kernel
theorem Qj6:(" other" : Str).cps.toList=[32]++("other" : Str).cps.toList:=by decide +kernel
theorem Qj7:("letter " : Str).cps.toList=("letter" : Str).cps.toList++[32]:=by decide +kernel
theorem Qj8:("rule " : Str).cps.toList=("rule" : Str).cps.toList++[32]:=by decide +kernel
theorem Qj9:(" : " : Str).cps.toList=[32]++(":" : Str).cps.toList++[32]:=by decide +kernel
theorem plT(n:Str)(h:Nat):("place " : Str)++n++(if h=0 then(" one" : Str) else(" other" : Str))=Txt.join " " (Lf (n,h)):=by
 unfold Lf
 rw [j2,j2,j1]
 refine El ?_
 split
 ·rename_i e
  have e:h=0:=e
  subst e
  simp only [Cg,Yp,Qg4,Qj5,if_pos,List.append_assoc]
 ·rename_i e
  simp only [Cg,Yp,Qg4,Qj6,List.append_assoc]
theorem leT(n:Str):("letter " : Str)++n=Txt.join " " (Lg n):=by
 unfold Lg
 rw [j2,j1]
 refine El ?_
 simp only [Cg,Yp,Qj7,List.append_assoc]
theorem ruT(b c e:Str):("rule " : Str)++b ++ " " ++ c ++ " : " ++ e=Txt.join " " [("rule" : Str),b,c,(":" : Str),e]:=by
 rw [j2,j2,j2,j2,j1]
 refine El ?_
 simp only [Cg,Yp,Qj8,Qj9,List.append_assoc]
theorem Oz(z:Str):∀{ws:List Str},ws≠[]->Txt.join " " (ws++[z])=Txt.join " " ws ++ " " ++ z
 | [x],_=>by rw [List.singleton_append,j2,j1,j1]
 | x :: y :: r,_=>by
  rw [Ycg,Ycg,j2,<- Ycg,Oz z (by simp),j2]
  refine El ?_
  simp only [Cg,List.append_assoc]
theorem R4{z:Str}(h:NameOk z):z.length<=6:=h.b
theorem Qc8:("place " : Str).length=6:=by decide +kernel
theorem Qg5:∀h:Nat,(if h=0 then(" one" : Str) else(" other" : Str)).length<=6:=λh=>by split <;> decide +kernel
theorem Qg6:("letter " : Str).length=7:=by decide +kernel
theorem R5:("rule " : Str).length=5:=by decide +kernel
theorem Fx:(" " : Str).length=1:=by decide +kernel
theorem R6:(" : " : Str).length=3:=by decide +kernel
theorem Lj{g:Gt}(hg:GG g){k:Nat}(h:k < g.pl.length):∃p,g.pl[k]?=some p/\J5 g k=p.1/\NameOk p.1:=by
 refine⟨g.pl[k],List.getElem?_eq_getElem h,?_,(hg.pn _ (Ybg h)).1⟩
 unfold J5
 rw [List.getD_eq_getElem?_getD,List.getElem?_map,List.getElem?_eq_getElem h];rfl
theorem Jx{g:Gt}(hg:GG g){k:Nat}(h:k < g.le.length):g.le[k]?=some (G8 g k)/\NameOk (G8 g k):=by
 unfold G8
 rw [List.getD_eq_getElem?_getD,List.getElem?_eq_getElem h]
 exact⟨rfl,hg.ln _ (Ybg h)⟩
theorem Np(g:Gt):rowsT g=g.pl.map (λp=>Txt.join " " (Lf p))++g.le.map (λz=>Txt.join " " (Lg z))++g.rs.map (λr=>Txt.join " " (Mh g r)):=by
 unfold rowsT Gc
 rw [Yac,Yac,Ya0,Ya0,Ya0];rfl
theorem jl5{b c e:Str}(hb:b.length<=6)(hc:c.length<=6)(he:e.length<=6):(Txt.join " " [("rule" : Str),b,c,(":" : Str),e]).length<=30:=by
 rw [<- ruT,A3,A3,A3,A3,A3,R5,Fx,R6];omega
def Qc9:ASp:=λxs μ R=>∃(g:Gt),xs=[.D (Ig g)]/\GG g/\∀p μ',μ p=none->μ' p=some (.lst ((rowsT g).map Ad))->Sub μ μ'->R (.R p) μ'
theorem Qg7{n:Nat}(F:Fun K "_law_rows" "_law_rows" Zi f fd):FnOk P w K mg base Fh (n+1) f fd ["_law_game"] (Ji K 1 Qc9):=by
 refine F.vok Hw λaw A outer s H E hr=>⟨_,(Af (Us (vv 0) (Ep (n:=3) rfl (Bg (Av (i:=1) Hw.nd rfl (Or.inl rfl)) (Bg (Av (i:=2) Hw.nd rfl (Or.inl rfl)) (Bg (Av (i:=3) Hw.nd rfl (Or.inl rfl)) C7)))))
   (Af (G3 (i:=4) (N':=["_law_name","_law_hand"]) (mp:=[none,none]) rfl Hw.nd rfl rfl (Cb (vv 1)) (λ_ _ _ _=>(Ep (n:=2) rfl (Bg (Av (i:=0) Z8 rfl (Or.inl rfl) (Or.inr rfl)) (Bg (Av (i:=1) Z8 rfl (Or.inl rfl) (Or.inr rfl)) C7)))) (λ_ _ _ _=>Br) (λ_ _ _ _=>(Ay Al (Ay Al Ah (vv 0)) (Ba Bm (Bq (Ab Ah (Ab Ah Ae))) (vv 1)))) (Bk (N:=nRw) (pn:=(Ai Zi).names) (by decide +kernel)))
   (Af (Dy (Ew PySem.F.slot_list_extend PySem.F.type_list_extend Um (vv 4) (Ab (Cm (N':=["_law_name"]) (mp:=[none]) rfl (Cb (vv 2)) (λ_ _ _ _=>(Av (i:=0) Qg3 rfl (Or.inl rfl) (Or.inr rfl))) (λ_ _ _ _=>Br) (λ_ _ _ _=>(Ay Al Ah (vv 0))) (Bk (N:=nRw) (pn:=(Ai Zi).names) (by decide +kernel))) Ae)))
   (Af (Di Ybu rfl (Cb (vv 3)) (Ep (n:=4) rfl (Bg (Av (i:=5) Hw.nd rfl (Or.inl rfl)) (Bg (Av (i:=6) Hw.nd rfl (Or.inl rfl)) (Bg (Av (i:=7) Hw.nd rfl (Or.inl rfl)) (Bg (Av (i:=8) Hw.nd rfl (Or.inl rfl)) C7))))) (Af (Aw (i:=9) Hw.nd rfl (Or.inl rfl) (Ay Al (Ay Al (Ay Al (Ay Al (Ay Al Ah (Ba Bm (Ba Bm (vv 1) (vv 5)) Ag)) Ah) (Ba Bm (vv 2) (vv 6))) Ah) (Ba Bm (Ba Bm (vv 1) (vv 7)) Ag)))
   (Af (Di Ybu rfl (Cb (vv 8)) (Av (i:=10) Hw.nd rfl (Or.inl rfl)) (An (Aw (i:=9) Hw.nd rfl (Or.inl rfl) (Ay Al (Ay Al (vv 9) Ah) (Ba Bm (vv 2) (vv 10))))))
   (An (Dy (Ew Ybw Ybx Dr (vv 4) (Ab (vv 9) Ae)))))))
   (An (Bd (vv 4))))))),?_⟩
 rintro xs μ R _ ⟨g,rfl,hg,q⟩
 refine Cj ⟨rfl,Qj3 ?_⟩
 dsimp only [List.set,C3]
 have cp:=hg.p5
 have hl5:=hg.l5
 have hrn:=hg.rn
 have qz:∀ μ:M,items μ (.D (.tuple (g.pl.map Fw)))=some (g.pl.map Sd):=fun μ=>by show some ((g.pl.map Fw).map AV.D)=_;rw [Ya0];rfl
 have ux:∀ μ:M,items μ (.D (.tuple (g.le.map PyData.str)))=some (g.le.map Ad):=fun μ=>by show some ((g.le.map PyData.str).map AV.D)=_;rw [Ya0];rfl
 have hri:∀ μ:M,items μ (.D (.tuple (g.rs.map Ml)))=some (g.rs.map Mm):=fun μ=>by show some ((g.rs.map Ml).map AV.D)=_;rw [Ya0];rfl
 refine Ap (fun τ μ'=>∃pr,τ=[some (.D (Ig g)),some (.D (.tuple (g.pl.map Fw))),some (.D (.tuple (g.le.map .str))),some (.D (.tuple (g.rs.map Ml))),some (.R pr),none,none,none,none,none,none]/\μ pr=none/\μ' pr=some (.lst ((g.pl.map λp=>Txt.join " " (Lf p)).map Ad))/\Sub μ μ') (λZ hZ=>?_) ?_
 ·refine Aa (qz _) λpr cb=>?_
  refine Hf (λj ah τ μ'=>∃o1 o2,τ=[o1,o2]/\ah=((g.pl.take j).map λp=>Txt.join " " (Lf p)).map Ad/\μ' pr=some (.lst ah)/\∀b m,b≠pr->μ b=some m->μ' b=some m) ⟨none,none,rfl,rfl,Ac,λb m hb h=>by rw [Am hb];exact h⟩ (λ_ _ _ _ _=>qz _) ?_ ?_
  ·rintro j x ah τ μ2 Z2 hx ⟨o1,o2,rfl,rfl,e2,S2⟩ hZ2
   rw [List.getElem?_map]at hx
   obtain⟨⟨nm,hd⟩,hp,rfl⟩:=Yax.mp hx
   have hpo:=hg.pn _ (Ya9 hp)
   have jz:=R4 hpo.1
   have jz:nm.length<=6:=jz
   have h2:hd < 2:=hpo.2
   have hj:=(List.getElem?_eq_some_iff.mp hp).1
   refine⟨rfl,Gr rfl ⟨by rw [Qc8];exact seven (by omega),λpz iy=>Aa Ac ?_⟩⟩
   have k1:pr≠pz:=by rintro rfl;rw [e2]at iy;cases iy
   have gt:atI [Ad " one",Ad " other"] (hd:Int)=some (Ad (if hd=0 then(" one" : Str) else(" other" : Str))):=by
    rcases(show hd=0\/hd=1 by omega) with rfl | rfl
    ·exact Ao (j:=0) rfl
    ·exact Ao (j:=1) rfl
   refine Aa gt ⟨?_,?_⟩
   ·have:=Qg5 hd
    rw [A3,Qc8];exact seven (by omega)
   ·rw [plT]
    refine⟨by rw [Am k1];exact e2,Bt (by rw [Yaa,Yaa,Ybd];omega),hZ2 _ _ _ ⟨_,_,rfl,?_,Ac,λb m hb hm=>?_⟩⟩
    ·rw [Ycw,hp,Yac,Yac];rfl
    ·have:=S2 b m hb hm
     rw [Am hb,Am (by rintro rfl;rw [this]at iy;cases iy)];exact this
  ·rintro ah τ μ2 ⟨o1,o2,rfl,rfl,e2,S2⟩
   rw [Yaa,Ycb]at e2
   exact hZ _ _ ⟨pr,rfl,cb,e2,λb m hb=>S2 b m (by rintro rfl;rw [cb]at hb;cases hb) hb⟩
 rintro τ μ1 ⟨pr,rfl,cb,e1,S1⟩
 refine Ap (fun τ μ'=>τ=[some (.D (Ig g)),some (.D (.tuple (g.pl.map Fw))),some (.D (.tuple (g.le.map .str))),some (.D (.tuple (g.rs.map Ml))),some (.R pr),none,none,none,none,none,none]/\μ' pr=some (.lst ((g.pl.map (λp=>Txt.join " " (Lf p))++g.le.map λz=>Txt.join " " (Lg z)).map Ad))/\Sub μ μ') (λZ hZ=>?_) ?_
 ·refine⟨Aa e1 trivial,Aa (ux _) λpl hpl=>?_⟩
  have k1:pr≠pl:=by rintro rfl;rw [e1]at hpl;cases hpl
  refine cmap g.le Ad (λz=>Ad (Txt.join " " (Lg z))) (fun τ=>∃o,τ=[o]) ⟨none,rfl⟩ Ac (seven (by omega)) (λ_=>ux _) ?_ ?_
  ·rintro i z τ' ah W hi ⟨o,rfl⟩ hW
   have:=R4 (hg.ln _ (Ya9 hi))
   refine⟨by rw [Qg6];exact seven (by omega),?_⟩
   rw [leT]
   exact hW _ ⟨_,rfl⟩
  ·have e1':Aj (Aj μ1 pl (.lst [])) pl (.lst (g.le.map λz=>Ad (Txt.join " " (Lg z)))) pr=some (.lst ((g.pl.map λp=>Txt.join " " (Lf p)).map Ad)):=by rw [Am k1,Am k1];exact e1
   refine Aa e1' (Aa Ac ⟨?_,hZ _ _ ⟨rfl,?_,λb m hb=>?_⟩⟩)
   ·rw [Yaa,Yaa,Yaa];exact seven (by omega)
   ·rw [Ac,Yac,Ya0,Ya0];rfl
   ·rw [Am (by rintro rfl;rw [cb]at hb;cases hb)]
    exact((Sub.refl.new hpl).new hpl) b m (S1 b m hb)
 rintro τ μ2 ⟨rfl,e2,S2⟩
 refine Ap (fun τ μ'=>∃o5 o6 o7 o8 o9 de,τ=[some (.D (Ig g)),some (.D (.tuple (g.pl.map Fw))),some (.D (.tuple (g.le.map .str))),some (.D (.tuple (g.rs.map Ml))),some (.R pr),o5,o6,o7,o8,o9,de]/\μ' pr=some (.lst ((rowsT g).map Ad))/\Sub μ μ') (λZ hZ=>?_) ?_
 ·refine Aa (hri _) ?_
  refine Ey (λi τ μ'=>∃o5 o6 o7 o8 o9 de,τ=[some (.D (Ig g)),some (.D (.tuple (g.pl.map Fw))),some (.D (.tuple (g.le.map .str))),some (.D (.tuple (g.rs.map Ml))),some (.R pr),o5,o6,o7,o8,o9,de]/\μ' pr=some (.lst ((g.pl.map (λp=>Txt.join " " (Lf p))++g.le.map (λz=>Txt.join " " (Lg z))++(g.rs.take i).map λr=>Txt.join " " (Mh g r)).map Ad))/\Sub μ μ') ⟨none,none,none,none,none,none,rfl,by rw [List.take_zero,Yc1,Ybi];exact e2,S2⟩ (λ_ _ _ _=>hri _) ?_ ?_
  ·rintro i y τ μ3 Z2 hy ⟨o5,o6,o7,o8,o9,de,rfl,e3,S3⟩ hZ2
   rw [List.getElem?_map]at hy
   obtain⟨r,hr,rfl⟩:=Yax.mp hy
   have hi:=(List.getElem?_eq_some_iff.mp hr).1
   obtain⟨h1,h2,h3,h4,h5⟩:=hg.r r (Ya9 hr)
   obtain⟨p,ep,np,op⟩:=Lj hg h1
   obtain⟨q',pg,nq,oq⟩:=Lj hg h3
   obtain⟨ex,ox⟩:=Jx hg h2
   refine⟨rfl,Qj4 ?_⟩
   dsimp only [List.set]
   have lp:=R4 op
   have lq:=R4 oq
   have lx:=R4 ox
   have atp:atI (g.pl.map Fw) (r.p:Int)=some (Fw p):=Ao (by rw [List.getElem?_map,ep];rfl)
   have atq:atI (g.pl.map Fw) (r.q:Int)=some (Fw q'):=Ao (by rw [List.getElem?_map,pg];rfl)
   have atx:atI (g.le.map PyData.str) (r.x:Int)=some (.str (G8 g r.x)):=Ao (by rw [List.getElem?_map,ex];rfl)
   rw [<- np]at lp
   rw [<- nq]at lq
   have hlb:=jl5 lp lx lq
   refine Ap (fun τ μ'=>τ=[some (.D (Ig g)),some (.D (.tuple (g.pl.map Fw))),some (.D (.tuple (g.le.map .str))),some (.D (.tuple (g.rs.map Ml))),some (.R pr),some (.D (.int r.p)),some (.D (.int r.x)),some (.D (.int r.q)),some (.D (E2 r.w)),some (Ad (Txt.join " " [("rule" : Str),J5 g r.p,G8 g r.x,(":" : Str),J5 g r.q])),de]/\μ3=μ') (λZ3 bi=>?_) ?_
   ·refine Aa atp (Aa (Ao (j:=0) rfl) ⟨?_,?_,Aa atx ⟨?_,?_,Aa atq (Aa (Ao (j:=0) rfl) ⟨?_,?_⟩)⟩⟩)
    ·rw [<- np,R5];exact seven (by omega)
    ·rw [<- np,A3,R5,Fx];exact seven (by omega)
    ·rw [<- np,A3,A3,R5,Fx];exact seven (by omega)
    ·rw [<- np,A3,A3,A3,R5,Fx,R6];exact seven (by omega)
    ·rw [<- np,<- nq,A3,A3,A3,A3,R5,Fx,R6];exact seven (by omega)
    ·rw [<- np,<- nq,ruT];exact bi _ _ ⟨rfl,rfl⟩
   rintro τ _ ⟨rfl,rfl⟩
   refine Ap (fun τ μ'=>∃de,τ=[some (.D (Ig g)),some (.D (.tuple (g.pl.map Fw))),some (.D (.tuple (g.le.map .str))),some (.D (.tuple (g.rs.map Ml))),some (.R pr),some (.D (.int r.p)),some (.D (.int r.x)),some (.D (.int r.q)),some (.D (E2 r.w)),some (Ad (Txt.join " " (Mh g r))),de]/\μ3=μ') (λZ3 bi=>?_) ?_
   ·refine Aa (Jt r.w) ?_
    refine Ey (λi τ μ'=>∃de,τ=[some (.D (Ig g)),some (.D (.tuple (g.pl.map Fw))),some (.D (.tuple (g.le.map .str))),some (.D (.tuple (g.rs.map Ml))),some (.R pr),some (.D (.int r.p)),some (.D (.int r.x)),some (.D (.int r.q)),some (.D (E2 r.w)),some (Ad (Txt.join " " ([("rule" : Str),J5 g r.p,G8 g r.x,(":" : Str),J5 g r.q]++(r.w.take i).map (G8 g)))),de]/\(Txt.join " " ([("rule" : Str),J5 g r.p,G8 g r.x,(":" : Str),J5 g r.q]++(r.w.take i).map (G8 g))).length<=30+7 * i/\μ3=μ') ⟨_,rfl,by rw [List.take_zero,Yc1,Ybi];omega,rfl⟩ (λ_ _ _ _=>Jt r.w) ?_ ?_
    ·rintro j y τ μ4 Z4 hy ⟨de,rfl,hlj,rfl⟩ hZ4
     rw [List.getElem?_map]at hy
     obtain⟨k,hk,rfl⟩:=Yax.mp hy
     have hj:=(List.getElem?_eq_some_iff.mp hk).1
     obtain⟨ek,ok⟩:=Jx hg (h5 k (Ya9 hk))
     have lk:=R4 ok
     have atk:atI (g.le.map PyData.str) (k:Int)=some (.str (G8 g k)):=Ao (by rw [List.getElem?_map,ek];rfl)
     have bg:(r.w.take (j+1)).map (G8 g)=(r.w.take j).map (G8 g)++[G8 g k]:=by rw [Ycw,hk,Yac];rfl
     refine⟨?_,Aa atk ⟨?_,hZ4 _ _ ⟨some (.D (.int k)),?_,?_,rfl⟩⟩⟩
     ·rw [Fx];exact seven (by omega)
     ·rw [A3,Fx];exact seven (by omega)
     ·rw [bg,<- Ybk,Oz _ (by simp)];rfl
     ·rw [bg,<- Ybk,Oz _ (by simp),A3,A3,Fx];omega
    ·rintro τ μ4 ⟨de,rfl,hlj,rfl⟩
     refine bi _ _ ⟨de,?_,rfl⟩
     rw [Yaa,Ycb];rfl
   rintro τ _ ⟨de,rfl,rfl⟩
   refine⟨Aa e3 trivial,Aa e3 ⟨Bt ?_,hZ2 _ _ ⟨_,_,_,_,_,_,rfl,?_,λb m hb=>?_⟩⟩⟩
   ·simp only [List.length_map,List.length_append,List.length_take];omega
   ·rw [Ac,Ycw,hr,Yac (l₂:=(some r).toList),<- Ybk,Yac (l₂:=List.map _ (some r).toList)];rfl
   ·rw [Am (by rintro rfl;rw [cb]at hb;cases hb)];exact S3 b m hb
  ·rintro τ μ3 ⟨o5,o6,o7,o8,o9,de,rfl,e3,S3⟩
   rw [Yaa,Ycb]at e3
   refine hZ _ _ ⟨_,_,_,_,_,_,rfl,?_,S3⟩
   rw [Np]
   exact e3
 rintro τ μ3 ⟨o5,o6,o7,o8,o9,de,rfl,e3,S3⟩
 exact⟨_,Sub.refl,q pr _ cb e3 S3⟩
end
section
variable {P:Program}{w:World}{K:PySem.W.Frag}{mg:Str->Option Value}{base:Heap}{f:Addr}{fd:FuncData}
theorem Cq{x y:Str}(hx:asc x)(hy:asc y):asc (x++y):=λc hc=>by
 rw [Cg]at hc
 rcases Ya5.mp hc with h | h
 ·exact hx c h
 ·exact hy c h
theorem Dd{x:Str}(h:lets x):asc x:=λc hc=>by have:=h c hc;omega
theorem Z9:asc ("" : Str):=λc hc=>by rw [Vb]at hc;cases hc
theorem Yq{c:Nat}(h:c<=126):asc ⟨#[c]⟩:=λd hd=>by
 have:d=c:=by simpa using hd
 rw [this];exact h
theorem Hl{x:Str}(lo hi:Option Int)(h:asc x):asc (Txt.slice x lo hi):=λc hc=>by
 have hc:c∈(StrLaws.sliceText x lo hi).cps.toList:=hc
 unfold StrLaws.sliceText at hc
 split at hc
 ·exact h c hc
 ·have hc:c∈(List.filterMap (λi=>x.cps[i]?) (Builtin.Str.strSliceIndices lo hi 1 x.length)).toArray.toList:=hc
  rw [List.toList_toArray,List.mem_filterMap]at hc
  obtain⟨i,_,e⟩:=hc
  exact h c (by simpa using Array.mem_of_getElem? e)
theorem Jy{c:Nat}(hc:c<=126):∀{ws:List Str},(∀z∈ws,asc z)->asc (Str.join ⟨#[c]⟩ ws)
 | [],_=>λd hd=>by simp [Str.join,Str.empty]at hd
 | [x],h=>h x Yao
 | x :: y :: r,h=>λd hd=>by
  rw [Db]at hd
  rcases Ya5.mp hd with hd | hd
  ·exact h x Yao d hd
  ·rcases Ybb.mp hd with rfl | hd
   ·exact hc
   ·exact Jy hc (λz hz=>h z (Yae _ hz)) d hd
def jsum(ws:List Str):Nat:=(ws.map λw=>w.length+1).sum
theorem Dt(a b:List Str):jsum (a++b)=jsum a+jsum b:=by unfold jsum;rw [Yac,List.sum_append]
theorem Qf(n:Nat)(ws:List Str):jsum (ws.take n)+jsum (ws.drop n)=jsum ws:=by rw [<- Dt,List.take_append_drop]
theorem Wd(z:Str):jsum [z]=z.length+1:=by simp [jsum]
theorem Mi(ws:List Str):jsum ws=(ws.map (·.length)).sum+ws.length:=by
 unfold jsum
 induction ws with
 | nil=>rfl
 | cons x r ih=>simp only [List.map_cons,List.sum_cons,List.length_cons,ih];omega
theorem Fq{c:Nat}:∀{ws:List Str},ws≠[]->(Str.join ⟨#[c]⟩ ws).length+1=jsum ws
 | [x],_=>by simp [jsum,Str.join]
 | x :: y :: r,_=>by
  have:=Fq (c:=c) (ws:=y :: r) (by simp)
  rw [Bj,Db,Yai,Yba,<- Bj,<- Bj]
  show _=jsum (x :: y :: r)
  rw [show jsum (x :: y :: r)=(x.length+1)+jsum (y :: r) by simp [jsum]]
  omega
theorem O0(row:Str):jsum (Txt.split row " ")=row.length+1:=by
 have:=Fq (c:=32) (Gw row " ")
 rw [<- Eu,Ydn]at this
 exact this.symm
theorem Ev{ws:List Str}{N:Nat}(h:jsum ws<=N)(ha:∀z∈ws,asc z):asc (Txt.join " " ws)/\(Txt.join " " ws).length<=N:=by
 rw [Dz,Eu]
 refine⟨Jy (by decide) ha,?_⟩
 cases ws with
 | nil=>exact Yb0 _
 | cons x r=>have:=Fq (c:=32) (ws:=x :: r) (by simp);omega
theorem R7{row:Str}(h:asc row):∀z∈Txt.split row " ",asc z:=λz hz=>by
 rw [Eu]at hz
 exact(C5 hz).1 h
def gS(n:Nat)(t:AE)(τ:ASt)(μ:M):Prop:=∀R:AV->M->Prop,(∀z,asc z->z.length<=n->R (Ad z) μ)->t τ μ R
def Yr(z:Str):Bool:=z.cps.toList.all λc=>decide (c<=126)
theorem Eb{z:Str}(h:Yr z=true):asc z:=λc hc=>Yaf (Ybs.mp h c hc)
theorem B8{z:Str}{τ:ASt}{μ:M}(h:Yr z=true:=by decide +kernel):gS z.length (vC (.D (.str z))) τ μ:=λR q=>q z (Eb h) (Yag _)
theorem Cz{i n:Nat}{z:Str}{τ:ASt}{μ:M}(e:τ[i]?=some (some (Ad z)))(h:asc z)(hn:z.length<=n):gS n (Gj i) τ μ:=λR q=>by
 show(match τ[i]? with | some (some x)=>R x μ | _=>False)
 rw [e]
 exact q z h hn
theorem B5{n m:Nat}{t u:AE}{τ:ASt}{μ:M}(h1:gS n t τ μ)(h2:gS m u τ μ)(hb:n+m<=1000:=by decide +kernel):gS (n+m) (Sc L9 t u) τ μ:=λR q=>by
 refine h1 _ λx ax lx=>h2 _ λy ay ly=>⟨?_,q (x++y) (Cq ax ay) ?_⟩
 ·exact seven (by omega)
 ·rw [A3];omega
def gA(k n:Nat)(t:AA)(τ:ASt)(μ:M):Prop:=∀R:List AV->M->Prop,(∀zs:List Str,zs.length=k->(∀z∈zs,asc z/\z.length<=n)->R (zs.map Ad) μ)->t τ μ R
theorem R8{n:Nat}{τ:ASt}{μ:M}:gA 0 n Nb τ μ:=λR q=>q [] rfl (λ_ h=>nomatch h)
theorem C6{k n m:Nat}{t:AE}{u:AA}{τ:ASt}{μ:M}(h1:gS m t τ μ)(h2:gA k n u τ μ)(hm:m<=n:=by decide +kernel):gA (k+1) n (K2 t u) τ μ:=λR q=>by
 refine h1 _ λx ax lx=>h2 _ λzs hk hz=>q (x :: zs) (by rw [Yba,hk]) λz uz=>?_
 rcases Ybb.mp uz with rfl | h
 ·exact⟨ax,by omega⟩
 ·exact hz z h
theorem B3{P:Str->Prop}{a b:List Str}(ha:∀z∈a,P z)(hb:∀z∈b,P z):∀z∈a++b,P z:=λz hz=>by
 rcases Ya5.mp hz with h | h
 ·exact ha z h
 ·exact hb z h
theorem Ys{x:List Str}(h:x≠[]):∃z∈x,atI (x.map Ad) (-1)=some (Ad z):=by
 have hl:0 < x.length:=List.length_pos_iff.mpr h
 refine⟨x[x.length - 1]'(by omega),Ybg _,?_⟩
 unfold L2.atI
 rw [Yaa,Qe hl]
 show(x.map Ad)[x.length - 1]?=_
 rw [List.getElem?_map,List.getElem?_eq_getElem (show x.length - 1 < x.length by omega)];rfl
abbrev sgns:Str := " !#$&'()*+,-./0123456789:;<=>?@ABCDEFGHIJKLMNOPQRSTUVWXYZ[]^_`{|}~\"\\\n"
theorem We:sgns.length<=100:=by decide +kernel
theorem Qda:Yr (sgns ++ "abcdefghijklmnopqrstuvwxyz")=true:=by decide +kernel
theorem Qaa:(sgns ++ "abcdefghijklmnopqrstuvwxyz").length=sgns.length+26:=by decide +kernel
theorem Qg8{v:Nat}(h:v < sgns.length+26):∃c,atI (sgns ++ "abcdefghijklmnopqrstuvwxyz").cps.toList (v:Int)=some c/\c<=126:=by
 have h2:v < (sgns ++ "abcdefghijklmnopqrstuvwxyz").cps.toList.length:=by rw [<- Bj,Qaa];exact h
 exact⟨_,Ao (List.getElem?_eq_getElem h2),Eb Qda _ (Ybg h2)⟩
theorem w14:∀z∈(["place","letter","rule","own","arrow","ends","one","other",":","","abcdefg","A","a1","a-b"]:List Str)++(["Place","x","1","::","a:"]:List Str),(Yr z && decide (z.length<=7))=true:=by decide +kernel
abbrev nOr:List Str:=["_law_deal_here","_law_row","_law_names_here","_law_words","_law_at","_law_some","_law_form","_law_word","_law_signs","_law_sign","_law_spot"]
theorem Kf:FnScope nOr ["_law_deal_here","_law_row","_law_names_here"] (Ai sOr):=⟨rfl,rfl,rfl,by decide +kernel,rfl,by decide +kernel,by decide +kernel⟩
def Qg9:ASp:=λxs μ R=>∃(a l pn:Addr) (row:Str) (zs:List Str),xs=[.R a,.D (.str row),.R pn]/\(pn≠a/\pn≠l)/\μ pn=some (.lst (zs.map Ad))/\(1<=zs.length/\zs.length<=10/\∀z∈zs,asc z/\z.length<=7)/\(asc row/\row.length<=1000)/\Pot μ a l/\∀(ap:Str) μ',asc ap->ap.length<=2 * row.length+20->Pot μ' a l->A5 a l μ μ'->R (.D (.str ap)) μ'
theorem Qha{n:Nat}(F:Fun K "_law_other_row" "_law_other_row" sOr f fd) (bp:VCal P w K mg base n "_law_draw" ["_law_deal_here","_law_many"] Js) (af:mg "len" = none):FnOk P w K mg base Fh (n+1) f fd ["_law_deal_here","_law_row","_law_names_here"] (Ji K 3 Qg9):=by
 refine F.vok Kf λaw A outer s H E hr=>⟨_,(@Af _ _ _ _ _ (@Aw _ _ _ _ 3 _ _ Kf.nd rfl (Or.inl rfl) (@Jh _ _ _ _ _ _ _ _ _ _ _ Yce Ycf G5 (vv 1) (@Ab _ _ _ _ _ Ah Ae (by rfl)) (by rfl) (by rfl) (by rfl) (by rfl) (by rfl)) (by rfl) (by first | exact .inl rfl | exact .inr rfl | assumption)) (@Af _ _ _ _ _ (@Aw _ _ _ _ 4 _ _ Kf.nd rfl (Or.inl rfl) (@Au _ _ _ _ _ _ _ _ _ _ bp hr rfl (@Ab _ _ _ _ _ (vv 0) (@Ab _ _ _ _ _ (@Ar _ _ _ _ _ _ _ _ _ Bo rfl af Yan (@Ab _ _ _ _ _ (vv 3) Ae (by rfl)) (by decide) (by decide) (by rfl) (by rfl)) Ae (by rfl)) (by rfl)) (by rfl) (by decide) (by rfl) (by rfl)) (by rfl) (by first | exact .inl rfl | exact .inr rfl | assumption)) (@Af _ _ _ _ _ (@Aw _ _ _ _ 5 _ _ Kf.nd rfl (Or.inl rfl) (@Bq _ _ _ _ (@Ab _ _ _ _ _ Ah (@Ab _ _ _ _ _ Ah (@Ab _ _ _ _ _ Ah (@Ab _ _ _ _ _ Ah (@Ab _ _ _ _ _ Ah (@Ab _ _ _ _ _ Ah (@Ab _ _ _ _ _ Ah (@Ab _ _ _ _ _ Ah (@Ab _ _ _ _ _ Ah (@Ab _ _ _ _ _ Ah (@Ab _ _ _ _ _ Ah (@Ab _ _ _ _ _ Ah (@Ab _ _ _ _ _ Ah (@Ab _ _ _ _ _ Ah Ae (by rfl)) (by rfl)) (by rfl)) (by rfl)) (by rfl)) (by rfl)) (by rfl)) (by rfl)) (by rfl)) (by rfl)) (by rfl)) (by rfl)) (by rfl)) (by rfl)) (by decide)) (by rfl) (by first | exact .inl rfl | exact .inr rfl | assumption)) (@Af _ _ _ _ _ (@Aw _ _ _ _ 5 _ _ Kf.nd rfl (Or.inl rfl) (@Ay _ _ _ _ _ _ _ _ Al (@Ay _ _ _ _ _ _ _ _ Al (vv 5) (@Bq _ _ _ _ (@Ab _ _ _ _ _ Ah (@Ab _ _ _ _ _ Ah (@Ab _ _ _ _ _ Ah (@Ab _ _ _ _ _ Ah (@Ab _ _ _ _ _ Ah Ae (by rfl)) (by rfl)) (by rfl)) (by rfl)) (by rfl)) (by decide))) (vv 2)) (by rfl) (by first | exact .inl rfl | exact .inr rfl | assumption)) (@Af _ _ _ _ _ (@Aw _ _ _ _ 6 _ _ Kf.nd rfl (Or.inl rfl) (@Au _ _ _ _ _ _ _ _ _ _ bp hr rfl (@Ab _ _ _ _ _ (vv 0) (@Ab _ _ _ _ _ Ag Ae (by rfl)) (by rfl)) (by rfl) (by decide) (by rfl) (by rfl)) (by rfl) (by first | exact .inl rfl | exact .inr rfl | assumption)) (@Af _ _ _ _ _ (@B1 _ _ _ _ _ _ _ _ (@Bf _ _ _ _ _ _ _ _ (Dv hr) (vv 6) Ag (nomark _)) (@An _ _ _ (@Bd _ _ _ _ (@Jh _ _ _ _ _ _ _ _ _ _ _ Yb9 Yca Hh Ah (@Ab _ _ _ _ _ (@Ay _ _ _ _ _ _ _ _ Al (@A8 _ _ _ _ _ _ _ _ _ (vv 3) A7 (@Be _ _ _ (vv 4))) (@A8 _ _ _ _ _ _ _ _ _ (vv 3) (@Be _ _ _ (@Ay _ _ _ _ _ _ _ _ Al (vv 4) Ag)) A7)) Ae (by rfl)) (by rfl) (by rfl) (by rfl) (by rfl) (by rfl)))) A9) (@Af _ _ _ _ _ (@B1 _ _ _ _ _ _ _ _ (@Bf _ _ _ _ _ _ _ _ (Dv hr) (vv 6) Ag (nomark _)) (@An _ _ _ (@Bd _ _ _ _ (@Jh _ _ _ _ _ _ _ _ _ _ _ Yb9 Yca Hh Ah (@Ab _ _ _ _ _ (@Ay _ _ _ _ _ _ _ _ Al (@A8 _ _ _ _ _ _ _ _ _ (vv 3) A7 (@Be _ _ _ (@Ay _ _ _ _ _ _ _ _ Al (vv 4) Ag))) (@A8 _ _ _ _ _ _ _ _ _ (vv 3) (@Be _ _ _ (vv 4)) A7)) Ae (by rfl)) (by rfl) (by rfl) (by rfl) (by rfl) (by rfl)))) A9) (@Af _ _ _ _ _ (@B1 _ _ _ _ _ _ _ _ (@Bf _ _ _ _ _ _ _ _ Qbr (vv 6) Ag (nomark _)) (@Af _ _ _ _ _ (@Aw _ _ _ _ 7 _ _ Kf.nd rfl (Or.inl rfl) (@Ba _ _ _ _ _ _ _ Bm (vv 5) (@Au _ _ _ _ _ _ _ _ _ _ bp hr rfl (@Ab _ _ _ _ _ (vv 0) (@Ab _ _ _ _ _ (@Ar _ _ _ _ _ _ _ _ _ Bo rfl af Yan (@Ab _ _ _ _ _ (vv 5) Ae (by rfl)) (by decide) (by decide) (by rfl) (by rfl)) Ae (by rfl)) (by rfl)) (by rfl) (by decide) (by rfl) (by rfl)) (by intro _ _;rfl)) (by rfl) (by first | exact .inl rfl | exact .inr rfl | assumption)) (@An _ _ _ (@Bd _ _ _ _ (@Jh _ _ _ _ _ _ _ _ _ _ _ Yb9 Yca Hh Ah (@Ab _ _ _ _ _ (@Ay _ _ _ _ _ _ _ _ Al (@Ay _ _ _ _ _ _ _ _ Al (@A8 _ _ _ _ _ _ _ _ _ (vv 3) A7 (@Be _ _ _ (vv 4))) (@Bq _ _ _ _ (@Ab _ _ _ _ _ (vv 7) Ae (by rfl)) (by decide))) (@A8 _ _ _ _ _ _ _ _ _ (vv 3) (@Be _ _ _ (@Ay _ _ _ _ _ _ _ _ Al (vv 4) (@Au _ _ _ _ _ _ _ _ _ _ bp hr rfl (@Ab _ _ _ _ _ (vv 0) (@Ab _ _ _ _ _ Ag Ae (by rfl)) (by rfl)) (by rfl) (by decide) (by rfl) (by rfl)))) A7)) Ae (by rfl)) (by rfl) (by rfl) (by rfl) (by rfl) (by rfl))))) A9) (@Af _ _ _ _ _ (@B1 _ _ _ _ _ _ _ _ (@Bf _ _ _ _ _ _ _ _ (Dv hr) (vv 6) Ag (nomark _)) (@An _ _ _ (@Bd _ _ _ _ (@Ba _ _ _ _ _ _ _ Bm (@Bq _ _ _ _ (@Ab _ _ _ _ _ (@Ay _ _ _ _ _ _ _ _ Al Ah (vv 1)) (@Ab _ _ _ _ _ (@Ay _ _ _ _ _ _ _ _ Al (vv 1) Ah) (@Ab _ _ _ _ _ (@Ay _ _ _ _ _ _ _ _ Al (@Ay _ _ _ _ _ _ _ _ Al (vv 1) Ah) (vv 1)) (@Ab _ _ _ _ _ (@Ay _ _ _ _ _ _ _ _ Al (@Ay _ _ _ _ _ _ _ _ Al (vv 1) Ah) (@Ba _ _ _ _ _ _ _ Bm (vv 3) (@Qb5 _ _ _ _ Ag) (by intro _ _;rfl))) Ae (by rfl)) (by rfl)) (by rfl)) (by rfl)) (by decide)) (@Au _ _ _ _ _ _ _ _ _ _ bp hr rfl (@Ab _ _ _ _ _ (vv 0) (@Ab _ _ _ _ _ Ag Ae (by rfl)) (by rfl)) (by rfl) (by decide) (by rfl) (by rfl)) (by intro _ _;rfl)))) A9) (@Af _ _ _ _ _ (@Aw _ _ _ _ 8 _ _ Kf.nd rfl (Or.inl rfl) Ah (by rfl) (by first | exact .inl rfl | exact .inr rfl | assumption)) (@Af _ _ _ _ _ (@Aw _ _ _ _ 9 _ _ Kf.nd rfl (Or.inl rfl) (@Ba _ _ _ _ _ _ _ Bm (@Ay _ _ _ _ _ _ _ _ Al (vv 8) Ah) (@Au _ _ _ _ _ _ _ _ _ _ bp hr rfl (@Ab _ _ _ _ _ (vv 0) (@Ab _ _ _ _ _ (@Ay _ _ _ _ _ _ _ _ Al (@Ar _ _ _ _ _ _ _ _ _ Bo rfl af Yan (@Ab _ _ _ _ _ (vv 8) Ae (by rfl)) (by decide) (by decide) (by rfl) (by rfl)) Ag) Ae (by rfl)) (by rfl)) (by rfl) (by decide) (by rfl) (by rfl)) (by intro _ _;rfl)) (by rfl) (by first | exact .inl rfl | exact .inr rfl | assumption)) (@Af _ _ _ _ _ (@Aw _ _ _ _ 10 _ _ Kf.nd rfl (Or.inl rfl) (@Au _ _ _ _ _ _ _ _ _ _ bp hr rfl (@Ab _ _ _ _ _ (vv 0) (@Ab _ _ _ _ _ (@Ay _ _ _ _ _ _ _ _ Al (@Ar _ _ _ _ _ _ _ _ _ Bo rfl af Yan (@Ab _ _ _ _ _ (vv 1) Ae (by rfl)) (by decide) (by decide) (by rfl) (by rfl)) Ag) Ae (by rfl)) (by rfl)) (by rfl) (by decide) (by rfl) (by rfl)) (by rfl) (by first | exact .inl rfl | exact .inr rfl | assumption)) (@An _ _ _ (@Bd _ _ _ _ (@Ay _ _ _ _ _ _ _ _ Al (@Ay _ _ _ _ _ _ _ _ Al (@A8 _ _ _ _ _ _ _ _ _ (vv 1) A7 (@Be _ _ _ (vv 10))) (@Ba _ _ _ _ _ _ _ Bm (@Bq _ _ _ _ (@Ab _ _ _ _ _ (vv 9) (@Ab _ _ _ _ _ Ah Ae (by rfl)) (by rfl)) (by decide)) (@Au _ _ _ _ _ _ _ _ _ _ bp hr rfl (@Ab _ _ _ _ _ (vv 0) (@Ab _ _ _ _ _ Ag Ae (by rfl)) (by rfl)) (by rfl) (by decide) (by rfl) (by rfl)) (by intro _ _;rfl))) (@A8 _ _ _ _ _ _ _ _ _ (vv 1) (@Be _ _ _ (@Ay _ _ _ _ _ _ _ _ Al (vv 10) (@Au _ _ _ _ _ _ _ _ _ _ bp hr rfl (@Ab _ _ _ _ _ (vv 0) (@Ab _ _ _ _ _ Ag Ae (by rfl)) (by rfl)) (by rfl) (by decide) (by rfl) (by rfl)))) A7)))))))))))))))),?_⟩
 rintro xs μ R _ ⟨a,l,pn,row,zs,rfl,bn,en,hz,jy,hP,q⟩
 obtain⟨harow,hlrow⟩:=jy
 have uo:=O0 row
 have ls:=R7 harow
 have wu:=Gw row " "
 have hwn:(Txt.split row " ").length<=row.length+1:=by
  have:=Eh row 32
  rw [<- Eu]at this;exact this
 have y7:row.length<=sizeLine:=seven hlrow
 have hws:∃ws,Txt.split row " " = ws:=⟨_,rfl⟩
 obtain⟨ws,ews⟩:=hws
 rw [ews]at uo ls wu hwn
 have fin:∀{z:Str} {μ':M},asc z->z.length<=2 * row.length+20->Pot μ' a l->A5 a l μ μ'->Wq R (.D (.str z)) μ':=λh1 h2 h3 h4=>⟨_,Sub.refl,q _ _ h1 h2 h3 h4⟩
 have jb:∀{xs:List Str},jsum xs<=2 * row.length+20->(xs.map (·.length)).sum+xs.length * (" " : Str).length<=16777216:=λ{xs} hj=>by
  rw [Fx]
  rw [Mi]at hj
  omega
 refine Ap (fun τ μ'=>∃pw,τ=[some (.R a),some (Ad row),some (.R pn),some (.R pw),none,none,none,none,none,none,none]/\(pw≠a/\pw≠l)/\μ' pw=some (.lst (ws.map Ad))/\μ' pn=some (.lst (zs.map Ad))/\Pot μ' a l/\A5 a l μ μ') (λZ hZ=>?_) ?_
 ·refine⟨trivial,Ot,by omega,λpw dg=>?_⟩
  have bo:=hP.ne dg
  refine hZ _ _ ⟨pw,rfl,⟨bo.1.symm,bo.2.symm⟩,by rw [Ac,ews];rfl,A5.refl.new dg pn _ bn.1 bn.2 en,hP.new dg,A5.refl.new dg⟩
 rintro τ μ1 ⟨pw,rfl,dg,e1,n1,P1,S1⟩
 refine Ap (fun τ μ'=>∃at':Nat,τ=[some (.R a),some (Ad row),some (.R pn),some (.R pw),some (.D (.int at')),none,none,none,none,none,none]/\at' < ws.length/\μ' pw=some (.lst (ws.map Ad))/\μ' pn=some (.lst (zs.map Ad))/\Pot μ' a l/\A5 a l μ μ') (λZ hZ=>?_) ?_
 ·have jq:0 < ws.length:=List.length_pos_iff.mpr wu
  refine Aa e1 ⟨a,l,ws.length,by rw [Yaa],P1,jq,by omega,λv μ2 hv P2 S2=>hZ _ _ ⟨v,rfl,hv,S2 pw _ dg.1 dg.2 e1,S2 pn _ bn.1 bn.2 n1,P2,S1.trans S2⟩⟩
 rintro τ μ2 ⟨at',rfl,gt,e2,n2,P2,S2⟩
 refine Ap (fun τ μ'=>∃p5,τ=[some (.R a),some (Ad row),some (.R pn),some (.R pw),some (.D (.int at')),some (.R p5),none,none,none,none,none]/\(p5≠a/\p5≠l)/\μ' p5=some (.lst ((["place","letter","rule","own","arrow","ends","one","other",":","","abcdefg","A","a1","a-b"]:List Str).map Ad))/\μ' pw=some (.lst (ws.map Ad))/\μ' pn=some (.lst (zs.map Ad))/\Pot μ' a l/\A5 a l μ μ') (λZ hZ=>?_) ?_
 ·refine λp5 cp=>hZ _ _ ⟨p5,rfl,⟨(P2.ne cp).1.symm,(P2.ne cp).2.symm⟩,Ac,A5.refl.new cp pw _ dg.1 dg.2 e2,A5.refl.new cp pn _ bn.1 bn.2 n2,P2.new cp,S2.new cp⟩
 rintro τ μ3 ⟨p5,rfl,cp,f3,e3,n3,P3,S3⟩
 refine Ap (fun τ μ'=>∃p5,∃so:List Str,τ=[some (.R a),some (Ad row),some (.R pn),some (.R pw),some (.D (.int at')),some (.R p5),none,none,none,none,none]/\(p5≠a/\p5≠l)/\μ' p5=some (.lst (so.map Ad))/\(1<=so.length/\so.length<=100/\∀z∈so,asc z/\z.length<=7)/\μ' pw=some (.lst (ws.map Ad))/\Pot μ' a l/\A5 a l μ μ') (λZ hZ=>?_) ?_
 ·intro p6 i3
  have T1:A5 a l μ3 (Aj μ3 p6 (.lst ((["Place","x","1","::","a:"]:List Str).map Ad))):=A5.refl.new i3
  have P4:Pot (Aj μ3 p6 (.lst ((["Place","x","1","::","a:"]:List Str).map Ad))) a l:=P3.new i3
  have g6:Aj μ3 p6 (.lst ((["Place","x","1","::","a:"]:List Str).map Ad)) p6=some (.lst ((["Place","x","1","::","a:"]:List Str).map Ad)):=Ac
  refine Aa (T1 p5 _ cp.1 cp.2 f3) (Aa g6 ⟨by decide,λp7 jt=>?_⟩)
  rw [<- Yac]
  have T2:=T1.new (o:=.lst (((["place","letter","rule","own","arrow","ends","one","other",":","","abcdefg","A","a1","a-b"]:List Str)++(["Place","x","1","::","a:"]:List Str)).map Ad)) jt
  refine Aa Ac (Aa (T2 pn _ bn.1 bn.2 n3) ⟨by rw [Yaa,Yaa];exact big (by have:=hz.2.1;simp;omega),λp8 nj=>?_⟩)
  rw [<- Yac]
  refine hZ _ _ ⟨p8,((["place","letter","rule","own","arrow","ends","one","other",":","","abcdefg","A","a1","a-b"]:List Str)++(["Place","x","1","::","a:"]:List Str))++zs,rfl,?_,Ac,⟨by simp,by have:=hz.2.1;simp;omega,B3 (λz hz=>?_) hz.2.2⟩,?_,(P4.new jt).new nj,S3.trans (T2.new nj)⟩
  ·exact⟨((P4.new jt).ne nj).1.symm,((P4.new jt).ne nj).2.symm⟩
  ·have:=w14 z hz
   rw [Ya2]at this
   exact⟨Eb this.1,Yaf this.2⟩
  ·exact(T2.new nj) pw _ dg.1 dg.2 e3
 rintro τ μ4 ⟨p5,so,rfl,cp,f4,dn,e4,P4,S4⟩
 refine Ap (fun τ μ'=>∃fm:Nat,τ=[some (.R a),some (Ad row),some (.R pn),some (.R pw),some (.D (.int at')),some (.R p5),some (.D (.int fm)),none,none,none,none]/\μ' p5=some (.lst (so.map Ad))/\μ' pw=some (.lst (ws.map Ad))/\Pot μ' a l/\A5 a l μ μ') (λZ hZ=>?_) ?_
 ·exact⟨a,l,7,rfl,P4,by decide,by decide,λv μ5 hv P5 S5=>hZ _ _ ⟨v,rfl,S5 p5 _ cp.1 cp.2 f4,S5 pw _ dg.1 dg.2 e4,P5,S4.trans S5⟩⟩
 rintro τ μ5 ⟨fm,rfl,f5,e5,P5,S5⟩
 have ge:∀n,∀z∈ws.take n,asc z:=λn z hz=>ls z (Yb3 hz)
 have dz:∀n,∀z∈ws.drop n,asc z:=λn z hz=>ls z (Yci hz)
 have i0:∀n,(ws.take n).length<=row.length+1:=λn=>by rw [Ybd];omega
 have d3:∀n,(ws.drop n).length<=row.length+1:=λn=>by rw [Ybj];omega
 have hjt:∀n,jsum (ws.take n)<=row.length+1:=λn=>by have:=Qf n ws;omega
 have vz:∀n,jsum (ws.drop n)<=row.length+1:=λn=>by have:=Qf n ws;omega
 refine Ap (fun τ μ'=>τ=[some (.R a),some (Ad row),some (.R pn),some (.R pw),some (.D (.int at')),some (.R p5),some (.D (.int fm)),none,none,none,none]/\μ5=μ') (λZ hZ=>?_) ?_
 ·refine ieq (λc=>?_) (λc=>hZ _ _ ⟨rfl,rfl⟩)
  refine⟨trivial,Aa (Ak e5) λp1 au=>?_⟩
  rw [B6]
  have T1:A5 a l μ5 (Aj μ5 p1 (.lst ((ws.take at').map Ad))):=A5.refl.new au
  refine Aa (Ak (T1 pw _ dg.1 dg.2 e5)) λp2 av=>?_
  rw [show((at':Int)+1)=((at'+1:Nat):Int) by omega,Bx]
  have T2:=T1.new (o:=.lst ((ws.drop (at'+1)).map Ad)) av
  have Q1:=P5.new (o:=.lst ((ws.take at').map Ad)) au
  have g1:(Aj (Aj μ5 p1 (.lst ((ws.take at').map Ad))) p2 (.lst ((ws.drop (at'+1)).map Ad))) p1=some (.lst ((ws.take at').map Ad)):=Sub.refl.new av _ _ Ac
  refine Aa g1 (Aa Ac ⟨by rw [Yaa,Yaa];exact big (by have:=i0 at';have:=d3 (at'+1);omega),λp3 bj=>?_⟩)
  rw [<- Yac]
  have hj:jsum (ws.take at'++ws.drop (at'+1))<=2 * row.length+20:=by rw [Dt];have:=hjt at';have:=vz (at'+1);omega
  have ha:=B3 (ge at') (dz (at'+1))
  exact Aa Ac (Aa (Ds _) ⟨jb hj,fin (Ev hj ha).1 (Ev hj ha).2 ((Q1.new av).new bj) (S5.trans (T2.new bj))⟩)
 rintro τ _ ⟨rfl,rfl⟩
 refine Ap (fun τ μ'=>τ=[some (.R a),some (Ad row),some (.R pn),some (.R pw),some (.D (.int at')),some (.R p5),some (.D (.int fm)),none,none,none,none]/\μ5=μ') (λZ hZ=>?_) ?_
 ·refine ieq (λc=>?_) (λc=>hZ _ _ ⟨rfl,rfl⟩)
  refine⟨trivial,Aa (Ak e5) λp1 au=>?_⟩
  rw [show((at':Int)+1)=((at'+1:Nat):Int) by omega,B6]
  have T1:A5 a l μ5 (Aj μ5 p1 (.lst ((ws.take (at'+1)).map Ad))):=A5.refl.new au
  refine Aa (Ak (T1 pw _ dg.1 dg.2 e5)) λp2 av=>?_
  rw [Bx]
  have T2:=T1.new (o:=.lst ((ws.drop at').map Ad)) av
  have Q1:=P5.new (o:=.lst ((ws.take (at'+1)).map Ad)) au
  have g1:(Aj (Aj μ5 p1 (.lst ((ws.take (at'+1)).map Ad))) p2 (.lst ((ws.drop at').map Ad))) p1=some (.lst ((ws.take (at'+1)).map Ad)):=Sub.refl.new av _ _ Ac
  refine Aa g1 (Aa Ac ⟨by rw [Yaa,Yaa];exact big (by have:=i0 (at'+1);have:=d3 at';omega),λp3 bj=>?_⟩)
  rw [<- Yac]
  have hj:jsum (ws.take (at'+1)++ws.drop at')<=2 * row.length+20:=by rw [Dt];have:=hjt (at'+1);have:=vz at';omega
  have ha:=B3 (ge (at'+1)) (dz at')
  exact Aa Ac (Aa (Ds _) ⟨jb hj,fin (Ev hj ha).1 (Ev hj ha).2 ((Q1.new av).new bj) (S5.trans (T2.new bj))⟩)
 rintro τ _ ⟨rfl,rfl⟩
 refine Ap (fun τ μ'=>τ=[some (.R a),some (Ad row),some (.R pn),some (.R pw),some (.D (.int at')),some (.R p5),some (.D (.int fm)),none,none,none,none]/\μ5=μ') (λZ hZ=>?_) ?_
 ·refine dif (λc=>?_) (λc=>hZ _ _ ⟨rfl,rfl⟩)
  refine Ap (fun τ μ'=>∃wd,τ=[some (.R a),some (Ad row),some (.R pn),some (.R pw),some (.D (.int at')),some (.R p5),some (.D (.int fm)),some (Ad wd),none,none,none]/\(asc wd/\wd.length<=7)/\μ' pw=some (.lst (ws.map Ad))/\Pot μ' a l/\A5 a l μ μ') (λZ3 bi=>?_) ?_
  ·refine Aa f5 ⟨a,l,so.length,by rw [Yaa],P5,by omega,by omega,λv μ6 hv P6 S6=>?_⟩
   refine Aa (S6 p5 _ cp.1 cp.2 f5) (Aa (x:=Ad so[v]) (Ao (by rw [List.getElem?_map,List.getElem?_eq_getElem hv];rfl)) (bi _ _ ⟨so[v],rfl,dn.2.2 _ (Ybg hv),S6 pw _ dg.1 dg.2 e5,P6,S5.trans S6⟩))
  rintro τ μ6 ⟨wd,rfl,we,e6,P6,S6⟩
  refine⟨trivial,Aa (Ak e6) λp1 au=>?_⟩
  rw [B6]
  intro p2 av
  have T1:A5 a l μ6 (Aj μ6 p1 (.lst ((ws.take at').map Ad))):=A5.refl.new au
  have Q1:=P6.new (o:=.lst ((ws.take at').map Ad)) au
  have T2:=T1.new (o:=.lst [Ad wd]) av
  have Q2:=Q1.new (o:=.lst [Ad wd]) av
  have g1:(Aj (Aj μ6 p1 (.lst ((ws.take at').map Ad))) p2 (.lst [Ad wd])) p1=some (.lst ((ws.take at').map Ad)):=Sub.refl.new av _ _ Ac
  have g2:(Aj (Aj μ6 p1 (.lst ((ws.take at').map Ad))) p2 (.lst [Ad wd])) p2=some (.lst ([wd].map Ad)):=Ac
  refine Aa g1 (Aa g2 ⟨by rw [Yaa,Yaa];exact big (by have:=i0 at';simp only [List.length_singleton];omega),λp3 bj=>?_⟩)
  rw [<- Yac]
  have T3:=T2.new (o:=.lst ((ws.take at'++[wd]).map Ad)) bj
  have Q3:=Q2.new (o:=.lst ((ws.take at'++[wd]).map Ad)) bj
  have g3:Aj (Aj (Aj μ6 p1 (.lst ((ws.take at').map Ad))) p2 (.lst [Ad wd])) p3 (.lst ((ws.take at'++[wd]).map Ad)) p3=some (.lst ((ws.take at'++[wd]).map Ad)):=Ac
  generalize Aj (Aj (Aj μ6 p1 (.lst ((ws.take at').map Ad))) p2 (.lst [Ad wd])) p3 (.lst ((ws.take at'++[wd]).map Ad))=μ7 at T3 Q3 g3 ⊢
  have h3:=Q2.ne bj
  refine⟨a,l,2,rfl,Q3,by decide,by decide,λv μ8 hv P8 S8=>?_⟩
  refine Aa (Ak (S8 pw _ dg.1 dg.2 (T3 pw _ dg.1 dg.2 e6))) λp4 bx=>?_
  rw [show((at':Int)+(v:Int))=((at'+v:Nat):Int) by omega,Bx]
  have g8:=S8 p3 _ h3.1.symm h3.2.symm g3
  refine Aa (Sub.refl.new bx _ _ g8) (Aa Ac ⟨by rw [Yaa,Yaa];exact big (by have:=i0 at';have:=d3 (at'+v);simp only [List.length_append,List.length_singleton];omega),λp9 mf=>?_⟩)
  rw [<- Yac]
  have hj:jsum ((ws.take at'++[wd])++ws.drop (at'+v))<=2 * row.length+20:=by rw [Dt,Dt,Wd];have:=hjt at';have:=vz (at'+v);omega
  have ha:=B3 (B3 (ge at') λz hz=>by rw [Ya3.mp hz];exact we.1) (dz (at'+v))
  exact Aa Ac (Aa (Ds _) ⟨jb hj,fin (Ev hj ha).1 (Ev hj ha).2 ((P8.new bx).new mf) (S6.trans (T3.trans ((S8.new bx).new mf)))⟩)
 rintro τ _ ⟨rfl,rfl⟩
 refine Ap (fun τ μ'=>τ=[some (.R a),some (Ad row),some (.R pn),some (.R pw),some (.D (.int at')),some (.R p5),some (.D (.int fm)),none,none,none,none]/\μ5=μ') (λZ hZ=>?_) ?_
 ·refine ieq (λc=>?_) (λc=>hZ _ _ ⟨rfl,rfl⟩)
  obtain⟨lw,hlw,elw⟩:=Ys wu
  have zbg:lw.length<=row.length:=by
   rw [<- ews,Eu]at hlw
   exact(C5 hlw).2
  refine⟨?_,?_,?_,?_,?_,?_⟩
  ·rw [Fx];exact big (by omega)
  ·rw [Fx];exact big (by omega)
  ·rw [R6];exact big (by omega)
  ·rw [A3,R6];exact big (by omega)
  ·rw [Fx];exact big (by omega)
  refine Aa e5 (Aa elw ⟨?_,λp4 bx=>⟨a,l,4,rfl,P5.new bx,by decide,by decide,λv μ6 hv P6 S6=>?_⟩⟩)
  ·rw [A3,Fx];exact big (by omega)
  have h4:=P5.ne bx
  refine Aa (S6 p4 _ h4.1.symm h4.2.symm Ac) ?_
  have wo:asc (" " : Str):=Eb (by decide +kernel)
  have aco:asc (" : " : Str):=Eb (by decide +kernel)
  have S6':=S5.trans ((A5.refl.new bx).trans S6)
  rcases(show v=0\/v=1\/v=2\/v=3 by omega) with rfl | rfl | rfl | rfl
  ·exact Aa (Ao (j:=0) rfl) (fin (Cq wo harow) (by rw [A3,Fx];omega) P6 S6')
  ·exact Aa (Ao (j:=1) rfl) (fin (Cq harow wo) (by rw [A3,Fx];omega) P6 S6')
  ·exact Aa (Ao (j:=2) rfl) (fin (Cq (Cq harow aco) harow) (by rw [A3,A3,R6];omega) P6 S6')
  ·exact Aa (Ao (j:=3) rfl) (fin (Cq (Cq harow wo) (ls _ hlw)) (by rw [A3,A3,Fx];omega) P6 S6')
 rintro τ _ ⟨rfl,rfl⟩
 refine Qgu (Ap (fun τ μ'=>∃c:Nat,τ=[some (.R a),some (Ad row),some (.R pn),some (.R pw),some (.D (.int at')),some (.R p5),some (.D (.int fm)),none,some (Ad sgns),some (Ad ⟨#[c]⟩),none]/\c<=126/\Pot μ' a l/\A5 a l μ μ') (λZ hZ=>?_) ?_)
 ·have hsl:=We
  refine⟨?_,?_,a,l,sgns.length+26,rfl,P5,by omega,by omega,λv μ6 hv P6 S6=>?_⟩
  ·exact seven (show sgns.length+("abcdefghijklmnopqrstuvwxyz" : Str).length<=1000 by rw [Yn];omega)
  ·exact Yap We (by decide)
  obtain⟨c,ec,hc⟩:=Qg8 hv
  refine⟨by rw [Qaa];exact seven (by omega),Aa ec (hZ _ _ ⟨c,rfl,hc,P6,S5.trans S6⟩)⟩
 rintro τ μ6 ⟨c,rfl,hc,P6,S6⟩
 refine Ap (fun τ μ'=>∃sp:Nat,τ=[some (.R a),some (Ad row),some (.R pn),some (.R pw),some (.D (.int at')),some (.R p5),some (.D (.int fm)),none,some (Ad sgns),some (Ad ⟨#[c]⟩),some (.D (.int sp))]/\Pot μ' a l/\A5 a l μ μ') (λZ hZ=>?_) ?_
 ·exact⟨y7,a,l,row.length+1,rfl,P6,by omega,by omega,λv μ7 hv P7 S7=>hZ _ _ ⟨v,rfl,P7,S6.trans S7⟩⟩
 rintro τ μ7 ⟨sp,rfl,P7,S7⟩
 refine⟨y7,λp1 au=>⟨a,l,2,rfl,P7.new au,by decide,by decide,λv μ8 hv P8 S8=>?_⟩⟩
 have h1:=P7.ne au
 have d2:=Txt.slice_le row none (some (sp:Int))
 have fi:∀z:Str,asc z->z.length<=1->L9 (.D (.str (Txt.slice row none (some (sp:Int))))) (.D (.str z)) μ8 λx μ'=>vSl (Gj 1) (Nf (Sc L9 (Gj 10) (Uo 2 Js (K2 (Gj 0) (K2 (vC (.D (.int 2))) Nb))))) G0 [some (.R a),some (Ad row),some (.R pn),some (.R pw),some (.D (.int at')),some (.R p5),some (.D (.int fm)),none,some (Ad sgns),some (Ad ⟨#[c]⟩),some (.D (.int sp))] μ' λy μ''=>L9 x y μ'' (Wq R):=by
  intro z az lz
  refine⟨big (by omega),a,l,2,rfl,P8,by decide,by decide,λu μ9 hu P9 S9=>⟨y7,?_,fin (Cq (Cq (Hl _ _ harow) az) (Hl _ _ harow)) ?_ P9 (S7.trans ((A5.refl.new au).trans (S8.trans S9)))⟩⟩
  ·have dw:=Txt.slice_le row (some ((sp:Int)+(u:Int))) none
   rw [A3];exact big (by omega)
  ·have dw:=Txt.slice_le row (some ((sp:Int)+(u:Int))) none
   rw [A3,A3];omega
 refine Aa (S8 p1 _ h1.1.symm h1.2.symm Ac) ?_
 rcases(show v=0\/v=1 by omega) with rfl | rfl
 ·exact Aa (Ao (j:=0) rfl) (fi _ (Yq hc) (Yag _))
 ·exact Aa (Ao (j:=1) rfl) (fi _ Z9 (by decide +kernel))
end
section
variable {P:Program}{w:World}{K:PySem.W.Frag}{mg:Str->Option Value}{base:Heap}{f:Addr}{fd:FuncData}
theorem Ff{a l p4:Addr}{μ:M}{so:List Str}{j:Nat}{t:AA}{τ:ASt}{Z:ASt->M->Prop}{r:AV->M->Prop}{b c:ASt->M->Prop}(e4:τ[4]?=some (some (.R p4)))(f:μ p4=some (.lst (so.map Ad)))(hn:so.length+j<=100)(dn:∀z∈so,asc z/\z.length<=60)(hg:gA j 60 t τ μ)(P:Pot μ a l)
  (q:∀p7 (gs:List Str) μ',gs.length=so.length+j->(∀z∈gs,asc z/\z.length<=60)->μ' p7=some (.lst (gs.map Ad))->(p7≠a/\p7≠l)->Pot μ' a l->A5 a l μ μ'->Z (τ.set 4 (some (.R p7))) μ'):Kc (Sc L9 (Gj 4) (Qbp t)) (Ca 4) Z r b c τ μ:=by
 unfold Kc Sc Gj
 rw [e4]
 refine hg _ λys hk hy=>λp6 i3=>?_
 have e6:Aj μ p6 (.lst (ys.map Ad)) p6=some (.lst (ys.map Ad)):=Ac
 refine Aa (Sub.refl.new i3 _ _ f) (Aa e6 ⟨by rw [Yaa,Yaa];exact seven (by omega),λp7 jt=>?_⟩)
 rw [<- Yac]
 have P6:=P.new (o:=.lst (ys.map Ad)) i3
 have h7:=P6.ne jt
 exact q p7 (so++ys) _ (by rw [Yai,hk]) (B3 dn hy) Ac ⟨h7.1.symm,h7.2.symm⟩ (P6.new jt) ((A5.refl.new i3).new jt)
theorem Wf{j:Nat}{t:AA}{τ:ASt}{μ:M}{Z:ASt->M->Prop}{r:AV->M->Prop}{b c:ASt->M->Prop}(hg:gA j 60 t τ μ)
  (q:∀(ys:List Str) p4,ys.length=j->(∀z∈ys,asc z/\z.length<=60)->μ p4=none->Z (τ.set 4 (some (.R p4))) (Aj μ p4 (.lst (ys.map Ad)))):Kc (Qbp t) (Ca 4) Z r b c τ μ :=
 hg _ λys hk hy=>λp4 bx=>q ys p4 hk hy bx
theorem Yt{n i:Nat}{t:AE}{τ:ASt}{μ:M}{Z:ASt->M->Prop}{r:AV->M->Prop}{b c:ASt->M->Prop}(hg:gS n t τ μ)(q:∀z,asc z->z.length<=n->Z (τ.set i (some (Ad z))) μ):Kc t (Ca i) Z r b c τ μ:=hg _ q
abbrev nOd:List Str:=["_law_deal_here","_law_names_here","_law_x","_law_y","_law_some","_law_long"]
theorem Mj:FnScope nOd ["_law_deal_here","_law_names_here"] (Ai sOd):=⟨rfl,rfl,rfl,by decide +kernel,rfl,by decide +kernel,by decide +kernel⟩
def Qhb:ASp:=λxs μ R=>∃(a l pn:Addr) (zs:List Str),xs=[.R a,.R pn]/\(pn≠a/\pn≠l)/\μ pn=some (.lst (zs.map Ad))/\(1<=zs.length/\zs.length<=10/\∀z∈zs,asc z/\z.length<=7)/\Pot μ a l/\∀(ap:Str) μ',asc ap->ap.length<=60->Pot μ' a l->A5 a l μ μ'->R (.D (.str ap)) μ'
theorem Qhc{n:Nat}(F:Fun K "_law_odd_row" "_law_odd_row" sOd f fd) (bp:VCal P w K mg base n "_law_draw" ["_law_deal_here","_law_many"] Js) (af:mg "len" = none):FnOk P w K mg base Fh (n+1) f fd ["_law_deal_here","_law_names_here"] (Ji K 2 Qhb):=by
 refine F.vok Mj λaw A outer s H E hr=>⟨_,(@Af _ _ _ _ _ (@Qb3 _ _ _ _ 2 3 _ _ _ _ _ _ _ _ _ rfl Mj.nd rfl rfl (by decide) rfl rfl (@Ab _ _ _ _ _ (@Ba _ _ _ _ _ _ _ Bm (vv 1) (@Au _ _ _ _ _ _ _ _ _ _ bp hr rfl (@Ab _ _ _ _ _ (vv 0) (@Ab _ _ _ _ _ (@Ar _ _ _ _ _ _ _ _ _ Bo rfl af Yan (@Ab _ _ _ _ _ (vv 1) Ae (by rfl)) (by decide) (by decide) (by rfl) (by rfl)) Ae (by rfl)) (by rfl)) (by rfl) (by decide) (by rfl) (by rfl)) (by intro _ _;rfl)) (@Ab _ _ _ _ _ (@Ba _ _ _ _ _ _ _ Bm (vv 1) (@Au _ _ _ _ _ _ _ _ _ _ bp hr rfl (@Ab _ _ _ _ _ (vv 0) (@Ab _ _ _ _ _ (@Ar _ _ _ _ _ _ _ _ _ Bo rfl af Yan (@Ab _ _ _ _ _ (vv 1) Ae (by rfl)) (by decide) (by decide) (by rfl) (by rfl)) Ae (by rfl)) (by rfl)) (by rfl) (by decide) (by rfl) (by rfl)) (by intro _ _;rfl)) Ae (by rfl)) (by rfl)) rfl (by rfl)) (@Af _ _ _ _ _ (@Aw _ _ _ _ 4 _ _ Mj.nd rfl (Or.inl rfl) (@Bq _ _ _ _ (@Ab _ _ _ _ _ Ah (@Ab _ _ _ _ _ Ah (@Ab _ _ _ _ _ Ah (@Ab _ _ _ _ _ (@Ay _ _ _ _ _ _ _ _ Al Ah (vv 2)) (@Ab _ _ _ _ _ (@Ay _ _ _ _ _ _ _ _ Al (@Ay _ _ _ _ _ _ _ _ Al Ah (vv 2)) Ah) (@Ab _ _ _ _ _ Ah (@Ab _ _ _ _ _ Ah (@Ab _ _ _ _ _ Ah Ae (by rfl)) (by rfl)) (by rfl)) (by rfl)) (by rfl)) (by rfl)) (by rfl)) (by rfl)) (by decide)) (by rfl) (by first | exact .inl rfl | exact .inr rfl | assumption)) (@Af _ _ _ _ _ (@Aw _ _ _ _ 4 _ _ Mj.nd rfl (Or.inl rfl) (@Ay _ _ _ _ _ _ _ _ Al (vv 4) (@Bq _ _ _ _ (@Ab _ _ _ _ _ (@Ay _ _ _ _ _ _ _ _ Al Ah (vv 2)) (@Ab _ _ _ _ _ Ah (@Ab _ _ _ _ _ Ah (@Ab _ _ _ _ _ Ah (@Ab _ _ _ _ _ (@Ay _ _ _ _ _ _ _ _ Al (@Ay _ _ _ _ _ _ _ _ Al (@Ay _ _ _ _ _ _ _ _ Al Ah (vv 2)) Ah) (vv 3)) Ae (by rfl)) (by rfl)) (by rfl)) (by rfl)) (by rfl)) (by decide))) (by rfl) (by first | exact .inl rfl | exact .inr rfl | assumption)) (@Af _ _ _ _ _ (@Aw _ _ _ _ 4 _ _ Mj.nd rfl (Or.inl rfl) (@Ay _ _ _ _ _ _ _ _ Al (vv 4) (@Bq _ _ _ _ (@Ab _ _ _ _ _ (@Ay _ _ _ _ _ _ _ _ Al (@Ay _ _ _ _ _ _ _ _ Al (@Ay _ _ _ _ _ _ _ _ Al (@Ay _ _ _ _ _ _ _ _ Al Ah (vv 2)) Ah) (vv 3)) Ah) (@Ab _ _ _ _ _ (@Ay _ _ _ _ _ _ _ _ Al (@Ay _ _ _ _ _ _ _ _ Al (@Ay _ _ _ _ _ _ _ _ Al (@Ay _ _ _ _ _ _ _ _ Al (@Ay _ _ _ _ _ _ _ _ Al Ah (vv 2)) Ah) (vv 3)) Ah) (vv 2)) (@Ab _ _ _ _ _ (@Ay _ _ _ _ _ _ _ _ Al (@Ay _ _ _ _ _ _ _ _ Al (@Ay _ _ _ _ _ _ _ _ Al Ah (vv 2)) Ah) (vv 3)) Ae (by rfl)) (by rfl)) (by rfl)) (by decide))) (by rfl) (by first | exact .inl rfl | exact .inr rfl | assumption)) (@Af _ _ _ _ _ (@Aw _ _ _ _ 5 _ _ Mj.nd rfl (Or.inl rfl) (@Ay _ _ _ _ _ _ _ _ Al (@Ay _ _ _ _ _ _ _ _ Al (@Ay _ _ _ _ _ _ _ _ Al (@Ay _ _ _ _ _ _ _ _ Al (@Ay _ _ _ _ _ _ _ _ Al (@Ay _ _ _ _ _ _ _ _ Al (@Ay _ _ _ _ _ _ _ _ Al Ah (vv 2)) Ah) (vv 3)) Ah) (vv 2)) Ah) (vv 3)) (by rfl) (by first | exact .inl rfl | exact .inr rfl | assumption)) (@Af _ _ _ _ _ (@Aw _ _ _ _ 4 _ _ Mj.nd rfl (Or.inl rfl) (@Ay _ _ _ _ _ _ _ _ Al (vv 4) (@Bq _ _ _ _ (@Ab _ _ _ _ _ (@Ay _ _ _ _ _ _ _ _ Al (@Ay _ _ _ _ _ _ _ _ Al (@Ay _ _ _ _ _ _ _ _ Al (@Ay _ _ _ _ _ _ _ _ Al (vv 5) Ah) (vv 3)) Ah) (vv 3)) (@Ab _ _ _ _ _ (@Ay _ _ _ _ _ _ _ _ Al (@Ay _ _ _ _ _ _ _ _ Al (@Ay _ _ _ _ _ _ _ _ Al (@Ay _ _ _ _ _ _ _ _ Al (@Ay _ _ _ _ _ _ _ _ Al Ah (vv 3)) Ah) (vv 2)) Ah) (vv 3)) Ae (by rfl)) (by rfl)) (by decide))) (by rfl) (by first | exact .inl rfl | exact .inr rfl | assumption)) (@Af _ _ _ _ _ (@Aw _ _ _ _ 4 _ _ Mj.nd rfl (Or.inl rfl) (@Ay _ _ _ _ _ _ _ _ Al (vv 4) (@Bq _ _ _ _ (@Ab _ _ _ _ _ (@Ay _ _ _ _ _ _ _ _ Al (@Ay _ _ _ _ _ _ _ _ Al (@Ay _ _ _ _ _ _ _ _ Al Ah (vv 2)) Ah) (vv 2)) (@Ab _ _ _ _ _ (@Ay _ _ _ _ _ _ _ _ Al (@Ay _ _ _ _ _ _ _ _ Al (@Ay _ _ _ _ _ _ _ _ Al (@Ay _ _ _ _ _ _ _ _ Al Ah (vv 2)) Ah) (vv 3)) Ah) (@Ab _ _ _ _ _ Ah (@Ab _ _ _ _ _ (@Ay _ _ _ _ _ _ _ _ Al Ah (vv 2)) (@Ab _ _ _ _ _ (@Ay _ _ _ _ _ _ _ _ Al Ah (vv 2)) Ae (by rfl)) (by rfl)) (by rfl)) (by rfl)) (by rfl)) (by decide))) (by rfl) (by first | exact .inl rfl | exact .inr rfl | assumption)) (@Af _ _ _ _ _ (@Aw _ _ _ _ 4 _ _ Mj.nd rfl (Or.inl rfl) (@Ay _ _ _ _ _ _ _ _ Al (vv 4) (@Bq _ _ _ _ (@Ab _ _ _ _ _ Ah (@Ab _ _ _ _ _ Ah (@Ab _ _ _ _ _ (@Ay _ _ _ _ _ _ _ _ Al Ah (vv 2)) (@Ab _ _ _ _ _ Ah Ae (by rfl)) (by rfl)) (by rfl)) (by rfl)) (by decide))) (by rfl) (by first | exact .inl rfl | exact .inr rfl | assumption)) (@An _ _ _ (@Bd _ _ _ _ (@Ba _ _ _ _ _ _ _ Bm (vv 4) (@Au _ _ _ _ _ _ _ _ _ _ bp hr rfl (@Ab _ _ _ _ _ (vv 0) (@Ab _ _ _ _ _ Ag Ae (by rfl)) (by rfl)) (by rfl) (by decide) (by rfl) (by rfl)) (by intro _ _;rfl)))))))))))),?_⟩
 rintro xs μ R _ ⟨a,l,pn,zs,rfl,bn,en,hz,hP,q⟩
 have hz1:=hz.1
 have hz2:=hz.2.1
 refine Ap (fun τ μ'=>∃x y:Str,τ=[some (.R a),some (.R pn),some (Ad x),some (Ad y),none,none]/\(asc x/\x.length<=7)/\(asc y/\y.length<=7)/\Pot μ' a l/\A5 a l μ μ') (λZ hZ=>?_) ?_
 ·refine Aa en ⟨a,l,zs.length,by rw [Yaa],hP,by omega,by omega,λv μ1 hv P1 S1=>?_⟩
  have n1:=S1 pn _ bn.1 bn.2 en
  refine Aa n1 (Aa (x:=Ad zs[v]) (Ao (by rw [List.getElem?_map,List.getElem?_eq_getElem hv];rfl)) (Aa n1 ⟨a,l,zs.length,by rw [Yaa],P1,by omega,by omega,λu μ2 hu P2 S2=>?_⟩))
  refine Aa (S2 pn _ bn.1 bn.2 n1) (Aa (x:=Ad zs[u]) (Ao (by rw [List.getElem?_map,List.getElem?_eq_getElem hu];rfl)) (hZ _ _ ⟨zs[v],zs[u],rfl,hz.2.2 _ (Ybg hv),hz.2.2 _ (Ybg hu),P2,S1.trans S2⟩))
 rintro τ μ1 ⟨x,y,rfl,⟨ax,lx⟩,⟨ay,ly⟩,P1,S1⟩
 refine Ap (fun τ μ'=>∃p4,∃so:List Str,τ=[some (.R a),some (.R pn),some (Ad x),some (Ad y),some (.R p4),none]/\so.length=8/\(∀z∈so,asc z/\z.length<=60)/\μ' p4=some (.lst (so.map Ad))/\(p4≠a/\p4≠l)/\Pot μ' a l/\A5 a l μ μ') (λZ hZ=>?_) ?_
 ·exact Wf (j:=8) (C6 B8 (C6 B8 (C6 B8 (C6 (B5 B8 (Cz rfl ax lx)) (C6 (B5 (B5 B8 (Cz rfl ax lx)) B8) (C6 B8 (C6 B8 (C6 B8 R8)))))))) λys p4 hk hy bx=>hZ _ _ ⟨p4,ys,rfl,hk,hy,Ac,⟨(P1.ne bx).1.symm,(P1.ne bx).2.symm⟩,P1.new bx,S1.new bx⟩
 rintro τ μ2 ⟨p4,so,rfl,hn,dn,f2,h4,P2,S2⟩
 refine Ap (fun τ μ'=>∃p4,∃so:List Str,τ=[some (.R a),some (.R pn),some (Ad x),some (Ad y),some (.R p4),none]/\so.length=13/\(∀z∈so,asc z/\z.length<=60)/\μ' p4=some (.lst (so.map Ad))/\(p4≠a/\p4≠l)/\Pot μ' a l/\A5 a l μ μ') (λZ hZ=>?_) ?_
 ·exact Ff (j:=5) rfl f2 (by omega) dn (C6 (B5 B8 (Cz rfl ax lx)) (C6 B8 (C6 B8 (C6 B8 (C6 (B5 (B5 (B5 B8 (Cz rfl ax lx)) B8) (Cz rfl ay ly)) R8))))) P2 λp7 gs μ' hk hy f h7 PP SS=>hZ _ _ ⟨p7,gs,rfl,by omega,hy,f,h7,PP,S2.trans SS⟩
 clear hn dn f2 h4 P2 S2
 rintro τ μ3 ⟨p4,so,rfl,hn,dn,f3,h4,P3,S3⟩
 refine Ap (fun τ μ'=>∃p4,∃so:List Str,τ=[some (.R a),some (.R pn),some (Ad x),some (Ad y),some (.R p4),none]/\so.length=16/\(∀z∈so,asc z/\z.length<=60)/\μ' p4=some (.lst (so.map Ad))/\(p4≠a/\p4≠l)/\Pot μ' a l/\A5 a l μ μ') (λZ hZ=>?_) ?_
 ·exact Ff (j:=3) rfl f3 (by omega) dn (C6 (B5 (B5 (B5 (B5 B8 (Cz rfl ax lx)) B8) (Cz rfl ay ly)) B8) (C6 (B5 (B5 (B5 (B5 (B5 B8 (Cz rfl ax lx)) B8) (Cz rfl ay ly)) B8) (Cz rfl ax lx)) (C6 (B5 (B5 (B5 B8 (Cz rfl ax lx)) B8) (Cz rfl ay ly)) R8))) P3 λp7 gs μ' hk hy f h7 PP SS=>hZ _ _ ⟨p7,gs,rfl,by omega,hy,f,h7,PP,S3.trans SS⟩
 clear hn dn f3 h4 P3 S3
 rintro τ μ4 ⟨p4,so,rfl,hn,dn,f4,h4,P4,S4⟩
 refine Ap (fun τ μ'=>∃lg:Str,τ=[some (.R a),some (.R pn),some (Ad x),some (Ad y),some (.R p4),some (Ad lg)]/\(asc lg/\lg.length<=40)/\μ4=μ') (λZ hZ=>?_) ?_
 ·exact Yt (B5 (B5 (B5 (B5 (B5 (B5 (B5 B8 (Cz rfl ax lx)) B8) (Cz rfl ay ly)) B8) (Cz rfl ax lx)) B8) (Cz rfl ay ly)) λz hz1 hz2=>hZ _ _ ⟨z,rfl,⟨hz1,Yap hz2 (by decide +kernel)⟩,rfl⟩
 rintro τ _ ⟨lg,rfl,⟨al,ll⟩,rfl⟩
 refine Ap (fun τ μ'=>∃p4,∃so:List Str,τ=[some (.R a),some (.R pn),some (Ad x),some (Ad y),some (.R p4),some (Ad lg)]/\so.length=18/\(∀z∈so,asc z/\z.length<=60)/\μ' p4=some (.lst (so.map Ad))/\(p4≠a/\p4≠l)/\Pot μ' a l/\A5 a l μ μ') (λZ hZ=>?_) ?_
 ·exact Ff (j:=2) rfl f4 (by omega) dn (C6 (B5 (B5 (B5 (B5 (Cz rfl al ll) B8) (Cz rfl ay ly)) B8) (Cz rfl ay ly)) (C6 (B5 (B5 (B5 (B5 (B5 B8 (Cz rfl ay ly)) B8) (Cz rfl ax lx)) B8) (Cz rfl ay ly)) R8)) P4 λp7 gs μ' hk hy f h7 PP SS=>hZ _ _ ⟨p7,gs,rfl,by omega,hy,f,h7,PP,S4.trans SS⟩
 clear hn dn f4 h4 P4 S4
 rintro τ μ5 ⟨p4,so,rfl,hn,dn,f5,h4,P5,S5⟩
 refine Ap (fun τ μ'=>∃p4,∃so:List Str,τ=[some (.R a),some (.R pn),some (Ad x),some (Ad y),some (.R p4),some (Ad lg)]/\so.length=23/\(∀z∈so,asc z/\z.length<=60)/\μ' p4=some (.lst (so.map Ad))/\(p4≠a/\p4≠l)/\Pot μ' a l/\A5 a l μ μ') (λZ hZ=>?_) ?_
 ·exact Ff (j:=5) rfl f5 (by omega) dn (C6 (B5 (B5 (B5 B8 (Cz rfl ax lx)) B8) (Cz rfl ax lx)) (C6 (B5 (B5 (B5 (B5 B8 (Cz rfl ax lx)) B8) (Cz rfl ay ly)) B8) (C6 B8 (C6 (B5 B8 (Cz rfl ax lx)) (C6 (B5 B8 (Cz rfl ax lx)) R8))))) P5 λp7 gs μ' hk hy f h7 PP SS=>hZ _ _ ⟨p7,gs,rfl,by omega,hy,f,h7,PP,S5.trans SS⟩
 clear hn dn f5 h4 P5 S5
 rintro τ μ6 ⟨p4,so,rfl,hn,dn,f6,h4,P6,S6⟩
 refine Ap (fun τ μ'=>∃p4,∃so:List Str,τ=[some (.R a),some (.R pn),some (Ad x),some (Ad y),some (.R p4),some (Ad lg)]/\so.length=27/\(∀z∈so,asc z/\z.length<=60)/\μ' p4=some (.lst (so.map Ad))/\(p4≠a/\p4≠l)/\Pot μ' a l/\A5 a l μ μ') (λZ hZ=>?_) ?_
 ·exact Ff (j:=4) rfl f6 (by omega) dn (C6 B8 (C6 B8 (C6 (B5 B8 (Cz rfl ax lx)) (C6 B8 R8)))) P6 λp7 gs μ' hk hy f h7 PP SS=>hZ _ _ ⟨p7,gs,rfl,by omega,hy,f,h7,PP,S6.trans SS⟩
 clear hn dn f6 h4 P6 S6
 rintro τ μ7 ⟨p4,so,rfl,hn,dn,f7,h4,P7,S7⟩
 refine⟨a,l,27,rfl,P7,by decide,by decide,λv μ' hv P' S'=>?_⟩
 have jo:v < so.length:=by omega
 exact Aa (S' p4 _ h4.1 h4.2 f7) (Aa (x:=Ad so[v]) (Ao (by rw [List.getElem?_map,List.getElem?_eq_getElem jo];rfl)) ⟨_,Sub.refl,q _ _ (dn _ (Ybg jo)).1 (dn _ (Ybg jo)).2 P' (S7.trans S')⟩)
end
section
variable {P:Program}{w:World}{K:PySem.W.Frag}{mg:Str->Option Value}{base:Heap}{f:Addr}{fd:FuncData}
theorem nw{μ:M}{p:Addr}(o:MO)(hp:μ p=none):Sub μ (Aj μ p o):=Sub.refl.new hp
abbrev nSq:List Str:=["_law_deal_here","_law_rows_here","_law_names_here","_law_at","_law_to","_law_form","_law_left","_law_short"]
theorem Wg:FnScope nSq ["_law_deal_here","_law_rows_here","_law_names_here"] (Ai sSq):=⟨rfl,rfl,rfl,by decide +kernel,rfl,by decide +kernel,by decide +kernel⟩
def Qdb:ASp:=λxs μ R=>∃(a l pr pn:Addr) (ag zs:List Str) (N:Nat),xs=[.R a,.R pr,.R pn]/\(pn≠a/\pn≠l)/\(pr≠a/\pr≠l)/\μ pn=some (.lst (zs.map Ad))/\μ pr=some (.lst (ag.map Ad))/\(1<=zs.length/\zs.length<=10/\∀z∈zs,asc z/\z.length<=7)/\(ag.length<=40/\N<=1000/\∀z∈ag,asc z/\z.length<=N)/\Pot μ a l/\∀(rws':List Str) p' μ',rws'.length<=ag.length+1->(∀z∈rws',asc z/\z.length<=2 * N+60)->μ p'=none->μ' p'=some (.lst (rws'.map Ad))->Pot μ' a l->A5 a l μ μ'->R (.R p') μ'
theorem Qhd{n:Nat}(F:Fun K "_law_spoilt" "_law_spoilt" sSq f fd) (bp:VCal P w K mg base n "_law_draw" ["_law_deal_here","_law_many"] Js) (cOd:VCal P w K mg base n "_law_odd_row" ["_law_deal_here","_law_names_here"] Qhb) (cOr:VCal P w K mg base n "_law_other_row" ["_law_deal_here","_law_row","_law_names_here"] Qg9) (af:mg "len" = none):FnOk P w K mg base Fh (n+1) f fd ["_law_deal_here","_law_rows_here","_law_names_here"] (Ji K 3 Qdb):=by
 refine F.vok Wg λaw A outer s H E hr=>⟨_,(Af (B1 (Bf (Dv hr) (Ar Bo rfl af Yan (Ab (vv 1) Ae)) Ag (nomark _)) (An (Bd (Bq (Ab (Au cOd hr rfl (Ab (vv 0) (Ab (vv 2) Ae))) Ae)))) A9)
   (Af (Qb3 (i:=3) (j:=4) rfl Wg.nd rfl rfl (by decide) rfl rfl (Ab (Au bp hr rfl (Ab (vv 0) (Ab (Ar Bo rfl af Yan (Ab (vv 1) Ae)) Ae))) (Ab (Au bp hr rfl (Ab (vv 0) (Ab (Ay Al (Ar Bo rfl af Yan (Ab (vv 1) Ae)) Ag) Ae))) Ae)) rfl)
   (Af (Aw (i:=5) Wg.nd rfl (Or.inl rfl) (Au bp hr rfl (Ab (vv 0) (Ab Ag Ae))))
   (Af (B1 (Bf (Dv hr) (vv 5) Ag (nomark _)) (An (Bd (Ay Al (A8 (vv 1) A7 (Be (vv 3))) (A8 (vv 1) (Be (Ay Al (vv 3) Ag)) A7)))) A9)
   (Af (B1 (Bf (Dv hr) (vv 5) Ag (nomark _)) (An (Bd (Ay Al (Ay Al (A8 (vv 1) A7 (Be (vv 4))) (Bq (Ab (Ba Bm (vv 1) (vv 3)) Ae))) (A8 (vv 1) (Be (vv 4)) A7)))) A9)
   (Af (B1 (Bf (Dv hr) (vv 5) Ag (nomark _)) (Af (Aw (i:=6) Wg.nd rfl (Or.inl rfl) (Ay Al (A8 (vv 1) A7 (Be (vv 3))) (A8 (vv 1) (Be (Ay Al (vv 3) Ag)) A7)))
   (An (Bd (Ay Al (Ay Al (A8 (vv 6) A7 (Be (vv 4))) (Bq (Ab (Ba Bm (vv 1) (vv 3)) Ae))) (A8 (vv 6) (Be (vv 4)) A7))))) A9)
   (Af (B1 (Bf Qbr (vv 5) Ag (nomark _)) (An (Bd (Ay Al (Ay Al (A8 (vv 1) A7 (Be (vv 4))) (Bq (Ab (Au cOd hr rfl (Ab (vv 0) (Ab (vv 2) Ae))) Ae))) (A8 (vv 1) (Be (Ay Y3 (Ay Al (vv 4) (vv 5)) Ag)) A7)))) A9)
   (Af (B1 (Bf (Dv hr) (vv 5) Ag (nomark _)) (Af (Aw (i:=7) Wg.nd rfl (Or.inl rfl) (A8 (Ba Bm (vv 1) (vv 3)) A7 (Be (Au bp hr rfl (Ab (vv 0) (Ab (Ay Al (Ar Bo rfl af Yan (Ab (Ba Bm (vv 1) (vv 3)) Ae)) Ag) Ae))))))
   (An (Bd (Ba Bm (Bq (Ab (A8 (vv 1) A7 (Be (vv 4))) (Ab (Bq (Ab Ah Ae)) (Ab (Ay Al (A8 (vv 1) A7 (Be (vv 4))) (Bq (Ab (vv 7) Ae))) Ae)))) (Au bp hr rfl (Ab (vv 0) (Ab Ag Ae))))))) A9)
   (An (Bd (Ay Al (Ay Al (A8 (vv 1) A7 (Be (vv 3))) (Bq (Ab (Au cOr hr rfl (Ab (vv 0) (Ab (Ba Bm (vv 1) (vv 3)) (Ab (vv 2) Ae)))) Ae))) (A8 (vv 1) (Be (Ay Al (vv 3) Ag)) A7)))))))))))),?_⟩
 rintro xs μ R _ ⟨a,l,pr,pn,ag,zs,N,rfl,bn,cb,en,er,hz,hrw,hP,q⟩
 obtain⟨hr40,hN,hro⟩:=hrw
 have kg:∀z∈ag,asc z/\z.length<=2 * N+60:=λz hz=>⟨(hro z hz).1,by have:=(hro z hz).2;omega⟩
 have fin:∀{rws':List Str} {p':Addr} {μ1:M},rws'.length<=ag.length+1->(∀z∈rws',asc z/\z.length<=2 * N+60)->μ1 p'=none->Pot μ1 a l->A5 a l μ μ1->Wq R (.R p') (Aj μ1 p' (.lst (rws'.map Ad))):=λ{rws' p' μ1} h1 h2 hp P1 S1 =>
  ⟨_,Sub.refl,q _ _ _ h1 h2 (S1.none (P1.ne hp).1 (P1.ne hp).2 hp) Ac (P1.new hp) (S1.new hp)⟩
 have ge:∀n,∀z∈ag.take n,asc z/\z.length<=2 * N+60:=λn z hz=>kg z (Yb3 hz)
 have dz:∀n,∀z∈ag.drop n,asc z/\z.length<=2 * N+60:=λn z hz=>kg z (Yci hz)
 have i0:∀n,(ag.take n).length<=n:=λn=>by rw [Ybd];omega
 have d8:∀n,(ag.take n).length<=ag.length:=λn=>by rw [Ybd];omega
 have d3:∀n,(ag.drop n).length=ag.length - n:=λn=>Ybj
 have one:∀{z:Str},asc z/\z.length<=2 * N+60->∀y∈[z],asc y/\y.length<=2 * N+60:=λh y hy=>by rw [Ya3.mp hy];exact h
 have odd:∀{z:Str},asc z->z.length<=60->asc z/\z.length<=2 * N+60:=λh1 h2=>⟨h1,by omega⟩
 refine Ap (fun τ μ'=>τ=[some (.R a),some (.R pr),some (.R pn),none,none,none,none,none]/\0 < ag.length/\μ=μ') (λZ hZ=>?_) ?_
 ·refine Aa er (ieq (λc=>?_) (λc=>hZ _ _ ⟨rfl,by rw [Yaa]at c;omega,rfl⟩))
  refine⟨a,l,pn,zs,rfl,bn,en,hz,hP,λap μ1 ha hl P1 S1=>λp' kq=>?_⟩
  exact fin (rws':=[ap]) (by simp) (one (odd ha hl)) kq P1 S1
 rintro τ _ ⟨rfl,h0,rfl⟩
 refine Ap (fun τ μ'=>∃at' to:Nat,τ=[some (.R a),some (.R pr),some (.R pn),some (.D (.int at')),some (.D (.int to)),none,none,none]/\at' < ag.length/\to<=ag.length/\μ' pr=some (.lst (ag.map Ad))/\μ' pn=some (.lst (zs.map Ad))/\Pot μ' a l/\A5 a l μ μ') (λZ hZ=>?_) ?_
 ·refine Aa er ⟨a,l,ag.length,by rw [Yaa],hP,h0,by omega,λv μ1 hv P1 S1=>?_⟩
  have e1:=S1 pr _ cb.1 cb.2 er
  refine Aa e1 ⟨a,l,ag.length+1,by rw [Yaa];rfl,P1,by omega,by omega,λu μ2 hu P2 S2=>hZ _ _ ⟨v,u,rfl,hv,by omega,S2 pr _ cb.1 cb.2 e1,S2 pn _ bn.1 bn.2 (S1 pn _ bn.1 bn.2 en),P2,S1.trans S2⟩⟩
 rintro τ μ1 ⟨at',to,rfl,gt,hto,e1,n1,P1,S1⟩
 refine Ap (fun τ μ'=>∃fm:Nat,τ=[some (.R a),some (.R pr),some (.R pn),some (.D (.int at')),some (.D (.int to)),some (.D (.int fm)),none,none]/\μ' pr=some (.lst (ag.map Ad))/\μ' pn=some (.lst (zs.map Ad))/\Pot μ' a l/\A5 a l μ μ') (λZ hZ=>?_) ?_
 ·exact⟨a,l,10,rfl,P1,by decide,by decide,λv μ2 hv P2 S2=>hZ _ _ ⟨v,rfl,S2 pr _ cb.1 cb.2 e1,S2 pn _ bn.1 bn.2 n1,P2,S1.trans S2⟩⟩
 rintro τ μ2 ⟨fm,rfl,e2,n2,P2,S2⟩
 have uh:atI (ag.map Ad) (at':Int)=some (Ad ag[at']):=Ao (by rw [List.getElem?_map,List.getElem?_eq_getElem gt];rfl)
 have u0:=kg _ (Ybg gt)
 have zat:=hro _ (Ybg gt)
 have cut:∀{μ3:M},μ3 pr=some (.lst (ag.map Ad))->Pot μ3 a l->A5 a l μ μ3->∀{R2:AV->M->Prop},(∀p3 μ4,μ4 p3=none->Pot μ4 a l->A5 a l μ μ4->μ4 pr=some (.lst (ag.map Ad))->R2 (.R p3) (Aj μ4 p3 (.lst ((ag.take at'++ag.drop (at'+1)).map Ad))))->Sc L9 (vSl (Gj 1) G0 (Nf (Gj 3))) (vSl (Gj 1) (Nf (Sc L9 (Gj 3) (vC (.D (.int 1))))) G0) [some (.R a),some (.R pr),some (.R pn),some (.D (.int at')),some (.D (.int to)),some (.D (.int fm)),none,none] μ3 R2:=by
  intro μ3 e3 P3 S3 R2 h
  refine Aa (Ak e3) λp1 au=>?_
  rw [B6]
  have e4:Aj μ3 p1 (.lst ((ag.take at').map Ad)) pr=some (.lst (ag.map Ad)):=Sub.refl.new au _ _ e3
  have Q1:=P3.new (o:=.lst ((ag.take at').map Ad)) au
  refine Aa (Ak e4) λp2 av=>?_
  rw [show((at':Int)+1)=((at'+1:Nat):Int) by omega,Bx]
  have g1:(Aj (Aj μ3 p1 (.lst ((ag.take at').map Ad))) p2 (.lst ((ag.drop (at'+1)).map Ad))) p1=some (.lst ((ag.take at').map Ad)):=Sub.refl.new av _ _ Ac
  refine Aa g1 (Aa Ac ⟨by rw [Yaa,Yaa];exact seven (by have:=d8 at';have:=d3 (at'+1);omega),λp3 bj=>?_⟩)
  rw [<- Yac]
  exact h p3 _ bj (Q1.new av) ((S3.new au).new av) (Sub.refl.new av _ _ e4)
 refine Ap (fun τ μ'=>τ=[some (.R a),some (.R pr),some (.R pn),some (.D (.int at')),some (.D (.int to)),some (.D (.int fm)),none,none]/\fm≠0/\μ2=μ') (λZ hZ=>?_) ?_
 ·refine ieq (λc=>?_) (λc=>hZ _ _ ⟨rfl,by omega,rfl⟩)
  refine cut e2 P2 S2 λp3 μ4 bj P4 S4 _=>?_
  refine fin ?_ (B3 (ge _) (dz _)) bj P4 S4
  rw [Yai]
  have:=i0 at'
  have:=d3 (at'+1)
  omega
 rintro τ _ ⟨rfl,hf0,rfl⟩
 refine Ap (fun τ μ'=>τ=[some (.R a),some (.R pr),some (.R pn),some (.D (.int at')),some (.D (.int to)),some (.D (.int fm)),none,none]/\fm≠1/\μ2=μ') (λZ hZ=>?_) ?_
 ·refine ieq (λc=>?_) (λc=>hZ _ _ ⟨rfl,by omega,rfl⟩)
  refine Aa (Ak e2) λp1 au=>?_
  rw [B6]
  have e3:Aj μ2 p1 (.lst ((ag.take to).map Ad)) pr=some (.lst (ag.map Ad)):=Sub.refl.new au _ _ e2
  have g3:Aj μ2 p1 (.lst ((ag.take to).map Ad)) p1=some (.lst ((ag.take to).map Ad)):=Ac
  have Q3:=P2.new (o:=.lst ((ag.take to).map Ad)) au
  have T3:=S2.new (o:=.lst ((ag.take to).map Ad)) au
  generalize Aj μ2 p1 (.lst ((ag.take to).map Ad))=μ3 at e3 g3 Q3 T3 ⊢
  refine Aa e3 (Aa uh λp2 av=>?_)
  have e4:=nw (.lst [Ad ag[at']]) av _ _ e3
  have g4:=nw (.lst [Ad ag[at']]) av _ _ g3
  have h4:Aj μ3 p2 (.lst [Ad ag[at']]) p2=some (.lst ([ag[at']].map Ad)):=Ac
  have Q4:=Q3.new (o:=.lst [Ad ag[at']]) av
  have T4:=T3.new (o:=.lst [Ad ag[at']]) av
  generalize Aj μ3 p2 (.lst [Ad ag[at']])=μ4 at e4 g4 h4 Q4 T4 ⊢
  refine Aa g4 (Aa h4 ⟨by rw [Yaa,Yaa];exact seven (by have:=d8 to;simp only [List.length_singleton];omega),λp3 bj=>?_⟩)
  rw [<- Yac]
  have e5:=nw (.lst ((ag.take to++[ag[at']]).map Ad)) bj _ _ e4
  have g5:Aj μ4 p3 (.lst ((ag.take to++[ag[at']]).map Ad)) p3=some (.lst ((ag.take to++[ag[at']]).map Ad)):=Ac
  have Q5:=Q4.new (o:=.lst ((ag.take to++[ag[at']]).map Ad)) bj
  have T5:=T4.new (o:=.lst ((ag.take to++[ag[at']]).map Ad)) bj
  generalize Aj μ4 p3 (.lst ((ag.take to++[ag[at']]).map Ad))=μ5 at e5 g5 Q5 T5 ⊢
  refine Aa (Ak e5) λp4 bx=>?_
  rw [Bx]
  refine Aa (Sub.refl.new bx _ _ g5) (Aa Ac ⟨by rw [Yaa,Yaa];exact seven (by have:=d8 to;have:=d3 to;simp only [List.length_append,List.length_singleton];omega),λp5 cp=>?_⟩)
  rw [<- Yac]
  refine fin ?_ (B3 (B3 (ge _) (one u0)) (dz _)) cp (Q5.new bx) (T5.new bx)
  have:=i0 to
  have:=d3 to
  simp only [List.length_append,List.length_singleton];omega
 rintro τ _ ⟨rfl,hf1,rfl⟩
 refine Ap (fun τ μ'=>τ=[some (.R a),some (.R pr),some (.R pn),some (.D (.int at')),some (.D (.int to)),some (.D (.int fm)),none,none]/\fm≠2/\μ2=μ') (λZ hZ=>?_) ?_
 ·refine ieq (λc=>?_) (λc=>hZ _ _ ⟨rfl,by omega,rfl⟩)
  refine Ap (fun τ μ'=>∃p6,τ=[some (.R a),some (.R pr),some (.R pn),some (.D (.int at')),some (.D (.int to)),some (.D (.int fm)),some (.R p6),none]/\μ' p6=some (.lst ((ag.take at'++ag.drop (at'+1)).map Ad))/\μ' pr=some (.lst (ag.map Ad))/\Pot μ' a l/\A5 a l μ μ') (λZ3 bi=>?_) ?_
  ·exact cut e2 P2 S2 λp3 μ4 bj P4 S4 e4=>bi _ _ ⟨p3,rfl,Ac,Sub.refl.new bj _ _ e4,P4.new bj,S4.new bj⟩
  rintro τ μ3 ⟨p6,rfl,f3,e3,P3,S3⟩
  have ma:(ag.take at'++ag.drop (at'+1)).length<=ag.length - 1:=by
   rw [Yai]
   have:=i0 at'
   have:=d3 (at'+1)
   omega
  have va:=B3 (ge at') (dz (at'+1))
  generalize ag.take at'++ag.drop (at'+1)=lf at f3 ma va
  refine Aa (Ak f3) λp1 au=>?_
  rw [B6]
  have f4:=nw (.lst ((lf.take to).map Ad)) au _ _ f3
  have e4:=nw (.lst ((lf.take to).map Ad)) au _ _ e3
  have g4:Aj μ3 p1 (.lst ((lf.take to).map Ad)) p1=some (.lst ((lf.take to).map Ad)):=Ac
  have Q4:=P3.new (o:=.lst ((lf.take to).map Ad)) au
  have T4:=S3.new (o:=.lst ((lf.take to).map Ad)) au
  generalize Aj μ3 p1 (.lst ((lf.take to).map Ad))=μ4 at f4 e4 g4 Q4 T4 ⊢
  refine Aa e4 (Aa uh λp2 av=>?_)
  have f5:=nw (.lst [Ad ag[at']]) av _ _ f4
  have g5:=nw (.lst [Ad ag[at']]) av _ _ g4
  have h5:Aj μ4 p2 (.lst [Ad ag[at']]) p2=some (.lst ([ag[at']].map Ad)):=Ac
  have Q5:=Q4.new (o:=.lst [Ad ag[at']]) av
  have T5:=T4.new (o:=.lst [Ad ag[at']]) av
  generalize Aj μ4 p2 (.lst [Ad ag[at']])=μ5 at f5 g5 h5 Q5 T5 ⊢
  have ltl:(lf.take to).length<=lf.length:=by rw [Ybd];omega
  refine Aa g5 (Aa h5 ⟨by rw [Yaa,Yaa];exact seven (by simp only [List.length_singleton];omega),λp3 bj=>?_⟩)
  rw [<- Yac]
  have f6:=nw (.lst ((lf.take to++[ag[at']]).map Ad)) bj _ _ f5
  have g6:Aj μ5 p3 (.lst ((lf.take to++[ag[at']]).map Ad)) p3=some (.lst ((lf.take to++[ag[at']]).map Ad)):=Ac
  have Q6:=Q5.new (o:=.lst ((lf.take to++[ag[at']]).map Ad)) bj
  have T6:=T5.new (o:=.lst ((lf.take to++[ag[at']]).map Ad)) bj
  generalize Aj μ5 p3 (.lst ((lf.take to++[ag[at']]).map Ad))=μ6 at f6 g6 Q6 T6 ⊢
  refine Aa (Ak f6) λp4 bx=>?_
  rw [Bx]
  have ltd:(lf.take to).length+(lf.drop to).length=lf.length:=by rw [<- Yai,List.take_append_drop]
  refine Aa (Sub.refl.new bx _ _ g6) (Aa Ac ⟨by rw [Yaa,Yaa];exact seven (by simp only [List.length_append,List.length_singleton];omega),λp5 cp=>?_⟩)
  rw [<- Yac]
  refine fin ?_ (B3 (B3 (λz hz=>va z (Yb3 hz)) (one u0)) (λz hz=>va z (Yci hz))) cp (Q6.new bx) (T6.new bx)
  simp only [List.length_append,List.length_singleton];omega
 rintro τ _ ⟨rfl,hf2,rfl⟩
 refine Ap (fun τ μ'=>τ=[some (.R a),some (.R pr),some (.R pn),some (.D (.int at')),some (.D (.int to)),some (.D (.int fm)),none,none]/\μ2=μ') (λZ hZ=>?_) ?_
 ·refine dif (λc=>?_) (λc=>hZ _ _ ⟨rfl,rfl⟩)
  refine Aa (Ak e2) λp1 au=>?_
  rw [B6]
  have e3:Aj μ2 p1 (.lst ((ag.take to).map Ad)) pr=some (.lst (ag.map Ad)):=Sub.refl.new au _ _ e2
  have n3:Aj μ2 p1 (.lst ((ag.take to).map Ad)) pn=some (.lst (zs.map Ad)):=Sub.refl.new au _ _ n2
  have g3:Aj μ2 p1 (.lst ((ag.take to).map Ad)) p1=some (.lst ((ag.take to).map Ad)):=Ac
  have h1:=P2.ne au
  have Q3:=P2.new (o:=.lst ((ag.take to).map Ad)) au
  have T3:=S2.new (o:=.lst ((ag.take to).map Ad)) au
  generalize Aj μ2 p1 (.lst ((ag.take to).map Ad))=μ3 at e3 n3 g3 Q3 T3 ⊢
  refine⟨a,l,pn,zs,rfl,bn,n3,hz,Q3,λap μ3' ha hl P3 S3=>λp2 av=>?_⟩
  have e3':=S3 pr _ cb.1 cb.2 e3
  have zn:=S3 p1 _ h1.1.symm h1.2.symm g3
  have e4:=nw (.lst [AV.D (PyData.str ap)]) av _ _ e3'
  have g4:=nw (.lst [AV.D (PyData.str ap)]) av _ _ zn
  have h4:Aj μ3' p2 (.lst [AV.D (PyData.str ap)]) p2=some (.lst ([ap].map Ad)):=Ac
  have Q4:=P3.new (o:=.lst [AV.D (PyData.str ap)]) av
  have T4:=(T3.trans S3).new (o:=.lst [AV.D (PyData.str ap)]) av
  generalize Aj μ3' p2 (.lst [AV.D (PyData.str ap)])=μ4 at e4 g4 h4 Q4 T4 ⊢
  refine Aa g4 (Aa h4 ⟨by rw [Yaa,Yaa];exact seven (by have:=d8 to;simp only [List.length_singleton];omega),λp3 bj=>?_⟩)
  rw [<- Yac]
  have e5:=nw (.lst ((ag.take to++[ap]).map Ad)) bj _ _ e4
  have g5:Aj μ4 p3 (.lst ((ag.take to++[ap]).map Ad)) p3=some (.lst ((ag.take to++[ap]).map Ad)):=Ac
  have Q5:=Q4.new (o:=.lst ((ag.take to++[ap]).map Ad)) bj
  have T5:=T4.new (o:=.lst ((ag.take to++[ap]).map Ad)) bj
  generalize Aj μ4 p3 (.lst ((ag.take to++[ap]).map Ad))=μ5 at e5 g5 Q5 T5 ⊢
  refine Aa (Ak e5) λp4 bx=>?_
  rw [show((to:Int)+(fm:Int) - 3)=((to+fm - 3:Nat):Int) by omega,Bx]
  refine Aa (Sub.refl.new bx _ _ g5) (Aa Ac ⟨by rw [Yaa,Yaa];exact seven (by have:=d8 to;have:=d3 (to+fm - 3);simp only [List.length_append,List.length_singleton];omega),λp5 cp=>?_⟩)
  rw [<- Yac]
  refine fin ?_ (B3 (B3 (ge _) (one (odd ha hl))) (dz _)) cp (Q5.new bx) (T5.new bx)
  have:=i0 to
  have:=d3 (to+fm - 3)
  simp only [List.length_append,List.length_singleton];omega
 rintro τ _ ⟨rfl,rfl⟩
 refine Ap (fun τ μ'=>τ=[some (.R a),some (.R pr),some (.R pn),some (.D (.int at')),some (.D (.int to)),some (.D (.int fm)),none,none]/\μ2=μ') (λZ hZ=>?_) ?_
 ·refine ieq (λc=>?_) (λc=>hZ _ _ ⟨rfl,rfl⟩)
  refine Ap (fun τ μ'=>∃sh:Str,τ=[some (.R a),some (.R pr),some (.R pn),some (.D (.int at')),some (.D (.int to)),some (.D (.int fm)),none,some (Ad sh)]/\(asc sh/\sh.length<=2 * N+60)/\μ' pr=some (.lst (ag.map Ad))/\Pot μ' a l/\A5 a l μ μ') (λZ3 bi=>?_) ?_
  ·have u9:ag[at'].length<=sizeLine:=seven (by omega)
   refine Aa e2 (Aa uh (Aa e2 (Aa uh ⟨u9,a,l,ag[at'].length+1,rfl,P2,by omega,by omega,λv μ3 hv P3 S3=>⟨u9,bi _ _ ⟨_,rfl,⟨Hl _ _ u0.1,Yap (Txt.slice_le _ _ _) u0.2⟩,S3 pr _ cb.1 cb.2 e2,P3,S2.trans S3⟩⟩⟩)))
  rintro τ μ3 ⟨sh,rfl,hsh,e3,P3,S3⟩
  refine Aa (Ak e3) λp1 au=>?_
  rw [B6]
  have e4:=nw (.lst ((ag.take to).map Ad)) au _ _ e3
  have g4:Aj μ3 p1 (.lst ((ag.take to).map Ad)) p1=some (.lst ((ag.take to).map Ad)):=Ac
  have Q4:=P3.new (o:=.lst ((ag.take to).map Ad)) au
  have T4:=S3.new (o:=.lst ((ag.take to).map Ad)) au
  have h1:=P3.ne au
  have k1:μ p1=none:=S3.none h1.1 h1.2 au
  generalize Aj μ3 p1 (.lst ((ag.take to).map Ad))=μ4 at e4 g4 Q4 T4 ⊢
  intro p2 av
  have h2:=Q4.ne av
  have k2:μ p2=none:=T4.none h2.1 h2.2 av
  have e5:=nw (.lst [AV.D (PyData.str "")]) av _ _ e4
  have g5:=nw (.lst [AV.D (PyData.str "")]) av _ _ g4
  have i5:Aj μ4 p2 (.lst [AV.D (PyData.str "")]) p2=some (.lst ([("" : Str)].map Ad)):=Ac
  have Q5:=Q4.new (o:=.lst [AV.D (PyData.str "")]) av
  have T5:=T4.new (o:=.lst [AV.D (PyData.str "")]) av
  generalize Aj μ4 p2 (.lst [AV.D (PyData.str "")])=μ5 at e5 g5 i5 Q5 T5 ⊢
  refine Aa (Ak e5) λp3 bj=>?_
  rw [B6]
  have g6:=nw (.lst ((ag.take to).map Ad)) bj _ _ g5
  have i6:=nw (.lst ((ag.take to).map Ad)) bj _ _ i5
  have j6:Aj μ5 p3 (.lst ((ag.take to).map Ad)) p3=some (.lst ((ag.take to).map Ad)):=Ac
  have Q6:=Q5.new (o:=.lst ((ag.take to).map Ad)) bj
  have T6:=T5.new (o:=.lst ((ag.take to).map Ad)) bj
  generalize Aj μ5 p3 (.lst ((ag.take to).map Ad))=μ6 at g6 i6 j6 Q6 T6 ⊢
  intro p4 bx
  have g7:=nw (.lst [Ad sh]) bx _ _ g6
  have i7:=nw (.lst [Ad sh]) bx _ _ i6
  have j7:=nw (.lst [Ad sh]) bx _ _ j6
  have m7:Aj μ6 p4 (.lst [Ad sh]) p4=some (.lst ([sh].map Ad)):=Ac
  have Q7:=Q6.new (o:=.lst [Ad sh]) bx
  have T7:=T6.new (o:=.lst [Ad sh]) bx
  generalize Aj μ6 p4 (.lst [Ad sh])=μ7 at g7 i7 j7 m7 Q7 T7 ⊢
  refine Aa j7 (Aa m7 ⟨by rw [Yaa,Yaa];exact seven (by have:=d8 to;simp only [List.length_singleton];omega),λp5 cp=>?_⟩)
  rw [<- Yac]
  have h5:=Q7.ne cp
  have k5:μ p5=none:=T7.none h5.1 h5.2 cp
  have g8:=nw (.lst ((ag.take to++[sh]).map Ad)) cp _ _ g7
  have i8:=nw (.lst ((ag.take to++[sh]).map Ad)) cp _ _ i7
  have j8:Aj μ7 p5 (.lst ((ag.take to++[sh]).map Ad)) p5=some (.lst ((ag.take to++[sh]).map Ad)):=Ac
  have Q8:=Q7.new (o:=.lst ((ag.take to++[sh]).map Ad)) cp
  have T8:=T7.new (o:=.lst ((ag.take to++[sh]).map Ad)) cp
  generalize Aj μ7 p5 (.lst ((ag.take to++[sh]).map Ad))=μ8 at g8 i8 j8 Q8 T8 ⊢
  intro p6 i3
  have h6:=Q8.ne i3
  have T9:A5 a l μ8 (Aj μ8 p6 (.lst [.R p1,.R p2,.R p5])):=A5.refl.new i3
  refine⟨a,l,3,rfl,Q8.new i3,by decide,by decide,λv μ9 hv P9 S9=>?_⟩
  refine Aa (S9 p6 _ h6.1.symm h6.2.symm Ac) ?_
  have U:=T8.trans (T9.trans S9)
  have ht1:=d8 to
  have ee:∀y∈[("" : Str)],asc y/\y.length<=2 * N+60:=one (odd Z9 (by decide +kernel))
  rcases(show v=0\/v=1\/v=2 by omega) with rfl | rfl | rfl
  ·exact Aa (Ao (j:=0) rfl) ⟨_,Sub.refl,q _ p1 _ (by omega) (ge to) k1 (S9 p1 _ h1.1.symm h1.2.symm (T9 p1 _ h1.1.symm h1.2.symm g8)) P9 U⟩
  ·exact Aa (Ao (j:=1) rfl) ⟨_,Sub.refl,q _ p2 _ (by simp) ee k2 (S9 p2 _ h2.1.symm h2.2.symm (T9 p2 _ h2.1.symm h2.2.symm i8)) P9 U⟩
  ·exact Aa (Ao (j:=2) rfl) ⟨_,Sub.refl,q _ p5 _ (by simp only [List.length_append,List.length_singleton];omega) (B3 (ge to) (one hsh)) k5 (S9 p5 _ h5.1.symm h5.2.symm (T9 p5 _ h5.1.symm h5.2.symm j8)) P9 U⟩
 rintro τ _ ⟨rfl,rfl⟩
 refine Aa (Ak e2) λp1 au=>?_
 rw [B6]
 have e3:Aj μ2 p1 (.lst ((ag.take at').map Ad)) pr=some (.lst (ag.map Ad)):=Sub.refl.new au _ _ e2
 have n3:Aj μ2 p1 (.lst ((ag.take at').map Ad)) pn=some (.lst (zs.map Ad)):=Sub.refl.new au _ _ n2
 have g3:Aj μ2 p1 (.lst ((ag.take at').map Ad)) p1=some (.lst ((ag.take at').map Ad)):=Ac
 have h1:=P2.ne au
 have Q3:=P2.new (o:=.lst ((ag.take at').map Ad)) au
 have T3:=S2.new (o:=.lst ((ag.take at').map Ad)) au
 generalize Aj μ2 p1 (.lst ((ag.take at').map Ad))=μ3 at e3 n3 g3 Q3 T3 ⊢
 refine Aa e3 (Aa uh ⟨a,l,pn,ag[at'],zs,rfl,bn,n3,hz,⟨zat.1,by omega⟩,Q3,λap μ3' ha hl P3 S3=>λp2 av=>?_⟩)
 have jy:asc ap/\ap.length<=2 * N+60:=⟨ha,by omega⟩
 have e3':=S3 pr _ cb.1 cb.2 e3
 have zn:=S3 p1 _ h1.1.symm h1.2.symm g3
 have e4:=nw (.lst [AV.D (PyData.str ap)]) av _ _ e3'
 have g4:=nw (.lst [AV.D (PyData.str ap)]) av _ _ zn
 have h4:Aj μ3' p2 (.lst [AV.D (PyData.str ap)]) p2=some (.lst ([ap].map Ad)):=Ac
 have Q4:=P3.new (o:=.lst [AV.D (PyData.str ap)]) av
 have T4:=(T3.trans S3).new (o:=.lst [AV.D (PyData.str ap)]) av
 generalize Aj μ3' p2 (.lst [AV.D (PyData.str ap)])=μ4 at e4 g4 h4 Q4 T4 ⊢
 refine Aa g4 (Aa h4 ⟨by rw [Yaa,Yaa];exact seven (by have:=d8 at';simp only [List.length_singleton];omega),λp3 bj=>?_⟩)
 rw [<- Yac]
 have e5:=nw (.lst ((ag.take at'++[ap]).map Ad)) bj _ _ e4
 have g5:Aj μ4 p3 (.lst ((ag.take at'++[ap]).map Ad)) p3=some (.lst ((ag.take at'++[ap]).map Ad)):=Ac
 have Q5:=Q4.new (o:=.lst ((ag.take at'++[ap]).map Ad)) bj
 have T5:=T4.new (o:=.lst ((ag.take at'++[ap]).map Ad)) bj
 generalize Aj μ4 p3 (.lst ((ag.take at'++[ap]).map Ad))=μ5 at e5 g5 Q5 T5 ⊢
 refine Aa (Ak e5) λp4 bx=>?_
 rw [show((at':Int)+1)=((at'+1:Nat):Int) by omega,Bx]
 refine Aa (Sub.refl.new bx _ _ g5) (Aa Ac ⟨by rw [Yaa,Yaa];exact seven (by have:=d8 at';have:=d3 (at'+1);simp only [List.length_append,List.length_singleton];omega),λp5 cp=>?_⟩)
 rw [<- Yac]
 refine fin ?_ (B3 (B3 (ge _) (one jy)) (dz _)) cp (Q5.new bx) (T5.new bx)
 have:=i0 at'
 have:=d3 (at'+1)
 simp only [List.length_append,List.length_singleton];omega
end
section
variable {P:Program}{w:World}{K:PySem.W.Frag}{mg:Str->Option Value}{base:Heap}{f:Addr}{fd:FuncData}
theorem Yu{z:Str}(h:NameOk z):Bv z=true:=by
 unfold Bv
 rw [Yaj h.a,Yaj h.b,Yah h.k,Yd2,Ya4,Ya4]
 refine Ybs.mpr λc hc=>?_
 have:=h.l c hc
 unfold abc
 rw [Yaj this.1,Yaj this.2];rfl
theorem Qdc(h:Nat):Dj (if h=0 then("one" : Str) else("other" : Str))=true:=by
 split <;> decide +kernel
theorem Qhe{h:Nat}(hh:h < 2):hndN (if h=0 then("one" : Str) else("other" : Str))=h:=by
 rcases(show h=0\/h=1 by omega) with rfl | rfl
 ·decide +kernel
 ·decide +kernel
theorem gwP(rest:List (List Str)):∀(Q P:List (Str×Nat)),((P++Q).map (·.1)).Nodup->(∀p∈Q,NameOk p.1/\p.2 < 2)->gw ⟨P,[],[]⟩ (Q.map Lf++rest)=gw ⟨P++Q,[],[]⟩ rest
 | [],P,_,_=>by rw [Yc1,Yc3,Ybi]
 | p :: Q,P,hd,ho=>by
  rw [Ya7,Ycg,gw]
  have hp:=ho p Yao
  have mx:p.1∉P.map (·.1):=λhm=>by
   rw [Yac,Ydz]at hd
   exact hd.2.2 _ hm p.1 (by simp) rfl
  have e1:E5 ⟨P,[],[]⟩ (Lf p)=true:=by
   show(decide (([]:List Str)=[]) && Ie P (Lf p))=true
   unfold Ie
   rw [show(Lf p)[2]?.any Dj=Dj (if p.2=0 then("one" : Str) else("other" : Str)) from rfl,Qdc,show(Lf p)[1]?.any Bv=Bv p.1 from rfl,Yu hp.1,show((Lf p)[1]?.any λn=>decide (n∈P.map (·.1)))=decide (p.1∈P.map (·.1)) from rfl,Yah mx]
   rfl
  have e2:G7 ⟨P,[],[]⟩ (Lf p)=⟨P++[p],[],[]⟩:=by
   show(⟨P++[(p.1,hndN (if p.2=0 then("one" : Str) else("other" : Str)))],[],[]⟩:Gt)=_
   rw [Qhe hp.2]
  rw [e1,Yaw rfl,e2,gwP rest Q (P++[p]) (by rw [Ybk];exact hd) λx hx=>ho x (Yae _ hx),Ybk];rfl
theorem gwL{P:List (Str×Nat)}(hP:P≠[])(rest:List (List Str)):∀(M L:List Str),(L++M).Nodup->(∀z∈M,NameOk z)->gw ⟨P,L,[]⟩ (M.map Lg++rest)=gw ⟨P,L++M,[]⟩ rest
 | [],L,_,_=>by rw [Yc1,Yc3,Ybi]
 | z :: M,L,hd,ho=>by
  rw [Ya7,Ycg,gw]
  have hz:=ho z Yao
  have mx:z∉L:=λhm=>by
   rw [Ydz]at hd
   exact hd.2.2 _ hm z (by simp) rfl
  have bn:¬(Lg z)[0]?=some ("place" : Str):=λh=>Zy (Yas h)
  have e1:E5 ⟨P,L,[]⟩ (Lg z)=true:=by
   unfold E5
   rw [Yar bn,Yaw (show(Lg z)[0]?=some ("letter" : Str) from rfl),Yah (show ¬(⟨P,L,[]⟩:Gt).pl=[] from hP)]
   unfold J1
   rw [show(Lg z)[1]?.any Bv=Bv z from rfl,Yu hz,show((Lg z)[1]?.any λn=>decide (n∈L))=decide (z∈L) from rfl,Yah mx]
   rfl
  have e2:G7 ⟨P,L,[]⟩ (Lg z)=⟨P,L++[z],[]⟩:=by
   unfold G7
   rw [Yar bn,Yaw (show(Lg z)[0]?=some ("letter" : Str) from rfl)];rfl
  rw [e1,Yaw rfl,e2,gwL hP rest M (L++[z]) (by rw [Ybk];exact hd) λx hx=>ho x (Yae _ hx),Ybk];rfl
theorem Qg{zs:List Str}(h:zs.Nodup){k:Nat}(hk:k < zs.length):ixN zs (zs.getD k ("" : Str))=k:=by
 unfold ixN
 rw [List.getD_eq_getElem?_getD,List.getElem?_eq_getElem hk]
 exact h.idxOf_getElem k hk
theorem Qh{zs:List Str}{k:Nat}(hk:k < zs.length):zs.getD k ("" : Str)∈zs:=by
 rw [List.getD_eq_getElem?_getD,List.getElem?_eq_getElem hk]
 exact Ybg hk
theorem Wh{f:Nat->Nat}:∀{w:List Nat},(∀k∈w,f k=k)->w.map f=w
 | [],_=>rfl
 | k :: w,h=>by rw [Ya7,h k Yao,Wh λx hx=>h x (Yae _ hx)]
theorem gwR{g:Gt}(hg:GG g):∀(A R:List Rl),(∀r∈A,RK g.pl.length g.le.length r)->gw ⟨g.pl,g.le,R⟩ (A.map (Mh g))=⟨g.pl,g.le,R++A⟩
 | [],R,_=>by rw [Yc1,gw,Ybi]
 | r :: A,R,ho=>by
  rw [Ya7,gw]
  obtain⟨h1,h2,h3,h4,h5⟩:=ho r Yao
  have hl:(g.pl.map (·.1)).length=g.pl.length:=Yaa _
  have ud:¬g.le=[]:=λe=>by rw [e]at h2;cases h2
  have n1:¬(Mh g r)[0]?=some ("place" : Str):=λh=>Zz (Yas h)
  have n2:¬(Mh g r)[0]?=some ("letter" : Str):=λh=>Z5 (Yas h)
  have b1:J5 g r.p∈g.pl.map (·.1):=Qh (by omega)
  have b2:J5 g r.q∈g.pl.map (·.1):=Qh (by omega)
  have b3:G8 g r.x∈g.le:=Qh h2
  have b4:((r.w.map (G8 g)).all λn=>decide (n∈g.le))=true:=Ybs.mpr λz hz=>by
   obtain⟨k,hk,rfl⟩:=Yaz.mp hz
   exact Yaj (Qh (h5 k hk))
  have e1:E5 ⟨g.pl,g.le,R⟩ (Mh g r)=true:=by
   unfold E5
   rw [Yar n1,Yar n2]
   show(!decide (g.le=[]) && Mk (g.pl.map (·.1)) g.le (Mh g r))=true
   rw [Yah ud]
   unfold Mh
   rw [ru5,Yaj (show(r.w.map (G8 g)).length<=2 by rw [Yaa];exact h4),Yaj b1,Yaj b2,Yaj b3,b4,Yaj (rfl:("rule" : Str) = "rule"),Yaj (rfl:(":" : Str) = ":")]
   rfl
  have e3:Vv (g.pl.map (·.1)) g.le (Mh g r)=r:=by
   unfold Vv
   show(⟨ixN (g.pl.map (·.1)) (J5 g r.p),ixN g.le (G8 g r.x),ixN (g.pl.map (·.1)) (J5 g r.q),(r.w.map (G8 g)).map (ixN g.le)⟩:Rl)=r
   rw [show ixN (g.pl.map (·.1)) (J5 g r.p)=r.p from Qg hg.pd (by omega),show ixN (g.pl.map (·.1)) (J5 g r.q)=r.q from Qg hg.pd (by omega),show ixN g.le (G8 g r.x)=r.x from Qg hg.ld h2,Ya0,Wh (f:=ixN g.le ∘ G8 g) λk hk=>Qg hg.ld (h5 k hk)]
  have e2:G7 ⟨g.pl,g.le,R⟩ (Mh g r)=⟨g.pl,g.le,R++[r]⟩:=by
   unfold G7
   rw [Yar n1,Yar n2]
   show(⟨g.pl,g.le,R++[Vv (g.pl.map (·.1)) g.le (Mh g r)]⟩:Gt)=_
   rw [e3]
  rw [e1,Yaw rfl,e2,gwR hg A (R++[r]) λx hx=>ho x (Yae _ hx),Ybk];rfl
theorem Yv{g:Gt}(hg:GG g):gw g0 (Gc g)=g:=by
 have hp:=hg.p1
 unfold Gc g0
 rw [Ybk,gwP _ g.pl [] hg.pd hg.pn,Yc3,gwL (λe=>by rw [e]at hp;cases hp) _ g.le [] hg.ld hg.ln,Yc3,gwR hg g.rs [] hg.r];rfl
theorem Qka:Wc "place" /\ Wc "one" /\ Wc "other" /\ Wc "letter" /\ Wc "rule" /\ Wc ":" := by unfold Wc;decide +kernel
theorem Qi{g:Gt}(hg:GG g):∀ws∈Gc g,ws≠[]/\∀z∈ws,Wc z:=λws hws=>by
 obtain⟨w1,w2,w3,w4,w5,w6⟩:=Qka
 unfold Gc at hws
 rcases Ya5.mp hws with hws | hws
 ·rcases Ya5.mp hws with hws | hws
  ·obtain⟨p,hp,rfl⟩:=Yaz.mp hws
   refine⟨List.cons_ne_nil _ _,λz hz=>?_⟩
   unfold Lf at hz
   simp only [List.mem_cons,List.not_mem_nil,or_false]at hz
   rcases hz with rfl | rfl | rfl
   ·exact w1
   ·exact Fp (hg.pn p hp).1.l
   ·split
    ·exact w2
    ·exact w3
  ·obtain⟨x,hx,rfl⟩:=Yaz.mp hws
   refine⟨List.cons_ne_nil _ _,λz hz=>?_⟩
   unfold Lg at hz
   simp only [List.mem_cons,List.not_mem_nil,or_false]at hz
   rcases hz with rfl | rfl
   ·exact w4
   ·exact Fp (hg.ln _ hx).l
 ·obtain⟨r,hr,rfl⟩:=Yaz.mp hws
  obtain⟨h1,h2,h3,h4,h5⟩:=hg.r r hr
  refine⟨List.cons_ne_nil _ _,λz hz=>?_⟩
  unfold Mh at hz
  simp only [List.mem_cons,List.mem_map]at hz
  rcases hz with rfl | rfl | rfl | rfl | rfl | ⟨k,hk,rfl⟩
  ·exact w5
  ·obtain⟨p,_,e,o⟩:=Lj hg h1
   rw [e];exact Fp o.l
  ·exact Fp (Jx hg h2).2.l
  ·exact w6
  ·obtain⟨p,_,e,o⟩:=Lj hg h3
   rw [e];exact Fp o.l
  ·exact Fp (Jx hg (h5 k hk)).2.l
theorem Wi{g:Gt}(hg:GG g):Gc g≠[]:=λe=>by
 have:=Ybo List.length e
 unfold Gc at this
 rw [Yai,Yai,Yaa]at this
 have h:=hg.p1
 simp at this
 rw [this.1.1]at h
 cases h
theorem R9{ws:List Str}(h:ws≠[]/\∀z∈ws,Wc z):Txt.split (Txt.join " " ws) " " = ws:=by
 rw [Dz,Eu]
 exact Iz h.1 λz hz=>(h.2 z hz).1
theorem O1{ag:List (List Str)}(h0:ag≠[])(h:∀ws∈ag,ws≠[]/\∀z∈ws,Wc z):Txt.split (Txt.join "\n" (ag.map (Txt.join " "))) "\n" = ag.map (Txt.join " "):=by
 rw [Dz,Hj]
 refine Iz (by simpa using h0) λz hz=>?_
 obtain⟨ws,hws,rfl⟩:=Yaz.mp hz
 rw [Dz,Eu]
 exact Lh (by decide) λz hz=>((h ws hws).2 z hz).2
theorem Nq{f:List Str->List Str}:∀{W:List (List Str)},(∀w∈W,f w=w)->W.map f=W
 | [],_=>rfl
 | w :: W,h=>by rw [Ya7,h w Yao,Nq λx hx=>h x (Yae _ hx)]
theorem Wj{g:Gt}(hg:GG g):wrd (Txt.join "\n" (rowsT g))=Gc g:=by
 unfold wrd rowsT
 rw [O1 (Wi hg) (Qi hg),Ya0]
 exact Nq λw hw=>R9 (Qi hg w hw)
theorem Sa{g:Gt}(hg:GG g):Go (wrd (Txt.join "\n" (rowsT g)))=g/\Mn (wrd (Txt.join "\n" (rowsT g))) g=true:=by
 rw [Wj hg]
 refine⟨by rw [<- V6,Yv hg],?_⟩
 have hl:=hg.l1
 unfold Mn gtN Gc
 rw [Yah (by rw [Yai,Yai,Yaa,Yaa,Yaa];omega),Yah (by omega)];rfl
theorem Fr{c:Nat}:∀{ws:List Str},(∀z∈ws,z.length<=c)->jsum ws<=ws.length * (c+1)
 | [],_=>Yb0 _
 | x :: r,h=>by
  have h1:=h x Yao
  have h2:=Fr (c:=c) λz hz=>h z (Yae _ hz)
  rw [show jsum (x :: r)=(x.length+1)+jsum r by simp [jsum],Yba,Nat.succ_mul]
  omega
theorem Qab{ws:List Str}{N:Nat}(h:jsum ws<=N)(ha:∀z∈ws,asc z):asc (Txt.join "\n" ws)/\(Txt.join "\n" ws).length<=N:=by
 rw [Dz,Hj]
 refine⟨Jy (by decide) ha,?_⟩
 cases ws with
 | nil=>exact Yb0 _
 | cons x r=>have:=Fq (c:=10) (ws:=x :: r) (by simp);omega
theorem O2{g:Gt}(hg:GG g){p:Str×Nat}(hp:p∈g.pl):asc (Txt.join " " (Lf p))/\(Txt.join " " (Lf p)).length<=18:=by
 obtain⟨n,h⟩:=p
 have ho:=(hg.pn _ hp).1
 have hb:n.length<=6:=ho.b
 have h6:=Qg5 h
 rw [<- plT]
 refine⟨Cq (Cq (Eb (by decide +kernel)) (Dd ho.l)) (Eb ?_),?_⟩
 ·split <;> decide +kernel
 ·rw [A3,A3,Qc8];omega
theorem O3{g:Gt}(hg:GG g){z:Str}(hz:z∈g.le):asc (Txt.join " " (Lg z))/\(Txt.join " " (Lg z)).length<=13:=by
 have ho:=hg.ln _ hz
 have hb:=ho.b
 rw [<- leT]
 refine⟨Cq (Eb (by decide +kernel)) (Dd ho.l),?_⟩
 rw [A3,Qg6];omega
theorem O4{g:Gt}(hg:GG g){r:Rl}(hr:r∈g.rs):asc (Txt.join " " (Mh g r))/\(Txt.join " " (Mh g r)).length<=44:=by
 obtain⟨h1,h2,h3,h4,h5⟩:=hg.r r hr
 obtain⟨p,_,ep,op⟩:=Lj hg h1
 obtain⟨q,_,eq,oq⟩:=Lj hg h3
 have ox:=(Jx hg h2).2
 refine Ev ?_ λz hz=>?_
 ·have hw:jsum (r.w.map (G8 g))<=r.w.length * 7:=by
   have:=Fr (c:=6) (ws:=r.w.map (G8 g)) λz hz=>by
    obtain⟨k,hk,rfl⟩:=Yaz.mp hz
    exact(Jx hg (h5 k hk)).2.b
   rw [Yaa]at this
   exact this
  have b1:(J5 g r.p).length<=6:=by rw [ep];exact op.b
  have b2:(J5 g r.q).length<=6:=by rw [eq];exact oq.b
  have b3:=ox.b
  have r4:("rule" : Str).length=4:=by decide +kernel
  have c1:(":" : Str).length=1:=by decide +kernel
  unfold Mh
  rw [show jsum (("rule" : Str) :: J5 g r.p :: G8 g r.x :: (":" : Str) :: J5 g r.q :: r.w.map (G8 g))=(("rule" : Str).length+1)+((J5 g r.p).length+1)+((G8 g r.x).length+1)+((":" : Str).length+1)+((J5 g r.q).length+1)+jsum (r.w.map (G8 g)) by simp [jsum];omega]
  omega
 ·unfold Mh at hz
  simp only [List.mem_cons,List.mem_map]at hz
  rcases hz with rfl | rfl | rfl | rfl | rfl | ⟨k,hk,rfl⟩
  ·exact Eb (by decide +kernel)
  ·rw [ep];exact Dd op.l
  ·exact Dd ox.l
  ·exact Eb (by decide +kernel)
  ·rw [eq];exact Dd oq.l
  ·exact Dd (Jx hg (h5 k hk)).2.l
theorem Wk{g:Gt}(hg:GG g):(∀z∈rowsT g,asc z/\z.length<=45)/\(rowsT g).length<=22/\jsum (rowsT g)<=800:=by
 rw [Np]
 have hp:=hg.p5
 have hl:=hg.l5
 have hr:=hg.rn
 refine⟨λz hz=>?_,by simp only [List.length_append,List.length_map];omega,?_⟩
 ·rcases Ya5.mp hz with hz | hz
  ·rcases Ya5.mp hz with hz | hz
   ·obtain⟨p,hp,rfl⟩:=Yaz.mp hz
    exact⟨(O2 hg hp).1,Yap (O2 hg hp).2 (by omega)⟩
   ·obtain⟨p,hp,rfl⟩:=Yaz.mp hz
    exact⟨(O3 hg hp).1,Yap (O3 hg hp).2 (by omega)⟩
  ·obtain⟨p,hp,rfl⟩:=Yaz.mp hz
   exact⟨(O4 hg hp).1,Yap (O4 hg hp).2 (by omega)⟩
 ·have j1:=Fr (c:=18) (ws:=g.pl.map λp=>Txt.join " " (Lf p)) λz hz=>by
   obtain⟨p,hp,rfl⟩:=Yaz.mp hz
   exact(O2 hg hp).2
  have j2:=Fr (c:=13) (ws:=g.le.map λp=>Txt.join " " (Lg p)) λz hz=>by
   obtain⟨p,hp,rfl⟩:=Yaz.mp hz
   exact(O3 hg hp).2
  have j3:=Fr (c:=44) (ws:=g.rs.map λp=>Txt.join " " (Mh g p)) λz hz=>by
   obtain⟨p,hp,rfl⟩:=Yaz.mp hz
   exact(O4 hg hp).2
  rw [Yaa]at j1 j2 j3
  rw [Dt,Dt]
  omega
end
section
variable {P:Program}{w:World}{K:PySem.W.Frag}{mg:Str->Option Value}{base:Heap}{f:Addr}{fd:FuncData}
structure Iv(g:Gt):Prop where
 p:∀x∈g.pl,Bv x.1=true/\x.2 < 2
 l:∀z∈g.le,Bv z=true
 r:∀r∈g.rs,RK g.pl.length g.le.length r
theorem Qdd(h:Str):hndN h < 2:=by unfold hndN;split <;> omega
theorem Iv.ad{g:Gt}{v:List Str}(h:Iv g)(hs:E5 g v=true):Iv (G7 g v):=by
 by_cases h0:v[0]?=some ("place" : Str)
 ·obtain⟨n,z,rfl,_⟩:=Zu hs h0
  have hb:Bv n=true:=by
   unfold E5 at hs
   rw [Yaw h0,Ya2]at hs
   have hs:=hs.2
   unfold Ie at hs
   simp only [Bool.and_eq_true]at hs
   exact hs.2.2.2.1
  rw [show G7 g [("place" : Str),n,z]={ g with pl:=g.pl++[(n,hndN z)] } from Yaw rfl]
  refine⟨λx hx=>?_,h.l,λr hr=>?_⟩
  ·rcases Ya5.mp hx with hx | hx
   ·exact h.p x hx
   ·rw [Ya3.mp hx];exact⟨hb,Qdd z⟩
  ·obtain⟨a,b,c,d,e⟩:=h.r r hr
   have hl:({ g with pl:=g.pl++[(n,hndN z)] }:Gt).pl.length=g.pl.length+1:=by rw [Yai];rfl
   exact⟨by omega,b,by omega,d,e⟩
 by_cases h1:v[0]?=some ("letter" : Str)
 ·obtain⟨n,rfl⟩:=Zv hs h0 h1
  have hb:Bv n=true:=by
   unfold E5 at hs
   rw [Yar h0,Yaw h1,Ya2,Ya2]at hs
   have hs:=hs.2.2
   unfold J1 at hs
   simp only [Bool.and_eq_true]at hs
   exact hs.2.2.1
  rw [show G7 g [("letter" : Str),n]={ g with le:=g.le++[n] } by unfold G7;rw [Yar h0,Yaw h1];rfl]
  refine⟨h.p,λx hx=>?_,λr hr=>?_⟩
  ·rcases Ya5.mp hx with hx | hx
   ·exact h.l x hx
   ·rw [Ya3.mp hx];exact hb
  ·obtain⟨a,b,c,d,e⟩:=h.r r hr
   have hl:({ g with le:=g.le++[n] }:Gt).le.length=g.le.length+1:=by rw [Yai];rfl
   exact⟨a,by omega,c,d,λk hk=>by have:=e k hk;omega⟩
 ·obtain⟨b,c,e,r5,rfl,gp,hb,he,hc,hr⟩:=Zw hs h0 h1
  rw [show G7 g (("rule" : Str) :: b :: c :: (":" : Str) :: e :: r5)={ g with rs:=g.rs++[Vv (g.pl.map (·.1)) g.le (("rule" : Str) :: b :: c :: (":" : Str) :: e :: r5)] } by unfold G7;rw [Yar h0,Yar h1]]
  refine⟨h.p,h.l,λr hr'=>?_⟩
  rcases Ya5.mp hr' with hr' | hr'
  ·exact h.r r hr'
  ·rw [Ya3.mp hr']
   have i1:∀{zs:List Str} {z:Str},z∈zs->ixN zs z < zs.length:=λhz=>List.idxOf_lt_length_iff.mpr hz
   have hl:(g.pl.map (·.1)).length=g.pl.length:=Yaa _
   refine⟨?_,?_,?_,?_,λk hk=>?_⟩
   ·show ixN (g.pl.map (·.1)) b < g.pl.length
    rw [<- hl];exact i1 hb
   ·exact i1 hc
   ·show ixN (g.pl.map (·.1)) e < g.pl.length
    rw [<- hl];exact i1 he
   ·show(r5.map (ixN g.le)).length<=2
    rw [Yaa];exact gp
   ·have hk:k∈r5.map (ixN g.le):=hk
    obtain⟨z,hz,rfl⟩:=Yaz.mp hk
    exact i1 (hr z hz)
theorem Wl:∀(W:List (List Str)) (g:Gt),Iv g->Iv (gw g W)/\gtN (gw g W)<=gtN g+W.length
 | [],g,h=>⟨h,Yag _⟩
 | w :: ws,g,h=>by
  rw [gw]
  by_cases hs:E5 g w=true
  ·rw [Yaw hs]
   obtain⟨h1,h2⟩:=Wl ws (G7 g w) (h.ad hs)
   rw [Qgs]at h2
   exact⟨h1,by rw [Yba];omega⟩
  ·rw [Yar hs]
   exact⟨h,Nat.le_add_right _ _⟩
theorem Qde(W:List (List Str)):Iv (Go W)/\gtN (Go W)<=W.length:=by
 have:=Wl W g0 ⟨(λ_ h=>nomatch h),(λ_ h=>nomatch h),(λ_ h=>nomatch h)⟩
 rw [V6]at this
 exact⟨this.1,Yap this.2 (by show 0+W.length<=_;omega)⟩
theorem Wm{z:Str}(h:Bv z=true):OkB 0 40 (.str z):=by
 unfold Bv at h
 simp only [Bool.and_eq_true]at h
 have hl:lets z:=λc hc=>by
  have:=Ybs.mp h.2.2 c hc
  unfold abc at this
  rw [Ya2]at this
  exact⟨Yaf this.1,Yaf this.2⟩
 have h6:z.length<=6:=Yaf h.1.2
 exact⟨Qc hl,Yag _,Yap h6 (by decide),rfl,rfl⟩
theorem Ij{n:Nat}(h:n<=20000):OkB 0 40 (.int n):=Xp (by omega) (by omega)
theorem Qdf{p:Str×Nat}(h:Bv p.1=true)(h2:p.2 < 2):OkB 1 82 (Fw p) :=
 (OkBs.cons' (Wm h) (OkBs.cons' (w3:=41) (Ij (n:=p.2) (by omega)) (OkBs.nil (wt:=0)) (by decide)) (by decide)).tup
theorem Qdg{r:Rl}{np nl:Nat}(h:RK np nl r)(h1:np<=801)(h2:nl<=801):OkB 2 206 (Ml r):=by
 obtain⟨a,b,c,d,e⟩:=h
 have b0:∀{n:Nat},n < 801->OkB 1 40 (.int n):=λ{n} hn=>(Ij (by omega)).mono (by decide) (Yag _)
 have hw:OkBs 0 (2 * 41) (r.w.map λ(n:Nat)=>PyData.int n):=OkBs.all (λd' hd=>by
  obtain⟨k,hk,rfl⟩:=Yaz.mp hd
  have:=e k hk
  exact Ij (by omega)) (by rw [Yaa];exact d)
 exact(OkBs.cons' (b0 (by omega)) (OkBs.cons' (w3:=165) (b0 (by omega)) (OkBs.cons' (w3:=124) (b0 (by omega)) (OkBs.cons' (w3:=83) hw.tup (OkBs.nil (wt:=0)) (by decide)) (by decide)) (by decide)) (by decide)).tup
theorem Qdh{g:Gt}(h:Iv g)(hn:gtN g<=801):OkB 4 300000 (Ig g):=by
 unfold gtN at hn
 have hp:OkBs 1 (801 * 83) (g.pl.map Fw):=OkBs.all (λd hd=>by
  obtain⟨p,hp,rfl⟩:=Yaz.mp hd
  exact Qdf (h.p p hp).1 (h.p p hp).2) (by rw [Yaa];omega)
 have hl:OkBs 0 (801 * 41) (g.le.map PyData.str):=OkBs.all (λd hd=>by
  obtain⟨z,hz,rfl⟩:=Yaz.mp hd
  exact Wm (h.l z hz)) (by rw [Yaa];omega)
 have hr:OkBs 2 (801 * 207) (g.rs.map Ml):=OkBs.all (λd hd=>by
  obtain⟨r,hr,rfl⟩:=Yaz.mp hd
  exact Qdg (h.r r hr) (by omega) (by omega)) (by rw [Yaa];omega)
 exact(OkBs.cons' (hp.tup.mono (d':=3) (w':=66483) (by decide) (by decide)) (OkBs.cons' (w3:=233000) (hl.tup.mono (d':=3) (w':=32841) (by decide) (by decide)) (OkBs.cons' (w3:=165810) hr.tup (OkBs.nil (wt:=0)) (by decide)) (by decide)) (by decide)).tup
theorem Wn{g:Gt}(h:Iv g)(hn:gtN g<=801):OkD (Ig g):=(Qdh h hn).ok (by decide) (by decide)
theorem GG.iv{g:Gt}(h:GG g):Iv g/\gtN g<=801:=by
 refine⟨⟨λx hx=>⟨Yu (h.pn x hx).1,(h.pn x hx).2⟩,λz hz=>Yu (h.ln z hz),h.r⟩,?_⟩
 have:=h.p5
 have:=h.l5
 have:=h.rn
 unfold gtN;omega
theorem Qdi{n:Nat}(h:n<=20000):OkD (.list [.str "refused",.int n]) :=
 (OkBs.cons' (w3:=100) (d:=.str "refused") (w1:=40) ⟨by decide +kernel,by decide +kernel,by decide +kernel,by decide +kernel,by decide +kernel⟩ (OkBs.cons' (w3:=41) (Ij h) (OkBs.nil (wt:=0)) (by decide)) (by decide)).lst.ok (by decide) (by decide)
abbrev nTo:List Str:=["_law_text","_law_found","e","_law_good"]
theorem Sb:FnScope nTo ["_law_text"] (Ai sTo):=⟨rfl,rfl,rfl,by decide +kernel,rfl,by decide +kernel,by decide +kernel⟩
def Qdj:ASp:=λxs μ R=>∃(t:Str),xs=[.D (.str t)]/\asc t/\t.length<=800/\(Mn (wrd t) (Go (wrd t))=true->R (.D (Ig (Go (wrd t)))) μ)/\(Mn (wrd t) (Go (wrd t))=false->∀p μ',Sub μ μ'->μ p=none->μ' p=some (.lst [Ad "refused",.D (.int (gtN (Go (wrd t)):Nat))])->R (.R p) μ')
theorem Qhf{n:Nat}{c0 c1 c2 c3 c4 c5 c6 c7 D:Addr}(F:Fun K "_law_told" "_law_told" sTo f fd) (cRg:K6 P w K mg base n "read_game" ["text"] (Qgj c0)) (ak:mg "isinstance" = none) (bv:mg "ValueError" = none)
  (vd:mg "NoText" = some (.ref c0)) (xx:mg "NoGame" = some (.ref c1)) (wg:mg "NoSaying" = some (.ref c2)) (vw:mg "TooMany" = some (.ref c3)) (mc4:mg "NoPaper" = some (.ref c4)) (mc5:mg "NoFit" = some (.ref c5)) (mc6:mg "NoProgram" = some (.ref c6)) (xu:mg "NoRow" = some (.ref c7)) (mD:mg "DuelError" = some (.ref D))
  (er:Err K c0 D [c5,c1,c4,c6,c7,c2,c3]) (na:Ha K c0 "row"):FnOk P w K mg base Fh (n+1) f fd ["_law_text"] (Ji K 1 Qdj):=by
 refine F.vok0 Sb λaw A outer s H E hr=>⟨_,(K7 (VS.z (Aw (i:=1) Sb.nd rfl (Or.inl rfl) Ah))
   (K7 (X3 (i:=2) (λxe pn EX hX=>(An (Aw (i:=1) Sb.nd rfl (Or.inl rfl) (U2 cRg hr hX rfl (Ab (vv 0) Ae))))) (λe=>(Af (Aw (i:=3) Sb.nd rfl (Or.inl rfl) (Dg (X8 (K:=K) rfl rfl ak rfl mD (vv 2)) (Gn (Va (K:=K) (T := "ValueError") rfl rfl ak rfl bv (by decide +kernel) (vv 2)))))
   (An (B1 (VW.pt (Od (Gk (vv 3)) (L8 (Gm (Gk (Rr (K:=K) rfl rfl ak (Jn rfl mc5 (Jn rfl xx (Jn rfl mc4 (Jn rfl mc6 (Jn rfl xu (Jn rfl wg (Jn rfl vw Qcb))))))) (vv 2) (hl:=seven (n:=7) (by decide)))))))) (An (Aw (i:=1) Sb.nd rfl (Or.inl rfl) (Bq (Ab Ah (Ab (X9 (K:=K) rfl (vv 2) rfl) Ae))))) A9)))) rfl vd er.xc er.xi.toXCls.mb rfl rfl Sb.nd rfl rfl)
   (U3 (VS.z (Bd (vv 1)))))),?_⟩
 rintro xs μ R _ ⟨t,rfl,ht,hl,q1,q2⟩
 refine Cj (Qfh (Cj ?_))
 refine⟨t,rfl,ht,hl,λhn=>⟨μ,Sub.refl,q1 hn⟩,λhw=>⟨er.me,?_⟩⟩
 refine Cj ⟨er.xi,Aa er.iD (Gr rfl ⟨er.xi,Aa er.iV ?_⟩)⟩
 refine Gr rfl ⟨er.xi,Aa er.no (Gr rfl ⟨er.xi.toXCls,na,Aa rfl λp hp=>?_⟩)⟩
 exact⟨_,Sub.refl,q2 hw p _ (Sub.refl.new hp) hp Ac⟩
end
section
variable {P:Program}{w:World}{K:PySem.W.Frag}{mg:Str->Option Value}{base:Heap}{f:Addr}{fd:FuncData}
abbrev Qhg:List Str:=["_law_script","_law_deal_here","_law_game","_law_rows_here","_law_names_here","_law_k","_law_other","_law_turn","_law_text","_law_due_here"]
theorem E3:FnScope Qhg ["_law_script"] (Ai Jr):=⟨rfl,rfl,rfl,by decide +kernel,rfl,by decide +kernel,by decide +kernel⟩
theorem Wo:(["_law_name","_law_hand"]:List Str).Nodup:=by decide +kernel
def nb:Nat->Nat
 | 0=>150
 | 1=>360
 | _=>780
theorem Qkb:kit "tuple" "int" = false:=by decide
theorem Qkc:kit "int" "int" = true:=by decide
theorem Pot.sub{μ ν:M}{a l:Addr}(h:Pot μ a l)(S:Sub μ ν):Pot ν a l :=
 let⟨sd,nm,ns,h⟩:=h;⟨sd,nm,ns,S _ _ h.ha,S _ _ h.hl,h.s0,h.s1,h.n0,h.p0,h.ne⟩
def spL:ASp:=λxs μ R=>∃(ns:List Int),xs=[.D (Fd ns)]/\ns.length<=63/\∀ μ',R (.D (.bool true)) μ'
theorem Yw{n:Nat}(F:Fun K "law" "law" Jr f fd) (yx:VCal P w K mg base n "_law_deal" ["_law_script","_law_base"] Qcr) (cAg:VCal P w K mg base n "_law_any_game" ["_law_deal_here"] Qc7) (v6:VCal P w K mg base n "_law_rows" ["_law_game"] Qc9) (vi:VCal P w K mg base n "_law_spoilt" ["_law_deal_here","_law_rows_here","_law_names_here"] Qdb) (bp:VCal P w K mg base n "_law_draw" ["_law_deal_here","_law_many"] Js) (zr:VCal P w K mg base n "_law_due" ["_law_text"] Qc3) (vj:VCal P w K mg base n "_law_told" ["_law_text"] Qdj) (bd:mg "list" = none) (ao:mg "range" = none) (af:mg "len" = none) (ak:mg "isinstance" = none) (cz:mg "int" = none) (bz:mg "repr" = none):FnOk P w K mg base Fh (n+1) f fd ["_law_script"] (Ji K 1 spL):=by
 refine F.vok E3 λaw A outer s H E hr=>⟨_,(Af (Aw (i:=1) E3.nd rfl (Or.inl rfl) (Au yx hr rfl (Ab (vv 0) (Ab Ag Ae))))
   (Af (Aw (i:=2) E3.nd rfl (Or.inl rfl) (Au cAg hr rfl (Ab (vv 1) Ae)))
   (Af (Aw (i:=3) E3.nd rfl (Or.inl rfl) (Au v6 hr rfl (Ab (vv 2) Ae)))
   (Af (Aw (i:=4) E3.nd rfl (Or.inl rfl) (Ay Al (Cm (N':=["_law_name","_law_hand"]) (mp:=[none,none]) rfl (Cb (Ba Bm (vv 2) Ag)) (λ_ _ _ _=>(Ep (n:=2) rfl (Bg (Av (i:=0) Wo rfl (Or.inl rfl) (Or.inr rfl)) (Bg (Av (i:=1) Wo rfl (Or.inl rfl) (Or.inr rfl)) C7)))) (λ_ _ _ _=>Br) (λ_ _ _ _=>(vv 0)) (Bk (N:=Qhg) (pn:=(Ai Jr).names) (by decide +kernel))) (Bp Qbt rfl bd Ydr (Ab (Ba Bm (vv 2) Ag) Ae))))
   (Af (Di Ybu rfl (Dn rfl ao (Ab (Ay Al Ag (Ar Bo rfl af Yan (Ab (A8 (vv 0) A7 (Be Ag)) Ae))) Ae)) (Av (i:=5) E3.nd rfl (Or.inl rfl)) (Af (Aw (i:=6) E3.nd rfl (Or.inl rfl) (Au vi hr rfl (Ab (vv 1) (Ab (vv 3) (Ab (vv 4) Ae)))))
   (Af (Di Ybu rfl (Dn rfl ao (Ab (Au bp hr rfl (Ab (vv 1) (Ab Ag Ae))) Ae)) (Av (i:=7) E3.nd rfl (Or.inl rfl)) (An (Aw (i:=6) E3.nd rfl (Or.inl rfl) (Au vi hr rfl (Ab (vv 1) (Ab (vv 6) (Ab (vv 4) Ae)))))))
   (Af (Aw (i:=8) E3.nd rfl (Or.inl rfl) (Jh Yb9 Yca Hh Ah (Ab (vv 6) Ae)))
   (Af (Aw (i:=9) E3.nd rfl (Or.inl rfl) (Au zr hr rfl (Ab (vv 8) Ae)))
   (Af (B1 (Gk (Qby rfl ak rfl cz PyProof.Rows.boot_int U7 (vv 9))) (An (Aw (i:=9) E3.nd rfl (Or.inl rfl) (Bq (Ab Ah (Ab (vv 9) Ae))))) A9)
   (Af (B1 (VW.pt (Od (Bf Oe (Ar Bo rfl af Yan (Ab (vv 8) Ae)) Ag (nomark _)) (L8 (Bf K9 (Ar (Me hr) rfl bz Ycy (Ab (Au vj hr rfl (Ab (vv 8) Ae)) Ae)) (Ar (Me hr) rfl bz Ycy (Ab (vv 9) Ae)) (nomark _))))) (An (Bd Je)) A9)
   (An (B1 (Bf K9 (Ar (Me hr) rfl bz Ycy (Ab (Au vj hr rfl (Ab (Jh Yb9 Yca Hh Ah (Ab (vv 3) Ae)) Ae)) Ae)) (Ar (Me hr) rfl bz Ycy (Ab (vv 2) Ae)) (nomark _)) (An (Bd Je)) A9)))))))))
   (An (Bd Je))))))),?_⟩
 rintro xs μ R _ ⟨ns,rfl,et,q⟩
 refine Cj ⟨ns,0,rfl,by decide,et,λa l μ1 _ _ P1 _=>?_⟩
 refine Cj ⟨a,l,rfl,P1,λg μ2 hg P2 _=>?_⟩
 refine Cj ⟨g,rfl,hg,λpr μ3 cb er S3=>?_⟩
 obtain⟨hro,hrn,hrj⟩:=Wk hg
 have cp:=hg.p5
 have au:=hg.p1
 have hl5:=hg.l5
 have P3:=P2.sub S3
 have ci:pr≠a/\pr≠l:=⟨(P2.ne cb).1.symm,(P2.ne cb).2.symm⟩
 dsimp only [Ca,List.set,C3]
 refine Ap (fun τ μ'=>∃pn,∃zs:List Str,τ=[some (.D (Fd ns)),some (.R a),some (.D (Ig g)),some (.R pr),some (.R pn),none,none,none,none,none]/\(pn≠a/\pn≠l)/\(1<=zs.length/\zs.length<=10/\∀z∈zs,asc z/\z.length<=7)/\μ' pn=some (.lst (zs.map Ad))/\μ' pr=some (.lst ((rowsT g).map Ad))/\Pot μ' a l) (λZ hZ=>?_) ?_
 ·have qz:∀ μ:M,items μ (.D (.tuple (g.pl.map Fw)))=some (g.pl.map Sd):=fun μ=>by show some ((g.pl.map Fw).map AV.D)=_;rw [Ya0];rfl
  have ux:∀ μ:M,items μ (.D (.tuple (g.le.map PyData.str)))=some (g.le.map Ad):=fun μ=>by show some ((g.le.map PyData.str).map AV.D)=_;rw [Ya0];rfl
  refine Aa (Ao (j:=0) rfl) (Aa (qz _) λp1 pq=>?_)
  refine cmap g.pl Sd (λp=>Ad p.1) (fun τ=>∃o1 o2,τ=[o1,o2]) ⟨none,none,rfl⟩ Ac (seven (by omega)) (λ_=>qz _) ?_ ?_
  ·rintro i x τ' ah W hi ⟨o1,o2,rfl⟩ hW
   exact⟨rfl,hW _ ⟨_,_,rfl⟩⟩
  rw [Bw]
  have e4:Aj μ3 p1 (.lst (g.pl.map λp=>Ad p.1)) p1=some (.lst ((g.pl.map (·.1)).map Ad)):=by rw [Ac,Ya0];rfl
  have r4:Aj μ3 p1 (.lst (g.pl.map λp=>Ad p.1)) pr=some (.lst ((rowsT g).map Ad)):=Sub.refl.new pq _ _ er
  have P4:=P3.new (o:=.lst (g.pl.map λp=>Ad p.1)) pq
  generalize Aj μ3 p1 (.lst (g.pl.map λp=>Ad p.1))=μ4 at e4 r4 P4 ⊢
  refine Aa (Ao (j:=1) rfl) (Aa (ux _) λp2 av=>?_)
  have e5:=nw (.lst (g.le.map Ad)) av _ _ e4
  have r5:=nw (.lst (g.le.map Ad)) av _ _ r4
  have f5:Aj μ4 p2 (.lst (g.le.map Ad)) p2=some (.lst (g.le.map Ad)):=Ac
  have P5:=P4.new (o:=.lst (g.le.map Ad)) av
  generalize Aj μ4 p2 (.lst (g.le.map Ad))=μ5 at e5 r5 f5 P5 ⊢
  refine Aa e5 (Aa f5 ⟨by rw [Yaa,Yaa,Yaa];exact seven (by omega),λp3 bj=>?_⟩)
  rw [<- Yac]
  refine hZ _ _ ⟨p3,g.pl.map (·.1)++g.le,rfl,⟨(P5.ne bj).1.symm,(P5.ne bj).2.symm⟩,⟨?_,?_,?_⟩,Ac,nw _ bj _ _ r5,P5.new bj⟩
  ·rw [Yai,Yaa];omega
  ·rw [Yai,Yaa];omega
  ·refine B3 (λz hz=>?_) λz hz=>⟨Dd (hg.ln z hz).l,Nat.le_succ_of_le (hg.ln z hz).b⟩
   obtain⟨p,hp,rfl⟩:=Yaz.mp hz
   exact⟨Dd (hg.pn p hp).1.l,Nat.le_succ_of_le (hg.pn p hp).1.b⟩
 rintro τ μ4 ⟨pn,zs,rfl,hnn,hz,n4,r4,P4⟩
 refine Ap (fun τ μ'=>True) (λZ hZ=>?_) (λ_ _ _=>⟨_,Sub.refl,q _⟩)
 obtain⟨cs,ecs,cr⟩:=Nm Fv ns none (some 6)
 refine Aa (La _ ns) λps iz=>Aa Ac ⟨?_,?_,?_⟩
 ·omega
 ·rw [ecs,Yaa];omega
 refine Ey (λi τ μ'=>∃o5 o6 o7 o8 o9,τ=[some (.D (Fd ns)),some (.R a),some (.D (Ig g)),some (.R pr),some (.R pn),o5,o6,o7,o8,o9]/\μ' pn=some (.lst (zs.map Ad))/\μ' pr=some (.lst ((rowsT g).map Ad))/\Pot μ' a l) ⟨none,none,none,none,none,rfl,nw _ iz _ _ n4,nw _ iz _ _ r4,P4.new iz⟩ (λ_ _ _ _=>trivial) ?_ (λ_ _ _=>hZ _ _ trivial)
 rintro i y τ μ5 Z2 hy ⟨o5,o6,o7,o8,o9,rfl,n5,r5,P5⟩ hZ2
 refine Ap (fun τ μ'=>∃p6,∃ag:List Str,τ=[some (.D (Fd ns)),some (.R a),some (.D (Ig g)),some (.R pr),some (.R pn),some y,some (.R p6),o7,o8,o9]/\(p6≠a/\p6≠l)/\(ag.length<=23/\∀z∈ag,asc z/\z.length<=nb 0)/\μ' p6=some (.lst (ag.map Ad))/\μ' pn=some (.lst (zs.map Ad))/\μ' pr=some (.lst ((rowsT g).map Ad))/\Pot μ' a l) (λZ3 bi=>?_) ?_
 ·refine⟨a,l,pr,pn,rowsT g,zs,45,rfl,hnn,ci,n5,r5,hz,⟨by omega,by decide,hro⟩,P5,λrws' p' μ6 h1 h2 kq e' P' S'=>bi _ _ ⟨p',rws',rfl,⟨(P5.ne kq).1.symm,(P5.ne kq).2.symm⟩,⟨by omega,h2⟩,e',S' pn _ hnn.1 hnn.2 n5,S' pr _ ci.1 ci.2 r5,P'⟩⟩
 rintro τ μ6 ⟨p6,ag,rfl,h6,hw,e6,n6,r6,P6⟩
 refine Ap (fun τ μ'=>∃p6,∃ag:List Str,∃o7,τ=[some (.D (Fd ns)),some (.R a),some (.D (Ig g)),some (.R pr),some (.R pn),some y,some (.R p6),o7,o8,o9]/\(ag.length<=25/\∀z∈ag,asc z/\z.length<=780)/\μ' p6=some (.lst (ag.map Ad))/\μ' pn=some (.lst (zs.map Ad))/\μ' pr=some (.lst ((rowsT g).map Ad))/\Pot μ' a l) (λZ3 bi=>?_) ?_
 ·refine⟨a,l,3,rfl,P6,by decide,by decide,λv μ7 hv P7 S7=>⟨by omega,by omega,?_⟩⟩
  have am:(G2 0 (v:Int).toNat).length=v:=by rw [Ce];omega
  refine Ey (λj τ μ'=>∃p6,∃ag:List Str,∃o7,τ=[some (.D (Fd ns)),some (.R a),some (.D (Ig g)),some (.R pr),some (.R pn),some y,some (.R p6),o7,o8,o9]/\(p6≠a/\p6≠l)/\(ag.length<=23+j/\∀z∈ag,asc z/\z.length<=nb j)/\μ' p6=some (.lst (ag.map Ad))/\μ' pn=some (.lst (zs.map Ad))/\μ' pr=some (.lst ((rowsT g).map Ad))/\Pot μ' a l) ⟨p6,ag,o7,rfl,h6,hw,S7 p6 _ h6.1 h6.2 e6,S7 pn _ hnn.1 hnn.2 n6,S7 pr _ ci.1 ci.2 r6,P7⟩ (λ_ _ _ _=>trivial) ?_ ?_
  ·rintro j y2 τ μ8 Z4 hy2 ⟨p6,ag,o7,rfl,h6,hw,e8,n8,r8,P8⟩ hZ4
   have hj:j < v:=by rw [<- am];exact(List.getElem?_eq_some_iff.mp hy2).1
   have lj:nb j<=1000/\2 * nb j+60<=nb (j+1):=by
    rcases(show j=0\/j=1 by omega) with rfl | rfl <;> decide
   refine⟨a,l,p6,pn,ag,zs,nb j,rfl,hnn,h6,n8,e8,hz,⟨by omega,lj.1,hw.2⟩,P8,λrws' p' μ9 h1 h2 kq e' P' S'=>hZ4 _ _ ⟨p',rws',_,rfl,⟨(P8.ne kq).1.symm,(P8.ne kq).2.symm⟩,⟨by omega,λz hz=>⟨(h2 z hz).1,Yap (h2 z hz).2 lj.2⟩⟩,e',S' pn _ hnn.1 hnn.2 n8,S' pr _ ci.1 ci.2 r8,P'⟩⟩
  ·rintro τ μ8 ⟨p6,ag,o7,rfl,h6,hw,e8,n8,r8,P8⟩
   rw [am]at hw
   have lj:nb v<=780:=by
    rcases(show v=0\/v=1\/v=2 by omega) with rfl | rfl | rfl <;> decide
   exact bi _ _ ⟨p6,ag,o7,rfl,⟨by omega,λz hz=>⟨(hw.2 z hz).1,Yap (hw.2 z hz).2 lj⟩⟩,e8,n8,r8,P8⟩
 clear hw e6 h6
 rintro τ μ7 ⟨p6,ag,o7,rfl,hw,e7,n7,r7,P7⟩
 have uo:jsum ag<=20000:=by
  have:=Fr (c:=780) λz hz=>(hw.2 z hz).2
  have h25:ag.length * (780+1)<=25 * 781:=Nat.mul_le_mul hw.1 (Yag _)
  omega
 obtain⟨hTa,hTl⟩:=Qab uo λz hz=>(hw.2 z hz).1
 have qw:("\n" : Str).length=1:=by decide +kernel
 refine Ap (fun τ μ'=>τ=[some (.D (Fd ns)),some (.R a),some (.D (Ig g)),some (.R pr),some (.R pn),some y,some (.R p6),o7,some (Ad (Txt.join "\n" ag)),o9]/\μ7=μ') (λZ3 bi=>?_) ?_
 ·refine⟨trivial,Aa e7 (Aa (Ds ag) ⟨?_,bi _ _ ⟨rfl,rfl⟩⟩)⟩
  rw [qw]
  rw [Mi]at uo
  omega
 rintro τ _ ⟨rfl,rfl⟩
 generalize Txt.join "\n" ag=T at hTa hTl
 refine Ap (fun τ μ'=>τ=[some (.D (Fd ns)),some (.R a),some (.D (Ig g)),some (.R pr),some (.R pn),some y,some (.R p6),o7,some (Ad T),some (.D (duD (wrd T) (Go (wrd T))))]/\μ' pn=some (.lst (zs.map Ad))/\μ' pr=some (.lst ((rowsT g).map Ad))/\Pot μ' a l) (λZ3 bi=>?_) ?_
 ·refine⟨T,rfl,hTa,hTl,fun μ8 S8=>?_⟩
  rw [V6]
  exact bi _ _ ⟨rfl,S8 _ _ n7,S8 _ _ r7,P7.sub S8⟩
 rintro τ μ8 ⟨rfl,n8,r8,P8⟩
 obtain⟨hiv,hivn⟩:=Qde (wrd T)
 have hWn:(wrd T).length<=T.length+1:=by
  unfold wrd
  rw [Yaa]
  have:=Eh T 10
  rw [<- Hj]at this;exact this
 have hsz:T.length<=sizeLine:=big hTl
 refine Ap (fun τ μ'=>∃x9,τ=[some (.D (Fd ns)),some (.R a),some (.D (Ig g)),some (.R pr),some (.R pn),some y,some (.R p6),o7,some (Ad T),some x9]/\(if Mn (wrd T) (Go (wrd T))=true then x9=.D (Ig (Go (wrd T))) else ∃p9,x9=.R p9/\μ' p9=some (.lst [Ad "refused",.D (.int (gtN (Go (wrd T)):Nat))]))/\μ' pn=some (.lst (zs.map Ad))/\μ' pr=some (.lst ((rowsT g).map Ad))/\Pot μ' a l) (λZ3 bi=>?_) ?_
 ·unfold duD
  by_cases hb:Mn (wrd T) (Go (wrd T))=true
  ·rw [Yaw hb]
   exact Aa rfl (Uf Qkb (bi _ _ ⟨_,rfl,by rw [Yaw hb],n8,r8,P8⟩))
  ·rw [Yar hb]
   exact Aa rfl (Gr Qkc λp9 mf=>bi _ _ ⟨_,rfl,by rw [Yar hb];exact⟨p9,rfl,Ac⟩,nw _ mf _ _ n8,nw _ mf _ _ r8,P8.new mf⟩)
 rintro τ μ9 ⟨x9,rfl,hx9,n9,r9,P9⟩
 refine Ap (fun τ μ'=>∃o8 o9,τ=[some (.D (Fd ns)),some (.R a),some (.D (Ig g)),some (.R pr),some (.R pn),some y,some (.R p6),o7,o8,o9]/\μ' pn=some (.lst (zs.map Ad))/\μ' pr=some (.lst ((rowsT g).map Ad))/\Pot μ' a l) (λZ3 bi=>?_) ?_
 ·refine⟨hsz,dif (λc=>?_) (λc=>Uf rfl (bi _ _ ⟨_,_,rfl,n9,r9,P9⟩))⟩
  have hT8:T.length<=800:=by
   have c:(T.length:Int)<=800:=c
   omega
  refine⟨T,rfl,hTa,hT8,λhb=>?_,λhb p μ10 S10 hp e10=>?_⟩
  ·rw [Yaw hb]at hx9
   subst hx9
   have hok:=Wn hiv (by omega)
   exact Aa rfl ⟨hok,Aa rfl ⟨hok,Uf (by rw [Yaj rfl];rfl) (bi _ _ ⟨_,_,rfl,n9,r9,P9⟩)⟩⟩
  ·rw [Yar (by rw [hb];exact Yak)]at hx9
   obtain⟨p9,rfl,e9⟩:=hx9
   have hok:=Qdi (n:=gtN (Go (wrd T))) (by omega)
   exact Aa (Fo e10 rfl) ⟨hok,Aa (Fo (S10 _ _ e9) rfl) ⟨hok,Uf (by rw [Yaj rfl];rfl) (bi _ _ ⟨_,_,rfl,S10 _ _ n9,S10 _ _ r9,P9.sub S10⟩)⟩⟩
 rintro τ μ10 ⟨o8',o9',rfl,n10,r10,P10⟩
 obtain⟨hGa,hGl⟩:=Qab hrj λz hz=>(hro z hz).1
 obtain⟨hg1,fk⟩:=Sa hg
 have ow:=Wn hg.iv.1 hg.iv.2
 refine⟨trivial,Aa r10 (Aa (Ds _) ⟨?_,Txt.join "\n" (rowsT g),rfl,hGa,hGl,λhb=>?_,λhb=>?_⟩)⟩
 ·rw [qw]
  rw [Mi]at hrj
  omega
 ·rw [hg1]
  exact Aa rfl ⟨ow,Aa rfl ⟨ow,Uf (by rw [Yaj rfl];rfl) (hZ2 _ _ ⟨_,_,_,_,_,rfl,n10,r10,P10⟩)⟩⟩
 ·rw [hg1,fk]at hb
  cases hb
def Qj(K:PySem.W.Frag):Sp:=λvs H Q _=>∃(a:Addr) (ns:List Int),vs=[.ref a]/\Ei K H a (ns.map V.int)/\Only H/\ns.length<=63/\∀H',Q (.bl true) H'
theorem Qk{H:Hp}:∀(ns:List Int),Aq K H (ns.map .int) (ns.map V.int)
 | []=>Ct
 | n :: ns=>Bl Df (Qk ns)
theorem Qdk{n:Nat}(F:Fun K "law" "law" Jr f fd) (yx:VCal P w K mg base n "_law_deal" ["_law_script","_law_base"] Qcr) (cAg:VCal P w K mg base n "_law_any_game" ["_law_deal_here"] Qc7) (v6:VCal P w K mg base n "_law_rows" ["_law_game"] Qc9) (vi:VCal P w K mg base n "_law_spoilt" ["_law_deal_here","_law_rows_here","_law_names_here"] Qdb) (bp:VCal P w K mg base n "_law_draw" ["_law_deal_here","_law_many"] Js) (zr:VCal P w K mg base n "_law_due" ["_law_text"] Qc3) (vj:VCal P w K mg base n "_law_told" ["_law_text"] Qdj) (bd:mg "list" = none) (ao:mg "range" = none) (af:mg "len" = none) (ak:mg "isinstance" = none) (cz:mg "int" = none) (bz:mg "repr" = none):FnOk P w K mg base Fh (n+1) f fd ["_law_script"] (Qj K):=by
 refine(Yw F yx cAg v6 vi bp zr vj bd ao af ak cz bz).imp ?_
 rintro vs H Q E ⟨a,ns,rfl,hS,hO,hl,q⟩
 refine⟨[.D (Fd ns)],λ_=>none,λv _=>v=.D (.bool true),rfl,.cons ?_ .nil,(λ_ _ z=>nomatch z),⟨ns,rfl,hl,λ_=>rfl⟩,?_⟩
 ·refine Qbo (xs:=ns.map V.int) ?_ (Qk ns)
  rcases hS with(h | h) | h
  ·rcases hO a with z | ⟨o,xs,z⟩
   ·rw [z]at h;cases h
   ·rw [z]at h;cases h
  ·exact .inl h
  ·exact .inr h
 ·rintro x μ v H' _ _ rx rfl
  cases RelA.bl rx
  exact q _
end
theorem Fg{us:List Value}(h:us.length=1):∃a0,us=[a0]:=by
 obtain⟨a0,t,rfl,h2⟩:=Eg h
 rw [Yct h2];exact⟨a0,rfl⟩
theorem Jz{us:List Value}(h:us.length=2):∃a0 a1,us=[a0,a1]:=by
 obtain⟨a0,t,rfl,h2⟩:=Eg h
 obtain⟨a1,rfl⟩:=Fg h2
 exact⟨a0,a1,rfl⟩
theorem Nr{us:List Value}(h:us.length=3):∃a0 a1 a2,us=[a0,a1,a2]:=by
 obtain⟨a0,t,rfl,h2⟩:=Eg h
 obtain⟨a1,a2,rfl⟩:=Jz h2
 exact⟨a0,a1,a2,rfl⟩
theorem Qhh{us:List Value}(h:us.length=4):∃a0 a1 a2 a3,us=[a0,a1,a2,a3]:=by
 obtain⟨a0,t,rfl,h2⟩:=Eg h
 obtain⟨a1,a2,a3,rfl⟩:=Nr h2
 exact⟨a0,a1,a2,a3,rfl⟩
theorem all_mk{l:PySem.W.OpenLaw}{w:World}{K:PySem.W.Frag}{h:Heap}{mg:Str->Option Value}{fa f1 f2 f3 f4 f5 f6 f7 f8 f9 f10 z7 yt f13 wf xh f16 z5 zb f19 vo y9 c0 c1 c2 c3 c4 c5 c6 c7 D ut:Addr}(X:K.In h)(G:h.Ns mainGlobals mg)(hfa:mg "law" = some (.ref fa))
  {od1 an1 od2 an2 od3 an3 od4 an4 od5 an5 od6 an6 od7 an7 od8 an8 od9 an9 yo zbd vx w9 zba zap xp xq zal za7 yh wa za2 yr xf yf xo zv zan za1 zau v0 zaw oh yu yb:Option Addr} {sl1 li sl3 sl4 sl5 sl6 sl7 sl8 sl9 wx ze xm za8 za3 xt zl zy x6 vy yj zak yg:Array (Option Value)} {oc1 kV1 dc1 pm1 cd1 ct1 oc2 kV2 dc2 pm2 cd2 ct2 oc3 kV3 dc3 pm3 cd3 ct3 oc4 kV4 dc4 pm4 cd4 ct4 oc5 kV5 dc5 pm5 cd5 ct5 oc6 kV6 dc6 pm6 cd6 ct6 oc7 kV7 dc7 pm7 cd7 ct7 oc8 kV8 dc8 pm8 cd8 ct8 oc9 kV9 dc9 pm9 cd9 ct9 xa zaf yk wq qb wy ym zf zas zah nz ww zam zbe zai vn qx wc zad vq yn zar qr v9 za za4 zj zu oi zx yp zt xj zaz ou za6 zd vk vp zab on zaj wn yi za0 v5 ss wj zaq zi zo zk uf z9 zae x8 zaa z6 t3 zag v7 zbb zao zav re za9 zg tu om qa kx qq zbc zac yq wk pe za5:Value}
  {kw hw:Addr} {kdk:Option Addr} {knk knh:Nat} {ksk ksh:Array (Option Value)} {t1 t2 q0 q1 q2 q3 q4 q5 q6 q7 r0 r1:Tok}
  (a1:PySem.W.nsIn K mainGlobals "is_name" = some (some (.ref f1)))
  (l1:K.lookup f1=some ⟨oc1,od1,.func (PySem.W.fnOf "is_name" "is_name" (Bi sIn) (Bb sIn) (Ai sIn) .none kV1 dc1 pm1 an1 cd1 ct1),sl1⟩)
  (c_1:PySem.W.codeIn K cd1 "is_name" = true)
  (k1:PySem.W.keepIn K (.ref f1)=true)
  (a2:PySem.W.nsIn K mainGlobals "numbers_by_name" = some (some (.ref f2)))
  (l2:K.lookup f2=some ⟨oc2,od2,.func (PySem.W.fnOf "numbers_by_name" "numbers_by_name" (Bi sNn) (Bb sNn) (Ai sNn) .none kV2 dc2 pm2 an2 cd2 ct2),li⟩)
  (c_2:PySem.W.codeIn K cd2 "numbers_by_name" = true)
  (k2:PySem.W.keepIn K (.ref f2)=true)
  (a3:PySem.W.nsIn K mainGlobals "read_game" = some (some (.ref f3)))
  (l3:K.lookup f3=some ⟨oc3,od3,.func (PySem.W.fnOf "read_game" "read_game" (Bi sRg) (Bb sRg) (Ai sRg) .none kV3 dc3 pm3 an3 cd3 ct3),sl3⟩)
  (c_3:PySem.W.codeIn K cd3 "read_game" = true)
  (k3:PySem.W.keepIn K (.ref f3)=true)
  (a4:PySem.W.nsIn K mainGlobals "read_places" = some (some (.ref f4)))
  (l4:K.lookup f4=some ⟨oc4,od4,.func (PySem.W.fnOf "read_places" "read_places" (Bi sRp) (Bb sRp) (Ai sRp) .none kV4 dc4 pm4 an4 cd4 ct4),sl4⟩)
  (c_4:PySem.W.codeIn K cd4 "read_places" = true)
  (k4:PySem.W.keepIn K (.ref f4)=true)
  (a5:PySem.W.nsIn K mainGlobals "read_letters" = some (some (.ref f5)))
  (l5:K.lookup f5=some ⟨oc5,od5,.func (PySem.W.fnOf "read_letters" "read_letters" (Bi sRl) (Bb sRl) (Ai sRl) .none kV5 dc5 pm5 an5 cd5 ct5),sl5⟩)
  (c_5:PySem.W.codeIn K cd5 "read_letters" = true)
  (k5:PySem.W.keepIn K (.ref f5)=true)
  (a6:PySem.W.nsIn K mainGlobals "read_rules" = some (some (.ref f6)))
  (l6:K.lookup f6=some ⟨oc6,od6,.func (PySem.W.fnOf "read_rules" "read_rules" (Bi sRr) (Bb sRr) (Ai sRr) .none kV6 dc6 pm6 an6 cd6 ct6),sl6⟩)
  (c_6:PySem.W.codeIn K cd6 "read_rules" = true)
  (k6:PySem.W.keepIn K (.ref f6)=true)
  (a7:PySem.W.nsIn K mainGlobals "read_rule" = some (some (.ref f7)))
  (l7:K.lookup f7=some ⟨oc7,od7,.func (PySem.W.fnOf "read_rule" "read_rule" (Bi Zg) (Bb Zg) (Ai Zg) .none kV7 dc7 pm7 an7 cd7 ct7),sl7⟩)
  (c_7:PySem.W.codeIn K cd7 "read_rule" = true)
  (k7:PySem.W.keepIn K (.ref f7)=true)
  (a8:PySem.W.nsIn K mainGlobals "_law_deal" = some (some (.ref f8)))
  (l8:K.lookup f8=some ⟨oc8,od8,.func (PySem.W.fnOf "_law_deal" "_law_deal" (Bi Zh) (Bb Zh) (Ai Zh) .none kV8 dc8 pm8 an8 cd8 ct8),sl8⟩)
  (c_8:PySem.W.codeIn K cd8 "_law_deal" = true)
  (k8:PySem.W.keepIn K (.ref f8)=true)
  (a9:PySem.W.nsIn K mainGlobals "_law_draw" = some (some (.ref f9)))
  (l9:K.lookup f9=some ⟨oc9,od9,.func (PySem.W.fnOf "_law_draw" "_law_draw" (Bi sDr) (Bb sDr) (Ai sDr) .none kV9 dc9 pm9 an9 cd9 ct9),sl9⟩)
  (c_9:PySem.W.codeIn K cd9 "_law_draw" = true)
  (k9:PySem.W.keepIn K (.ref f9)=true)
  (a10:PySem.W.nsIn K mainGlobals "_law_names" = some (some (.ref f10)))
  (l10:K.lookup f10=some ⟨xa,yo,.func (PySem.W.fnOf "_law_names" "_law_names" (Bi sNa) (Bb sNa) (Ai sNa) .none zaf yk wq zbd qb wy),wx⟩)
  (c_10:PySem.W.codeIn K qb "_law_names" = true)
  (k10:PySem.W.keepIn K (.ref f10)=true)
  (a11:PySem.W.nsIn K mainGlobals "_law_put" = some (some (.ref z7)))
  (l11:K.lookup z7=some ⟨ym,vx,.func (PySem.W.fnOf "_law_put" "_law_put" (Bi sPt) (Bb sPt) (Ai sPt) .none zf zas zah w9 nz ww),ze⟩)
  (c_11:PySem.W.codeIn K nz "_law_put" = true)
  (k11:PySem.W.keepIn K (.ref z7)=true)
  (a12:PySem.W.nsIn K mainGlobals "_law_any_game" = some (some (.ref yt)))
  (l12:K.lookup yt=some ⟨zam,zba,.func (PySem.W.fnOf "_law_any_game" "_law_any_game" (Bi sAg) (Bb sAg) (Ai sAg) .none zbe zai vn zap qx wc),xm⟩)
  (c_12:PySem.W.codeIn K qx "_law_any_game" = true)
  (k12:PySem.W.keepIn K (.ref yt)=true)
  (a13:PySem.W.nsIn K mainGlobals "_law_rows" = some (some (.ref f13)))
  (l13:K.lookup f13=some ⟨zad,xp,.func (PySem.W.fnOf "_law_rows" "_law_rows" (Bi Zi) (Bb Zi) (Ai Zi) .none vq yn zar xq qr v9),za8⟩)
  (c_13:PySem.W.codeIn K qr "_law_rows" = true)
  (k13:PySem.W.keepIn K (.ref f13)=true)
  (a14:PySem.W.nsIn K mainGlobals "_law_other_row" = some (some (.ref wf)))
  (l14:K.lookup wf=some ⟨za,zal,.func (PySem.W.fnOf "_law_other_row" "_law_other_row" (Bi sOr) (Bb sOr) (Ai sOr) .none za4 zj zu za7 oi zx),za3⟩)
  (c_14:PySem.W.codeIn K oi "_law_other_row" = true)
  (k14:PySem.W.keepIn K (.ref wf)=true)
  (a15:PySem.W.nsIn K mainGlobals "_law_odd_row" = some (some (.ref xh)))
  (l15:K.lookup xh=some ⟨yp,yh,.func (PySem.W.fnOf "_law_odd_row" "_law_odd_row" (Bi sOd) (Bb sOd) (Ai sOd) .none zt xj zaz wa ou za6),xt⟩)
  (c_15:PySem.W.codeIn K ou "_law_odd_row" = true)
  (k15:PySem.W.keepIn K (.ref xh)=true)
  (a16:PySem.W.nsIn K mainGlobals "_law_spoilt" = some (some (.ref f16)))
  (l16:K.lookup f16=some ⟨zd,za2,.func (PySem.W.fnOf "_law_spoilt" "_law_spoilt" (Bi sSq) (Bb sSq) (Ai sSq) .none vk vp zab yr on zaj),zl⟩)
  (c_16:PySem.W.codeIn K on "_law_spoilt" = true)
  (k16:PySem.W.keepIn K (.ref f16)=true)
  (a17:PySem.W.nsIn K mainGlobals "_law_is_name" = some (some (.ref z5)))
  (l17:K.lookup z5=some ⟨wn,xf,.func (PySem.W.fnOf "_law_is_name" "_law_is_name" (Bi sLi) (Bb sLi) (Ai sLi) .none yi za0 v5 yf ss wj),zy⟩)
  (c_17:PySem.W.codeIn K ss "_law_is_name" = true)
  (k17:PySem.W.keepIn K (.ref z5)=true)
  (a18:PySem.W.nsIn K mainGlobals "_law_stands" = some (some (.ref zb)))
  (l18:K.lookup zb=some ⟨zaq,xo,.func (PySem.W.fnOf "_law_stands" "_law_stands" (Bi Yc) (Bb Yc) (Ai Yc) .none zi zo zk zv uf z9),x6⟩)
  (c_18:PySem.W.codeIn K uf "_law_stands" = true)
  (k18:PySem.W.keepIn K (.ref zb)=true)
  (a19:PySem.W.nsIn K mainGlobals "_law_due" = some (some (.ref f19)))
  (l19:K.lookup f19=some ⟨zae,zan,.func (PySem.W.fnOf "_law_due" "_law_due" (Bi Zj) (Bb Zj) (Ai Zj) .none x8 zaa z6 za1 t3 zag),vy⟩)
  (c_19:PySem.W.codeIn K t3 "_law_due" = true)
  (k19:PySem.W.keepIn K (.ref f19)=true)
  (a20:PySem.W.nsIn K mainGlobals "_law_told" = some (some (.ref vo)))
  (l20:K.lookup vo=some ⟨v7,zau,.func (PySem.W.fnOf "_law_told" "_law_told" (Bi sTo) (Bb sTo) (Ai sTo) .none zbb zao zav v0 re za9),yj⟩)
  (c_20:PySem.W.codeIn K re "_law_told" = true)
  (k20:PySem.W.keepIn K (.ref vo)=true)
  (a21:PySem.W.nsIn K mainGlobals "law" = some (some (.ref y9)))
  (l21:K.lookup y9=some ⟨zg,zaw,.func (PySem.W.fnOf "law" "law" (Bi Jr) (Bb Jr) (Ai Jr) .none tu om qa oh kx qq),zak⟩)
  (c_21:PySem.W.codeIn K kx "law" = true)
  (k21:PySem.W.keepIn K (.ref y9)=true)
  (u_c0:PySem.W.nsIn K mainGlobals "NoText" = some (some (.ref c0)))
  (u_c1:PySem.W.nsIn K mainGlobals "NoGame" = some (some (.ref c1)))
  (u_c2:PySem.W.nsIn K mainGlobals "NoSaying" = some (some (.ref c2)))
  (u_c3:PySem.W.nsIn K mainGlobals "TooMany" = some (some (.ref c3)))
  (u_c4:PySem.W.nsIn K mainGlobals "NoPaper" = some (some (.ref c4)))
  (u_c5:PySem.W.nsIn K mainGlobals "NoFit" = some (some (.ref c5)))
  (u_c6:PySem.W.nsIn K mainGlobals "NoProgram" = some (some (.ref c6)))
  (u_c7:PySem.W.nsIn K mainGlobals "NoRow" = some (some (.ref c7)))
  (u_D:PySem.W.nsIn K mainGlobals "DuelError" = some (some (.ref D)))
  (e_c0:U9 K c0 D [c5,c1,c4,c6,c7,c2,c3]=true)
  (i_c0:PySem.W.findIn K (.ref c0) "__init__" = some (some (.ref ut)))
  (n_c0:PySem.W.isFn K (.ref ut)=true)
  (l_c0:K.lookup ut=some ⟨zbc,yu,.func (PySem.W.fnOf "__init__" "NoText.__init__" (Bi Rw) (Bb Rw) (Ai Rw) .none zac yq wk yb pe za5),yg⟩)
  (c_c0:PySem.W.codeIn K pe "NoText.__init__" = true)
  (k_c0:PySem.W.keepIn K (.ref ut)=true)
  (na_c0_row:PySem.W.findIn K (.ref c0) "row" = some none)
  (z_len:PySem.W.nsIn K mainGlobals "len" = some none)
  (z_all:PySem.W.nsIn K mainGlobals "all" = some none)
  (z_enumerate:PySem.W.nsIn K mainGlobals "enumerate" = some none)
  (z_list:PySem.W.nsIn K mainGlobals "list" = some none)
  (z_tuple:PySem.W.nsIn K mainGlobals "tuple" = some none)
  (z_max:PySem.W.nsIn K mainGlobals "max" = some none)
  (z_reversed:PySem.W.nsIn K mainGlobals "reversed" = some none)
  (z_range:PySem.W.nsIn K mainGlobals "range" = some none)
  (z_int:PySem.W.nsIn K mainGlobals "int" = some none)
  (z_isinstance:PySem.W.nsIn K mainGlobals "isinstance" = some none)
  (z_ValueError:PySem.W.nsIn K mainGlobals "ValueError" = some none)
  (z_repr:PySem.W.nsIn K mainGlobals "repr" = some none)
  (y1:PySem.W.nsIn K mainGlobals "MOST_SIGNS" = some (some (.int 6 t1)))
  (y2:PySem.W.nsIn K mainGlobals "MOST_PUT" = some (some (.int 2 t2)))
  (y3:PySem.W.nsIn K mainGlobals "KEPT_WORDS" = some (some (.ref kw)))
  (y4:K.lookup kw=some ⟨.type "tuple",kdk,.seq #[.str "place" q0,.str "letter" q1,.str "rule" q2,.str "own" q3,.str "arrow" q4,.str "ends" q5,.str "one" q6,.str "other" q7] knk,ksk⟩)
  (y5:PySem.W.nsIn K mainGlobals "HAND_WORDS" = some (some (.ref hw)))
  (y6:K.lookup hw=some ⟨.type "tuple",none,.seq #[.str "one" r0,.str "other" r1] knh,ksh⟩) :
  ∃fd:FuncData,(∀(s:Shared) (v:Value),BindsTo s fd ⟨[v],[]⟩ [("_law_script",v)])/\∀base:Heap,K.In base->base.Ns mainGlobals mg->FnOk l.prog w K mg base Fh 65 fa fd ["_law_script"] (Qj K):=by
 have e:=hfa.symm.trans (Yav X G a21)
 cases e
 have F1:=B4 (st:=sIn) l1 c_1 k1
 have F2:=B4 (st:=sNn) l2 c_2 k2
 have F3:=B4 (st:=sRg) l3 c_3 k3
 have F4:=B4 (st:=sRp) l4 c_4 k4
 have F5:=B4 (st:=sRl) l5 c_5 k5
 have F6:=B4 (st:=sRr) l6 c_6 k6
 have F7:=B4 (st:=Zg) l7 c_7 k7
 have F8:=B4 (st:=Zh) l8 c_8 k8
 have F9:=B4 (st:=sDr) l9 c_9 k9
 have F10:=B4 (st:=sNa) l10 c_10 k10
 have F11:=B4 (st:=sPt) l11 c_11 k11
 have F12:=B4 (st:=sAg) l12 c_12 k12
 have F13:=B4 (st:=Zi) l13 c_13 k13
 have F14:=B4 (st:=sOr) l14 c_14 k14
 have F15:=B4 (st:=sOd) l15 c_15 k15
 have F16:=B4 (st:=sSq) l16 c_16 k16
 have F17:=B4 (st:=sLi) l17 c_17 k17
 have F18:=B4 (st:=Yc) l18 c_18 k18
 have F19:=B4 (st:=Zj) l19 c_19 k19
 have F20:=B4 (st:=sTo) l20 c_20 k20
 have F21:=B4 (st:=Jr) l21 c_21 k21
 have Fc0:=B4 (st:=Rw) l_c0 c_c0 k_c0
 have b1:=F1.binds (ps:=["text"]) λ_ _ _ _ _ _ us hl=>by obtain⟨a0,rfl⟩:=Fg hl;rfl
 have b2:=F2.binds (ps:=["names"]) λ_ _ _ _ _ _ us hl=>by obtain⟨a0,rfl⟩:=Fg hl;rfl
 have b3:=F3.binds (ps:=["text"]) λ_ _ _ _ _ _ us hl=>by obtain⟨a0,rfl⟩:=Fg hl;rfl
 have b4:=F4.binds (ps:=["rows"]) λ_ _ _ _ _ _ us hl=>by obtain⟨a0,rfl⟩:=Fg hl;rfl
 have b5:=F5.binds (ps:=["rows"]) λ_ _ _ _ _ _ us hl=>by obtain⟨a0,rfl⟩:=Fg hl;rfl
 have b6:=F6.binds (ps:=["rows","places","letters"]) λ_ _ _ _ _ _ us hl=>by obtain⟨a0,a1,a2,rfl⟩:=Nr hl;rfl
 have b7:=F7.binds (ps:=["words","place_numbers","letter_numbers"]) λ_ _ _ _ _ _ us hl=>by obtain⟨a0,a1,a2,rfl⟩:=Nr hl;rfl
 have b8:=F8.binds (ps:=["_law_script","_law_base"]) λ_ _ _ _ _ _ us hl=>by obtain⟨a0,a1,rfl⟩:=Jz hl;rfl
 have b9:=F9.binds (ps:=["_law_deal_here","_law_many"]) λ_ _ _ _ _ _ us hl=>by obtain⟨a0,a1,rfl⟩:=Jz hl;rfl
 have b10:=F10.binds (ps:=["_law_deal_here","_law_many"]) λ_ _ _ _ _ _ us hl=>by obtain⟨a0,a1,rfl⟩:=Jz hl;rfl
 have b11:=F11.binds (ps:=["_law_deal_here","_law_many"]) λ_ _ _ _ _ _ us hl=>by obtain⟨a0,a1,rfl⟩:=Jz hl;rfl
 have b12:=F12.binds (ps:=["_law_deal_here"]) λ_ _ _ _ _ _ us hl=>by obtain⟨a0,rfl⟩:=Fg hl;rfl
 have b13:=F13.binds (ps:=["_law_game"]) λ_ _ _ _ _ _ us hl=>by obtain⟨a0,rfl⟩:=Fg hl;rfl
 have b14:=F14.binds (ps:=["_law_deal_here","_law_row","_law_names_here"]) λ_ _ _ _ _ _ us hl=>by obtain⟨a0,a1,a2,rfl⟩:=Nr hl;rfl
 have b15:=F15.binds (ps:=["_law_deal_here","_law_names_here"]) λ_ _ _ _ _ _ us hl=>by obtain⟨a0,a1,rfl⟩:=Jz hl;rfl
 have b16:=F16.binds (ps:=["_law_deal_here","_law_rows_here","_law_names_here"]) λ_ _ _ _ _ _ us hl=>by obtain⟨a0,a1,a2,rfl⟩:=Nr hl;rfl
 have b17:=F17.binds (ps:=["_law_word"]) λ_ _ _ _ _ _ us hl=>by obtain⟨a0,rfl⟩:=Fg hl;rfl
 have b18:=F18.binds (ps:=["_law_words","_law_places","_law_letters","_law_rules"]) λ_ _ _ _ _ _ us hl=>by obtain⟨a0,a1,a2,a3,rfl⟩:=Qhh hl;rfl
 have b19:=F19.binds (ps:=["_law_text"]) λ_ _ _ _ _ _ us hl=>by obtain⟨a0,rfl⟩:=Fg hl;rfl
 have b20:=F20.binds (ps:=["_law_text"]) λ_ _ _ _ _ _ us hl=>by obtain⟨a0,rfl⟩:=Fg hl;rfl
 have bc0:=Fc0.binds (ps:=["self","row"]) λ_ _ _ _ _ _ us hl=>by obtain⟨a0,a1,rfl⟩:=Jz hl;rfl
 have af:=Ybm X G z_len
 have bw:=Ybm X G z_all
 have ba:=Ybm X G z_enumerate
 have bd:=Ybm X G z_list
 have aj:=Ybm X G z_tuple
 have gz:=Ybm X G z_max
 have cj:=Ybm X G z_reversed
 have ao:=Ybm X G z_range
 have cz:=Ybm X G z_int
 have ak:=Ybm X G z_isinstance
 have bv:=Ybm X G z_ValueError
 have bz:=Ybm X G z_repr
 have vd:=Yav X G u_c0
 have xx:=Yav X G u_c1
 have wg:=Yav X G u_c2
 have vw:=Yav X G u_c3
 have mc4:=Yav X G u_c4
 have mc5:=Yav X G u_c5
 have mc6:=Yav X G u_c6
 have xu:=Yav X G u_c7
 have mD:=Yav X G u_D
 have fb:=Qce e_c0
 have yw:=Yav X G y1
 have z4:=Yav X G y2
 have ya:=Yav X G y3
 have hKW:∀H,Dk K H (.tuple (Gb.map PyData.str)) (.ref kw):=λH=>Ph (xs:=[.str "place",.str "letter",.str "rule",.str "own",.str "arrow",.str "ends",.str "one",.str "other"]) rfl y4 rfl rfl (show 8<=sizeLine by decide) (.cons ⟨q0,rfl⟩ (.cons ⟨q1,rfl⟩ (.cons ⟨q2,rfl⟩ (.cons ⟨q3,rfl⟩ (.cons ⟨q4,rfl⟩ (.cons ⟨q5,rfl⟩ (.cons ⟨q6,rfl⟩ (.cons ⟨q7,rfl⟩ (.nil))))))))) (Bl Cs (Bl Cs (Bl Cs (Bl Cs (Bl Cs (Bl Cs (Bl Cs (Bl Cs (Ct)))))))))
 have uq:=Yav X G y5
 have vf:∀H,Dk K H (.tuple (hw2.map PyData.str)) (.ref hw):=λH=>Ph (xs:=[.str "one",.str "other"]) rfl y6 rfl rfl (show 2<=sizeLine by decide) (.cons ⟨r0,rfl⟩ (.cons ⟨r1,rfl⟩ .nil)) (Bl Cs (Bl Cs Ct))
 have kHW:∃o,K.lookup hw=some o/\o.cls=.type "tuple" /\ o.dict=none:=⟨_,y6,rfl,rfl⟩
 refine⟨PySem.W.fnOf "law" "law" (Bi Jr) (Bb Jr) (Ai Jr) .none tu om qa oh kx qq,λs v=>.of_eq rfl,λbase _ _=>?_⟩
 have xw:XCal l.prog w K mg base 9 "NoText" c0 ["row"]:=⟨_,_,_,(Qcp (P:=l.prog) (w:=w) (mg:=mg) (base:=base) (n:=0) Fc0 fb.xi.toXCls na_c0_row).mono (by decide),bc0,⟨fb.xc,i_c0,n_c0,fb.kp⟩,vd,fb.xi.toXCls.mb⟩
 have g1:=Qf0 (P:=l.prog) (w:=w) (mg:=mg) (base:=base) (n:=0) F1 af bw ya hKW yw
 have q1:VCal l.prog w K mg base 1 "is_name" ["text"] _:=⟨_,_,g1,b1,k1,Yav X G a1⟩
 have g2:=Qga (P:=l.prog) (w:=w) (mg:=mg) (base:=base) (n:=0) F2 ba
 have q2:VCal l.prog w K mg base 1 "numbers_by_name" ["names"] _:=⟨_,_,g2,b2,k2,Yav X G a2⟩
 have g5:=Qf7 (P:=l.prog) (w:=w) (mg:=mg) (base:=base) (n:=1) F5 (q1.mono (by decide)) af bd
 have q5:VCal l.prog w K mg base 2 "read_letters" ["rows"] _:=⟨_,_,g5,b5,k5,Yav X G a5⟩
 have g4:=Qf5 (P:=l.prog) (w:=w) (mg:=mg) (base:=base) (n:=1) F4 (q1.mono (by decide)) af uq vf kHW
 have q4:VCal l.prog w K mg base 2 "read_places" ["rows"] _:=⟨_,_,g4,b4,k4,Yav X G a4⟩
 have g7:=Qgf (P:=l.prog) (w:=w) (mg:=mg) (base:=base) (n:=0) F7 af bw aj z4
 have q7:VCal l.prog w K mg base 1 "read_rule" ["words","place_numbers","letter_numbers"] _:=⟨_,_,g7,b7,k7,Yav X G a7⟩
 have g6:=Qgh (P:=l.prog) (w:=w) (mg:=mg) (base:=base) (n:=1) F6 (q2.mono (by decide)) (q7.mono (by decide))
 have q6:VCal l.prog w K mg base 2 "read_rules" ["rows","places","letters"] _:=⟨_,_,g6,b6,k6,Yav X G a6⟩
 have g3:=Qgk (P:=l.prog) (w:=w) (mg:=mg) (base:=base) (n:=9) F3 (q5.mono (by decide)) (q4.mono (by decide)) (q6.mono (by decide)) af bd aj xw
 have q3:K6 l.prog w K mg base 11 "read_game" ["text"] _:=⟨_,_,g3,b3,k3,Yav X G a3⟩
 have g8:=Qfy (P:=l.prog) (w:=w) (mg:=mg) (base:=base) (n:=0) F8 gz bd cj
 have q8:VCal l.prog w K mg base 1 "_law_deal" ["_law_script","_law_base"] _:=⟨_,_,g8,b8,k8,Yav X G a8⟩
 have g9:=Qfv (P:=l.prog) (w:=w) (mg:=mg) (base:=base) (n:=0) F9 af
 have q9:VCal l.prog w K mg base 1 "_law_draw" ["_law_deal_here","_law_many"] _:=⟨_,_,g9,b9,k9,Yav X G a9⟩
 have g10:=Qgx (P:=l.prog) (w:=w) (mg:=mg) (base:=base) (n:=1) F10 (q9.mono (by decide)) ao af
 have q10:VCal l.prog w K mg base 2 "_law_names" ["_law_deal_here","_law_many"] _:=⟨_,_,g10,b10,k10,Yav X G a10⟩
 have g11:=Qg0 (P:=l.prog) (w:=w) (mg:=mg) (base:=base) (n:=1) F11 (q9.mono (by decide)) ao aj
 have q11:VCal l.prog w K mg base 2 "_law_put" ["_law_deal_here","_law_many"] _:=⟨_,_,g11,b11,k11,Yav X G a11⟩
 have g12:=Qg2 (P:=l.prog) (w:=w) (mg:=mg) (base:=base) (n:=2) F12 (q10.mono (by decide)) (q9.mono (by decide)) (q11.mono (by decide)) aj ao af
 have q12:VCal l.prog w K mg base 3 "_law_any_game" ["_law_deal_here"] _:=⟨_,_,g12,b12,k12,Yav X G a12⟩
 have g13:=Qg7 (P:=l.prog) (w:=w) (mg:=mg) (base:=base) (n:=0) F13
 have q13:VCal l.prog w K mg base 1 "_law_rows" ["_law_game"] _:=⟨_,_,g13,b13,k13,Yav X G a13⟩
 have g14:=Qha (P:=l.prog) (w:=w) (mg:=mg) (base:=base) (n:=1) F14 (q9.mono (by decide)) af
 have q14:VCal l.prog w K mg base 2 "_law_other_row" ["_law_deal_here","_law_row","_law_names_here"] _:=⟨_,_,g14,b14,k14,Yav X G a14⟩
 have g15:=Qhc (P:=l.prog) (w:=w) (mg:=mg) (base:=base) (n:=1) F15 (q9.mono (by decide)) af
 have q15:VCal l.prog w K mg base 2 "_law_odd_row" ["_law_deal_here","_law_names_here"] _:=⟨_,_,g15,b15,k15,Yav X G a15⟩
 have g16:=Qhd (P:=l.prog) (w:=w) (mg:=mg) (base:=base) (n:=2) F16 (q9.mono (by decide)) (q15.mono (by decide)) (q14.mono (by decide)) af
 have q16:VCal l.prog w K mg base 3 "_law_spoilt" ["_law_deal_here","_law_rows_here","_law_names_here"] _:=⟨_,_,g16,b16,k16,Yav X G a16⟩
 have g17:=Qf3 (P:=l.prog) (w:=w) (mg:=mg) (base:=base) (n:=0) F17 af bw
 have q17:VCal l.prog w K mg base 1 "_law_is_name" ["_law_word"] _:=⟨_,_,g17,b17,k17,Yav X G a17⟩
 have g18:=Qgp (P:=l.prog) (w:=w) (mg:=mg) (base:=base) (n:=1) F18 (q17.mono (by decide)) af bw
 have q18:VCal l.prog w K mg base 2 "_law_stands" ["_law_words","_law_places","_law_letters","_law_rules"] _:=⟨_,_,g18,b18,k18,Yav X G a18⟩
 have g19:=Qgt (P:=l.prog) (w:=w) (mg:=mg) (base:=base) (n:=2) F19 (q18.mono (by decide)) ba af cz aj
 have q19:VCal l.prog w K mg base 3 "_law_due" ["_law_text"] _:=⟨_,_,g19,b19,k19,Yav X G a19⟩
 have g20:=Qhf (P:=l.prog) (w:=w) (mg:=mg) (base:=base) (n:=11) F20 (q3.mono (by decide)) ak bv vd xx wg vw mc4 mc5 mc6 xu mD fb na_c0_row
 have q20:VCal l.prog w K mg base 12 "_law_told" ["_law_text"] _:=⟨_,_,g20,b20,k20,Yav X G a20⟩
 have g21:=Qdk (P:=l.prog) (w:=w) (mg:=mg) (base:=base) (n:=12) F21 (q8.mono (by decide)) (q12.mono (by decide)) (q13.mono (by decide)) (q16.mono (by decide)) (q9.mono (by decide)) (q19.mono (by decide)) (q20.mono (by decide)) bd ao af ak cz bz
 exact g21.mono (by decide)
theorem walk{l:PySem.W.OpenLaw}{q:Program}{dy:List Str}{XP:(Str->Option Value)->Heap->Prop}{YP:World->Heap->Prop}{d:DefRec}{K:Params->PySem.W.Frag}(hn:l.most=some 63)(mn:d.params.defaults=[])
  (hY:∀(w:World) (h:Heap),YP w h->(K w.params).In h)
  (F:∀(w:World) (mg:Str->Option Value) (fa:Addr) (h:Heap),(K w.params).In h->h.Ns mainGlobals mg->mg d.name=some (.ref fa) ->
   ∃fd:FuncData,(∀(s:Shared) (u:Value),BindsTo s fd ⟨[u],[]⟩ [("_law_script",u)])/\∀base:Heap,(K w.params).In base->base.Ns mainGlobals mg->FnOk l.prog w (K w.params) mg base Fh 65 fa fd ["_law_script"] (Qj (K w.params))) :
  PySem.W.WalkO q dy XP YP l.row.toRowW d [] (λf vs=>PySem.call f vs) :=
 L2.walk_of (n:=63) (k:=65) (x := "_law_script") (CX:=λ_=>Fh) (sp:=λw=>Qj (K w.params)) hn (by decide) mn ⟨rfl,by decide,by decide,rfl⟩ hY F (λ_ _ a ns hl hO hS=>⟨a,ns,rfl,hS,hO,hl,λ_=>rfl⟩) λ_ _ _ _ _ z=>z
end K14
namespace PySem.W.Fast
theorem tw12843943685715460407:True:=trivial
theorem tw17505819108764854662:True:=trivial
theorem tw253592748472876018:True:=trivial
theorem tw5787014865041417109:True:=trivial
theorem tw16381247835524697624:True:=trivial
theorem tw4141680069109246493:True:=trivial
theorem tw4455063509068037378:True:=trivial
theorem tw6121833555375249056:True:=trivial
theorem tw3959974050752150379:True:=trivial
theorem tw12901915611264093563:True:=trivial
theorem tw5219155066225991101:True:=trivial
theorem tw7845301126702820662:True:=trivial
theorem tw13329664219357755877:True:=trivial
theorem tw9248958544145769760:True:=trivial
theorem tw11098631293342741352:True:=trivial
theorem tw17825671519300010658:True:=trivial
theorem tw5216391174854948353:True:=trivial
theorem tw5779268481184087812:True:=trivial
theorem tw15567991001527468240:True:=trivial
theorem tw16610519623213624544:True:=trivial
theorem tw338087021093208025:True:=trivial
theorem tw4078077286423027254:True:=trivial
theorem tw17042337323135695186:True:=trivial
theorem tw6021665405958942636:True:=trivial
theorem tw14909631517666439831:True:=trivial
theorem tw131852589360242422:True:=trivial
theorem tw9958056338185455209:True:=trivial
theorem tw17587973926439841694:True:=trivial
theorem tw14045998457146081371:True:=trivial
theorem tw17043595223065550744:True:=trivial
theorem tw8221511950479255606:True:=trivial
theorem tw17960526668385044341:True:=trivial
theorem tw9442396925082084955:True:=trivial
theorem tw17982770139328914393:True:=trivial
theorem tw8056207712808633927:True:=trivial
theorem tw5440323210599487403:True:=trivial
theorem tw3216889523132921152:True:=trivial
theorem tw9973486360284840187:True:=trivial
theorem tw16785106654834579872:True:=trivial
theorem tw3257893191884851126:True:=trivial
theorem tw15479529946696708055:True:=trivial
theorem tw8296918466220900429:True:=trivial
theorem tw9240894313213952427:True:=trivial
theorem tw13411737591336677698:True:=trivial
theorem tw1183696383529872507:True:=trivial
theorem tw14229865823286977539:True:=trivial
theorem tw3584479348361871911:True:=trivial
theorem tw690255943511092150:True:=trivial
theorem tw6601124803103148618:True:=trivial
theorem tw8851751857932490336:True:=trivial
theorem tw4744449214507861558:True:=trivial
theorem tw14568154067101865708:True:=trivial
theorem tw1623811154254515635:True:=trivial
theorem tw2095270071893665058:True:=trivial
theorem tw12518022146494541544:True:=trivial
theorem tw5524942939070439745:True:=trivial
theorem tw6326927940151505437:True:=trivial
theorem tw6968705021880692098:True:=trivial
theorem tw13086600951082246399:True:=trivial
theorem tw16213028551338415009:True:=trivial
theorem tw13304329611554532135:True:=trivial
theorem tw2822620766130346242:True:=trivial
theorem tw979141632167520852:True:=trivial
theorem tw9243007083587209666:True:=trivial
theorem tw552132798965033378:True:=trivial
theorem tw7677862879158403147:True:=trivial
theorem tw2835707322904492348:True:=trivial
theorem tw17837602517803144379:True:=trivial
theorem tw9583199454933586210:True:=trivial
theorem tw7948410945580755891:True:=trivial
theorem tw8489650684885436001:True:=trivial
theorem tw12484625721229199169:True:=trivial
theorem tw4729013060097377027:True:=trivial
theorem tw9451558451356255459:True:=trivial
theorem tw15901124985910179995:True:=trivial
theorem tw6147246237336903480:True:=trivial
theorem tw16408463068505986392:True:=trivial
theorem tw11859658813770011818:True:=trivial
theorem tw7531785308760044707:True:=trivial
end PySem.W.Fast
open PySem PySem.W PyProof.Rows
set_option maxRecDepth 100000 in
set_option maxHeartbeats 0 in
theorem PySem.Challenge.cw_pileduel_k14_texts_refused_holds : PySem.Challenge.rw_pileduel_k14_texts_refused.Holds := by
 w_on;o_law;k_head;(case hw=>w_witness2)
 k_fill
 refine K14.walk (l:=PySem.Challenge.rw_pileduel_k14_texts_refused) rfl rfl (fun w h Y=>PySem.W.kIn_of Y) ?F
 case F =>
  intro w mg fa h KX G hmg
  refine' K14.all_mk KX G hmg ?a1 ?l1 ?c_1 ?k1 ?a2 ?l2 ?c_2 ?k2 ?a3 ?l3 ?c_3 ?k3 ?a4 ?l4 ?c_4 ?k4 ?a5 ?l5 ?c_5 ?k5 ?a6 ?l6 ?c_6 ?k6 ?a7 ?l7 ?c_7 ?k7 ?a8 ?l8 ?c_8 ?k8 ?a9 ?l9 ?c_9 ?k9 ?a10 ?l10 ?c_10 ?k10 ?a11 ?l11 ?c_11 ?k11 ?a12 ?l12 ?c_12 ?k12 ?a13 ?l13 ?c_13 ?k13 ?a14 ?l14 ?c_14 ?k14 ?a15 ?l15 ?c_15 ?k15 ?a16 ?l16 ?c_16 ?k16 ?a17 ?l17 ?c_17 ?k17 ?a18 ?l18 ?c_18 ?k18 ?a19 ?l19 ?c_19 ?k19 ?a20 ?l20 ?c_20 ?k20 ?a21 ?l21 ?c_21 ?k21 ?u_c0 ?u_c1 ?u_c2 ?u_c3 ?u_c4 ?u_c5 ?u_c6 ?u_c7 ?u_D ?e_c0 ?i_c0 ?n_c0 ?l_c0 ?c_c0 ?k_c0 ?na_c0_row ?z_len ?z_all ?z_enumerate ?z_list ?z_tuple ?z_max ?z_reversed ?z_range ?z_int ?z_isinstance ?z_ValueError ?z_repr ?y1 ?y2 ?y3 ?y4 ?y5 ?y6
  (case a1=>k_is)
  (case l1=>k_is)
  (case c_1=>k_is)
  (case k1=>k_is)
  (case a2=>k_is)
  (case l2=>k_is)
  (case c_2=>k_is)
  (case k2=>k_is)
  (case a3=>k_is)
  (case l3=>k_is)
  (case c_3=>k_is)
  (case k3=>k_is)
  (case a4=>k_is)
  (case l4=>k_is)
  (case c_4=>k_is)
  (case k4=>k_is)
  (case a5=>k_is)
  (case l5=>k_is)
  (case c_5=>k_is)
  (case k5=>k_is)
  (case a6=>k_is)
  (case l6=>k_is)
  (case c_6=>k_is)
  (case k6=>k_is)
  (case a7=>k_is)
  (case l7=>k_is)
  (case c_7=>k_is)
  (case k7=>k_is)
  (case a8=>k_is)
  (case l8=>k_is)
  (case c_8=>k_is)
  (case k8=>k_is)
  (case a9=>k_is)
  (case l9=>k_is)
  (case c_9=>k_is)
  (case k9=>k_is)
  (case a10=>k_is)
  (case l10=>k_is)
  (case c_10=>k_is)
  (case k10=>k_is)
  (case a11=>k_is)
  (case l11=>k_is)
  (case c_11=>k_is)
  (case k11=>k_is)
  (case a12=>k_is)
  (case l12=>k_is)
  (case c_12=>k_is)
  (case k12=>k_is)
  (case a13=>k_is)
  (case l13=>k_is)
  (case c_13=>k_is)
  (case k13=>k_is)
  (case a14=>k_is)
  (case l14=>k_is)
  (case c_14=>k_is)
  (case k14=>k_is)
  (case a15=>k_is)
  (case l15=>k_is)
  (case c_15=>k_is)
  (case k15=>k_is)
  (case a16=>k_is)
  (case l16=>k_is)
  (case c_16=>k_is)
  (case k16=>k_is)
  (case a17=>k_is)
  (case l17=>k_is)
  (case c_17=>k_is)
  (case k17=>k_is)
  (case a18=>k_is)
  (case l18=>k_is)
  (case c_18=>k_is)
  (case k18=>k_is)
  (case a19=>k_is)
  (case l19=>k_is)
  (case c_19=>k_is)
  (case k19=>k_is)
  (case a20=>k_is)
  (case l20=>k_is)
  (case c_20=>k_is)
  (case k20=>k_is)
  (case a21=>k_is)
  (case l21=>k_is)
  (case c_21=>k_is)
  (case k21=>k_is)
  (case u_c0=>k_is)
  (case u_c1=>k_is)
  (case u_c2=>k_is)
  (case u_c3=>k_is)
  (case u_c4=>k_is)
  (case u_c5=>k_is)
  (case u_c6=>k_is)
  (case u_c7=>k_is)
  (case u_D=>k_is)
  (case e_c0=>kernel_rfl)
  (case i_c0=>k_is)
  (case n_c0=>k_is)
  (case l_c0=>k_is)
  (case c_c0=>k_is)
  (case k_c0=>k_is)
  (case na_c0_row=>k_is)
  (case z_len=>k_is)
  (case z_all=>k_is)
  (case z_enumerate=>k_is)
  (case z_list=>k_is)
  (case z_tuple=>k_is)
  (case z_max=>k_is)
  (case z_reversed=>k_is)
  (case z_range=>k_is)
  (case z_int=>k_is)
  (case z_isinstance=>k_is)
  (case z_ValueError=>k_is)
  (case z_repr=>k_is)
  (case y1=>k_is)
  (case y2=>k_is)
  (case y3=>k_is)
  (case y4=>k_is)
  (case y5=>k_is)
  (case y6=>k_is)
