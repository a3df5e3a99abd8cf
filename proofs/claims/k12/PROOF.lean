import PyProof.Rows.All
import Wide.All
import OpenK.AllK
import Wide.FinOn
import Lean
import PyProof.EqAt
import PyProof.EqKinds
import PyProof.TupleCall
import PyProof.CompFree
import PyProof.CompUse
import PyProof.CollectIter
import PyProof.ListNew
import KE.KRevIter
import PyProof.EnumMake
import PyProof.Draws
import PyProof.TupleIter
import PyProof.WalksMore
import PyProof.ReprRoads
import PyProof.P3Eq
import PyProof.NeData
import PyProof.EqLayable
import PyProof.Rows.RegFStrParts
import PyProof.AutoListH
import KE.KItemsList
import KE.KDictList
import PyProof.StrBlockG
import PyProof.StrLawsOcc
import PyProof.StrLawsTight
import PyProof.StrLawsChain
import PyProof.Rows.Range3
import PyProof.MinMaxWalk
import PyProof.WalkInts
import PyProof.ExcClass3
import PyProof.ExcInit
import PyProof.InstStoreFacts
import PyProof.ExcArgsOwn
import KE.KIsAll
import PyProof.RaisesMany
import PyProof.RulesTry
import PyProof.Raises
import PyProof.RulesAs
import PyProof.NsDelKeeps
import PyProof.PassesOwn
import PyProof.Rows.CatchHere
import KE.KSortTup
import PyProof.FactsAll.tuple_2
import PyProof.TupleKey
import PyProof.Rows.RowHeap
import PyProof.SetKind
import PyProof.SetNew
import PyProof.DictIter
import PyProof.CollectWalk
import PyProof.Walks
import PyProof.ZipIter
import KE.KRevSl
import KE.KStateDown
import PyProof.SetRoads
import PyProof.SumWalk
import PyProof.CallStr
import PyProof.FactsAll.tuple_3
import PyProof.StrLawsIn
import PySem.Challenge.RW_pileduel_k12_games_looked_at
set_option Elab.async false
set_option linter.all false
set_option maxRecDepth 100000
abbrev Yaa:=@List.length_map
abbrev Yab:=@PySem.wpAny_bind
abbrev Yac:=@PySem.wpAny_pure
abbrev Yad:=@PySem.boot_len
abbrev Yae:=@List.length_append
abbrev Yaf:=@Nat.le_refl
abbrev Yag:=@PySem.Heap.lt_size
abbrev Yah:=@List.size_toArray
abbrev Yai:=@Nat.le_trans
abbrev Yaj:=@PySem.W.mg_of
abbrev Yak:=@List.map_append
abbrev Yal:=@Nat.lt_of_lt_of_le
abbrev Yam:=@of_decide_eq_true
abbrev Yan:=@if_neg
abbrev Yao:=@List.mem_cons_of_mem
abbrev Yap:=@Nat.ne_of_lt
abbrev Yaq:=@if_pos
abbrev Yar:=@Bool.and_eq_true
abbrev Yas:=@Bool.false_ne_true
abbrev Yat:=@List.map_map
abbrev Yau:=@List.mem_cons_self
abbrev Yav:=@Option.map_eq_some_iff
abbrev Yaw:=@List.mem_append
abbrev Yax:=@List.mem_singleton
abbrev Yay:=@decide_eq_false
abbrev Yaz:=@List.map_cons
abbrev Ya0:=@List.length_take
abbrev Ya1:=@Option.some.inj
abbrev Ya2:=@List.mem_append_right
abbrev Ya3:=@PySem.Calls.spliced_cons
abbrev Ya4:=@PySem.W.mg_none_of
abbrev Ya5:=@PyProof.Rows.slot_tuple_getitem
abbrev Ya6:=@PySem.wpAny_Call_Name_kw
abbrev Ya7:=@Exists.elim
abbrev Ya8:=@List.mem_cons
abbrev Ya9:=@List.length_cons
abbrev Yba:=@PySem.W.kia_one
abbrev Ybb:=@congrArg
abbrev Ybc:=@PySem.F.slot_list_append
abbrev Ybd:=@PySem.F.type_list_append
abbrev Ybe:=@PySem.wpAny_mono
abbrev Ybf:=@PySem.wpAny_newObj_type
abbrev Ybg:=@List.mem_of_getElem?
abbrev Ybh:=@PySem.wpAny_field
abbrev Ybi:=@PyProof.Rows.callWith_builtin1
abbrev Ybj:=@List.mem_map
abbrev Ybk:=@PySem.PassesOwn.never
abbrev Ybl:=@decide_eq_true
abbrev Ybm:=@PyProof.Rows.callWith_type1
abbrev Ybn:=@PyProof.Rows.boot_tuple
abbrev Ybo:=@List.mem_of_mem_take
abbrev Ybp:=@PySem.wpAny_truthy_bool
abbrev Ybq:=@PySem.Calls.spliced_nil
abbrev Ybr:=@List.replicate_succ
abbrev Ybs:=@List.append_nil
abbrev Ybt:=@PyProof.Rows.boot_max
abbrev Ybu:=@List.getElem_mem
abbrev Ybv:=@beq_eq_false_iff_ne
abbrev Ybw:=@List.take_of_length_le
abbrev Ybx:=@List.all_eq_true
abbrev Yby:=@Nat.lt_irrefl
abbrev Ybz:=@PyProof.Rows.assignInOrder_cons
abbrev Yb0:=@List.any_cons
abbrev Yb1:=@PyProof.Rows.boot_int
abbrev Yb2:=@List.mem_range
abbrev Yb3:=@List.drop_eq_getElem_cons
abbrev Yb4:=@Nat.add_le_add_right
abbrev Yb5:=@PySem.wpAny_passesOwn
abbrev Yb6:=@List.flatten_cons
abbrev Yb7:=@PySem.mem_of_lookup
abbrev Yb8:=@PySem.wpAny_holding
abbrev Yb9:=@PySem.wpAny_getItem_str_slice
abbrev Yca:=@PySem.W.looks_mroIn
abbrev Ycb:=@List.length_drop
abbrev Ycc:=@PySem.W.any_some
abbrev Ycd:=@PySem.W.Looks.ld
abbrev Yce:=@List.take_length
abbrev Ycf:=@decide_eq_decide
abbrev Ycg:=@PySem.Heap.size_push
abbrev Ych:=@PySem.wpAny_setField
abbrev Yci:=@PySem.wpAny_pyIter_tuple
abbrev Ycj:=@Bool.eq_iff_iff
abbrev Yck:=@PySem.Paired.length
abbrev Ycl:=@Ne.symm
abbrev Ycm:=@PySem.W.looks_findIn
abbrev Ycn:=@List.mem_take_iff_getElem
abbrev Yco:=@Option.bind_some
abbrev Ycp:=@List.drop_length
abbrev Ycq:=@Nat.zero_le
abbrev Ycr:=@Option.isSome_iff_exists
abbrev Ycs:=@PySem.F.args_tuple_add_2
abbrev Yct:=@List.append_cancel_right
abbrev Ycu:=@PySem.wpAny_execs_nil
abbrev Ycv:=@PySem.wpAny_standAt
abbrev Ycw:=@PySem.F.entry_tuple_add
abbrev Ycx:=@PySem.Obj.data_mapFields
abbrev Ycy:=@PySem.wpAny_loadPart'
abbrev Ycz:=@List.filter_append
abbrev Yc0:=@Int.emod_lt_of_pos
abbrev Yc1:=@PySem.F.slot_list_count
abbrev Yc2:=@Bool.not_eq_false'
abbrev Yc3:=@PySem.F.slot_tuple_add
abbrev Yc4:=@PyProof.Rows.boot_list
abbrev Yc5:=@List.reverse_cons
abbrev Yc6:=@PySem.call_meets
abbrev Yc7:=@Nat.le_succ
abbrev Yc8:=@PySem.WalksT.enumerateD
abbrev Yc9:=@PySem.wpAny_pyIter_enum
abbrev Yda:=@List.length_range
abbrev Ydb:=@Bool.not_eq_true'
abbrev Ydc:=@PySem.wpAny_bindName
abbrev Ydd:=@Bool.and_false
abbrev Yde:=@PySem.Obj.isFreed_of_fields
abbrev Ydf:=@List.length_filter_le
abbrev Ydg:=@PySem.wpAny_call_entry
abbrev Ydh:=@List.lookup_cons
abbrev Ydi:=@Nat.lt_succ_self
abbrev Ydj:=@PySem.Heap.size_update
abbrev Ydk:=@List.any_eq_true
abbrev Ydl:=@Nat.le_add_right
abbrev Ydm:=@List.mem_append_left
abbrev Ydn:=@beq_iff_eq
abbrev Ydo:=@PySem.sizeLine_eq
abbrev Ydp:=@List.nodup_cons
abbrev Ydq:=@PySem.post_val_or_str
abbrev Ydr:=@PyProof.Rows.boot_isinstance
abbrev Yds:=@Int.emod_nonneg
abbrev Ydt:=@PySem.codeAny_mono
namespace L2
theorem Oj{α:Sort _}{a b:α->Prop}{P:Prop}(h:∃x,a x/\b x)(k:∀x,a x->b x->P):P:=Ya7 h λx y=>k x y.1 y.2
theorem Ca{α β:Sort _}{a b c:α->β->Prop}{P:Prop}(h:∃x y,a x y/\b x y/\c x y)(k:∀x y,a x y->b x y->c x y->P):P:=Ya7 h λx h=>Ya7 h λy h=>k x y h.1 h.2.1 h.2.2
theorem B4{α β γ:Sort _}{a b c d:α->β->γ->Prop}{P:Prop}(h:∃x y z,a x y z/\b x y z/\c x y z/\d x y z)(k:∀x y z,a x y z->b x y z->c x y z->d x y z->P):P:=Ya7 h λx h=>Ya7 h λy h=>Ya7 h λz h=>k x y z h.1 h.2.1 h.2.2.1 h.2.2.2
theorem Df{α β γ δ:Sort _}{a b c d e:α->β->γ->δ->Prop}{P:Prop}(h:∃x y z u,a x y z u/\b x y z u/\c x y z u/\d x y z u/\e x y z u)(k:∀x y z u,a x y z u->b x y z u->c x y z u->d x y z u->e x y z u->P):P:=Ya7 h λx h=>Ya7 h λy h=>Ya7 h λz h=>Ya7 h λu h=>k x y z u h.1 h.2.1 h.2.2.1 h.2.2.2.1 h.2.2.2.2
theorem Qf5{α β γ δ:Sort _}{a b c d e f:α->β->γ->δ->Prop}{P:Prop}(h:∃x y z u,a x y z u/\b x y z u/\c x y z u/\d x y z u/\e x y z u/\f x y z u)(k:∀x y z u,a x y z u->b x y z u->c x y z u->d x y z u->e x y z u->f x y z u->P):P:=Ya7 h λx h=>Ya7 h λy h=>Ya7 h λz h=>Ya7 h λu h=>k x y z u h.1 h.2.1 h.2.2.1 h.2.2.2.1 h.2.2.2.2.1 h.2.2.2.2.2
theorem Eu{α β γ δ ε ζ:Sort _}{a b c d:α->β->γ->δ->ε->ζ->Prop}{P:Prop}(h:∃x y z u v w,a x y z u v w/\b x y z u v w/\c x y z u v w/\d x y z u v w)(k:∀x y z u v w,a x y z u v w->b x y z u v w->c x y z u v w->d x y z u v w->P):P:=Ya7 h λx h=>Ya7 h λy h=>Ya7 h λz h=>Ya7 h λu h=>Ya7 h λv h=>Ya7 h λw h=>k x y z u v w h.1 h.2.1 h.2.2.1 h.2.2.2
open PySem PySem.Spec PyProof.Rows
abbrev Key:=Sum Int Str
def Iq:Key->Value->Bool
 | .inl k,v=>Value.isInt k v
 | .inr x,v=>Value.isStrOf x v
def Wd(w:World):Key->Int
 | .inl k=>hashInt k
 | .inr x=>hashStr w x
theorem keyIs_shape:∀{k:Key} {v:Value},Iq k v=true->(∃i t,k=Sum.inl i/\v=Value.int i t)\/(∃x t,k=Sum.inr x/\v=Value.str x t)
 | .inl i,v,h=>by
  obtain⟨t,e⟩:=Value.isInt_shape (k:=i) (v:=v) h
  exact .inl ⟨i,t,rfl,e⟩
 | .inr x,v,h=>by
  obtain⟨t,e⟩:=Value.isStrOf_shape (x:=x) (v:=v) h
  exact .inr ⟨x,t,rfl,e⟩
theorem Ol(i:Int)(t:Tok):Iq (.inl i) (.int i t)=true:=by simp [Iq,Value.isInt]
theorem Om(x:Str)(t:Tok):Iq (.inr x) (.str x t)=true:=by simp [Iq,Value.isStrOf]
theorem We(a b:Int):decide ((Sum.inl a:Key)=Sum.inl b)=(a==b):=by
 by_cases e:a=b
 ·subst e;simp
 ·have h:¬(Sum.inl a:Key)=Sum.inl b:=λq=>e (Sum.inl.inj q)
  rw [Yay h]
  exact(Ybv.mpr e).symm
theorem Wf(a b:Str):decide ((Sum.inr a:Key)=Sum.inr b)=decide (a=b):=by
 by_cases e:a=b
 ·subst e;simp
 ·have h:¬(Sum.inr a:Key)=Sum.inr b:=λq=>e (Sum.inr.inj q)
  rw [Yay h,Yay e]
theorem Wg(a:Int)(b:Str):decide ((Sum.inl a:Key)=Sum.inr b)=false:=Yay (λq=>nomatch q)
theorem Wh(a:Str)(b:Int):decide ((Sum.inr a:Key)=Sum.inl b)=false:=Yay (λq=>nomatch q)
def B5(prog:Program)(w:World):PySem.KeyKind prog w Key where
 is:=Iq
 hash:=Wd w
 inj:=λv a b ha hb=>by
  rcases keyIs_shape ha with⟨i,t,rfl,rfl⟩ | ⟨x,t,rfl,rfl⟩
  ·rcases keyIs_shape hb with⟨j,u,rfl,e⟩ | ⟨y,u,rfl,e⟩
   ·injection e with e1 _;rw [e1]
   ·exact nomatch e
  ·rcases keyIs_shape hb with⟨j,u,rfl,e⟩ | ⟨y,u,rfl,e⟩
   ·exact nomatch e
   ·injection e with e1 _;rw [e1]
 byValue:=λk v h=>by
  rcases keyIs_shape h with⟨i,t,rfl,rfl⟩ | ⟨x,t,rfl,rfl⟩ <;> rfl
 pyHash:=λhv h=>by
  rcases keyIs_shape hv with⟨i,t,rfl,rfl⟩ | ⟨x,t,rfl,rfl⟩
  ·exact wpAny_pyHash_int h
  ·exact wpAny_pyHash_str h
 eqBool:=λhu hv h=>by
  rcases keyIs_shape hu with⟨i,t,rfl,rfl⟩ | ⟨x,t,rfl,rfl⟩
  ·rcases keyIs_shape hv with⟨j,u,rfl,rfl⟩ | ⟨y,u,rfl,rfl⟩
   ·rw [We]at h;exact wpAny_eqBool_int h
   ·rw [Wg]at h;exact SeqAt.EqAt.int_str i t y u _ _ _ _ h
  ·rcases keyIs_shape hv with⟨j,u,rfl,rfl⟩ | ⟨y,u,rfl,rfl⟩
   ·rw [Wh]at h;exact SeqAt.EqAt.str_int x t j u _ _ _ _ h
   ·rw [Wf]at h;exact wpAny_eqBool_str h
 «strs»:=λk x t v h=>by
  rcases keyIs_shape h with⟨i,u,rfl,e⟩ | ⟨y,u,rfl,e⟩
  ·exact nomatch e
  ·injection e with e1 _
   subst e1
   cases v <;> rfl
theorem Kw(prog:Program)(w:World)(i:Int)(t:Tok):(B5 prog w).is (.inl i) (.int i t)=true:=Ol i t
theorem Kx(prog:Program)(w:World)(x:Str)(t:Tok):(B5 prog w).is (.inr x) (.str x t)=true:=Om x t
end L2
namespace L2
open PySem PySem.Spec PyProof.Rows
inductive V where
 | non | bl (b:Bool) | int (i:Int) | str (x:Str) | byt (b:Array UInt8) | flt (b:UInt64) | ref (a:Addr) | ty (n:String)
 deriving DecidableEq
def Bi:V->Value->Prop
 | .non,u=>u=Value.none
 | .bl b,u=>u=Value.bool b
 | .int i,u=>∃t,u=Value.int i t
 | .str x,u=>∃t,u=Value.str x t
 | .byt b,u=>∃t,u=Value.bytes b t
 | .flt b,u=>∃t,u=Value.float b t
 | .ref a,u=>u=Value.ref a
 | .ty n,u=>u=Value.type n
abbrev Vals:List V->List Value->Prop:=Paired Bi
theorem Vals.length{xs:List V}{us:List Value}(r:Vals xs us):xs.length=us.length:=Yck r
theorem Vals.get:∀{xs:List V} {us:List Value} {i:Nat} {x:V},Vals xs us->xs[i]?=some x->∃u,us[i]?=some u/\Bi x u
 | _,_,_,_,.nil,e=>by simp at e
 | _,_,0,_,.cons r _,e=>by simp at e;subst e;exact⟨_,rfl,r⟩
 | _,_,i+1,x,.cons _ t,e=>by
  obtain⟨u,h1,h2⟩:=Vals.get (i:=i) (x:=x) t (by simpa using e)
  exact⟨u,by simpa using h1,h2⟩
theorem Vals.append:∀{xs ys:List V} {us ws:List Value},Vals xs us->Vals ys ws->Vals (xs++ys) (us++ws)
 | _,_,_,_,.nil,s=>s
 | _,_,_,_,.cons r t,s=>.cons r (Vals.append t s)
theorem Vals.take:∀{xs:List V} {us:List Value} (n:Nat),Vals xs us->Vals (xs.take n) (us.take n)
 | _,_,0,_=>.nil
 | _,_,_+1,.nil=>.nil
 | _,_,n+1,.cons r t=>.cons r (Vals.take n t)
theorem Vals.drop:∀{xs:List V} {us:List Value} (n:Nat),Vals xs us->Vals (xs.drop n) (us.drop n)
 | _,_,0,r=>r
 | _,_,_+1,.nil=>.nil
 | _,_,n+1,.cons _ t=>Vals.drop n t
def Eb:Option V->Option Value->Prop
 | some v,some u=>Bi v u
 | none,none=>True
 | _,_=>False
def KV{κ:Type}:List (κ×V)->List (κ×Value)->Prop:=Paired λ(p:κ×V) (q:κ×Value)=>p.1=q.1/\Bi p.2 q.2
def kV:Key->V
 | .inl i=>.int i
 | .inr x=>.str x
mutual
def Vf(w:World):PyData->Int
 | .int i=>Wd w (.inl i)
 | .str x=>Wd w (.inr x)
 | .tuple ds=>reduceHash (Builtin.Tuple.tupleHashOf (Pt w ds))
 | _=>0
def Pt(w:World):List PyData->List Int
 | []=>[]
 | d :: ds=>Vf w d :: Pt w ds
end
def Qdj(w:World)(x:PyData×Addr×Value):DictEntry:=⟨Vf w x.1,.ref x.2.1,x.2.2⟩
def Qdk(w:World)(h:Heap)(a:Addr)(xs:List (PyData×Addr×Value)):Prop :=
 ∃o es ep,h.get? a=some o/\o.ExactDict/\o.data=.dict es ep/\es.toList=xs.map (Qdj w)/\(xs.map (·.1)).Nodup/\(a==sysModules)=false/\xs.length<=sizeLine
inductive HO where
 | lst (xs:List V)
 | tup (xs:List V)
 | dK (ag:List (Key×V)) | dT (ag:List (List Key×V))
 | set (S:Int->Bool) (n:Nat)
 | ins (C dx:Addr) (fs:List (Str×V))
 | own (x:Addr)
 | xd (fs:List (Str×V))
 | met (f x:Addr)
 | rng (lo hi:Int)
 | frz (o:Obj) (u:HO)
 | tbl (ps:Array Value)
 | ext (φ:Heap->Prop)
 | dd (xs:List (PyData×Addr×Value))
abbrev Hp:=Addr->Option HO
def upd(H:Hp)(a:Addr)(o:HO):Hp:=λb=>if b=a then some o else H b
theorem Be{H:Hp}{a:Addr}{o:HO}:upd H a o a=some o:=by unfold upd;rw [Yaq rfl]
theorem Aw{H:Hp}{a b:Addr}{o:HO}(h:b≠a):upd H a o b=H b:=by unfold upd;rw [Yan h]
theorem Ky{H:Hp}{a b:Addr}{o u:HO}(h:H a=some o)(h':H b=some u)(d:o≠u):a≠b:=by
 intro e;subst e;rw [h]at h';exact d (Ya1 h')
theorem B1{H:Hp}{a b:Addr}{o:HO}(h:H a=some o)(h':H b=none):a≠b:=by
 intro e;subst e;rw [h]at h';cases h'
section
variable(P:Program)(w:World)
def Vg(h:Heap)(a:Addr):Prop:=∃o,h.get? a=some o/\o.dict=none
theorem Vg.new(h:Heap){o:Obj}(e:o.dict=none)(f:o.isFreed=false:=by rfl):Vg (h.push o) h.objs.size:=⟨o,Heap.get?_push_size _ f,e⟩
def Wk(xs:List V):Prop:=(∃i y,xs=[.int i,y])\/∃z y,xs=[.str z,y]
def Bj(H:Hp)(h:Heap)(a:Addr):HO->Prop
 | .lst xs=>xs.length<=sizeLine/\∃(af:List Value) (n:Nat),Vals xs af/\h.get? a=some { cls:=.type "list",data:=.seq af.toArray n }
 | .tup xs=>(xs.length<=sizeLine/\(Vg h a\/Wk xs))/\∃af:List Value,Vals xs af/\IsTup h a af.toArray
 | .dK ag=>ag.length<=sizeLine/\(a==sysModules)=false/\∃vs,KV ag vs/\h.DictOf (B5 P w) a vs
 | .dT ag=>ag.length<=sizeLine/\(a==sysModules)=false/\∃xs:List (List Key×Addr×Value),
   Paired (λ(p:List Key×V) (q:List Key×Addr×Value)=>p.1=q.1/\H q.2.1=some (.tup (p.1.map kV))/\Bi p.2 q.2.2) ag xs /\
   ∃o es ep,h.get? a=some o/\o.ExactDict/\o.data=.dict es ep/\es.toList=xs.map (entryOfKey (tupleKind (B5 P w)))/\(xs.map (·.1)).Nodup
 | .set S n=>h.SetOf (intKind P w) a S n
 | .ins C dx fs=>H dx=some (.own a)/\fs.length<=1000/\dx≠a/\h.get? a=some (PySem.W.instObj C dx) /\
   ∃mA,h.Ns1 dx mA/\(∀f,Eb (fs.lookup f) (mA f))/\PySem.Within mA (fs.map (·.1))
 | .own _=>∃o,h.get? a=some o
 | .xd fs=>∃mA,h.Ns1 a mA/\∀f,Eb (fs.lookup f) (mA f)
 | .rng lo hi=>∃t u v,h.get? a=some { cls:=.type "range",data:=.fields #[.int lo t,.int hi u,.int 1 v] }
 | .frz o u=>h.get? a=some o/\Bj H h a u
 | .tbl ps=>h.get? a=some { cls:=.none,data:=.fields ps }
 | .met f x=>h.get? a=some (PySem.W.methodObj (.ref f) (.ref x))
 | .ext φ=>φ h/\(∃o,h.get? a=some o)/\∀h1 h2:Heap,φ h1->(∀o,h1.get? a=some o->h2.get? a=some o)->φ h2
 | .dd xs=>Qdk w h a xs
def HOk(H:Hp)(h:Heap):Prop:=∀a o,H a=some o->Bj P w H h a o
end
section
variable {P:Program}{w:World}{H H':Hp}{h h':Heap}{a:Addr}{o:HO}
theorem Bj.lt(x:Bj P w H h a o):a < h.objs.size:=by
 cases o with
 | lst xs=>obtain⟨_,_,_,_,e⟩:=x;exact Yag e
 | tup xs=>obtain⟨_,_,_,p⟩:=x;exact p.lt
 | dK ag=>obtain⟨_,_,_,_,o,_,_,e,_⟩:=x;exact Yag e
 | dT ag=>obtain⟨_,_,_,_,o,_,_,e,_⟩:=x;exact Yag e
 | set S n=>obtain⟨o,_,_,_,e,_⟩:=x;exact Yag e
 | ins C dx fs=>obtain⟨_,_,_,e,_⟩:=x;exact Yag e
 | own y=>obtain⟨_,e⟩:=x;exact Yag e
 | xd fs=>obtain⟨_,⟨_,_,_,e,_⟩,_⟩:=x;exact Yag e
 | rng lo hi=>obtain⟨_,_,_,e⟩:=x;exact Yag e
 | frz ob u=>obtain⟨e,_⟩:=x;exact Yag e
 | tbl ps=>exact Yag (show h.get? a=some _ from x)
 | met f y=>exact Yag (show h.get? a=some _ from x)
 | ext φ=>obtain⟨_,⟨_,e⟩,_⟩:=x;exact Yag e
 | dd xs=>obtain⟨_,_,_,e,_⟩:=x;exact Yag e
theorem Paired.mapP{α β:Type}{F G:α->β->Prop}:∀{l₁:List α} {l₂:List β},Paired F l₁ l₂->(∀a b,F a b->G a b)->Paired G l₁ l₂
 | _,_,.nil,_=>.nil
 | _,_,.cons r t,f=>.cons (f _ _ r) (Paired.mapP t f)
theorem Bj.stay(x:Bj P w H h a o)(k:∀b u,(b=a\/H b=some (.own a))->h.get? b=some u->h'.get? b=some u)
  (ho:∀b,H b=some (.own a)->H' b=some (.own a)) (ht:∀b xs,H b=some (.tup xs)->H' b=some (.tup xs)):Bj P w H' h' a o:=by
 induction o with
 | lst xs=>obtain⟨z,af,n,r,e⟩:=x;exact⟨z,af,n,r,k _ _ (.inl rfl) e⟩
 | tup xs=>obtain⟨⟨z,zd⟩,af,r,ob,e,c⟩:=x;exact⟨⟨z,zd.imp_left λ⟨od,ed,cd⟩=>⟨od,k _ _ (.inl rfl) ed,cd⟩⟩,af,r,ob,k _ _ (.inl rfl) e,c⟩
 | dK ag=>obtain⟨z,y,vs,r,ob,es,ep,e,c⟩:=x;exact⟨z,y,vs,r,ob,es,ep,k _ _ (.inl rfl) e,c⟩
 | dT ag =>
  obtain⟨z,y,xs,r,ob,es,ep,e,c⟩:=x
  exact⟨z,y,xs,Paired.mapP r λp q z=>⟨z.1,ht _ _ z.2.1,z.2.2⟩,ob,es,ep,k _ _ (.inl rfl) e,c⟩
 | set S n=>obtain⟨ob,es,ep,t,e,c⟩:=x;exact⟨ob,es,ep,t,k _ _ (.inl rfl) e,c⟩
 | ins C dx fs =>
  obtain⟨d,z,ne,e,mA,⟨od,es,ep,e2,c⟩,r⟩:=x
  exact⟨ho _ d,z,ne,k _ _ (.inl rfl) e,mA,⟨od,es,ep,k _ _ (.inr d) e2,c⟩,r⟩
 | own y=>obtain⟨ob,e⟩:=x;exact⟨ob,k _ _ (.inl rfl) e⟩
 | xd fs=>obtain⟨mA,⟨od,es,ep,e,c⟩,r⟩:=x;exact⟨mA,⟨od,es,ep,k _ _ (.inl rfl) e,c⟩,r⟩
 | rng lo hi=>obtain⟨t,u,v,e⟩:=x;exact⟨t,u,v,k _ _ (.inl rfl) e⟩
 | frz ob u ih=>obtain⟨e,q⟩:=x;exact⟨k _ _ (.inl rfl) e,ih q⟩
 | tbl ps =>
  have e:h.get? a=some { cls:=.none,data:=.fields ps }:=x
  show h'.get? a=some { cls:=.none,data:=.fields ps }
  exact k a _ (.inl rfl) e
 | met f y =>
  have e:h.get? a=some (PySem.W.methodObj (.ref f) (.ref y)):=x
  show h'.get? a=some (PySem.W.methodObj (.ref f) (.ref y))
  exact k a _ (.inl rfl) e
 | ext φ=>obtain⟨p,⟨o,e⟩,st⟩:=x;exact⟨st _ _ p λo q=>k _ _ (.inl rfl) q,⟨o,k _ _ (.inl rfl) e⟩,st⟩
 | dd xs=>obtain⟨o,es,ep,e,c⟩:=x;exact⟨o,es,ep,k _ _ (.inl rfl) e,c⟩
theorem HOk.lt(x:HOk P w H h)(e:H a=some o):a < h.objs.size:=(x a o e).lt
theorem HOk.fresh(x:HOk P w H h)(e:h.objs.size<=a):H a=none:=by
 cases q:H a with
 | none=>rfl
 | some u=>exact absurd (Yal (x.lt q) e) (Yby _)
theorem HOk.kept(x:HOk P w H h)(k:∀b u,h.get? b=some u->h'.get? b=some u):HOk P w H h':=λa o e =>
 (x a o e).stay (λb u _ q=>k b u q) (λ_ q=>q) λ_ _ q=>q
theorem HOk.laid(x:HOk P w H h)(k:∀b u,h.get? b=some u->h'.get? b=some u)(hp:h.objs.size<=a)(new:Bj P w (upd H a o) h' a o):HOk P w (upd H a o) h':=λb u e=>by
 have hn:=x.fresh hp
 by_cases hb:b=a
 ·subst hb;rw [Be]at e;cases e;exact new
 ·rw [Aw hb]at e
  exact(x b u e).stay (λc v _ q=>k c v q) (λc q=>by rw [Aw (B1 q hn)];exact q) λc xs q=>by rw [Aw (B1 q hn)];exact q
end
def Rd(H:Hp)(a:Addr)(u:HO):Prop:=H a=some u\/∃o,H a=some (.frz o u)
theorem Rd.ok{P:Program}{w:World}{H:Hp}{h:Heap}{a:Addr}{u:HO}(r:Rd H a u)(x:HOk P w H h):Bj P w H h a u:=by
 rcases r with r | ⟨o,r⟩
 ·exact x a u r
 ·obtain⟨_,q⟩:=x a _ r
  exact q
def Mut:Option HO->Prop
 | some (.lst _)=>True
 | some (.dK _)=>True
 | some (.dT _)=>True
 | some (.set _ _)=>True
 | some (.ins _ _ _)=>True
 | some (.ext _)=>True
 | some (.dd _)=>True
 | _=>False
section
variable {P:Program}{w:World}{H:Hp}{h h':Heap}{x e:Addr}{o':HO}
theorem HOk.write(ok:HOk P w H h)(mu:Mut (H x))(he:e=x\/H e=some (.own x))(k:∀b u,b≠e->h.get? b=some u->h'.get? b=some u)(ju:∃u,h'.get? e=some u)
  (new:Bj P w (upd H x o') h' x o'):HOk P w (upd H x o') h':=λb u q=>by
 have lr:∀c y,H c=some (.own y)->c≠x:=λc y r z=>by subst z;rw [r]at mu;exact mu
 have uj:∀c xs,H c=some (.tup xs)->c≠x:=λc xs r z=>by subst z;rw [r]at mu;exact mu
 by_cases hb:b=x
 ·subst hb;rw [Be]at q;cases q;exact new
 ·rw [Aw hb]at q
  by_cases dm:b=e
  ·have q':H b=some (.own x):=by
    rcases he with z | z
    ·exact absurd (dm.trans z) hb
    ·rw [dm];exact z
   rw [q]at q';cases q'
   obtain⟨v,hv⟩:=ju
   exact⟨v,by rw [dm];exact hv⟩
  ·refine(ok b u q).stay (λc v hc r=>k c v ?_ r) (λc r=>by rw [Aw (lr c b r)];exact r) λc xs r=>by rw [Aw (uj c xs r)];exact r
   rcases hc with rfl | hc
   ·exact dm
   ·rintro rfl
    rcases he with z | z
    ·exact lr c b hc z
    ·rw [hc]at z;cases z;exact hb rfl
end
structure Un(fs ex:List Addr)(H H':Hp)(h h':Heap):Prop where
 keep:∀b o,h.get? b=some o->H b=none->b∉fs->b∉ex->h'.get? b=some o
 slot:∀b o,h.get? b=some o->H b=none->b∈fs->b∉ex->∃sl,h'.get? b=some { o with slots:=sl }
 free:∀b o,h.get? b=some o->H b=none->b∉ex->H' b=none
 there:∀b o,h.get? b=some o->b∉ex->∃o',h'.get? b=some o'
 tups:∀b xs,H b=some (.tup xs)->H' b=some (.tup xs)
 frzs:∀b o u,H b=some (.frz o u)->H' b=some (.frz o u)
 tbls:∀b ps,H b=some (.tbl ps)->∃more,H' b=some (.tbl (ps++more))
section
variable {fs fs' ex ex':List Addr}{H H1 H2:Hp}{h h1 h2 h':Heap}{a x e:Addr}{o:HO}
theorem Un.any(u:Un fs ex H H1 h h1){b:Addr}{ob:Obj}(q:h.get? b=some ob)(n:H b=none)(hx:b∉ex):∃sl,h1.get? b=some { ob with slots:=sl }:=by
 by_cases hb:b∈fs
 ·exact u.slot b ob q n hb hx
 ·exact⟨ob.slots,u.keep b ob q n hb hx⟩
theorem Un.kept(k:∀b u,h.get? b=some u->h'.get? b=some u):Un fs ex H H h h' :=
 ⟨λb ob q _ _ _=>k b ob q,λb ob q _ _ _=>⟨ob.slots,k b ob q⟩,λ_ _ _ n _=>n,λb ob q _=>⟨ob,k b ob q⟩,λ_ _ q=>q,λ_ _ _ q=>q,λ_ ps q=>⟨#[],by rw [q];simp⟩⟩
theorem Un.refl:Un fs ex H H h h:=Un.kept λ_ _ q=>q
theorem Un.laid(k:∀b u,h.get? b=some u->h'.get? b=some u)(hp:h.objs.size<=a)(hn:H a=none):Un fs ex H (upd H a o) h h' where
 keep:=λb u q _ _ _=>k b u q
 slot:=λb u q _ _ _=>⟨u.slots,k b u q⟩
 free:=λb u q n _=>by rw [Aw (Yap (Yal (Yag q) hp))];exact n
 there:=λb u q _=>⟨u,k b u q⟩
 tups:=λb xs q=>by rw [Aw (B1 q hn)];exact q
 frzs:=λb u xs q=>by rw [Aw (B1 q hn)];exact q
 tbls:=λb ps q=>⟨#[],by rw [Aw (B1 q hn),q];simp⟩
theorem Un.write(mu:Mut (H x))(he:e=x\/H e=some (.own x))(k:∀b u,b≠e->h.get? b=some u->h'.get? b=some u)(ju:∃u,h'.get? e=some u):Un fs ex H (upd H x o) h h':=by
 have hx:∀b,H b=none->b≠x:=λb n z=>by subst z;rw [n]at mu;exact mu
 have hb:∀b,H b=none->b≠e:=λb n z=>by
  subst z
  rcases he with r | r
  ·exact hx b n r
  ·rw [n]at r;cases r
 have hm:∀b u,H b=some u->¬Mut (some u)->b≠x:=λb u q nm z=>by subst z;rw [q]at mu;exact nm mu
 refine⟨λb u q n _ _=>k b u (hb b n) q,λb u q n _ _=>⟨u.slots,k b u (hb b n) q⟩,λb u q n _=>by rw [Aw (hx b n)];exact n,λb u q _=>?_,
  λb xs q=>by rw [Aw (hm b _ q λz=>z)];exact q,λb u xs q=>by rw [Aw (hm b _ q λz=>z)];exact q,λb ps q=>⟨#[],by rw [Aw (hm b _ q λz=>z),q];simp⟩⟩
 by_cases dm:b=e
 ·subst dm;exact ju
 ·exact⟨u,k b u dm q⟩
end
def trk(h:Heap)(H:Hp):List Addr:=(List.range h.objs.size).filter λa=>(H a).isSome
def Jq(h:Heap)(H:Hp):Heap:=PySem.W.hideAll h (trk h H)
theorem On(h:Heap)(H:Hp):(Jq h H).objs.size=h.objs.size:=PySem.W.hideAll_size _ _
theorem Pu{h:Heap}{H:Hp}{b:Addr}{o:Obj}(e:h.get? b=some o)(n:H b=none):(Jq h H).get? b=some o :=
 PySem.W.hideAll_get _ e λhm=>by
  have q:(H b).isSome=true:=(List.mem_filter.mp hm).2
  rw [n]at q;simp at q
theorem Sx{h:Heap}{H:Hp}{b:Addr}{o:Obj}(e:(Jq h H).get? b=some o):h.get? b=some o/\H b=none:=by
 have e':h.get? b=some o:=PySem.W.of_hideAll (trk h H) e
 refine⟨e',?_⟩
 cases q:H b with
 | none=>rfl
 | some x =>
  have hm:b∈trk h H:=List.mem_filter.mpr ⟨Yb2.mpr (Yag e'),by simp [q]⟩
  have z:(Jq h H).get? b=none:=PySem.W.hideAll_none (trk h H) hm
  rw [z]at e;cases e
def Sy(g h:Heap)(L:Addr):List (Addr×Obj):=(List.range h.objs.size).filterMap λa=>if a=L\/(g.get? a).isSome=true then none else(h.get? a).map λo=>(a,o)
def rest(g h:Heap)(L d:Addr):List (Addr×Obj):=(Sy g h L).filter λp=>decide (p.1≠d)
structure Mod(K:PySem.W.Frag)(mg:Str->Option Value)(base:Heap):Prop where
 kin:K.In base
 glob:base.Ns mainGlobals mg
 blt:∃mb,base.Ns builtinsNs mb/\∀x:Str,x ≠ "__name__" -> mb x=bootBuiltins x
 nolimit:base.NoLimit
structure Cx where
 prog:Program
 w:World
 K:PySem.W.Frag
 mg:Str->Option Value
 base:Heap
 A:Around
 N:List Str
 s₀:Shared
 H₀:Hp
 env:Env
 outer:List Env
 stack:List Env
 ex:List Addr
 fn:Str->Bool
 calm:Bool
 pn:List (Addr×Obj)
 xe:Value->Shared->Prop
def frs(l:List Env):List Addr:=l.filterMap (·.frame)
abbrev Cx.fs(X:Cx):List Addr:=frs X.outer
def Vis(sc:Scope)(x:Str):Prop:=sc.names.lookup x=some .local\/sc.names.lookup x=some .cell\/sc.names.lookup x=some .free
def Loc(sc:Scope)(x:Str):Prop:=sc.names.lookup x=some .local\/sc.names.lookup x=some .cell
def Look(env:Env)(h:Heap)(m:Str->Option Value)(x:Str)(u:Value):Prop :=
 (env.kindOf x=some .local/\m x=some u)\/((env.kindOf x=some .cell\/env.kindOf x=some .free)/\∃c,env.cells.lookup x=some c/\h.IsCell c (some u))
structure Cx.Ok(X:Cx):Prop where
 mod:Mod X.K X.mg X.base
 kind:X.env.scope.kind=.function
 glob:X.env.globals=mainGlobals
 blt:X.env.builtins=builtinsNs
 above:X.s₀.heap.objs.size<=X.env.locals
 inj:∀x y c,X.env.cells.lookup x=some c->X.env.cells.lookup y=some c->x=y
 has:∀x,(X.env.kindOf x=some .cell\/X.env.kindOf x=some .free)->∃c,X.env.cells.lookup x=some c
 cab:∀x c,X.fn x=true->X.env.cells.lookup x=some c->X.s₀.heap.objs.size<=c
 hd:X.calm=true->X.A.handled=none
 frames:X.A.frames=some X.stack
 stk:X.stack=X.outer\/(X.stack=X.env :: X.outer/\X.env.frame=some X.env.locals)
 exf:∀b∈X.ex,b≠X.env.locals/\∀x c,X.env.cells.lookup x=some c->c≠b
 bs:∀b o,X.base.get? b=some o->X.s₀.heap.get? b=some o/\X.H₀ b=none
 bsz:X.base.objs.size<=X.s₀.heap.objs.size
 noex:∀b o,X.base.get? b=some o->b∉X.ex
 exfs:∀b∈X.ex,b∉X.fs
 funs:X.s₀.heap.FunFrames X.base X.outer
 frf:∀b∈X.fs,X.H₀ b=none
structure Inv(X:Cx)(aa:List (Addr×Obj))(σ:List (Option V))(H:Hp)(s:Shared):Prop where
 ok:X.Ok
 os:s.os=X.s₀.os
 bare:AllBare s.gens
 base:Un X.fs X.ex X.H₀ H X.s₀.heap s.heap
 loc:∃m,s.heap.Ns X.env.locals m/\∀(i:Nat) (x:Str) (v:V),X.N[i]?=some x->σ[i]?=some (some v)->Vis X.env.scope x->∃u,Bi v u/\Look X.env s.heap m x u
 cell:∀x c,X.env.cells.lookup x=some c->∃v,s.heap.IsCell c v
 free:H X.env.locals=none
 freeC:∀x c,X.env.cells.lookup x=some c->H c=none
 pin:∀p∈X.pn++aa,s.heap.get? p.1=some p.2/\H p.1=none/\p.1≠X.env.locals/\p.1∉X.fs/\∀v,p.2.data≠.cell v
 hok:HOk X.prog X.w H s.heap
 len:σ.length=X.N.length
section
variable {X:Cx}{aa:List (Addr×Obj)}{σ:List (Option V)}{H H':Hp}{s:Shared}{h':Heap}
theorem Cx.Ok.nofr(ok:X.Ok){b:Addr}{o:Obj}(e:X.base.get? b=some o):b∉X.fs:=λhb=>by
 have:=(ok.funs.mem hb).1
 rw [e]at this;cases this
theorem Inv.bs(I:Inv X aa σ H s):∀b o,X.base.get? b=some o->s.heap.get? b=some o/\H b=none:=λb o e =>
 ⟨I.base.keep b o (I.ok.bs b o e).1 (I.ok.bs b o e).2 (I.ok.nofr e) (I.ok.noex b o e),I.base.free b o (I.ok.bs b o e).1 (I.ok.bs b o e).2 (I.ok.noex b o e)⟩
theorem Inv.bk(I:Inv X aa σ H s):∀b o,X.base.get? b=some o->s.heap.get? b=some o:=λb o e=>(I.bs b o e).1
theorem Inv.mod(I:Inv X aa σ H s):Mod X.K X.mg X.base:=I.ok.mod
theorem Inv.kIn(I:Inv X aa σ H s):X.K.In s.heap:=I.ok.mod.kin.keeps I.bk
theorem Inv.lt(I:Inv X aa σ H s):X.env.locals < s.heap.objs.size:=let⟨_,hn,_⟩:=I.loc;hn.lt
theorem Inv.sz(I:Inv X aa σ H s):X.s₀.heap.objs.size<=s.heap.objs.size:=Yai I.ok.above (Nat.le_of_lt I.lt)
theorem Inv.nofs(I:Inv X aa σ H s){a:Addr}(h:s.heap.objs.size<=a):a∉X.fs:=λhb=>by
 obtain⟨_,o,ho,_⟩:=I.ok.funs.mem hb
 exact absurd (Yal (Yag ho) (Yai I.sz h)) (Yby _)
theorem Inv.cne(I:Inv X aa σ H s):∀x c,X.env.cells.lookup x=some c->c≠X.env.locals:=λx c e z=>by
 obtain⟨v,o,ho,hd⟩:=I.cell x c e
 obtain⟨m,⟨o',es,ep,bx,hd',_⟩,_⟩:=I.loc
 rw [z,bx]at ho;cases ho;rw [hd']at hd;cases hd
theorem Inv.funs(I:Inv X aa σ H s):s.heap.FunFrames X.base X.outer:=by
 have all:∀(l:List Env),(∀b∈frs l,b∈X.fs)->X.s₀.heap.FunFrames X.base l->s.heap.FunFrames X.base l:=by
  intro l
  induction l with
  | nil=>intro _ _;trivial
  | cons env r ih =>
   intro hs hl
   obtain⟨hk,⟨L,o,hf,hn,ho,hd⟩,hr⟩:=hl
   have hL:L∈X.fs:=hs L (by unfold frs;rw [List.filterMap_cons,hf];exact Yau)
   obtain⟨sl,e⟩:=I.base.slot L o ho (I.ok.frf L hL) hL λz=>I.ok.exfs L z hL
   exact⟨hk,⟨L,_,hf,hn,e,hd⟩,ih (λb hb=>hs b (by unfold frs;rw [List.filterMap_cons,hf];exact Yao _ hb)) hr⟩
 exact all X.outer (λ_ hb=>hb) I.ok.funs
theorem Inv.stack(I:Inv X aa σ H s):s.heap.FunFrames X.base X.stack:=by
 rcases I.ok.stk with e | ⟨e,hf⟩
 ·rw [e];exact I.funs
 ·rw [e]
  obtain⟨m,hn,_⟩:=I.loc
  refine .cons (by rw [I.ok.kind];decide) hf hn ?_ I.funs
  exact Heap.get?_none_of_le (Yai I.ok.bsz I.ok.above)
theorem Inv.stkSub(I:Inv X aa σ H s):∀b∈frs X.stack,b∈X.env.locals :: X.fs:=λb hb=>by
 rcases I.ok.stk with e | ⟨e,hf⟩
 ·rw [e]at hb;exact Yao _ hb
 ·rw [e]at hb
  unfold frs at hb
  rw [List.filterMap_cons,hf]at hb
  exact hb
theorem Inv.stkFree(I:Inv X aa σ H s):∀b∈frs X.stack,H b=none:=λb hb=>by
 rcases Ya8.mp (I.stkSub b hb) with e | hb
 ·rw [e];exact I.free
 ·obtain⟨_,o,ho,_⟩:=I.ok.funs.mem hb
  exact I.base.free b o ho (I.ok.frf b hb) λz=>I.ok.exfs b z hb
theorem Inv.step{g':Array GenState}{t':Nat}{d':Drawn}{ch:List Addr}(I:Inv X aa σ H s)
  (dy:∀b∈ch,(b∈X.ex\/X.s₀.heap.objs.size<=b)/\b≠X.env.locals/\(∀x c,X.env.cells.lookup x=some c->c≠b)/\∀p∈X.pn++aa,p.1≠b)
  (keep:∀b o,b≠X.env.locals->b∉X.fs->b∉ch->s.heap.get? b=some o->H b=none->h'.get? b=some o)
  (slot:∀b o,b≠X.env.locals->b∈X.fs->b∉ch->s.heap.get? b=some o->H b=none->∃sl,h'.get? b=some { o with slots:=sl }) (free:∀b o,b∉ch->s.heap.get? b=some o->H b=none->H' b=none)
  (there:∀b o,b∉ch->s.heap.get? b=some o->∃o',h'.get? b=some o')
  (tups:∀b xs,H b=some (.tup xs)->H' b=some (.tup xs)) (frzs:∀b o u,H b=some (.frz o u)->H' b=some (.frz o u)) (tbls:∀b ps,H b=some (.tbl ps)->∃more,H' b=some (.tbl (ps++more)))
  (ns:∀m,s.heap.Ns X.env.locals m->h'.Ns X.env.locals m) (hok:HOk X.prog X.w H' h') (hg:AllBare g') :
  Inv X aa σ H' { s with heap:=h',gens:=g',drawn:=d',toks:=t' }:=by
 have neL:∀b o,X.s₀.heap.get? b=some o->b≠X.env.locals:=λb o e=>Yap (Yal (Yag e) I.ok.above)
 have qe:∀b o,X.s₀.heap.get? b=some o->b∉X.ex->b∉ch:=λb o e hx hb=>by
  rcases(dy b hb).1 with z | z
  ·exact hx z
  ·exact absurd (Yal (Yag e) z) (Yby _)
 have iz:∀x c,X.env.cells.lookup x=some c->∀v,s.heap.IsCell c v->h'.IsCell c v:=λx c e v ⟨o,ho,hd⟩=>by
  have j1:c∉ch:=λz=>(dy c z).2.2.1 x c e rfl
  by_cases hc:c∈X.fs
  ·obtain⟨sl,q⟩:=slot c o (I.cne x c e) hc j1 ho (I.freeC x c e)
   exact⟨_,q,hd⟩
  ·exact⟨o,keep c o (I.cne x c e) hc j1 ho (I.freeC x c e),hd⟩
 refine⟨I.ok,I.os,hg,⟨λb o e n hb hx=>?_,λb o e n hb hx=>?_,λb o e n hx=>?_,λb o e hx=>?_,λb xs e=>tups b xs (I.base.tups b xs e),λb o xs e=>frzs b o xs (I.base.frzs b o xs e),λb ps e=>?_⟩,?_,λx c e=>?_,?_,λx c e=>?_,λp hp=>?_,hok,I.len⟩
 ·exact keep b o (neL b o e) hb (qe b o e hx) (I.base.keep b o e n hb hx) (I.base.free b o e n hx)
 ·obtain⟨sl,e1⟩:=I.base.slot b o e n hb hx
  obtain⟨sl',e2⟩:=slot b _ (neL b o e) hb (qe b o e hx) e1 (I.base.free b o e n hx)
  exact⟨sl',e2⟩
 ·obtain⟨o',e1⟩:=I.base.there b o e hx
  exact free b o' (qe b o e hx) e1 (I.base.free b o e n hx)
 ·obtain⟨o',e1⟩:=I.base.there b o e hx
  exact there b o' (qe b o e hx) e1
 ·obtain⟨m1,e1⟩:=I.base.tbls b ps e
  obtain⟨m2,e2⟩:=tbls b _ e1
  exact⟨m1++m2,by rw [e2,Array.append_assoc]⟩
 ·obtain⟨m,hn,hl⟩:=I.loc
  refine⟨m,ns m hn,λi x v e1 e2 e3=>?_⟩
  obtain⟨u,r,l⟩:=hl i x v e1 e2 e3
  refine⟨u,r,?_⟩
  rcases l with l | ⟨k,c,e,z⟩
  ·exact .inl l
  ·exact .inr ⟨k,c,e,iz x c e _ z⟩
 ·obtain⟨v,z⟩:=I.cell x c e
  exact⟨v,iz x c e v z⟩
 ·obtain⟨m,⟨o,_,_,ho,_⟩,_⟩:=I.loc
  exact free _ o (λz=>(dy _ z).2.1 rfl) ho I.free
 ·obtain⟨v,o,ho,hd⟩:=I.cell x c e
  exact free c o (λz=>(dy c z).2.2.1 x c e rfl) ho (I.freeC x c e)
 ·obtain⟨e,n,ne,nf,d⟩:=I.pin p hp
  have j1:p.1∉ch:=λz=>(dy p.1 z).2.2.2 p hp rfl
  exact⟨keep p.1 p.2 ne nf j1 e n,free p.1 p.2 j1 e n,ne,nf,d⟩
theorem Inv.un{t':Nat}(I:Inv X aa σ H s)(u:Un X.fs [] H H' s.heap h')(hok:HOk X.prog X.w H' h'):Inv X aa σ H' { s with heap:=h',toks:=t' }:=by
 obtain⟨m,⟨o,es,ep,ho,r⟩,_⟩:=id I.loc
 obtain⟨sl,hL⟩:=u.any ho I.free (by simp)
 exact I.step (g':=s.gens) (d':=s.drawn) (ch:=[]) (λ_ z=>nomatch z) (λb o _ hb _ e n=>u.keep b o e n hb (by simp)) (λb o _ hb _ e n=>u.slot b o e n hb (by simp)) (λb o _ e n=>u.free b o e n (by simp)) (λb o _ e=>u.there b o e (by simp)) u.tups u.frzs u.tbls (λm' hm=>by
  obtain⟨o',es',ep',bx,r'⟩:=hm
  rw [ho]at bx;cases bx
  exact⟨_,es',ep',hL,r'⟩) hok I.bare
theorem Inv.call{g':Array GenState}{t':Nat}{d':Drawn}{ch:List Addr}(I:Inv X aa σ H s)(u:Un (frs X.stack) ch H H' s.heap h')(hok:HOk X.prog X.w H' h')(hg:AllBare g')
  (dy:∀b∈ch,(b∈X.ex\/X.s₀.heap.objs.size<=b)/\b≠X.env.locals/\(∀x c,X.env.cells.lookup x=some c->c≠b)/\∀p∈X.pn++aa,p.1≠b) :
  Inv X aa σ H' { s with heap:=h',gens:=g',drawn:=d',toks:=t' }:=by
 obtain⟨m,⟨o,es,ep,ho,r⟩,_⟩:=id I.loc
 obtain⟨sl,hL⟩:=u.any ho I.free λz=>(dy _ z).2.1 rfl
 exact I.step (ch:=ch) dy (λb o hL hb hc e n=>u.keep b o e n (λz=>(Ya8.mp (I.stkSub b z)).elim hL hb) hc) (λb o _ _ hc e n=>u.any e n hc) (λb o hc e n=>u.free b o e n hc) (λb o hc e=>u.there b o e hc) u.tups u.frzs u.tbls (λm' hm=>by
  obtain⟨o',es',ep',bx,r'⟩:=hm
  rw [ho]at bx;cases bx
  exact⟨_,es',ep',hL,r'⟩) hok hg
theorem Inv.turned{t':Nat}{it:Addr}(I:Inv X aa σ H s)(k:∀b o,b≠it->s.heap.get? b=some o->h'.get? b=some o)(hn:H it=none)(hL:it≠X.env.locals)
  (h1:it∈X.ex\/X.s₀.heap.objs.size<=it) (h2:∀x c,X.env.cells.lookup x=some c->c≠it) (h3:∀p∈X.pn++aa,p.1≠it):Inv X aa σ H { s with heap:=h',toks:=t' }:=by
 have oy:∀b u,H b=some u->b≠it:=λb u e z=>by rw [z,hn]at e;cases e
 refine I.step (g':=s.gens) (d':=s.drawn) (ch:=[it]) (λb hb=>?_) (λb o _ _ hc e _=>k b o (λz=>hc (by simp [z])) e) (λb o _ _ hc e _=>⟨o.slots,k b o (λz=>hc (by simp [z])) e⟩) (λ_ _ _ _ n=>n)
  (λb o hc e=>⟨o,k b o (λz=>hc (by simp [z])) e⟩) (λ_ _ e=>e) (λ_ _ _ e=>e) (λb ps e=>⟨#[],by rw [e];simp⟩) (λm hm=>?_) (λb u e=>?_) I.bare
 ·have e:b=it:=by simpa using hb
  subst e
  exact⟨h1,hL,h2,h3⟩
 ·obtain⟨o,es,ep,ho,r⟩:=hm
  exact⟨o,es,ep,k _ o (Ycl hL) ho,r⟩
 ·refine(I.hok b u e).stay (λc v hc q=>k c v ?_ q) (λ_ q=>q) λ_ _ q=>q
  rcases hc with z | z
  ·rw [z];exact oy b u e
  ·exact oy c _ z
theorem Inv.tok(I:Inv X aa σ H s)(t:Nat):Inv X aa σ H { s with toks:=t }:=I.un (h':=s.heap) (t':=t) Un.refl I.hok
theorem Inv.kept{t':Nat}(I:Inv X aa σ H s)(k:∀b u,s.heap.get? b=some u->h'.get? b=some u):Inv X aa σ H { s with heap:=h',toks:=t' }:=I.un (Un.kept k) (I.hok.kept k)
theorem Inv.laid{a:Addr}{o:HO}{t':Nat}(I:Inv X aa σ H s)(k:∀b u,s.heap.get? b=some u->h'.get? b=some u)(hp:s.heap.objs.size<=a)(new:Bj X.prog X.w (upd H a o) h' a o) :
  Inv X aa σ (upd H a o) { s with heap:=h',toks:=t' }:=I.un (Un.laid k hp (I.hok.fresh hp)) (I.hok.laid k hp new)
theorem Inv.write{x e:Addr}{o:HO}{t':Nat}(I:Inv X aa σ H s)(mu:Mut (H x))(he:e=x\/H e=some (.own x))(k:∀b u,b≠e->s.heap.get? b=some u->h'.get? b=some u)(ju:∃u,h'.get? e=some u)
  (new:Bj X.prog X.w (upd H x o) h' x o):Inv X aa σ (upd H x o) { s with heap:=h',toks:=t' }:=I.un (Un.write mu he k ju) (I.hok.write mu he k ju new)
theorem Inv.pins_of{dj:List (Addr×Obj)}(I:Inv X aa σ H s)(h:∀p∈dj,s.heap.get? p.1=some p.2/\H p.1=none/\p.1≠X.env.locals/\p.1∉X.fs/\∀v,p.2.data≠.cell v):Inv X dj σ H s :=
 ⟨I.ok,I.os,I.bare,I.base,I.loc,I.cell,I.free,I.freeC,λp hp=>(Yaw.mp hp).elim (λz=>I.pin p (Ydm _ z)) (h p),I.hok,I.len⟩
theorem G9{N:List Str}(hN:N.Nodup){i j:Nat}{x:Str}(a:N[i]?=some x)(b:N[j]?=some x):i=j:=by
 obtain⟨h1,e1⟩:=List.getElem?_eq_some_iff.mp a
 obtain⟨h2,e2⟩:=List.getElem?_eq_some_iff.mp b
 exact(List.getElem_inj hN).mp (e1.trans e2.symm)
theorem Ir{M:Model}{A:Around}{E:Value->Shared->Prop}{i:Nat}{x:Str}{v:V}{u:Value}{Q:Unit->Shared->Prop}(I:Inv X aa σ H s)(hN:X.N.Nodup)(hi:X.N[i]?=some x)(hx:Loc X.env.scope x)(r:Bi v u)
  (h:∀s',Inv X aa (σ.set i (some v)) H s'->(∃a,Heap.SameBut a s.heap s'.heap/\(a=X.env.locals\/X.env.cells.lookup x=some a))->Q () s') (hf:X.fn x=true\/X.env.scope.names.lookup x=some .local:=by first | exact .inl rfl | exact .inr rfl | assumption):wpAny M A (storeName X.env x u) Q E s:=by
 obtain⟨m,hn,hl⟩:=id I.loc
 have i3:(X.env.scope.kind==.class || (X.env.scope.kind==.module && X.env.locals != X.env.globals))=false:=by rw [I.ok.kind];rfl
 have hiσ:i < σ.length:=by rw [I.len];exact(List.getElem?_eq_some_iff.mp hi).1
 have cne:=I.cne
 have fb:∀{a:Addr} {h':Heap},(∃o,s.heap.get? a=some o/\H a=none)->Heap.SameBut a s.heap h'->HOk X.prog X.w H h':=λ{a h'} ha hs b ob e=>by
  obtain⟨_,_,hfree⟩:=ha
  refine(I.hok b ob e).stay (λc w' hc q=>(hs.2 c ?_).trans q) (λ_ q=>q) λ_ _ q=>q
  rintro rfl
  rcases hc with rfl | hc
  ·rw [hfree]at e;cases e
  ·rw [hfree]at hc;cases hc
 rcases hx with hk | hk
 ·refine wpAny_storeName_local hk hn (λh' gv hs=>?_) i3
  obtain⟨oL,_,_,hoL,_⟩:=id hn
  refine h _ ⟨I.ok,I.os,I.bare,⟨λb o e n hb hx=>?_,λb o e n hb hx=>?_,I.base.free,λb o e hx=>?_,I.base.tups,I.base.frzs,I.base.tbls⟩,⟨_,gv,λj y v' e1 e2 e3=>?_⟩,λy c e=>?_,I.free,I.freeC,λp hp=>?_,fb ⟨oL,hoL,I.free⟩ hs,by simpa using I.len⟩ ⟨_,hs,.inl rfl⟩
  ·exact(hs.2 b (Yap (Yal (Yag e) I.ok.above))).trans (I.base.keep b o e n hb hx)
  ·obtain⟨sl,e1⟩:=I.base.slot b o e n hb hx
   exact⟨sl,(hs.2 b (Yap (Yal (Yag e) I.ok.above))).trans e1⟩
  ·obtain⟨o',e1⟩:=I.base.there b o e hx
   exact⟨o',(hs.2 b (Yap (Yal (Yag e) I.ok.above))).trans e1⟩
  ·by_cases hj:j=i
   ·subst hj
    rw [hi]at e1;cases e1
    rw [List.getElem?_set_self hiσ]at e2
    cases e2
    exact⟨u,r,.inl ⟨hk,by simp⟩⟩
   ·rw [List.getElem?_set_ne (Ycl hj)]at e2
    obtain⟨u',r',q⟩:=hl j y v' e1 e2 e3
    refine⟨u',r',?_⟩
    rcases q with⟨k,e⟩ | ⟨k,c,e,z⟩
    ·refine .inl ⟨k,?_⟩
     have:y≠x:=λe=>hj (G9 hN e1 (e ▸ hi))
     simp [this,e]
    ·exact .inr ⟨k,c,e,z.sameBut hs (cne y c e)⟩
  ·obtain⟨w',z⟩:=I.cell y c e
   exact⟨w',z.sameBut hs (cne y c e)⟩
  ·obtain⟨e,n,ne,nf,d⟩:=I.pin p hp
   exact⟨(hs.2 p.1 ne).trans e,n,ne,nf,d⟩
 ·have u0:X.fn x=true:=by
   rcases hf with z | z
   ·exact z
   ·rw [z]at hk;cases hk
  obtain⟨c,hc⟩:=I.ok.has x (.inl hk)
  obtain⟨w',z⟩:=I.cell x c hc
  refine wpAny_storeName_cell I.ok.kind hk hc z (λh' cj hs=>?_)
  obtain⟨oc,hoc,hocd⟩:=id z
  refine h { s with heap:=h' } ⟨I.ok,I.os,I.bare,⟨λb o e n hb hx=>?_,λb o e n hb hx=>?_,I.base.free,λb o e hx=>?_,I.base.tups,I.base.frzs,I.base.tbls⟩,⟨m,hn.sameBut hs (Ycl (cne x c hc)),λj y v' e1 e2 e3=>?_⟩,λy c' e=>?_,I.free,I.freeC,λp hp=>?_,fb ⟨oc,hoc,I.freeC x c hc⟩ hs,by simpa using I.len⟩ ⟨c,hs,.inr hc⟩
  ·exact(hs.2 b (Yap (Yal (Yag e) (I.ok.cab x c u0 hc)))).trans (I.base.keep b o e n hb hx)
  ·obtain⟨sl,e1⟩:=I.base.slot b o e n hb hx
   exact⟨sl,(hs.2 b (Yap (Yal (Yag e) (I.ok.cab x c u0 hc)))).trans e1⟩
  ·obtain⟨o',e1⟩:=I.base.there b o e hx
   exact⟨o',(hs.2 b (Yap (Yal (Yag e) (I.ok.cab x c u0 hc)))).trans e1⟩
  ·by_cases hj:j=i
   ·subst hj
    rw [hi]at e1;cases e1
    rw [List.getElem?_set_self hiσ]at e2
    cases e2
    exact⟨u,r,.inr ⟨.inl hk,c,hc,cj⟩⟩
   ·rw [List.getElem?_set_ne (Ycl hj)]at e2
    obtain⟨u',r',q⟩:=hl j y v' e1 e2 e3
    refine⟨u',r',?_⟩
    rcases q with q | ⟨k,c',e,z'⟩
    ·exact .inl q
    ·refine .inr ⟨k,c',e,z'.sameBut hs ?_⟩
     rintro rfl
     exact hj (G9 hN e1 (I.ok.inj _ _ _ e hc ▸ hi))
  ·by_cases hcc:c'=c
   ·subst hcc;exact⟨_,cj⟩
   ·obtain⟨w2,z2⟩:=I.cell y c' e
    exact⟨w2,z2.sameBut hs hcc⟩
  ·obtain⟨e,n,ne,nf,d⟩:=I.pin p hp
   refine⟨(hs.2 p.1 ?_).trans e,n,ne,nf,d⟩
   intro q
   rw [q,hoc]at e
   have q':oc=p.2:=Ya1 e
   exact d w' (by rw [<- q'];exact hocd)
theorem C1{M:Model}{A:Around}{E:Value->Shared->Prop}{i:Nat}{x:Str}{v:V}{u:Value}{Q:Unit->Shared->Prop}(I:Inv X aa σ H s)(hN:X.N.Nodup)(hi:X.N[i]?=some x)(hx:Loc X.env.scope x)(r:Bi v u)
  (h:∀s',Inv X aa (σ.set i (some v)) H s'->Q () s') (hf:X.fn x=true\/X.env.scope.names.lookup x=some .local:=by first | exact .inl rfl | exact .inr rfl | assumption):wpAny M A (storeName X.env x u) Q E s :=
 Ir I hN hi hx r (λs' I' _=>h s' I') hf
theorem Inv.call'{s':Shared}{ch:List Addr}(I:Inv X aa σ H s)(ho:s'.os=s.os)(u:Un (frs X.stack) ch H H' s.heap s'.heap)(hok:HOk X.prog X.w H' s'.heap)(hg:AllBare s'.gens)
  (dy:∀b∈ch,(b∈X.ex\/X.s₀.heap.objs.size<=b)/\b≠X.env.locals/\(∀x c,X.env.cells.lookup x=some c->c≠b)/\∀p∈X.pn++aa,p.1≠b):Inv X aa σ H' s':=by
 obtain⟨h',g',d',t',o'⟩:=s'
 have e:o'=s.os:=ho
 subst e
 exact I.call (g':=g') (t':=t') (d':=d') u hok hg dy
end
abbrev XK:=Value->Option Addr->Hp->Prop
abbrev St:=List (Option V)
abbrev VK:=V->Hp->Prop
abbrev TE:=St->Hp->VK->Prop
abbrev TT:=St->Hp->(Bool->Hp->Prop)->Prop
abbrev TA:=St->Hp->(List V->Hp->Prop)->Prop
structure Ends where
 nx:St->Hp->Prop
 rt:VK
 bk:St->Hp->Prop:=λ_ _=>False
 ct:St->Hp->Prop:=λ_ _=>False
abbrev TS:=Ends->St->Hp->Prop
def EP(X:Cx)(aa:List (Addr×Obj))(σ:St)(Q:VK)(u:Value)(s':Shared):Prop:=∃v H',Inv X aa σ H' s'/\Bi v u/\Q v H'
def TP(X:Cx)(aa:List (Addr×Obj))(σ:St)(Q:Bool->Hp->Prop)(b:Bool)(s':Shared):Prop:=∃H',Inv X aa σ H' s'/\Q b H'
def AP(X:Cx)(aa:List (Addr×Obj))(σ:St)(Q:List V->Hp->Prop)(us:List Value)(s':Shared):Prop:=∃vs H',Inv X aa σ H' s'/\Vals vs us/\Q vs H'
def SP(X:Cx)(aa:List (Addr×Obj))(D:Ends)(f:Flow)(s':Shared):Prop :=
 match f with
 | .next=>∃ σ' H',Inv X aa σ' H' s'/\D.nx σ' H'
 | .brk=>∃ σ' H',Inv X aa σ' H' s'/\D.bk σ' H'
 | .cont=>∃ σ' H',Inv X aa σ' H' s'/\D.ct σ' H'
 | .ret u=>∃v σ' H',Inv X aa σ' H' s'/\Bi v u/\D.rt v H'
def PE(X:Cx)(e:Expr)(t:TE):Prop :=
 ∀(aa:List (Addr×Obj)) (s:Shared) (σ:St) (H:Hp) (Q:VK),Inv X aa σ H s->t σ H Q->wpAny (model X.prog X.w) X.A (eval e X.env) (EP X aa σ Q) X.xe s
def PT(X:Cx)(e:Expr)(t:TT):Prop :=
 ∀(aa:List (Addr×Obj)) (s:Shared) (σ:St) (H:Hp) (Q:Bool->Hp->Prop),Inv X aa σ H s->t σ H Q->wpAny (model X.prog X.w) X.A (isTrue e X.env (eval e X.env)) (TP X aa σ Q) X.xe s
def PW(X:Cx)(e:Expr)(t:TT):Prop :=
 ∀(cq:Sem Value) (aa:List (Addr×Obj)) (s:Shared) (σ:St) (H:Hp) (Q:Bool->Hp->Prop),Inv X aa σ H s->t σ H Q->wpAny (model X.prog X.w) X.A (isTrue e X.env cq) (TP X aa σ Q) X.xe s
theorem PW.pt{X:Cx}{e:Expr}{t:TT}(h:PW X e t):PT X e t:=h _
def PA(X:Cx)(es:List Expr)(t:TA):Prop :=
 ∀(pos:Pos) (aa:List (Addr×Obj)) (s:Shared) (σ:St) (H:Hp) (Q:List V->Hp->Prop),Inv X aa σ H s->t σ H Q->wpAny (model X.prog X.w) X.A (spliced (backTo pos (starEach es X.env))) (AP X aa σ Q) X.xe s
def PS(X:Cx)(st:Stmt)(t:TS):Prop :=
 ∀(aa:List (Addr×Obj)) (s:Shared) (σ:St) (H:Hp) (D:Ends),Inv X aa σ H s->t D σ H->wpAny (model X.prog X.w) X.A (exec st X.env) (SP X aa D) X.xe s
def PSs(X:Cx)(st:List Stmt)(t:TS):Prop :=
 ∀(aa:List (Addr×Obj)) (s:Shared) (σ:St) (H:Hp) (D:Ends),Inv X aa σ H s->t D σ H->wpAny (model X.prog X.w) X.A (execs st X.env) (SP X aa D) X.xe s
theorem thn{α:Type}{t:Sem α}{Q Q':α->Shared->Prop}{M:Model}{A:Around}{E:Value->Shared->Prop}{s:Shared}(h:wpAny M A t Q E s)(hQ:∀a s,Q a s->Q' a s):wpAny M A t Q' E s:=Ybe h hQ λ_ _ x=>x
section
variable {X:Cx}
def Wi(i:Nat):TE:=fun σ H Q=>∃v,σ[i]?=some (some v)/\Q v H
def tC(v:V):TE:=λ_ H Q=>Q v H
theorem Pw{i:Nat}{x:Str}{pos:Pos}(hN:X.N[i]?=some x)(hv:Vis X.env.scope x)(hd:(x==("__debug__" : Str))=false:=by decide) (d2:(x==("__classdict__" : Str))=false:=by decide):PE X (.Name x pos) (Wi i):=by
 intro aa s σ H Q I h
 obtain⟨v,e,h⟩:=h
 obtain⟨m,hn,hl⟩:=I.loc
 obtain⟨u,r,l⟩:=hl i x v hN e hv
 have fin:EP X aa σ Q u s:=⟨v,H,I,r,h⟩
 rcases l with⟨hk,hm⟩ | ⟨hk,c,hc,hcell⟩
 ·exact wpAny_Name (wpAny_loadName_local I.ok.kind hk hn hm fin) hd
 ·rcases hk with hk | hk
  ·exact wpAny_Name (wpAny_loadName_cell I.ok.kind hk hc hcell fin) hd
  ·exact wpAny_Name (wpAny_loadName_free I.ok.kind hk hc hcell fin d2) hd
theorem Wj{i j pos}:PE X (.Constant (.int i) j pos) (tC (.int i)):=λ_ _ _ H _ I h=>wpAny_Constant_int ⟨.int i,H,I.tok _,⟨_,rfl⟩,h⟩
theorem Zk{b j pos}:PE X (.Constant (.bool b) j pos) (tC (.bl b)):=λ_ _ _ H _ I h=>Constant_bool ⟨.bl b,H,I,rfl,h⟩
theorem Wl{j pos}:PE X (.Constant .none j pos) (tC .non):=λ_ _ _ H _ I h=>Constant_none ⟨.non,H,I,rfl,h⟩
theorem Px{x j pos}:PE X (.Constant (.str x) j pos) (tC (.str x)):=λ_ _ _ H _ I h=>Calls.Constant_str ⟨.str x,H,I.tok _,⟨_,rfl⟩,h⟩
def Gl(X:Cx)(x:Str):Prop:=X.env.kindOf x=some .globalImplicit
theorem Fe{E:Value->Shared->Prop}{aa:List (Addr×Obj)}{s:Shared}{σ:St}{H:Hp}{x:Str}{u:Value}{pos:Pos}{Q:Value->Shared->Prop}(I:Inv X aa σ H s)(hg:Gl X x)(hm:X.mg x=some u)(h:Q u s)
  (hd:(x==("__debug__" : Str))=false:=by decide):wpAny (model X.prog X.w) X.A (eval (.Name x pos) X.env) Q E s :=
 Calls.Name_function_global I.ok.kind hg (Calls.loadGlobal_global (by rw [I.ok.glob];exact I.mod.glob.keeps I.bk) hm h) hd
theorem C4{E:Value->Shared->Prop}{aa:List (Addr×Obj)}{s:Shared}{σ:St}{H:Hp}{x:Str}{u:Value}{pos:Pos}{Q:Value->Shared->Prop}(I:Inv X aa σ H s)(hg:Gl X x)(hm:X.mg x=none)(hv:bootBuiltins x=some u)(h:Q u s)
  (hn:x ≠ "__name__" := by decide) (hd:(x==("__debug__" : Str))=false:=by decide):wpAny (model X.prog X.w) X.A (eval (.Name x pos) X.env) Q E s:=by
 obtain⟨mb,h1,h2⟩:=I.mod.blt
 exact Calls.Name_function_global I.ok.kind hg (Calls.loadGlobal_builtin (by rw [I.ok.glob];exact I.mod.glob.keeps I.bk) hm (by rw [I.ok.blt];exact h1.keeps I.bk) ((h2 x hn).trans hv) h) hd
theorem Nc{x:Str}{v:V}{u:Value}{pos:Pos}(hg:Gl X x)(hm:X.mg x=some u)(r:Bi v u)(hd:(x==("__debug__" : Str))=false:=by decide):PE X (.Name x pos) (tC v) :=
 λ_ _ _ H _ I h=>Fe I hg hm ⟨v,H,I,r,h⟩ hd
variable {a b:Expr}{ta tb:TE}{pos:Pos}
def tB(t:TE):TT:=fun σ H Q=>t σ H λx H1=>∃c,x=.bl c/\Q c H1
theorem Wm{e:Expr}{t:TE}(h:PE X e t)(he:∀cq,isTrue e X.env cq=(do let v <- cq;standAt e.pos;holding [v] (truthy v)):=by intro _;rfl):PT X e (tB t):=by
 intro aa s σ H Q I hw
 refine isTrue_plain (thn (h aa s σ H _ I hw) λv s1 j3=>Ca j3 λx H1 I1 r1 q1=>?_) (he _)
 obtain⟨d,rfl,q⟩:=q1
 cases r1
 exact Ybp ⟨H1,I1,q⟩
variable {tA gs:TT}{rest:List Expr}
def Qdl(t u:TT):TT:=fun σ H Q=>t σ H λc H1=>if c=true then u σ H1 Q else Q false H1
def tOr(t u:TT):TT:=fun σ H Q=>t σ H λc H1=>if c=true then Q true H1 else u σ H1 Q
def Qdm(t:TT):TT:=fun σ H Q=>t σ H λc H1=>Q (!c) H1
theorem Sz(ha:PT X a tA):PW X (.BoolOp .And [a] pos) tA:=by
 intro wh aa s σ H Q I h
 refine isTrue_and (thn (ha aa s σ H Q I h) λc s1 e=>?_)
 cases c with
 | true=>exact isTrue_and_nil e
 | false=>exact e
theorem Wn(ha:PT X a tA):PW X (.BoolOp .Or [a] pos) tA:=by
 intro wh aa s σ H Q I h
 refine isTrue_or (thn (ha aa s σ H Q I h) λc s1 e=>?_)
 cases c with
 | false=>exact isTrue_or_nil e
 | true=>exact e
theorem Wo(ha:PT X a tA)(hb:PW X (.BoolOp .And (b :: rest) pos) gs):PW X (.BoolOp .And (a :: b :: rest) pos) (Qdl tA gs):=by
 intro wh aa s σ H Q I h
 refine isTrue_and (thn (ha aa s σ H _ I h) λc s1 ⟨H1,I1,q1⟩=>?_)
 cases c with
 | true=>exact hb wh aa s1 σ H1 Q I1 q1
 | false=>exact⟨H1,I1,q1⟩
theorem Zl(ha:PT X a tA)(hb:PW X (.BoolOp .Or (b :: rest) pos) gs):PW X (.BoolOp .Or (a :: b :: rest) pos) (tOr tA gs):=by
 intro wh aa s σ H Q I h
 refine isTrue_or (thn (ha aa s σ H _ I h) λc s1 ⟨H1,I1,q1⟩=>?_)
 cases c with
 | true=>exact⟨H1,I1,q1⟩
 | false=>exact hb wh aa s1 σ H1 Q I1 q1
theorem Wp(ha:PT X a tA):PT X (.UnaryOp .Not a pos) (Qdm tA):=by
 intro aa s σ H Q I h
 exact isTrue_not (ha aa s σ H (λc H1=>Q (!c) H1) I h)
def Zm(ta tb:TE):TE:=fun σ H Q=>ta σ H λx H1=>∃c,x=.bl c/\if c=true then tb σ H1 Q else Q (.bl false) H1
def Zn(ta:TE):TE:=fun σ H Q=>ta σ H λx H1=>∃c,x=.bl c/\Q (.bl (!c)) H1
theorem Wq{op}{t:TE}(h:PE X a t):PE X (.BoolOp op [a] pos) t:=λaa s σ H Q I hw=>BoolOp_one (h aa s σ H Q I hw)
theorem Wr(ha:PE X a ta)(hb:PE X (.BoolOp .And (b :: rest) pos) tb):PE X (.BoolOp .And (a :: b :: rest) pos) (Zm ta tb):=by
 intro aa s σ H Q I h
 refine BoolOp_and (thn (ha aa s σ H _ I h) λv s1 j7=>Ca j7 λx H1 I1 r1 q1=>?_)
 obtain⟨c,rfl,q1⟩:=q1
 cases r1
 refine Ybp ?_
 cases c with
 | true=>exact hb aa s1 σ H1 Q I1 q1
 | false=>exact⟨.bl false,H1,I1,rfl,q1⟩
theorem Ws(ha:PE X a ta):PE X (.UnaryOp .Not a pos) (Zn ta):=by
 intro aa s σ H Q I h
 refine UnaryOp_ (thn (ha aa s σ H _ I h) λv s1 pb=>Ca pb λx H1 I1 r1 q1=>?_)
 obtain⟨c,rfl,q1⟩:=q1
 cases r1
 exact not_of (Ybp ⟨.bl (!c),H1,I1,rfl,q1⟩)
end
def Dq(K:PySem.W.Frag)(H:Hp)(a:Addr)(xs:List V):Prop :=
 Rd H a (.lst xs) \/
  ∃(o:Obj) (af:Array Value) (n:Nat),K.lookup a=some o/\o.cls=.type "list" /\ o.dict=none/\o.data=.seq af n/\af.size<=sizeLine/\Vals xs af.toList
def Fw(K:PySem.W.Frag)(H:Hp)(a:Addr)(xs:List V):Prop :=
 Rd H a (.tup xs) \/
  ∃(o:Obj) (af:Array Value) (n:Nat),K.lookup a=some o/\o.cls=.type "tuple" /\ o.data=.seq af n/\af.size<=sizeLine/\Vals xs af.toList
def Qdn:Value->Option V
 | .none=>some .non
 | .bool b=>some (.bl b)
 | .int i _=>some (.int i)
 | .str x _=>some (.str x)
 | .bytes b _=>some (.byt b)
 | .float b _=>some (.flt b)
 | .ref a=>some (.ref a)
 | .type n=>some (.ty n)
 | _=>none
theorem Bi.abs{x:V}{u:Value}(r:Bi x u):Qdn u=some x:=by
 cases x with
 | non=>cases r;rfl
 | bl _=>cases r;rfl
 | int _=>obtain⟨t,rfl⟩:=r;rfl
 | str _=>obtain⟨t,rfl⟩:=r;rfl
 | byt _=>obtain⟨t,rfl⟩:=r;rfl
 | flt _=>obtain⟨t,rfl⟩:=r;rfl
 | ref _=>cases r;rfl
 | ty _=>cases r;rfl
theorem Bi.inj{x y:V}{u:Value}(r:Bi x u)(q:Bi y u):x=y:=Ya1 (r.abs.symm.trans q.abs)
theorem Vals.inj:∀{xs ys:List V} {us:List Value},Vals xs us->Vals ys us->xs=ys
 | _,_,_,.nil,.nil=>rfl
 | _,_,_,.cons r t,.cons r' t'=>by rw [r.inj r',Vals.inj t t']
section
variable {X:Cx}{aa:List (Addr×Obj)}{σ:St}{H:Hp}{s:Shared}{a:Addr}{xs ys:List V}
theorem Dq.of{K:PySem.W.Frag}(h:H a=some (.lst xs)):Dq K H a xs:=.inl (.inl h)
theorem Fw.of{K:PySem.W.Frag}(h:H a=some (.tup xs)):Fw K H a xs:=.inl (.inl h)
theorem Inv.list(I:Inv X aa σ H s)(h:Dq X.K H a xs):∃af:List Value,Vals xs af/\PlainL s.heap a af.toArray/\xs.length<=sizeLine:=by
 rcases h with h | ⟨o,af,n,hk,hc,hd,hs,hz,r⟩
 ·obtain⟨z,af,n,r,e⟩:=h.ok I.hok
  exact⟨af,r,⟨_,n,e,rfl,rfl,rfl⟩,z⟩
 ·refine⟨af.toList,r,⟨o,n,I.kIn a o hk,hc,hd,by simpa using hs⟩,?_⟩
  have e:=r.length
  simp only [Array.length_toList]at e
  omega
theorem Inv.tuple(I:Inv X aa σ H s)(h:Fw X.K H a xs):∃af:List Value,Vals xs af/\IsTup s.heap a af.toArray/\xs.length<=sizeLine:=by
 rcases h with h | ⟨o,af,n,hk,hc,hs,hz,r⟩
 ·obtain⟨z,af,r,p⟩:=h.ok I.hok
  exact⟨af,r,p,z.1⟩
 ·refine⟨af.toList,r,⟨o,I.kIn a o hk,hc,n,by simpa using hs⟩,?_⟩
  have e:=r.length
  simp only [Array.length_toList]at e
  omega
theorem Inv.nod(I:Inv X aa σ H s)(h:H a=some (.tup xs)):Vg s.heap a\/Wk xs:=by
 obtain⟨z,af,r,p⟩:=(show Bj X.prog X.w H s.heap a (.tup xs) from I.hok a _ h)
 exact z.2
theorem Inv.list_inj(I:Inv X aa σ H s)(h:Dq X.K H a xs)(h':Dq X.K H a ys):xs=ys:=by
 obtain⟨af,r,⟨o,n,e,_,_,d⟩,_⟩:=I.list h
 obtain⟨its',r',⟨o',n',e',_,_,d'⟩,_⟩:=I.list h'
 rw [e]at e';cases e'
 rw [d]at d'
 injection d' with d1 _
 have:af=its':=by simpa using Ybb Array.toList d1
 subst this
 exact r.inj r'
theorem Inv.tuple_inj(I:Inv X aa σ H s)(h:Fw X.K H a xs)(h':Fw X.K H a ys):xs=ys:=by
 obtain⟨af,r,⟨o,e,_,n,d⟩,_⟩:=I.tuple h
 obtain⟨its',r',⟨o',e',_,n',d'⟩,_⟩:=I.tuple h'
 rw [e]at e';cases e'
 rw [d]at d'
 injection d' with d1 _
 have:af=its':=by simpa using Ybb Array.toList d1
 subst this
 exact r.inj r'
end
abbrev Cx.wish(X:Cx)(E:Value->Shared->Prop):Cx:={ X with xe:=E }
abbrev Cx.nox(X:Cx):Cx:=X.wish λ_ _=>False
theorem Cx.Ok.wish{X:Cx}(ok:X.Ok)(E:Value->Shared->Prop):(X.wish E).Ok :=
 ⟨ok.mod,ok.kind,ok.glob,ok.blt,ok.above,ok.inj,ok.has,ok.cab,ok.hd,ok.frames,ok.stk,ok.exf,ok.bs,ok.bsz,ok.noex,ok.exfs,ok.funs,ok.frf⟩
theorem Cx.Ok.unwish{X:Cx}{E:Value->Shared->Prop}(ok:(X.wish E).Ok):X.Ok :=
 ⟨ok.mod,ok.kind,ok.glob,ok.blt,ok.above,ok.inj,ok.has,ok.cab,ok.hd,ok.frames,ok.stk,ok.exf,ok.bs,ok.bsz,ok.noex,ok.exfs,ok.funs,ok.frf⟩
section
variable {X:Cx}{aa:List (Addr×Obj)}{σ:St}{H:Hp}{s:Shared}{E:Value->Shared->Prop}
theorem Inv.wish(I:Inv X aa σ H s)(E:Value->Shared->Prop):Inv (X.wish E) aa σ H s:=⟨I.ok.wish E,I.os,I.bare,I.base,I.loc,I.cell,I.free,I.freeC,I.pin,I.hok,I.len⟩
theorem Inv.unwish(I:Inv (X.wish E) aa σ H s):Inv X aa σ H s:=⟨I.ok.unwish,I.os,I.bare,I.base,I.loc,I.cell,I.free,I.freeC,I.pin,I.hok,I.len⟩
theorem SP.unwish{D:Ends}{f:Flow}{s':Shared}(h:SP (X.wish E) aa D f s'):SP X aa D f s':=by
 cases f with
 | next=>obtain⟨σ',H',I,q⟩:=h;exact⟨σ',H',I.unwish,q⟩
 | brk=>obtain⟨σ',H',I,q⟩:=h;exact⟨σ',H',I.unwish,q⟩
 | cont=>obtain⟨σ',H',I,q⟩:=h;exact⟨σ',H',I.unwish,q⟩
 | ret u=>obtain⟨v,σ',H',I,r,q⟩:=h;exact⟨v,σ',H',I.unwish,r,q⟩
theorem PSs.nox{st:List Stmt}{t:TS}(h:PSs X.nox st t):PSs X st t:=λaa s σ H D I hw =>
 Ybe (h aa s σ H D (I.wish _) hw) (λ_ _ q=>q.unwish) λ_ _ z=>False.elim z
end
section
variable {X:Cx}{st:Stmt}{rest:List Stmt}{t u:TS}{e:Expr}{te:TE}{pos:Pos}
def Zo:TS:=λD σ H=>D.nx σ H
def Qdo(t u:TS):TS:=λD σ H=>t { D with nx:=u D } σ H
theorem Ta:PSs X [] Zo:=λ_ _ σ H _ I h=>Ycu ⟨σ,H,I,h⟩
theorem Ha(h1:PS X st t)(h2:PSs X rest u):PSs X (st :: rest) (Qdo t u):=by
 intro aa s σ H D I h
 refine wpAny_execs_cons (thn (h1 aa s σ H { D with nx:=u D } I h) λf s1 q=>?_)
 cases f with
 | next =>
  obtain⟨σ',H',I',q⟩:=q
  exact h2 aa s1 σ' H' D I' q
 | ret v=>exact q
 | brk=>exact q
 | cont=>exact q
theorem Jr(h1:PS X st t):PSs X [st] t:=by
 intro aa s σ H D I h
 refine wpAny_execs_cons (thn (h1 aa s σ H D I h) λf s1 q=>?_)
 cases f with
 | next=>exact Ycu q
 | ret v=>exact q
 | brk=>exact q
 | cont=>exact q
theorem Inv.quiet{aa:List (Addr×Obj)}{σ:St}{H:Hp}{s:Shared}(I:Inv X aa σ H s):interactive X.env=false:=by simp [interactive,I.ok.kind]
def Zp(te:TE):TS:=λD σ H=>te σ H λ_ H1=>D.nx σ H1
theorem Tb(he:PE X e te)(hs:swapsWith e none pos.line X.env=pure false:=by rfl):PS X (.Expr e pos) (Zp te):=by
 intro aa s σ H D I h
 exact wpAny_Expr_any (thn (he aa s σ H _ I h) λv s1 kg=>Ca kg λx H1 I1 r1 q1=>⟨σ,H1,I1,q1⟩) I.quiet hs
def Qdp(te:TE):TS:=λD σ H=>te σ H D.rt
theorem Wt(he:PE X e te):PS X (.Return (some e) pos) (Qdp te):=by
 intro aa s σ H D I h
 exact wpAny_Return_some (thn (he aa s σ H _ I h) λv s1 mh=>Ca mh λx H1 I1 r1 q1=>⟨x,σ,H1,I1,r1,q1⟩)
def Qdq(c:TT)(t u:TS):TS:=λD σ H=>c σ H λb H1=>if b=true then t D σ H1 else u D σ H1
theorem Zq{c:Expr}{a b:List Stmt}{tc:TT}(hc:PT X c tc)(ha:PSs X a t)(hb:PSs X b u):PS X (.If c a b pos) (Qdq tc t u):=by
 intro aa s σ H D I h
 refine wpAny_If (thn (hc aa s σ H _ I h) λd s1 ⟨H1,I1,q1⟩=>?_)
 cases d with
 | true=>exact ha aa s1 σ H1 D I1 q1
 | false=>exact hb aa s1 σ H1 D I1 q1
end
abbrev TG:=V->St->Hp->(St->Hp->Prop)->Prop
abbrev TGs:=List V->St->Hp->(St->Hp->Prop)->Prop
def PG(X:Cx)(ci:Expr)(t:TG):Prop :=
 ∀(aa:List (Addr×Obj)) (s:Shared) (σ:St) (H:Hp) (v:V) (u:Value) (Q:St->Hp->Prop),Inv X aa σ H s->Bi v u->t v σ H Q ->
  wpAny (model X.prog X.w) X.A (assign ci X.env u) (λ_ s'=>∃ σ' H',Inv X aa σ' H' s'/\Q σ' H') X.xe s
def PGs(X:Cx)(ts:List Expr)(t:TGs):Prop :=
 ∀(aa:List (Addr×Obj)) (s:Shared) (σ:St) (H:Hp) (vs:List V) (us:List Value) (Q:St->Hp->Prop),Inv X aa σ H s->Vals vs us->t vs σ H Q ->
  wpAny (model X.prog X.w) X.A (assignInOrder ((assignEach ts X.env).map (·.2)) us) (λ_ s'=>∃ σ' H',Inv X aa σ' H' s'/\Q σ' H') X.xe s
section
variable {X:Cx}{pos:Pos}
def Py(i:Nat):TG:=λv σ H Q=>Q (σ.set i (some v)) H
theorem Tc{i:Nat}{x:Str}(hN:X.N.Nodup)(hi:X.N[i]?=some x)(hx:Loc X.env.scope x)(hf:X.fn x=true\/X.env.scope.names.lookup x=some .local:=by first | exact .inl rfl | exact .inr rfl | assumption):PG X (.Name x pos) (Py i):=by
 intro aa s σ H v u Q I r h
 exact wpAny_assign_Name (C1 I hN hi hx r (λs' I'=>⟨_,H,I',h⟩) hf)
def Qdr:TGs:=λvs σ H Q=>vs=[]/\Q σ H
def Zr(t:TG)(u:TGs):TGs:=λvs σ H Q=>∃v r,vs=v :: r/\t v σ H fun σ' H'=>u r σ' H' Q
theorem Td:PGs X [] Qdr:=by
 intro aa s σ H vs us Q I r h
 obtain⟨e,h⟩:=h
 subst e
 cases r
 exact assignInOrder_nil ⟨σ,H,I,h⟩
theorem Pz{e:Expr}{es:List Expr}{t:TG}{u:TGs}(h1:PG X e t)(h2:PGs X es u)
  (hs:(assignEach (e :: es) X.env).map (·.2)=assign e X.env :: (assignEach es X.env).map (·.2):=by rfl):PGs X (e :: es) (Zr t u):=by
 intro aa s σ H vs us Q I r h
 obtain⟨v,vr,e1,h⟩:=h
 subst e1
 cases r with
 | cons r rr =>
  rw [hs]
  refine Ybz (thn (h1 aa s σ H _ _ _ I r h) λ_ s1 lv=>?_)
  obtain⟨σ1,H1,I1,q1⟩:=lv
  exact h2 aa s1 σ1 H1 _ _ Q I1 rr q1
def Qds(K:PySem.W.Frag)(n:Nat)(t:TGs):TG:=λv σ H Q=>∃a xs,v=.ref a/\Fw K H a xs/\xs.length=n/\t xs σ H Q
theorem Wu{es:List Expr}{k:Nat}{t:TGs}{n:Nat}(hc:X.calm=true)(h:PGs X es t)
  (hn:(assignEach es X.env).length=n:=by rfl) (bg:(assignEach es X.env).findIdx? (·.1)=none:=by rfl):PG X (.Tuple es k pos) (Qds X.K n t):=by
 intro aa s σ H v u Q I r hw
 obtain⟨a,xs,e1,hq,hl,hw⟩:=hw
 subst e1
 cases r
 obtain⟨af,rv,ht,hz⟩:=I.tuple hq
 refine assign_Tuple_tuple (I.ok.hd hc) ht (by simp [hn,<- hl,rv.length]) bg λh' hx=>?_
 have I1:Inv X aa σ H { s with heap:=h' }:=I.kept (t':=s.toks) λb o e=>hx b o (Yap (Yag e)) e
 exact h aa _ σ H xs _ Q I1 (by simpa using rv) hw
def Te(te:TE)(g:TG):TS:=λD σ H=>te σ H λx H1=>g x σ H1 D.nx
theorem Wv{tg e:Expr}{te:TE}{g:TG}(he:PE X e te)(hg:PG X tg g)(hs:swapsWithSole [tg] e pos.line X.env=pure false:=by rfl)(hw:swappedStores [tg] e X.env=pure none:=by rfl)
  (h1:(assignEach [tg] X.env).map (·.2)=[assign tg X.env]:=by rfl):PS X (.Assign [tg] e pos) (Te te g):=by
 intro aa s σ H D I h
 refine wpAny_Assign_stores (thn (he aa s σ H _ I h) λv s1 oq=>Ca oq λx H1 I1 r1 q1=>?_) hs hw
 rw [h1]
 exact thn (hg aa s1 σ H1 x v _ I1 r1 q1) λ_ s2 q=>q
theorem Ww{i:Nat}{x:Str}{e:Expr}{te:TE}{be:Pos}(hN:X.N.Nodup)(hi:X.N[i]?=some x)(hx:Loc X.env.scope x)(he:PE X e te)(hs:swapsWith e (some (.Name x be)) pos.line X.env=pure false:=by rfl)(hf:X.fn x=true\/X.env.scope.names.lookup x=some .local:=by first | exact .inl rfl | exact .inr rfl | assumption) :
  PS X (.Assign [.Name x be] e pos) (Te te (Py i)):=by
 intro aa s σ H D I h
 refine wpAny_Assign_Name (thn (he aa s σ H _ I h) λv s1 mm=>Ca mm λy H1 I1 r1 q1=>?_) hs
 exact C1 I1 hN hi hx r1 (λs2 I2=>⟨_,H1,I2,q1⟩) hf
def Qdt(i j:Nat)(ta:TA):TS:=λD σ H=>ta σ H λvs H1=>∃v w,vs=[v,w]/\D.nx ((σ.set i (some v)).set j (some w)) H1
theorem Wx{i j:Nat}{x y:Str}{a b:Expr}{ta:TA}{px py pt:Pos}{kt k2 pt2}(hc:X.calm=true)(hN:X.N.Nodup)(hi:X.N[i]?=some x)(hj:X.N[j]?=some y)(gw:i≠j)
  (hx:X.env.scope.names.lookup x=some .local) (hy:X.env.scope.names.lookup y=some .local) (ha:PA X [a,b] ta)
  (hw:swappedStores [.Tuple [.Name x px,.Name y py] kt pt] (.Tuple [a,b] k2 pt2) X.env=pure (some [x,y]))
  (hs:swapsWithSole [.Tuple [.Name x px,.Name y py] kt pt] (.Tuple [a,b] k2 pt2) pos.line X.env=pure false:=by rfl) :
  PS X (.Assign [.Tuple [.Name x px,.Name y py] kt pt] (.Tuple [a,b] k2 pt2) pos) (Qdt i j ta):=by
 intro aa s σ H D I h
 rw [exec_Assign_arm]
 refine Yab (Ycv ?_)
 rw [hs]
 refine Yab (Yac ?_)
 rw [Yan (by decide)]
 refine Yab (Tuple_ (thn (ha _ aa s σ H _ I h) λus s1 m4=>Ca m4 λvs H1 I1 r1 q1=>?_))
 obtain⟨v,w,e1,q1⟩:=q1
 subst e1
 obtain⟨u1,u2,rfl,rv,fh⟩:∃u1 u2,us=[u1,u2]/\Bi v u1/\Bi w u2:=by
  cases r1 with
  | cons p q =>
   cases q with
   | cons p' q' =>
    cases q'
    exact⟨_,_,rfl,p,p'⟩
 refine Ybf ?_ (by show 2<=sizeLine;decide)
 have I2:Inv X aa σ H1 { s1 with heap:=s1.heap.push { cls:=.type "tuple",data:=.seq [u1,u2].toArray } }:=I1.kept (t':=s1.toks) λb o e=>Heap.get?_push_of_some _ e
 rw [hw]
 refine Yab (Yac ?_)
 show wpAny (model X.prog X.w) X.A (do rule "assign.swapped-stores";let items <- unpackItems (.ref s1.heap.objs.size) 2 none;assignInOrder [λv=>bindName X.env y v,λv=>bindName X.env x v] items.reverse;pure Flow.next) _ _ _
 refine Yab (wpAny_rule (Yab (unpackItems_tuple (items:=#[u1,u2]) (I.ok.hd hc) (IsTup.new s1.heap _) λh' fj=>?_)))
 have I3:=I2.kept (h':=h') (t':=s1.toks) λb o e=>fj b o (Yap (Yag e)) e
 show wpAny _ _ (assignInOrder [λv=>bindName X.env y v,λv=>bindName X.env x v] [u2,u1] >>= λ_=>pure Flow.next) _ _ _
 refine Yab (Ybz (Ydc (C1 I3 hN hj (.inl hy) fh (λs2 I4=>?_) (.inr hy))))
 refine Ybz (Ydc (C1 I4 hN hi (.inl hx) rv (λs3 I5=>assignInOrder_nil (Yac ?_)) (.inr hx)))
 rw [List.set_comm _ _ (Ycl gw)]at I5
 exact⟨_,H1,I5,q1⟩
end
section
variable {X:Cx}{pos:Pos}
def Wy(c:TT)(tb:TS):TS:=λD σ H=>∃W:Nat->St->Hp->Prop,(∃m,W m σ H)/\∀m σ H,W m σ H ->
 c σ H λb H1=>if b=true then ∃N:St->Hp->Prop,(∀ σ' H',N σ' H'->∃m',m' < m/\W m' σ' H')/\tb { D with nx:=N,ct:=N,bk:=D.nx } σ H1 else D.nx σ H1
theorem P0{c:Expr}{body:List Stmt}{tc:TT}{tb:TS}(hp:PassesOwn (model X.prog X.w) X.A X.env X.xe)(hc:PT X c tc)(hb:PSs X body tb):PS X (.While c body [] pos) (Wy tc tb):=by
 intro aa s σ H D I h
 obtain⟨W,⟨m0,w0⟩,turn⟩:=h
 refine wpAny_While (codeAny_whileLoop (λn s'=>∃ σ' H',Inv X aa σ' H' s'/\W n σ' H') ?_ m0 ⟨σ,H,I,w0⟩)
 rintro n s1 ⟨σ1,H1,I1,w1⟩
 refine Yb5 hp (thn (hc aa s1 σ1 H1 _ I1 (turn n σ1 H1 w1)) λb s2 ⟨H2,I2,q2⟩=>?_)
 cases b with
 | true =>
  obtain⟨N,hN,q2⟩:=q2
  rw [Yaq rfl]
  refine Yb5 hp (thn (hb aa s2 σ1 H2 _ I2 q2) λf s3 q3=>?_)
  cases f with
  | next =>
   obtain⟨σ3,H3,I3,n3⟩:=q3
   obtain⟨m',hm,w3⟩:=hN σ3 H3 n3
   exact⟨m',hm,σ3,H3,I3,w3⟩
  | cont =>
   obtain⟨σ3,H3,I3,n3⟩:=q3
   obtain⟨m',hm,w3⟩:=hN σ3 H3 n3
   exact⟨m',hm,σ3,H3,I3,w3⟩
  | brk=>exact q3
  | ret v=>exact q3
 | false =>
  rw [Yan Yas]
  exact Ycu ⟨σ1,H2,I2,q2⟩
end
structure It where
 go:Nat->Hp->Prop
 yld:Nat->Hp->V->Hp->Prop
 stop:Nat->Hp->Prop
def Ff(X:Cx)(aa:List (Addr×Obj))(H:Hp)(b:Addr):Prop :=
 H b=none/\b≠X.env.locals/\b∉X.fs/\(b∈X.ex\/X.s₀.heap.objs.size<=b)/\(∀x c,X.env.cells.lookup x=some c->c≠b)/\∀p∈X.pn++aa,p.1≠b
theorem Inv.fpOk{X:Cx}{aa:List (Addr×Obj)}{σ:St}{H H':Hp}{s:Shared}{b:Addr}(I:Inv X aa σ H s)(hb:s.heap.objs.size<=b)(hn:H' b=none):Ff X aa H' b:=by
 refine⟨hn,Nat.ne_of_gt (Yal I.lt hb),I.nofs hb,.inr (Yai I.sz hb),λx c e z=>?_,λp hp z=>?_⟩
 ·obtain⟨v,q⟩:=I.cell x c e
  exact absurd (Yal q.lt (by rw [z];exact hb)) (Yby _)
 ·exact absurd (Yal (Yag (I.pin p hp).1) (by rw [z];exact hb)) (Yby _)
structure Turn(P:Program)(w:World)(K:PySem.W.Frag)(tg:Expr)(J:It)(fp:List Addr)(it:Addr)(tn:Nat->Heap->Prop):Prop where
 mem:it∈fp
 obj:∀i h,tn i h->∀b∈fp,∃o,h.get? b=some o/\∀v,o.data≠.cell v
 keep:∀i h h',tn i h->(∀b∈fp,∀o,h.get? b=some o->h'.get? b=some o)->tn i h'
 item:∀(X:Cx),X.prog=P->X.w=w->X.K=K->X.calm=true->∀(i:Nat) (aa:List (Addr×Obj)) (s:Shared) (σ:St) (H:Hp) (E:Value->Shared->Prop),Inv X aa σ H s->(∀b∈fp,Ff X aa H b)->tn i s.heap->J.go i H ->
  wpAny (model P w) X.A (pyNext (.ref it)) (λr s1=>∃u,r=some u /\
   wpAny (model P w) X.A (letOwnedTupleGo tg (.ref it) u) (λ_ s2=>∃x H',Inv X aa σ H' s2/\Bi x u/\J.yld i H x H'/\tn (i+1) s2.heap/\∀b∈fp,H' b=none) E s1) E s
 done:∀(X:Cx),X.prog=P->X.w=w->X.K=K->X.calm=true->∀(i:Nat) (aa:List (Addr×Obj)) (s:Shared) (σ:St) (H:Hp) (E:Value->Shared->Prop),Inv X aa σ H s->(∀b∈fp,Ff X aa H b)->tn i s.heap->J.stop i H ->
  wpAny (model P w) X.A (pyNext (.ref it)) (λr s1=>r=none/\Inv X aa σ H s1) E s
 self:∀(A:Around) (i:Nat) (s:Shared) (Q:Value->Shared->Prop) (E:Value->Shared->Prop),tn i s.heap->Q (.ref it) s->wpAny (model P w) A (pyIter (.ref it)) Q E s
abbrev TI:=St->Hp->(It->Hp->Prop)->Prop
def PIE(X:Cx)(aa:List (Addr×Obj))(σ:St)(tg:Expr)(R:It->Hp->Prop)(qt:Value)(s2:Shared):Prop :=
 ∃(it:Addr) (fp:List Addr) (tn:Nat->Heap->Prop) (J:It) (H':Hp),qt=.ref it/\Inv X aa σ H' s2/\Turn X.prog X.w X.K tg J fp it tn/\tn 0 s2.heap/\(∀b∈fp,Ff X aa H' b)/\R J H'
def PI(X:Cx)(tg ap:Expr)(wi:TI):Prop :=
 ∀(aa:List (Addr×Obj)) (s:Shared) (σ:St) (H:Hp) (R:It->Hp->Prop),Inv X aa σ H s->wi σ H R ->
  wpAny (model X.prog X.w) X.A (eval ap X.env) (λv s1=>wpAny (model X.prog X.w) X.A (pyIter v) (PIE X aa σ tg R) X.xe s1) X.xe s
theorem Qa{M:Model}{A:Around}{E:Value->Shared->Prop}{s:Shared}{tg:Expr}{it:Addr}{u:Value}{o:Obj}{n:String}{vs:Array Value}{Q:Unit->Shared->Prop}(ho:s.heap.get? it=some o)(hc:o.cls=.type n)(hd:o.data=.fields vs)
  (hn:["enumerate","zip","dict_itemiterator","dict_reverseitemiterator","odict_iterator","itertools.zip_longest","itertools.pairwise"].contains n=false) (hQ:Q () s):wpAny M A (letOwnedTupleGo tg (.ref it) u) Q E s:=by
 unfold letOwnedTupleGo
 cases tg <;> first
  | exact Yac hQ
  | (cases u <;> first
    | exact Yac hQ
    | (refine Yab (wpAny_load ho ?_)
       rw [hc, hd]
       show wpAny M A (if (["enumerate", "zip", "dict_itemiterator", "dict_reverseitemiterator", "odict_iterator", "itertools.zip_longest", "itertools.pairwise"].contains n && vs[0]? == some (rawInt _)) = true then _ else _) Q E s
       rw [Yan (by intro h; rw [hn, Bool.false_and] at h; cases h)]
       exact Yac hQ))
def Itl(K:PySem.W.Frag)(a:Addr):It :=
 ⟨λi H=>∃xs x,Dq K H a xs/\xs[i]?=some x,λi H x H'=>H'=H/\∀xs,Dq K H a xs->xs[i]?=some x,λi H=>∃xs,Dq K H a xs/\xs.length<=i⟩
def Itt(K:PySem.W.Frag)(a:Addr):It :=
 ⟨λi H=>∃xs x,Fw K H a xs/\xs[i]?=some x,λi H x H'=>H'=H/\∀xs,Fw K H a xs->xs[i]?=some x,λi H=>∃xs,Fw K H a xs/\xs.length<=i⟩
def Itr(lo:Int)(n:Nat):It:=⟨λi _=>i < n,λi H x H'=>H'=H/\x=.int (lo+i),λi _=>n<=i⟩
theorem Oo{P:Program}{w:World}{K:PySem.W.Frag}{tg:Expr}(a it:Addr):Turn P w K tg (Itl K a) [it] it (λi h=>h.IsListIter it a i) where
 mem:=by simp
 obj:=λi h st b hb=>by
  have e:b=it:=by simpa using hb
  subst e
  obtain⟨o,e,c,d⟩:=st
  exact⟨o,e,λv z=>by rw [d]at z;cases z⟩
 keep:=λi h h' st k=>st.at λo e=>k it (by simp) o e
 item:=by
  intro X hP hw hK hc i aa s σ H E I hf st hg
  subst hP hw hK
  obtain⟨xs,x,hq,hx⟩:=hg
  obtain⟨af,rv,p,hz⟩:=I.list hq
  obtain⟨u,hu,ru⟩:=rv.get hx
  obtain⟨f0,f1,f2,f3,f4,f5⟩:=hf it (by simp)
  refine wpAny_pyNext_list_item st p.isList (x:=u) (by simpa using hu) λh' iu sb=>?_
  have I1:Inv X aa σ H { s with heap:=h' }:=I.turned (t':=s.toks) (λb o hb e=>(sb.2 b hb).trans e) f0 f1 f3 f4 f5
  obtain⟨o,e,c,d⟩:=id iu
  exact⟨u,rfl,Qa (s:={ s with heap:=h' }) e c d (by decide) ⟨x,H,I1,ru,⟨rfl,λys hy=>by rw [I.list_inj hy hq];exact hx⟩,iu,λb hb=>(hf b hb).1⟩⟩
 done:=by
  intro X hP hw hK hc i aa s σ H E I hf st hg
  subst hP hw hK
  obtain⟨xs,hq,hx⟩:=hg
  obtain⟨af,rv,p,hz⟩:=I.list hq
  obtain⟨f0,f1,f2,f3,f4,f5⟩:=hf it (by simp)
  have hl:=rv.length
  exact wpAny_pyNext_list_end (I.ok.hd hc) st p.isList (by simp;omega) λh' eb=>⟨rfl,I.turned (t':=s.toks) (λb o hb e=>eb b o hb e) f0 f1 f3 f4 f5⟩
 self:=λ_ _ _ _ _ st h=>wpAny_pyIter_listiter st h
theorem Hb{P:Program}{w:World}{K:PySem.W.Frag}{tg:Expr}(a it:Addr):Turn P w K tg (Itt K a) [it] it (λi h=>h.IsTupleIter it a i) where
 mem:=by simp
 obj:=λi h st b hb=>by
  have e:b=it:=by simpa using hb
  subst e
  obtain⟨o,e,c,d⟩:=st
  exact⟨o,e,λv z=>by rw [d]at z;cases z⟩
 keep:=λi h h' st k=>st.at λo e=>k it (by simp) o e
 item:=by
  intro X hP hw hK hc i aa s σ H E I hf st hg
  subst hP hw hK
  obtain⟨xs,x,hq,hx⟩:=hg
  obtain⟨af,rv,p,hz⟩:=I.tuple hq
  obtain⟨u,hu,ru⟩:=rv.get hx
  obtain⟨f0,f1,f2,f3,f4,f5⟩:=hf it (by simp)
  refine wpAny_pyNext_tuple_item st (show s.heap.IsTuple a af.toArray from p) (x:=u) (by simpa using hu) λh' iu sb=>?_
  have I1:Inv X aa σ H { s with heap:=h' }:=I.turned (t':=s.toks) (λb o hb e=>(sb.2 b hb).trans e) f0 f1 f3 f4 f5
  obtain⟨o,e,c,d⟩:=id iu
  exact⟨u,rfl,Qa (s:={ s with heap:=h' }) e c d (by decide) ⟨x,H,I1,ru,⟨rfl,λys hy=>by rw [I.tuple_inj hy hq];exact hx⟩,iu,λb hb=>(hf b hb).1⟩⟩
 done:=by
  intro X hP hw hK hc i aa s σ H E I hf st hg
  subst hP hw hK
  obtain⟨xs,hq,hx⟩:=hg
  obtain⟨af,rv,p,hz⟩:=I.tuple hq
  obtain⟨f0,f1,f2,f3,f4,f5⟩:=hf it (by simp)
  have hl:=rv.length
  exact wpAny_pyNext_tuple_end (I.ok.hd hc) st (show s.heap.IsTuple a af.toArray from p) (by simp;omega) λh' eb=>⟨rfl,I.turned (t':=s.toks) (λb o hb e=>eb b o hb e) f0 f1 f3 f4 f5⟩
 self:=λ_ _ _ _ _ st h=>wpAny_pyIter_tupleiter st h
theorem L7{P:Program}{w:World}{K:PySem.W.Frag}{tg:Expr}(it:Addr)(lo:Int)(n:Nat):Turn P w K tg (Itr lo n) [it] it (λi h=>IsRangeIter h it (lo+(i:Nat) * 1) ((n:Int) - (i:Nat)) 1) where
 mem:=by simp
 obj:=λi h st b hb=>by
  have e:b=it:=by simpa using hb
  subst e
  exact⟨_,st,λv z=>by
   have z':Data.fields _=Data.cell v:=z
   cases z'⟩
 keep:=λi h h' st k=>k it (by simp) _ st
 item:=by
  intro X hP hw hK hc i aa s σ H E I hf st hg
  subst hP hw hK
  obtain⟨f0,f1,f2,f3,f4,f5⟩:=hf it (by simp)
  have W:=Walks.range (prog:=X.prog) (w:=X.w) (I.ok.hd hc) it lo 1 n
  refine W.item i s _ _ hg st λv h' tk hv iu kk=>?_
  obtain⟨t,rfl⟩:=hv
  have I1:Inv X aa σ H { s with heap:=h',toks:=tk }:=I.turned (λb o hb e=>kk b o (by simpa using hb) e) f0 f1 f3 f4 f5
  refine⟨_,rfl,Qa (s:={ s with heap:=h',toks:=tk }) (n := "range_iterator") iu rfl rfl (by decide) ⟨.int (lo+i),H,I1,⟨t,?_⟩,⟨rfl,rfl⟩,iu,λb hb=>(hf b hb).1⟩⟩
  rw [Int.mul_one]
 done:=by
  intro X hP hw hK hc i aa s σ H E I hf st hg
  subst hP hw hK
  obtain⟨f0,f1,f2,f3,f4,f5⟩:=hf it (by simp)
  exact wpAny_pyNext_range_end (I.ok.hd hc) st (by have:n<=i:=hg;omega) λh' eb=>⟨rfl,I.turned (t':=s.toks) (λb o hb e=>eb b o hb e) f0 f1 f3 f4 f5⟩
 self:=λ_ _ _ _ _ st h=>wpAny_pyIter_rangeiter st h
section
variable {X:Cx}{tg:Expr}
theorem Qb{aa:List (Addr×Obj)}{σ:St}{H:Hp}{s:Shared}{R:It->Hp->Prop}{E:Value->Shared->Prop}{lo hi:Int}{t u v:Tok}{tk:Nat}(I:Inv X aa σ H s)(h1:-(2 ^ 62)<=lo)(h2:lo < 2 ^ 62)(h3:-(2 ^ 62)<=hi)(h4:hi < 2 ^ 62)
  (q:R (Itr lo (hi - lo).toNat) H):wpAny (model X.prog X.w) X.A (pyIter (.ref s.heap.objs.size)) (PIE X aa σ tg R) E { s with heap:=s.heap.push { cls:=.type "range",data:=.fields #[.int lo t,.int hi u,.int 1 v] },toks:=tk }:=by
 refine wpAny_pyIter_range (IsRange.new ..) (small_one h1 h2 h3 h4) ?_
 have I1:Inv X aa σ H { s with heap:=s.heap.push { cls:=.type "range",data:=.fields #[.int lo t,.int hi u,.int 1 v] },toks:=tk }:=I.kept λb o e=>Heap.get?_push_of_some _ e
 refine⟨(s.heap.push { cls:=.type "range",data:=.fields #[.int lo t,.int hi u,.int 1 v] }).objs.size,[(s.heap.push { cls:=.type "range",data:=.fields #[.int lo t,.int hi u,.int 1 v] }).objs.size],_,_,H,rfl,
  I1.kept (t':=tk) λb o e=>Heap.get?_push_of_some _ e,L7 _ lo (hi - lo).toNat,?_,λb hb=>?_,q⟩
 ·have e1:lo+((0:Nat):Int) * 1=lo:=by simp
  have e2:(((hi - lo).toNat:Nat):Int) - ((0:Nat):Int)=Builtin.Range.rangeSize lo hi 1:=by rw [rangeSize_one];split <;> omega
  show IsRangeIter _ _ (lo+((0:Nat):Int) * 1) ((((hi - lo).toNat:Nat):Int) - ((0:Nat):Int)) 1
  rw [e1,e2]
  exact Heap.get?_push_size _ rfl
 ·have e:b=(s.heap.push { cls:=.type "range",data:=.fields #[.int lo t,.int hi u,.int 1 v] }).objs.size:=by simpa using hb
  subst e
  exact I1.fpOk (Yaf _) (I1.hok.fresh (Yaf _))
def Zs(ta:TA):TI:=fun σ H R=>ta σ H λvs H1=>∃j:Int,vs=[.int j]/\-(2 ^ 62)<=j/\j < 2 ^ 62/\R (Itr 0 j.toNat) H1
theorem Op{a:Expr}{ta:TA}{p pos:Pos}(hg:Gl X "range") (hm:X.mg "range" = none) (ha:PA X [a] ta) (hs:starEach [a] X.env=[(false,eval a X.env)]:=by rfl):PI X tg (.Call (.Name "range" p) [a] [] pos) (Zs ta):=by
 intro aa s σ H R I h
 refine Call_ (C4 I hg hm boot_range (Ybm (thn (ha pos aa s σ H _ I h) λus s1 ky=>Ca ky λvs H1 I1 r1 q1=>?_) hs rfl))
 obtain⟨j,e,q1,q2,q⟩:=q1
 subst e
 cases r1 with
 | cons r rr =>
  cases rr
  obtain⟨t,rfl⟩:=r
  exact call_range_1 (Qb I1 (by omega) (by omega) q1 q2 (by simpa using q))
def Qdu(wi:TI)(g:TG)(tb:TS):TS:=λD σ H=>wi σ H λJ H1=>∃W:Nat->Nat->St->Hp->Prop,(∃m,W 0 m σ H1)/\∀i m σ H,W i m σ H ->
 (J.stop i H/\D.nx σ H)\/(J.go i H/\∃N:St->Hp->Prop,(∀ σ' H',N σ' H'->∃m',m' < m/\W (i+1) m' σ' H')/\∀x H',J.yld i H x H'->g x σ H' fun σ2 H2=>tb { D with nx:=N,ct:=N,bk:=D.nx } σ2 H2)
def Hc(fp:List Addr)(h:Heap):List (Addr×Obj):=fp.filterMap λb=>(h.get? b).map λo=>(b,o)
theorem Dx{fp:List Addr}{h:Heap}{b:Addr}{o:Obj}(hb:b∈fp)(e:h.get? b=some o):(b,o)∈Hc fp h:=List.mem_filterMap.mpr ⟨b,hb,by rw [e];rfl⟩
theorem Oq{fp:List Addr}{h:Heap}{p:Addr×Obj}(hp:p∈Hc fp h):p.1∈fp/\h.get? p.1=some p.2:=by
 obtain⟨b,hb,e⟩:=List.mem_filterMap.mp hp
 cases q:h.get? b with
 | none=>rw [q]at e;cases e
 | some o =>
  rw [q]at e
  have e':(b,o)=p:=Ya1 e
  subst e'
  exact⟨hb,q⟩
theorem Inv.pinned{aa:List (Addr×Obj)}{σ:St}{H:Hp}{s:Shared}{fp:List Addr}(I:Inv X aa σ H s)(hf:∀b∈fp,Ff X aa H b)(ho:∀b∈fp,∃o,s.heap.get? b=some o/\∀v,o.data≠.cell v):Inv X (aa++Hc fp s.heap) σ H s :=
 I.pins_of λp hp=>(Yaw.mp hp).elim (λz=>I.pin p (Ya2 _ z)) λz=>by
  obtain⟨hb,e⟩:=Oq z
  obtain⟨f0,f1,f2,_⟩:=hf p.1 hb
  obtain⟨o,e',d⟩:=ho p.1 hb
  rw [e]at e';cases e'
  exact⟨e,f0,f1,f2,d⟩
theorem Inv.unpinned{aa pl:List (Addr×Obj)}{σ:St}{H:Hp}{s:Shared}(I:Inv X (aa++pl) σ H s):Inv X aa σ H s:=I.pins_of λp hp=>I.pin p (Ya2 _ (Ydm _ hp))
theorem Wz{ap:Expr}{body:List Stmt}{wi:TI}{g:TG}{tb:TS}{pos:Pos}(hp:PassesOwn (model X.prog X.w) X.A X.env X.xe)(hc:X.calm=true)(hi:PI X tg ap wi)(hg:PG X tg g)(hb:PSs X body tb)
  (hs:∀x,foldedSetIterable ap X.env x=pure x:=by intro _;rfl):PS X (.For tg ap body [] pos) (Qdu wi g tb):=by
 intro aa s σ H D I h
 refine wpAny_For (thn (hi aa s σ H _ I h) λv s1 h1=>thn h1 λqt s2 h2=>?_) hs
 obtain⟨it,fp,tn,J,H2,e,I2,T,st2,f2,W,⟨m0,w0⟩,turn⟩:=h2
 subst e
 have dz:∀{H':Hp},(∀b∈fp,H' b=none)->∀b∈fp,Ff X aa H' b:=λhn b hb=>⟨hn b hb,(f2 b hb).2⟩
 refine codeAny_forLoop_any (λn s'=>∃i σ' H',Inv X aa σ' H' s'/\tn i s'.heap/\(∀b∈fp,H' b=none)/\W i n σ' H') ?_ m0 ⟨0,σ,H2,I2,st2,λb hb=>(f2 b hb).1,w0⟩
 rintro n s3 ⟨i,σ3,H3,I3,st3,fr3,w3⟩
 rcases turn i n σ3 H3 w3 with⟨stop,qn⟩ | ⟨go,N,hN,step⟩
 ·refine Yb5 hp (thn (T.done X rfl rfl rfl hc i aa s3 σ3 H3 X.xe I3 (dz fr3) st3 stop) λr s4 ⟨hr,I4⟩=>?_)
  subst hr
  exact Ycu ⟨σ3,H3,I4,qn⟩
 ·refine Yb5 hp (thn (T.item X rfl rfl rfl hc i aa s3 σ3 H3 X.xe I3 (dz fr3) st3 go) λr s4 ⟨u,hr,h4⟩=>?_)
  subst hr
  refine Yb5 hp (thn h4 λ_ s5 j2=>?_)
  obtain⟨x,H5,I5,r5,y5,st5,fr5⟩:=j2
  have I5':=I5.pinned (dz fr5) (T.obj _ _ st5)
  refine Yb5 hp (thn (hg _ s5 σ3 H5 x u _ I5' r5 (step x H5 y5)) λ_ s6 m5=>?_)
  obtain⟨σ6,H6,I6,q6⟩:=m5
  refine Yb5 hp (thn (hb _ s6 σ6 H6 _ I6 q6) λf s7 q7=>?_)
  have again:∀{σ7:St} {H7:Hp},Inv X (aa++Hc fp s5.heap) σ7 H7 s7->N σ7 H7->∃m,m < n/\∃i σ' H',Inv X aa σ' H' s7/\tn i s7.heap/\(∀b∈fp,H' b=none)/\W i m σ' H':=λ{σ7 H7} I7 n7=>by
   obtain⟨m',hm,w7⟩:=hN σ7 H7 n7
   refine⟨m',hm,i+1,σ7,H7,I7.unpinned,T.keep _ _ _ st5 λb hb o e=>(I7.pin (b,o) (Ya2 _ (Ya2 _ (Dx hb e)))).1,λb hb=>?_,w7⟩
   obtain⟨o,e,d⟩:=T.obj _ _ st5 b hb
   exact(I7.pin (b,o) (Ya2 _ (Ya2 _ (Dx hb e)))).2.1
  cases f with
  | next=>obtain⟨σ7,H7,I7,n7⟩:=q7;exact again I7 n7
  | cont=>obtain⟨σ7,H7,I7,n7⟩:=q7;exact again I7 n7
  | brk=>obtain⟨σ7,H7,I7,q7⟩:=q7;exact⟨σ7,H7,I7.unpinned,q7⟩
  | ret v=>obtain⟨x7,σ7,H7,I7,r7,q7⟩:=q7;exact⟨x7,σ7,H7,I7.unpinned,r7,q7⟩
end
abbrev R2:=V->V->Hp->VK->Prop
def Fg(X:Cx)(f:Value->Value->Sem Value)(r:R2):Prop :=
 ∀(aa:List (Addr×Obj)) (s:Shared) (σ:St) (H:Hp) (x y:V) (v u:Value) (Q:VK),Inv X aa σ H s->Bi x v->Bi y u->r x y H Q ->
  wpAny (model X.prog X.w) X.A (f v u) (EP X aa σ Q) X.xe s
def UnR(X:Cx)(f:Value->Sem Value)(r:V->Hp->VK->Prop):Prop :=
 ∀(aa:List (Addr×Obj)) (s:Shared) (σ:St) (H:Hp) (x:V) (v:Value) (Q:VK),Inv X aa σ H s->Bi x v->r x H Q ->
  wpAny (model X.prog X.w) X.A (f v) (EP X aa σ Q) X.xe s
def Ec(X:Cx)(f:Value)(r:List V->Hp->VK->Prop):Prop :=
 ∀(aa:List (Addr×Obj)) (s:Shared) (σ:St) (H:Hp) (xs:List V) (us:List Value) (Q:VK),Inv X aa σ H s->Vals xs us->r xs H Q ->
  wpAny (model X.prog X.w) X.A (call f us) (EP X aa σ Q) X.xe s
def Zt(r:R2)(ta tb:TE):TE:=fun σ H Q=>ta σ H λx H1=>tb σ H1 λy H2=>r x y H2 Q
def tUn(r:V->Hp->VK->Prop)(ta:TE):TE:=fun σ H Q=>ta σ H λx H1=>r x H1 Q
def rI(C:Int->Int->Prop)(g:Int->Int->V):R2:=λx y H Q=>∃i j,x=.int i/\y=.int j/\C i j/\Q (g i j) H
def Tf(g:Int->Int->V):R2:=λx y H Q=>∃i j,x=.int i/\y=.int j/\Q (g i j) H
def rU(g:Int->V):V->Hp->VK->Prop:=λx H Q=>∃i,x=.int i/\Q (g i) H
section
variable {X:Cx}{a b c:Expr}{ta tb tc:TE}{pos:Pos}
theorem W0(ha:PE X a ta)(hb:PE X b tb){aa:List (Addr×Obj)}{s:Shared}{σ:St}{H:Hp}{R:V->V->Hp->Prop}(I:Inv X aa σ H s)
  (h:ta σ H λx H1=>tb σ H1 λy H2=>R x y H2) {Q:Value->Shared->Prop} {f:Value->Value->Sem Value}
  (hf:∀v u s2 x y H2,Inv X aa σ H2 s2->Bi x v->Bi y u->R x y H2->wpAny (model X.prog X.w) X.A (f v u) Q X.xe s2) :
  wpAny (model X.prog X.w) X.A (eval a X.env) (λv s₁=>wpAny (model X.prog X.w) X.A (eval b X.env) (λu s₂=>wpAny (model X.prog X.w) X.A (f v u) Q X.xe s₂) X.xe s₁) X.xe s:=by
 refine thn (ha aa s σ H _ I h) λv s1 kl=>Ca kl λx H1 I1 r1 q1=>?_
 refine thn (hb aa s1 σ H1 _ I1 q1) λu s2 lh=>Ca lh λy H2 I2 r2 q2=>?_
 exact hf v u s2 x y H2 I2 r1 r2 q2
theorem Zu{op:Operator}{r:R2}(ho:Fg X (binaryOp op) r)(ha:PE X a ta)(hb:PE X b tb):PE X (.BinOp a op b pos) (Zt r ta tb):=by
 intro aa s σ H Q I h
 exact wpAny_BinOp (W0 ha hb I h λv u s2 x y H2 I2 rx ry q=>ho aa s2 σ H2 x y v u Q I2 rx ry q)
theorem Zv{op:UnaryOp}{r:V->Hp->VK->Prop}(ho:UnR X (unaryOp op) r)(ha:PE X a ta):PE X (.UnaryOp op a pos) (tUn r ta):=by
 intro aa s σ H Q I h
 exact UnaryOp_ (thn (ha aa s σ H _ I h) λv s1 mz=>Ca mz λx H1 I1 r1 q1=>ho aa s1 σ H1 x v Q I1 r1 q1)
theorem opI{f:Value->Value->Sem Value}{C:Int->Int->Prop}{g:Int->Int->Int}
  (rule:∀(i j:Int) (t u:Tok) (s:Shared) (Q:Value->Shared->Prop) (E:Value->Shared->Prop),C i j->Q (.int (g i j) s.toks) { s with toks:=s.toks+1 }->wpAny (model X.prog X.w) X.A (f (.int i t) (.int j u)) Q E s) :
  Fg X f (rI C λi j=>.int (g i j)):=by
 intro aa s σ H x y v u Q I rx ry h
 obtain⟨i,j,rfl,rfl,hc,q⟩:=h
 obtain⟨t,rfl⟩:=rx
 obtain⟨t',rfl⟩:=ry
 exact rule i j t t' s _ _ hc ⟨.int (g i j),H,I.tok _,⟨_,rfl⟩,q⟩
theorem Zw{f:Value->Value->Sem Value}{g:Int->Int->Int}
  (rule:∀(i j:Int) (t u:Tok) (s:Shared) (Q:Value->Shared->Prop) (E:Value->Shared->Prop),Q (.int (g i j) s.toks) { s with toks:=s.toks+1 }->wpAny (model X.prog X.w) X.A (f (.int i t) (.int j u)) Q E s) :
  Fg X f (Tf λi j=>.int (g i j)):=by
 intro aa s σ H x y v u Q I rx ry h
 obtain⟨i,j,rfl,rfl,q⟩:=h
 obtain⟨t,rfl⟩:=rx
 obtain⟨t',rfl⟩:=ry
 exact rule i j t t' s _ _ ⟨.int (g i j),H,I.tok _,⟨_,rfl⟩,q⟩
theorem Tg{f:Value->Value->Sem Value}{g:Int->Int->Bool}
  (rule:∀(i j:Int) (t u:Tok) (s:Shared) (Q:Value->Shared->Prop) (E:Value->Shared->Prop),Q (.bool (g i j)) s->wpAny (model X.prog X.w) X.A (f (.int i t) (.int j u)) Q E s) :
  Fg X f (Tf λi j=>.bl (g i j)):=by
 intro aa s σ H x y v u Q I rx ry h
 obtain⟨i,j,rfl,rfl,q⟩:=h
 obtain⟨t,rfl⟩:=rx
 obtain⟨t',rfl⟩:=ry
 exact rule i j t t' s _ _ ⟨.bl (g i j),H,I,rfl,q⟩
def CDiv(i j:Int):Prop:=0 < j/\j < 1073741824
def CPow(i j:Int):Prop:=0<=j/\j<=1000000/\i.natAbs < 2 ^ 64
def CMul(i j:Int):Prop:=(-(2 ^ 64) < i/\i < 2 ^ 64)\/(-(2 ^ 64) < j/\j < 2 ^ 64)
theorem CMul.ok{i j:Int}(h:CMul i j):IntMulOk i j:=by
 rcases h with⟨h1,h2⟩ | ⟨h1,h2⟩
 ·exact .of_left (intBits_le_64 h1 h2)
 ·exact .of_right (intBits_le_64 h1 h2)
theorem W1:Fg X (binaryOp .Add) (Tf λi j=>.int (i+j)):=Zw λ_ _ _ _ _ _ _ q=>add_int q
theorem W4:Fg X (binaryOp .Sub) (Tf λi j=>.int (i - j)):=Zw λ_ _ _ _ _ _ _ q=>sub_int q
theorem W5:Fg X (binaryOp .Mult) (rI CMul λi j=>.int (i * j)):=opI λ_ _ _ _ _ _ _ hc q=>mul_int q hc.ok
theorem Th:Fg X (binaryOp .FloorDiv) (rI CDiv λi j=>.int (i / j)):=opI λi j _ _ _ _ _ hc q=>by
 have h1:(0:Int) < j:=hc.1
 have h2:j < 1073741824:=hc.2
 exact floordiv_int (by omega) (by rw [Int.fdiv_eq_ediv_of_nonneg i (by omega)];exact q) (.inl (PyProof.noPylong_small (by omega)))
theorem W6:Fg X (binaryOp .Mod) (rI (λ_ j=>0 < j) λi j=>.int (i % j)):=opI λi j _ _ _ _ _ hc q=>by
 have h1:(0:Int) < j:=hc
 exact mod_int' (by omega) (by rw [Int.fmod_eq_emod_of_nonneg i (by omega)];exact q)
theorem W7:Fg X (binaryOp .Pow) (rI CPow λi j=>.int (i ^ j.toNat)):=opI λ_ _ _ _ _ _ _ hc q=>pow_int_small hc.1 hc.2.1 hc.2.2 q
theorem unI{f:Value->Sem Value}{g:Int->Int}
  (rule:∀(i:Int) (t:Tok) (s:Shared) (Q:Value->Shared->Prop) (E:Value->Shared->Prop),Q (.int (g i) s.toks) { s with toks:=s.toks+1 }->wpAny (model X.prog X.w) X.A (f (.int i t)) Q E s) :
  UnR X f (rU λi=>.int (g i)):=by
 intro aa s σ H x v Q I rx h
 obtain⟨i,rfl,q⟩:=h
 obtain⟨t,rfl⟩:=rx
 exact rule i t s _ _ ⟨.int (g i),H,I.tok _,⟨_,rfl⟩,q⟩
theorem W8:UnR X (unaryOp .USub) (rU λi=>.int (-i)):=unI λ_ _ _ _ _ q=>neg_int q
end
section
variable {X:Cx}{a b c:Expr}{ta tb tc:TE}{pos:Pos}
theorem L8{aa:List (Addr×Obj)}{σ:St}{H:Hp}{s:Shared}{Q:VK}{k k':Bool}(I:Inv X aa σ H s)(q:Q (.bl k) H)(e:k=k'):EP X aa σ Q (.bool k') s:=by
 subst e
 exact⟨.bl k,H,I,rfl,q⟩
theorem Zx:Fg X (compareOp .Lt) (Tf λi j=>.bl (decide (i < j))):=Tg λ_ _ _ _ _ _ _ q=>lt_int q
theorem Zy:Fg X (compareOp .LtE) (Tf λi j=>.bl (decide (i<=j))):=Tg λ_ _ _ _ _ _ _ q=>le_int q
theorem Zz:Fg X (compareOp .Gt) (Tf λi j=>.bl (decide (j < i))):=Tg λ_ _ _ _ _ _ _ q=>gt_int q
theorem Z0:Fg X (compareOp .GtE) (Tf λi j=>.bl (decide (j<=i))):=Tg λ_ _ _ _ _ _ _ q=>ge_int q
theorem Os:Fg X (compareOp .In) (λx y H Q=>∃i j,x=.str i/\y=.str j/\Q (.bl (!(Builtin.Str.occurrences j i 0 j.length 1).isEmpty)) H):=by
 intro aa s σ H x y v u Q I rx ry h
 obtain⟨i,j,rfl,rfl,q⟩:=h
 obtain⟨t,rfl⟩:=rx
 obtain⟨t',rfl⟩:=ry
 exact in_str (L8 I q rfl)
theorem nomark(b:Expr){op:CmpOp}(h:op≠.In:=by decide)(h2:op≠.NotIn:=by decide):behindInMarks op b=false:=by
 have e1:(op==CmpOp.In)=false:=by cases op <;> first | rfl | exact absurd rfl h
 have e2:(op==CmpOp.NotIn)=false:=by cases op <;> first | rfl | exact absurd rfl h2
 cases b <;> simp [behindInMarks,e1,e2]
theorem Ti{op:CmpOp}{r:R2}(ho:Fg X (compareOp op) r)(ha:PE X a ta)(hb:PE X b tb)(hm:behindInMarks op b=false):PE X (.Compare a [op] [b] pos) (Zt r ta tb):=by
 intro aa s σ H Q I h
 exact wpAny_Compare1 (W0 ha hb I h λv u s2 x y H2 I2 rx ry q=>ho aa s2 σ H2 x y v u Q I2 rx ry q) hm
def Qc(t:TE):TT:=fun σ H Q=>t σ H λx H'=>∃k,x=.bl k/\Q k H'
theorem Tj{op:CmpOp}{r:R2}(ho:Fg X (compareOp op) r)(ha:PE X a ta)(hb:PE X b tb)(hm:behindInMarks op b=false):PT X (.Compare a [op] [b] pos) (Qc (Zt r ta tb)):=by
 intro aa s σ H Q I h
 refine wpAny_isTrue_Compare1 (thn (ha aa s σ H _ I h) λv s1 oz=>Ca oz λx H1 I1 r1 q1=>thn (hb aa s1 σ H1 _ I1 q1) λu s2 mn=>Ca mn λy H2 I2 r2 q2 =>
  thn (ho aa s2 σ H2 x y v u _ I2 r1 r2 q2) λc s3 ⟨z,H3,I3,r3,k,e,q3⟩=>?_) hm
 subst e
 cases r3
 exact Ybp ⟨H3,I3,q3⟩
def L9(r r':R2)(ta tb tc:TE):TE:=fun σ H Q=>ta σ H λx H1=>tb σ H1 λy H2=>r x y H2 λz H3=>∃k,z=.bl k /\
 (if k=true then tc σ H3 λw' H4=>r' y w' H4 Q else Q (.bl false) H3)
theorem Qe{op d0:CmpOp}{r r':R2}(ho:Fg X (compareOp op) r)(bx:Fg X (compareOp d0) r')(ha:PE X a ta)(hb:PE X b tb)(hc:PE X c tc)
  (hm:lastMarks [op,d0] [b,c]=false:=by with_unfolding_all rfl):PE X (.Compare a [op,d0] [b,c] pos) (L9 r r' ta tb tc):=by
 intro aa s σ H Q I h
 refine Compare_chain (thn (ha aa s σ H _ I h) λv s1 kj=>Ca kj λx H1 I1 r1 q1=>chain_link (thn (hb aa s1 σ H1 _ I1 q1) λu s2 oe=>Ca oe λy H2 I2 r2 q2 =>
  thn (ho aa s2 σ H2 x y v u _ I2 r1 r2 q2) λd s3 ⟨z,H3,I3,r3,k,e,q3⟩=>?_)) hm
 subst e
 cases r3
 refine Ybp ?_
 cases k with
 | false=>exact ite_ff ⟨.bl false,H3,I3,rfl,q3⟩
 | true=>exact ite_tt (chain_last (thn (hc aa s3 σ H3 _ I3 q3) λw' s4 kq=>Ca kq λz' H4 I4 r4 q4=>bx aa s4 σ H4 y z' u w' Q I4 r2 r4 q4))
theorem Qf{op d0:CmpOp}{r r':R2}(ho:Fg X (compareOp op) r)(bx:Fg X (compareOp d0) r')(ha:PE X a ta)(hb:PE X b tb)(hc:PE X c tc)
  (hm:lastMarks [op,d0] [b,c]=false:=by with_unfolding_all rfl):PT X (.Compare a [op,d0] [b,c] pos) (Qc (L9 r r' ta tb tc)):=by
 intro aa s σ H Q I h
 refine isTrue_chain (thn (ha aa s σ H _ I h) λv s1 n9=>Ca n9 λx H1 I1 r1 q1=>test_link (thn (hb aa s1 σ H1 _ I1 q1) λu s2 j4=>Ca j4 λy H2 I2 r2 q2 =>
  thn (ho aa s2 σ H2 x y v u _ I2 r1 r2 q2) λd s3 ⟨z,H3,I3,r3,k,e,q3⟩=>?_)) hm
 subst e
 cases r3
 refine Ybp ?_
 cases k with
 | false =>
  obtain⟨k',e',q'⟩:=q3
  cases e'
  exact ite_ff ⟨H3,I3,q'⟩
 | true =>
  refine ite_tt (test_last (thn (hc aa s3 σ H3 _ I3 q3) λw' s4 m8=>Ca m8 λz' H4 I4 r4 q4=>thn (bx aa s4 σ H4 y z' u w' _ I4 r2 r4 q4) λd' s5 n8=>?_))
  obtain⟨z2,H5,I5,r5,k2,e2,q5⟩:=n8
  subst e2
  cases r5
  exact Ybp ⟨H5,I5,q5⟩
theorem Hd:(sizeLine:Nat) < 2 ^ 63:=by rw [Ydo];decide
theorem Ma:Fg X (binaryOp .Add) (λx y H Q=>∃i j,x=.str i/\y=.str j/\i.length+j.length<=sizeLine/\Q (.str (i++j)) H):=by
 intro aa s σ H x y v u Q I rx ry h
 obtain⟨i,j,rfl,rfl,hz,q⟩:=h
 obtain⟨t,rfl⟩:=rx
 obtain⟨t',rfl⟩:=ry
 exact add_str (λt' tk=>⟨.str (i++j),H,I.tok _,⟨_,rfl⟩,q⟩) hz
theorem D9{x:V}{us:List Value}(r:Vals [x] us):∃u,us=[u]/\Bi x u:=by
 cases r with
 | cons r1 r2=>cases r2;exact⟨_,rfl,r1⟩
theorem Z1{x y:V}{us:List Value}(r:Vals [x,y] us):∃u w',us=[u,w']/\Bi x u/\Bi y w':=by
 cases r with
 | cons r1 r2 =>
  cases r2 with
  | cons r3 r4=>cases r4;exact⟨_,_,rfl,r1,r3⟩
theorem Ot(hc:X.calm=true):Ec X (.builtin "max") (λxs H Q=>∃i j,xs=[.int i,.int j]/\Q (.int (if j > i then j else i)) H):=by
 intro aa s σ H xs us Q I r h
 obtain⟨i,j,rfl,q⟩:=h
 obtain⟨u,w',rfl,⟨t,rfl⟩,⟨t',rfl⟩⟩:=Z1 r
 refine max_two_ints (I.ok.hd hc) λh' tk k=>⟨_,H,I.kept k,?_,q⟩
 by_cases hj:j > i
 ·rw [Yaq hj,Yaq hj];exact⟨_,rfl⟩
 ·rw [Yan hj,Yan hj];exact⟨_,rfl⟩
theorem Iu:Ec X (.type "int") (λxs H Q=>(∃i,xs=[.int i]/\Q (.int i) H)\/∃k,xs=[.bl k]/\Q (.int (if k then 1 else 0)) H):=by
 intro aa s σ H xs us Q I r h
 rcases h with⟨i,rfl,q⟩ | ⟨k,rfl,q⟩
 ·obtain⟨u,rfl,t,rfl⟩:=D9 r
  exact call_int_int ⟨.int i,H,I,⟨_,rfl⟩,q⟩
 ·obtain⟨u,rfl,r1⟩:=D9 r
  cases r1
  exact call_int_bool ⟨.int (if k then 1 else 0),H,I.tok _,⟨_,rfl⟩,q⟩
end
theorem Fx{h:Heap}{dx:Addr}{mA:Str->Option Value}(n:h.Ns1 dx mA):∃od,h.get? dx=some od/\∀name,PySem.W.lookIn name od=some (mA name):=by
 obtain⟨o,es,ep,ho,hd,hk,_,hm⟩:=n
 refine⟨o,ho,λname=>?_⟩
 have e:=hm name
 unfold nsFind findBy at e
 rw [<- Array.find?_toList]at e
 unfold PySem.W.lookIn
 rw [hd]
 dsimp only
 split
 ·rename_i y q
  rw [q]at e
  exact Ybb some e
 ·rename_i q
  rw [q]at e
  have a:es.toList.any (·.refKey)=false:=by
   rw [List.any_eq_false]
   intro y hy
   obtain⟨z,t,hkey⟩:=hk y (Array.mem_toList_iff.mp hy)
   simp [DictEntry.refKey,hkey]
  have a':¬es.toList.any (·.refKey)=true:=by rw [a];exact Yas
  rw [Yan a']
  exact Ybb some e
section
variable {prog:Program}{w:World}{A:Around}{E:Value->Shared->Prop}{s:Shared}{K:PySem.W.Frag}{x dx C f:Addr}{mA:Str->Option Value}{name:Str}{v:Value}
end
def Gu(f:Str)(v:V):List (Str×V)->List (Str×V)
 | []=>[(f,v)]
 | (g,x) :: r=>if g=f then(g,v) :: r else(g,x) :: Gu f v r
theorem Gj(f g:Str)(v:V):∀fs:List (Str×V),(Gu f v fs).lookup g=if g=f then some v else fs.lookup g
 | []=>by
  show List.lookup g [(f,v)]=_
  by_cases h:g=f
  ·have hb:(g==f)=true:=Ydn.mpr h
   simp only [List.lookup,hb,if_pos h]
  ·have hb:(g==f)=false:=Ybv.mpr h
   simp only [List.lookup,hb,if_neg h]
 | (k,x) :: r=>by
  have ih:=Gj f g v r
  rw [show Gu f v ((k,x) :: r)=(if k=f then(k,v) :: r else(k,x) :: Gu f v r) from rfl]
  by_cases hk:k=f
  ·rw [Yaq hk]
   by_cases h:g=k
   ·have hb:(g==k)=true:=Ydn.mpr h
    simp only [List.lookup,hb,if_pos (h.trans hk)]
   ·have hb:(g==k)=false:=Ybv.mpr h
    simp only [List.lookup,hb,if_neg (λe:g=f=>h (e.trans hk.symm))]
  ·rw [Yan hk]
   by_cases h:g=k
   ·have hb:(g==k)=true:=Ydn.mpr h
    simp only [List.lookup,hb,if_neg (λe:g=f=>hk (h.symm.trans e))]
   ·have hb:(g==k)=false:=Ybv.mpr h
    simp only [List.lookup,hb]
    exact ih
theorem Fy(f:Str)(v:V):∀fs:List (Str×V),f∈(Gu f v fs).map (·.1)/\∀g,g∈fs.map (·.1)->g∈(Gu f v fs).map (·.1)
 | []=>⟨by simp [Gu],λg h=>by simp at h⟩
 | (k,x) :: r=>by
  obtain⟨i1,i2⟩:=Fy f v r
  rw [show Gu f v ((k,x) :: r)=(if k=f then(k,v) :: r else(k,x) :: Gu f v r) from rfl]
  by_cases hk:k=f
  ·rw [Yaq hk]
   subst hk
   exact⟨by simp,λg h=>by simpa using h⟩
  ·rw [Yan hk]
   refine⟨?_,λg h=>?_⟩
   ·rw [Yaz]
    exact Yao _ i1
   ·rw [Yaz]at h ⊢
    rcases Ya8.mp h with e | e
    ·exact Ya8.mpr (.inl e)
    ·exact Yao _ (i2 g e)
theorem Eb.some_of{v:V}{o:Option Value}(r:Eb (some v) o):∃u,o=some u/\Bi v u:=by
 cases o with
 | none=>exact(show False from r).elim
 | some u=>exact⟨u,rfl,r⟩
theorem Ou{v:V}{u:Value}(r:Bi v u):PySem.W.handedIn u=true:=by
 cases v with
 | non=>cases (show u=Value.none from r);rfl
 | bl b=>cases (show u=Value.bool b from r);rfl
 | int i=>obtain⟨t,e⟩:=(show ∃t,u=Value.int i t from r);cases e;rfl
 | str x=>obtain⟨t,e⟩:=(show ∃t,u=Value.str x t from r);cases e;rfl
 | byt b=>obtain⟨t,e⟩:=(show ∃t,u=Value.bytes b t from r);cases e;rfl
 | flt b=>obtain⟨t,e⟩:=(show ∃t,u=Value.float b t from r);cases e;rfl
 | ref a=>cases (show u=Value.ref a from r);rfl
 | ty n=>cases (show u=Value.type n from r);rfl
section
variable {P:Program}{w:World}{H H':Hp}{h h':Heap}{a C dx:Addr}{fs fs':List (Str×V)}
end
def Dl(K:PySem.W.Frag)(C:Addr)(f:Str):Prop:=PySem.W.findIn K (.ref C) f=some none
section
variable {X:Cx}{aa:List (Addr×Obj)}{σ:St}{H:Hp}{s:Shared}{a C dx:Addr}{fs:List (Str×V)}{f:Str}{v:V}{A:Around}{E:Value->Shared->Prop}
theorem Tk{prog:Program}{w:World}{env:Env}{e:Expr}{f:Str}{pos:Pos}{s:Shared}{Q:Value->Shared->Prop}(hb:attributeBase e f env (eval e env)=eval e env)
  (h:wpAny (model prog w) A (eval e env) (λo s₁=>wpAny (model prog w) A (getAttr o f true) Q E s₁) E s):wpAny (model prog w) A (eval (.Attribute e f pos) env) Q E s :=
 Attribute_any_ h (by rw [arm_eval_Attribute,hb])
end
section
variable {X:Cx}{o e value:Expr}{f:Str}{pos be jm:Pos}{ta tv:TE}
end
section
variable {X:Cx}{aa:List (Addr×Obj)}{σ:St}{H:Hp}{s:Shared}{A:Around}{E:Value->Shared->Prop}{Q:Value->Shared->Prop}{c:Value}{b:Bool}
end
structure Room(k:Nat)(A:Around):Prop where
 hd:A.handled=none
 dp:A.depth+3 * k+5 < recursionLimit
 un:A.units+16 * k+200 < cLine
 gd:A.guards=some []
theorem Room.mono{j k:Nat}{A:Around}(r:Room k A)(h:j<=k):Room j A:=⟨r.hd,by have:=r.dp;omega,by have:=r.un;omega,r.gd⟩
theorem Room.deeper{k:Nat}{A:Around}(r:Room (k+1) A)(env:Env):Room k (A.deeper env) :=
 ⟨r.hd,by have:=r.dp;show A.depth+1+3 * k+5 < _;omega,by have:=r.un;show A.units+3+16 * k+200 < _;omega,r.gd⟩
theorem Mb{A:Around}{C:Addr}{us:List Value}{kw:List (Str×Value)}:(A.under (.builtin "type.__call__" ⟨.ref C :: us,kw⟩)).depth=A.depth+1:=by
 first | rfl | simp [Around.under,Code.weight,Code.isCreation,Code.isGuard,Code.isCaller,Code.frames,Code.isFrame,guardIds]
theorem Mc{A:Around}{C:Addr}{us:List Value}{kw:List (Str×Value)}:(A.under (.builtin "type.__call__" ⟨.ref C :: us,kw⟩)).units=A.units+1:=by
 first | rfl | simp [Around.under,Code.cUnits,Code.frames,Code.isFrame]
theorem Room.make{k:Nat}{A:Around}(r:Room (k+1) A)(C:Addr)(us:List Value)(kw:List (Str×Value)):Room k (A.under (.builtin "type.__call__" ⟨.ref C :: us,kw⟩)) :=
 ⟨r.hd,by have:=r.dp;rw [Mb];omega,by have:=r.un;rw [Mc];omega,r.gd⟩
theorem Room.depth{k:Nat}{A:Around}(r:Room k A):A.depth < recursionLimit:=by have:=r.dp;omega
theorem Room.units{k:Nat}{A:Around}(r:Room k A):A.units+64 < cLine:=by have:=r.un;omega
def Qdw:TA:=λ_ H Q=>Q [] H
def Z5(ta:TE)(tr:TA):TA:=fun σ H Q=>ta σ H λx H1=>tr σ H1 λxs H2=>Q (x :: xs) H2
section
variable {X:Cx}{e:Expr}{es:List Expr}{te:TE}{t:TA}{pos:Pos}
theorem Qg:PA X [] Qdw:=λ_ _ _ _ H Q I h=>Ybq ⟨[],H,I,.nil,h⟩
theorem Nd(ha:PE X e te)(hr:PA X es t)(hs:starEach (e :: es) X.env=(false,eval e X.env) :: starEach es X.env:=by rfl):PA X (e :: es) (Z5 te t):=by
 intro pos aa s σ H Q I h
 rw [hs]
 show wpAny _ _ (spliced ((false,eval e X.env) :: backTo pos (starEach es X.env))) _ _ s
 refine Ya3 (thn (ha aa s σ H _ I h) λu s1 pq=>Ca pq λx H1 I1 r1 q1=>?_)
 exact thn (hr pos aa s1 σ H1 _ I1 q1) λus s2 jz=>Ca jz λxs H2 I2 r2 q2=>⟨x :: xs,H2,I2,.cons r1 r2,q2⟩
def Qdx(t:TA):TE:=fun σ H Q=>t σ H λxs H1=>xs.length<=sizeLine/\∀p,H1 p=none->Q (.ref p) (upd H1 p (.tup xs))
def Qdy(t:TA):TE:=fun σ H Q=>t σ H λxs H1=>xs.length<=sizeLine/\∀p,H1 p=none->Q (.ref p) (upd H1 p (.lst xs))
theorem Md{x1}(h:PA X es t):PE X (.Tuple es x1 pos) (Qdx t):=by
 intro aa s σ H Q I hq
 refine wpAny_Tuple_spliced (thn (h pos aa s σ H _ I hq) λus s1 ⟨xs,H1,I1,r,z,q⟩=>⟨by rw [<- r.length];exact z,?_⟩)
 have hf:H1 s1.heap.objs.size=none:=I1.hok.fresh (Yaf _)
 refine⟨.ref s1.heap.objs.size,upd H1 s1.heap.objs.size (.tup xs),I1.laid (t':=s1.toks) (λb u e=>Heap.get?_push_of_some _ e) (Yaf _) ?_,rfl,q _ hf⟩
 exact⟨⟨z,.inl (Vg.new _ rfl)⟩,us,r,⟨_,Heap.get?_push_size _ rfl,rfl,_,rfl⟩⟩
theorem W9(h:PA X es t):PE X (.List es pos) (Qdy t):=by
 intro aa s σ H Q I hq
 refine wpAny_List_spliced (thn (h pos aa s σ H _ I hq) λus s1 ⟨xs,H1,I1,r,z,q⟩=>⟨by rw [<- r.length];exact z,?_⟩)
 have hf:H1 s1.heap.objs.size=none:=I1.hok.fresh (Yaf _)
 refine⟨.ref s1.heap.objs.size,upd H1 s1.heap.objs.size (.lst xs),I1.laid (t':=s1.toks) (λb u e=>Heap.get?_push_of_some _ e) (Yaf _) ?_,rfl,q _ hf⟩
 exact⟨z,us,0,r,Heap.get?_push_size _ rfl⟩
end
abbrev Sp:=List V->Hp->VK->XK->Prop
abbrev CXT:=List Env->Hp->Shared->XK->Value->Shared->Prop
structure Env0(P:Program)(w:World)(K:PySem.W.Frag)(mg:Str->Option Value)(base:Heap)(A:Around)(outer:List Env)(s:Shared)(H:Hp):Prop where
 frames:A.frames=some outer
 mod:Mod K mg base
 bs:∀b o,base.get? b=some o->s.heap.get? b=some o/\H b=none
 bsz:base.objs.size<=s.heap.objs.size
 funs:s.heap.FunFrames base outer
 frf:∀b∈frs outer,H b=none
 hok:HOk P w H s.heap
 bare:AllBare s.gens
def CE(outer:List Env)(P:Program)(w:World)(H:Hp)(s:Shared)(Q:VK)(u:Value)(s':Shared):Prop :=
 ∃v H',s'.os=s.os/\AllBare s'.gens/\Un (frs outer) [] H H' s.heap s'.heap/\HOk P w H' s'.heap/\Bi v u/\Q v H'
def CR(CX:CXT)(outer:List Env)(P:Program)(w:World)(H:Hp)(s:Shared)(Q:VK)(E:XK)(r:Result)(s':Shared):Prop :=
 match r with
 | .ok (.ret u)=>CE outer P w H s Q u s'
 | .ok _=>False
 | .error e=>CX outer H s E e s'
structure FnOk(P:Program)(w:World)(K:PySem.W.Frag)(mg:Str->Option Value)(base:Heap)(CX:CXT)(k:Nat)(f:Addr)(fd:FuncData)(ps:List Str)(sp:Sp):Prop where
 len:∀vs H Q E,sp vs H Q E->vs.length=ps.length
 run:∀(A:Around) (outer:List Env) (s:Shared) (H:Hp) (args:Args) (us:List Value) (vs:List V) (Q:VK) (E:XK),Room k A->Env0 P w K mg base A outer s H->BindsTo s fd args (ps.zip us)->Vals vs us->sp vs H Q E ->
  codeAny (model P w) A (.call (.ref f) args) (CR CX outer P w H s Q E) s
theorem FnOk.mono{P:Program}{w:World}{K:PySem.W.Frag}{mg:Str->Option Value}{base:Heap}{CX:CXT}{j k:Nat}{f:Addr}{fd:FuncData}{ps:List Str}{sp:Sp}(F:FnOk P w K mg base CX j f fd ps sp)(h:j<=k) :
  FnOk P w K mg base CX k f fd ps sp:=⟨F.len,λA outer s H args us vs Q E hr=>F.run A outer s H args us vs Q E (hr.mono h)⟩
theorem FnOk.imp{P:Program}{w:World}{K:PySem.W.Frag}{mg:Str->Option Value}{base:Heap}{CX:CXT}{k:Nat}{f:Addr}{fd:FuncData}{ps:List Str}{sp z7:Sp}(F:FnOk P w K mg base CX k f fd ps sp)
  (h:∀vs H Q E,z7 vs H Q E->sp vs H Q E):FnOk P w K mg base CX k f fd ps z7 :=
 ⟨λvs H Q E q=>F.len vs H Q E (h _ _ _ _ q),λA outer s H args us vs Q E hr he hb hv hs=>F.run A outer s H args us vs Q E hr he hb hv (h _ _ _ _ hs)⟩
theorem Env0.make{P:Program}{w:World}{K:PySem.W.Frag}{mg:Str->Option Value}{base:Heap}{A:Around}{outer:List Env}{s:Shared}{H:Hp}(e:Env0 P w K mg base A outer s H)(C:Addr)(us:List Value)(kw:List (Str×Value)) :
  Env0 P w K mg base (A.under (.builtin "type.__call__" ⟨.ref C :: us,kw⟩)) outer s H:=⟨by first | exact e.frames | (simpa [Around.under,Code.envs,Code.isFrame,pushEnvs] using e.frames),e.mod,e.bs,e.bsz,e.funs,e.frf,e.hok,e.bare⟩
section
variable {X:Cx}{aa:List (Addr×Obj)}{σ:St}{H:Hp}{s s':Shared}
theorem Inv.env0(I:Inv X aa σ H s):Env0 X.prog X.w X.K X.mg X.base X.A X.stack s H :=
 ⟨I.ok.frames,I.ok.mod,I.bs,Yai I.ok.bsz I.sz,I.stack,I.stkFree,I.hok,I.bare⟩
theorem Inv.after{Q:VK}{u:Value}(I:Inv X aa σ H s)(h:CE X.stack X.prog X.w H s Q u s'):EP X aa σ Q u s':=by
 obtain⟨v,H',os,bare,un,hok,r,q⟩:=h
 obtain⟨hh,g,d,t,os'⟩:=s'
 obtain rfl:os'=s.os:=os
 exact⟨v,H',I.call (h':=hh) (g':=g) (d':=d) (t':=t) (ch:=[]) un hok bare (λb z=>absurd z (by simp)),r,q⟩
end
def Z6(sp:Sp)(il:List V)(E:XK)(t:TA):TE:=fun σ H Q=>t σ H λvs H1=>sp (vs++il) H1 Q E
def Binds(K:PySem.W.Frag)(fd:FuncData)(ps:List Str)(ds:List Value):Prop :=
 ∀(s:Shared) (us:List Value),K.In s.heap->(us++ds).length=ps.length->BindsTo s fd ⟨us,[]⟩ (ps.zip (us++ds))
theorem Binds.all{K:PySem.W.Frag}{fd:FuncData}{ps:List Str}(h:∀us:List Value,us.length=ps.length->bindArgs fd ⟨us,[]⟩=pure (ps.zip us)):Binds K fd ps []:=λs us _ hl=>by
 rw [Ybs]at hl ⊢
 exact .of_eq (h us hl)
def Passes(CX:CXT)(X:Cx)(E:XK):Prop:=∀(aa:List (Addr×Obj)) (σ:St) (H:Hp) (s:Shared) (e:Value) (s':Shared),Inv X aa σ H s->CX X.stack H s E e s'->X.xe e s'
section
variable {X:Cx}{CX:CXT}{k:Nat}{f C:Addr}{fd:FuncData}{ps:List Str}{sp:Sp}{il:List V}{ds:List Value}{E:XK}{x m:Str}{p pos bf:Pos}{e o:Expr}{es:List Expr}{ta:TE}{t:TA}
theorem Xa{aa:List (Addr×Obj)}{σ:St}{H:Hp}{s:Shared}{Q:VK}{us:List Value}{vs:List V}(F:FnOk X.prog X.w X.K X.mg X.base CX k f fd ps sp)(hr:Room k X.A)(hb:Binds X.K fd ps ds)(hd:Vals il ds)(hx:Passes CX X E)
  (I:Inv X aa σ H s) (r:Vals vs us) (h:sp (vs++il) H Q E):wpAny (model X.prog X.w) X.A (call (.ref f) us) (EP X aa σ Q) X.xe s:=by
 have r2:Vals (vs++il) (us++ds):=r.append hd
 have hl:(us++ds).length=ps.length:=by rw [<- r2.length];exact F.len _ _ _ _ h
 refine wpAny_call (Ydt (F.run X.A X.stack s H ⟨us,[]⟩ (us++ds) (vs++il) Q E hr I.env0 (hb s us I.kIn hl) r2 h) λr s' hq=>?_)
 cases r with
 | error e=>exact hx aa σ H s e s' I hq
 | ok fl =>
  cases fl with
  | ret u=>exact I.after hq
  | next=>exact False.elim hq
  | brk=>exact False.elim hq
  | cont=>exact False.elim hq
theorem Nf(F:FnOk X.prog X.w X.K X.mg X.base CX k f fd ps sp)(hr:Room k X.A)(hg:Gl X x)(hm:X.mg x=some (.ref f))(hk:PySem.W.keepIn X.K (.ref f)=true)(hb:Binds X.K fd ps ds)(hd:Vals il ds)(hx:Passes CX X E)
  (ha:PA X (e :: es) t) (hdb:(x==("__debug__" : Str))=false:=by decide) (he:starEach (e :: es) X.env=(false,eval e X.env) :: starEach es X.env:=by rfl) (hpl:(backTo pos (starEach es X.env)).any (·.1)=false:=by rfl) :
  PE X (.Call (.Name x p) (e :: es) [] pos) (Z6 sp il E t):=by
 intro aa s σ H Q I h
 refine Ya6 (Fe I hg hm ?_ hdb)
 refine PySem.W.callWith_K (h₀:=X.base) I.ok.mod.kin hk (thn (ha pos aa s σ H _ I h) λus s1 mx=>Ca mx λvs H1 I1 r q=>⟨I1.kIn,?_⟩) he hpl
 exact Xa F hr hb hd hx I1 r q
end
section
variable {X:Cx}{CX:CXT}{k:Nat}{f C:Addr}{fd:FuncData}{ps ks:List Str}{sp:Sp}{E:XK}{x m:Str}{p pos bf zad:Pos}{e o:Expr}{es:List Expr}{kws:List Keyword}{te ta:TE}{t tk:TA}{nm:Option Str}
variable {g:List Value->List Value->List Value}{gV:List V->List V->List V}
end
structure FnScope(N P:List Str)(sc:Scope):Prop where
 kind:sc.kind=.function
 co:sc.isCoroutine=false
 gen:sc.isGenerator=false
 nd:N.Nodup
 pre:N.take P.length=P
 par:∀x∈P,sc.names.lookup x=some .local\/sc.names.lookup x=some .cell
 nofree:∀y∈sc.names,y.2≠.free
theorem Iv{kindOf:Str->Option NameKind}{x:Str}:∀{binds:List (Str×Value)} {m:Str->Option Value},(∀v,(x,v)∉binds)->bindL kindOf binds m x=m x
 | [],_,_=>rfl
 | (n,v) :: r,m,h=>by
  unfold bindL
  rw [Iv λw hw=>h w (Yao _ hw)]
  split
  ·have:x≠n:=by rintro rfl;exact h v Yau
   simp [this]
  ·rfl
theorem Iw{kindOf:Str->Option NameKind}{x:Str}:∀{binds:List (Str×Value)} {m:Str->Option Value},(∀v,(x,v)∉binds)->bindC kindOf binds m x=m x
 | [],_,_=>rfl
 | (n,v) :: r,m,h=>by
  unfold bindC
  rw [Iw λw hw=>h w (Yao _ hw)]
  split
  ·rfl
  ·have:x≠n:=by rintro rfl;exact h v Yau
   simp [this]
theorem Ix{kindOf:Str->Option NameKind}{x:Str}{v:Value}:∀{P:List Str} {vs:List Value} {i:Nat} {m:Str->Option Value},P.Nodup->P[i]?=some x->vs[i]?=some v->kindOf x=some .local ->
  bindL kindOf (P.zip vs) m x=some v
 | [],_,_,_,_,h,_,_=>by simp at h
 | _ :: _,[],_,_,_,_,h,_=>by simp at h
 | p :: P,w :: vs,0,m,nd,h1,h2,hk=>by
  simp at h1 h2;subst h1;subst h2
  show bindL kindOf ((p,w) :: P.zip vs) m p=_
  unfold bindL
  rw [Iv λv hv=>(Ydp.mp nd).1 (List.of_mem_zip hv).1,Yaq hk]
  simp
 | p :: P,w :: vs,i+1,m,nd,h1,h2,hk=>by
  show bindL kindOf ((p,w) :: P.zip vs) m x=_
  unfold bindL
  exact Ix (i:=i) (Ydp.mp nd).2 (by simpa using h1) (by simpa using h2) hk
theorem Iy{kindOf:Str->Option NameKind}{x:Str}{v:Value}:∀{P:List Str} {vs:List Value} {i:Nat} {m:Str->Option Value},P.Nodup->P[i]?=some x->vs[i]?=some v->kindOf x≠some .local ->
  bindC kindOf (P.zip vs) m x=some v
 | [],_,_,_,_,h,_,_=>by simp at h
 | _ :: _,[],_,_,_,_,h,_=>by simp at h
 | p :: P,w :: vs,0,m,nd,h1,h2,hk=>by
  simp at h1 h2;subst h1;subst h2
  show bindC kindOf ((p,w) :: P.zip vs) m p=_
  unfold bindC
  rw [Iw λv hv=>(Ydp.mp nd).1 (List.of_mem_zip hv).1,Yan hk]
  simp
 | p :: P,w :: vs,i+1,m,nd,h1,h2,hk=>by
  show bindC kindOf ((p,w) :: P.zip vs) m x=_
  unfold bindC
  exact Iy (i:=i) (Ydp.mp nd).2 (by simpa using h1) (by simpa using h2) hk
def start(N:List Str)(vs:List V):St:=vs.map some++List.replicate (N.length - vs.length) none
def Fz(CX:CXT)(P:Program)(w:World)(K:PySem.W.Frag)(mg:Str->Option Value)(base:Heap)(N:List Str)(qual:Str)(scope:Scope)(f:Addr)(cd:Value)(A:Around)(outer:List Env)(s:Shared)(H:Hp)(E:XK):Cx where
 prog:=P
 w:=w
 K:=K
 mg:=mg
 base:=base
 A:=A.deeper (envOfC qual scope s.heap.objs.size f cd)
 N:=N
 s₀:=s
 H₀:=H
 env:=envOfC qual scope s.heap.objs.size f cd
 outer:=outer
 stack:=envOfC qual scope s.heap.objs.size f cd :: outer
 ex:=[]
 calm:=true
 fn:=λ_=>true
 pn:=[]
 xe:=λe s'=>wpAny (model P w) (A.deeper (envOfC qual scope s.heap.objs.size f cd)) («leaving» (envOfC qual scope s.heap.objs.size f cd) e) (λ_ qf=>CX outer H s E e qf) (λe' qf=>CX outer H s E e' qf) s'
theorem Kz{sc:Scope}{n:Nat}{x:Str}(h:sc.names.lookup x=some .cell):∃c,(cellsFrom n sc.names []).lookup x=some c:=by
 have q:=PySem.W.cellsFrom_some sc.names n [] (.inl h)
 exact Ycr.mp q
theorem Ov{CX:CXT}{P:Program}{w:World}{K:PySem.W.Frag}{mg:Str->Option Value}{base:Heap}{N ps:List Str}{qual:Str}{scope:Scope}{f:Addr}{cd:Value}{A:Around}{outer:List Env}{s s1:Shared}{H:Hp}{E:XK}{us:List Value}{vs:List V}
  (S:FnScope N ps scope) (hd:A.handled=none) (e0:Env0 P w K mg base A outer s H) (hl:vs.length=ps.length) (r:Vals vs us)
  (x:InCallC s s.heap.objs.size (bindL (envOfC qual scope s.heap.objs.size f cd).kindOf (ps.zip us) λ_=>none) (cellsFrom (s.heap.objs.size+1) scope.names []) (bindC (envOfC qual scope s.heap.objs.size f cd).kindOf (ps.zip us) λ_=>none) s1) :
  Inv (Fz CX P w K mg base N qual scope f cd A outer s H E) [] (start N vs) H s1:=by
 have hpl:ps.length<=N.length:=by have:=Ybb List.length S.pre;rw [Ya0]at this;omega
 obtain⟨h1,tk,rfl,hk⟩:=x.done
 have nv:∀b:Addr,b∉(Fz CX P w K mg base N qual scope f cd A outer s H E).ex:=λb z=>absurd (show b∈([]:List Addr) from z) (by simp)
 refine⟨⟨e0.mod,S.kind,rfl,rfl,Yaf _,λy z c h1 h2=>?_,λy hy=>?_,λy c _ h=>?_,λ_=>hd,Around.frames_deeper e0.frames,.inr ⟨rfl,rfl⟩,λb z=>absurd z (nv b),e0.bs,e0.bsz,λb _ _=>nv b,λb z=>absurd z (nv b),e0.funs,e0.frf⟩,
  rfl,e0.bare,Un.kept hk,⟨_,x.toInCall.ns,λi y v h1 h2 h3=>?_⟩,λy c h=>⟨_,x.cell y c h⟩,e0.hok.fresh (Yaf _),λy c h=>?_,λp hp=>absurd (show p∈([]:List (Addr×Obj)) from hp) (by simp),e0.hok.kept hk,?_⟩
 ·exact name_of_addr x.apart (Yb7 h1) (Yb7 h2)
 ·have hy:scope.names.lookup y=some .cell\/scope.names.lookup y=some .free:=hy
  rcases hy with hy | hy
  ·exact Kz hy
  ·exact absurd rfl (S.nofree _ (Yb7 hy))
 ·exact Nat.le_of_lt (x.above y c (Yb7 h))
 ·have hi:i < vs.length:=by
   unfold start at h2
   by_cases hi:i < vs.length
   ·exact hi
   ·rw [List.getElem?_append_right (by simpa using hi)]at h2
    rw [List.getElem?_replicate]at h2
    split at h2 <;> cases h2
  have ha:vs[i]?=some v:=by
   unfold start at h2
   rw [List.getElem?_append_left (by simpa using hi),List.getElem?_map]at h2
   cases e:vs[i]? with
   | none=>rw [e]at h2;cases h2
   | some a=>rw [e]at h2;cases h2;rfl
  obtain⟨u,hu,rv⟩:=r.get ha
  have hp:ps[i]?=some y:=by
   rw [<- S.pre,List.getElem?_take_of_lt (by omega)];exact h1
  have z9:ps.Nodup:=by rw [<- S.pre];exact S.nd.sublist (List.take_sublist _ _)
  refine⟨u,rv,?_⟩
  rcases S.par y (Ybg hp) with k | k
  ·exact .inl ⟨k,Ix z9 hp hu k⟩
  ·obtain⟨c,e⟩:=Kz (n:=s.heap.objs.size+1) k
   refine .inr ⟨.inl k,c,e,?_⟩
   have q:=x.cell y c e
   rw [Iy z9 hp hu (by show scope.names.lookup y≠_;rw [k];decide)]at q
   exact q
 ·exact e0.hok.fresh (Nat.le_of_lt (x.above y c (Yb7 h)))
 ·unfold start
  show _=N.length
  rw [Yae,Yaa,List.length_replicate]
  omega
theorem Vh{CX:CXT}{P:Program}{w:World}{K:PySem.W.Frag}{mg:Str->Option Value}{base:Heap}{k:Nat}{f:Addr}{name qual:Str}{params:Arguments}{body:List Stmt}{scope:Scope}{dV kV db pm aq ct oc:Value}{an od:Option Addr}
  {gx:Array (Option Value)} {N ps:List Str} {sp:Sp} (lk:K.lookup f=some ⟨oc,od,.func (PySem.W.fnOf name qual params body scope dV kV db pm an aq ct),gx⟩) (d2:PySem.W.codeIn K aq qual=true) (S:FnScope N ps scope)
  (len:∀vs H Q E,sp vs H Q E->vs.length=ps.length)
  (bw:∀(A:Around) (outer:List Env) (s:Shared) (H:Hp) (vs:List V) (Q:VK) (E:XK),Room k (A.deeper (envOfC qual scope s.heap.objs.size f aq))->sp vs H Q E ->
   ∃t,PSs (Fz CX P w K mg base N qual scope f aq A outer s H E) body t/\t { nx:=λ_ H'=>Q .non H',rt:=Q } (start N vs) H) :
  FnOk P w K mg base CX (k+1) f (PySem.W.fnOf name qual params body scope dV kV db pm an aq ct) ps sp:=by
 refine⟨len,λA outer s H args us vs Q E hr e0 hb r eh=>?_⟩
 have hl:=len _ _ _ _ eh
 have KX:K.In s.heap:=e0.mod.kin.keeps λb o e=>(e0.bs b o e).1
 have lim:s.heap.NoLimit:=e0.mod.nolimit.keeps λb o e=>(e0.bs b o e).1
 have n4:∀y∈ps.zip us,scope.names.lookup y.1=some .local\/(scope.names.lookup y.1=some .cell/\((cellsFrom (s.heap.objs.size+1) scope.names []).lookup y.1).isSome=true):=λ⟨n,v⟩ hy=>by
  rcases S.par n (List.of_mem_zip hy).1 with q | q
  ·exact .inl q
  ·exact .inr ⟨q,PySem.W.cellsFrom_some _ _ _ (.inl q)⟩
 refine codeAny_call_function hr.depth (KX _ _ lk) rfl S.co S.gen rfl (PySem.W.codeRec_of KX d2) (hb _ _ _ _ ?_)
 refine wpAny_newFunctionEnv_cells S.kind n4 λenv he s1 x=>?_
 subst he
 refine⟨lim.keeps x.toInCall.keep,codeAny_func ?_⟩
 obtain⟨t,ht,hq⟩:=bw A outer s H vs Q E (hr.deeper _) eh
 have I:Inv (Fz CX P w K mg base N qual scope f aq A outer s H E) [] (start N vs) H s1:=Ov S hr.hd e0 hl r x
 refine Ybe (ht [] s1 (start N vs) H _ I hq) (λfl s' hs=>?_) λe s' hs=>hs
 have fin:∀{σ':St} {H':Hp} {v:V} {u:Value},Inv (Fz CX P w K mg base N qual scope f aq A outer s H E) [] σ' H' s'->Bi v u->Q v H'->CE outer P w H s Q u s' :=
  λ{σ' H' v u} J rv q=>⟨v,H',J.os,J.bare,J.base,J.hok,rv,q⟩
 cases fl with
 | ret u =>
  obtain⟨v,σ',H',J,rv,q⟩:=hs
  exact fin J rv q
 | next =>
  obtain⟨σ',H',J,q⟩:=hs
  exact fin (v:=V.non) (u:=Value.none) J rfl q
 | brk =>
  obtain⟨_,_,_,q⟩:=hs
  exact False.elim q
 | cont =>
  obtain⟨_,_,_,q⟩:=hs
  exact False.elim q
section
variable {X:Cx}{x:Str}{p pos:Pos}{e:Expr}{es:List Expr}{t:TA}{id T:String}{r:List V->Hp->VK->Prop}
def tCB(r:List V->Hp->VK->Prop)(t:TA):TE:=fun σ H Q=>t σ H λvs H1=>r vs H1 Q
theorem Qh(hc:Ec X (.builtin id) r)(hg:Gl X x)(hm:X.mg x=none)(hv:bootBuiltins x=some (.builtin id))(ha:PA X (e :: es) t)(hn:x ≠ "__name__" := by decide) (hdb:(x==("__debug__" : Str))=false:=by decide)
  (he:starEach (e :: es) X.env=(false,eval e X.env) :: starEach es X.env:=by rfl) (hpl:(backTo pos (starEach es X.env)).any (·.1)=false:=by rfl):PE X (.Call (.Name x p) (e :: es) [] pos) (tCB r t):=by
 intro aa s σ H Q I h
 refine Ya6 (C4 I hg hm hv ?_ hn hdb)
 exact Ybi (thn (ha pos aa s σ H _ I h) λus s1 ly=>Ca ly λvs H1 I1 r1 q1=>hc aa s1 σ H1 vs us Q I1 r1 q1) he hpl
theorem Ow(hc:Ec X (.type T) r)(hg:Gl X x)(hm:X.mg x=none)(hv:bootBuiltins x=some (.type T))(ha:PA X (e :: es) t)(hn:x ≠ "__name__" := by decide) (hdb:(x==("__debug__" : Str))=false:=by decide)
  (he:starEach (e :: es) X.env=(false,eval e X.env) :: starEach es X.env:=by rfl) (hpl:(backTo pos (starEach es X.env)).any (·.1)=false:=by rfl):PE X (.Call (.Name x p) (e :: es) [] pos) (tCB r t):=by
 intro aa s σ H Q I h
 refine Ya6 (C4 I hg hm hv ?_ hn hdb)
 exact Ybm (thn (ha pos aa s σ H _ I h) λus s1 pi=>Ca pi λvs H1 I1 r1 q1=>hc aa s1 σ H1 vs us Q I1 r1 q1) he hpl
end
end L2
namespace HT
open PySem PyProof.Rows
section
open PySem.SeqAt
open PySem.AutoSeq1 (wpAny_loadPart')
open PySem.MeetsSeq PySem.MeetsSeq2 PySem.MeetsSeq3
end
section
variable {prog:Program}{w:World}{A:Around}{E:Value->Shared->Prop}{s:Shared}
theorem cat_tup{t b:Addr}{vs ws:List Value}{Q:Value->Shared->Prop}(ht:IsTup s.heap t vs.toArray)(hb:IsTup s.heap b ws.toArray)(hv:vs≠[])
  (h1:ws=[]->Q (.ref t) s) (h2:ws≠[]->Q (.ref s.heap.objs.size) { s with heap:=s.heap.push { cls:=.type "tuple",data:=.seq (vs++ws).toArray } })
  (hsz:vs.length+ws.length<=sizeLine):wpAny (model prog w) A (binaryOp .Add (.ref t) (.ref b)) Q E s:=by
 obtain⟨⟨cls,dd,data,sl⟩,ho,hc,n,hd⟩:=id ht
 obtain⟨⟨cls2,dd2,data2,jt⟩,ho2,hc2,n2,b0⟩:=id hb
 simp only at hc hd hc2 b0
 subst hc hd hc2 b0
 have e:vs.toArray++ws.toArray=(vs++ws).toArray:=by simp
 by_cases hw:ws=[]
 ·exact concat_meets ⟨_,ho,rfl⟩ ⟨_,ho2,rfl⟩ noFill_tuple_add seq_tuple_add Yc3 Ycw (Ycs _ _)
   (tuple_addW1 t b vs.toArray ws.toArray n n2 dd dd2 sl jt (by simpa using hv) (by simp [hw])) ⟨ho,ho2,h1 hw⟩
 ·refine concat_meets ⟨_,ho,rfl⟩ ⟨_,ho2,rfl⟩ noFill_tuple_add seq_tuple_add Yc3 Ycw (Ycs _ _)
   (tuple_addW2 t b vs.toArray ws.toArray n n2 dd dd2 sl jt (by simpa using hv) (by simpa using hw) (by rw [Yah,Yah];exact hsz)) ⟨ho,ho2,?_⟩
  rw [e]
  exact h2 hw
def sIx(n d:Nat):Option Int->Nat
 | none=>d
 | some v=>if v < 0 then(v+(n:Int)).toNat else min v.toNat n
theorem sIx_none(n d:Nat):sIx n d none=d:=rfl
theorem sIx_nat(n d k:Nat):sIx n d (some (k:Int))=min k n:=by
 show(if(k:Int) < 0 then((k:Int)+(n:Int)).toNat else min (k:Int).toNat n)=min k n
 rw [Yan (by omega),Int.toNat_natCast]
theorem Xb(n d:Nat)(hd:d<=n)(o:Option Int):sIx n d o<=n:=by
 cases o with
 | none=>exact hd
 | some v =>
  show(if v < 0 then(v+(n:Int)).toNat else min v.toNat n)<=n
  by_cases hv:v < 0
  ·rw [Yaq hv];omega
  ·rw [Yan hv];exact Nat.min_le_right _ _
theorem Ng(v:Int)(n d:Nat):(if v < 0 then max (v+(n:Int)) 0 else min v (n:Int))=((sIx n d (some v):Nat):Int):=by
 show(if v < 0 then max (v+(n:Int)) 0 else min v (n:Int))=(((if v < 0 then(v+(n:Int)).toNat else min v.toNat n):Nat):Int)
 by_cases hv:v < 0
 ·simp only [if_pos hv];omega
 ·simp only [if_neg hv];omega
theorem Me(lo hi:Option Int)(n:Nat):Builtin.Slice.sliceAdjust lo hi 1 (n:Int)=(((sIx n 0 lo:Nat):Int),((sIx n n hi:Nat):Int)):=by
 have h1:¬((1:Int) < 0):=by omega
 unfold Builtin.Slice.sliceAdjust
 simp only [h1,if_false]
 refine Prod.ext ?_ ?_
 ·cases lo with
  | none=>rfl
  | some v=>exact Ng v n 0
 ·cases hi with
  | none=>rfl
  | some v=>exact Ng v n n
theorem Mf(i j:Nat):Builtin.Slice.slicePlaces (i:Int) (j:Int) 1=j - i:=by
 unfold Builtin.Slice.slicePlaces
 have h1:(1:Int) > 0:=by omega
 simp only [h1,if_true,Int.ediv_one]
 split <;> omega
theorem He{v:Value}{o:Option Int}{Q:Option Int->Shared->Prop}(p:IsPart v o)(h:Q o s):wpAny (model prog w) A (Builtin.Slice.slicePartIndex v) Q E s:=by
 cases p with
 | none=>exact slicePart_none h
 | int i t=>exact slicePart_int h
theorem Dr{sl:Addr}{vl vu:Value}{lo hi:Option Int}{n:Nat}{Q:Int×Int×Nat->Shared->Prop}(hs:s.heap.IsSliceOf sl vl vu .none)(pl:IsPart vl lo)(pu:IsPart vu hi)
  (h:Q (((sIx n 0 lo:Nat):Int),1,sIx n n hi - sIx n 0 lo) s):wpAny (model prog w) A (Builtin.Slice.sliceApplied (.ref sl) (pure (n:Int))) Q E s:=by
 obtain⟨os,hos,ix,hds⟩:=id hs
 unfold Builtin.Slice.sliceApplied Builtin.Slice.sliceFields
 refine Yab (Yab (Ybh hos hds (x:=vl) rfl (Yab (Ybh hos hds (x:=vu) rfl (Yab (Ybh hos hds (x:=.none) rfl (Yac ?_)))))))
 refine Yab (slicePart_none ?_)
 show wpAny _ _ (if((1:Int)==0)=true then _ else _) _ _ s
 rw [Yan (by decide)]
 refine Yab (He pl (Yab (He pu (Yab (Yac ?_)))))
 show wpAny _ _ (match Builtin.Slice.sliceAdjust lo hi 1 (n:Int) with | (lo,hi)=>pure (lo,(1:Int),Builtin.Slice.slicePlaces lo hi 1)) _ _ s
 rw [Me lo hi n]
 show wpAny _ _ (pure (((sIx n 0 lo:Nat):Int),(1:Int),Builtin.Slice.slicePlaces ((sIx n 0 lo:Nat):Int) ((sIx n n hi:Nat):Int) 1)) _ _ s
 rw [Mf]
 exact Yac h
theorem Qi(xs:Array Value)(i k:Nat):((List.range k).filterMap λ(m:Nat)=>xs[((i:Int)+(m:Int) * 1).toNat]?).toArray=((xs.toList.drop i).take k).toArray:=by
 have e:(λ(m:Nat)=>xs[((i:Int)+(m:Int) * 1).toNat]?)=λm=>xs[i+m]?:=by
  funext m
  have:((i:Int)+(m:Int) * 1).toNat=i+m:=by omega
  rw [this]
 rw [e]
 have:=pick_run xs i k
 rw [List.filterMap_map]at this
 have e2:((λx=>xs[x]?) ∘ λx=>i+x)=λm=>xs[i+m]?:=rfl
 rw [e2]at this
 rw [this]
theorem getItem_tuple_cut{t sl:Addr}{items:Array Value}{vl vu:Value}{lo hi:Option Int}{Q:Value->Shared->Prop}(ht:IsTup s.heap t items)(hs:s.heap.IsSliceOf sl vl vu .none)(pl:IsPart vl lo)(pu:IsPart vu hi)
  (hw:¬(sIx items.size 0 lo=0/\sIx items.size items.size hi=items.size))
  (h:Q (.ref s.heap.objs.size) { s with heap:=s.heap.push { cls:=.type "tuple",data:=.seq ((items.toList.drop (sIx items.size 0 lo)).take (sIx items.size items.size hi - sIx items.size 0 lo)).toArray } })
  (hsz:items.size<=sizeLine):wpAny (model prog w) A (getItem (.ref t) (.ref sl)) Q E s:=by
 have fg:sizeOk (.seq ((items.toList.drop (sIx items.size 0 lo)).take (sIx items.size items.size hi - sIx items.size 0 lo)).toArray):=by
  show((items.toList.drop (sIx items.size 0 lo)).take (sIx items.size items.size hi - sIx items.size 0 lo)).toArray.size<=sizeLine
  rw [Yah,Ya0,Ycb,Array.length_toList]
  omega
 have hj:sIx items.size items.size hi<=items.size:=Xb _ _ (Yaf _) hi
 obtain⟨os,hos,ix,hds⟩:=id hs
 have uk:s.TypeIs (.ref sl) "slice" := ⟨os,hos,ix⟩
 unfold getItem
 try with_reducible refine Yb8 ?_
 first | refine Yab (Yac ?_) | skip
 refine Yab (wpAny_sequenceKey ht.typeIs (by decide) ?_)
 refine Yab (wpAny_callSpecial?_slot (name:=Str.ofString "__getitem__") ht.typeIs Ya5
  (Ydg Ya5 ht.typeIs entry_tuple_getitem ?_ (args_tuple_getitem _ _)))
 show wpAny _ _ (Builtin.Tuple.tupleItemsOf (.ref t) >>= _) _ _ s
 refine Yab (tupleItemsOf_ ht ?_)
 refine Yab (wpAny_typeOf uk ?_)
 rw [Yaq (by decide)]
 refine Yab (Dr hs pl pu ?_)
 have u5:¬((((sIx items.size 0 lo:Nat):Int)==0 && (1:Int)==1 && (sIx items.size items.size hi - sIx items.size 0 lo)==items.size)=true):=by
  intro q
  rw [Yar,Yar]at q
  have q1:((sIx items.size 0 lo:Nat):Int)=0:=eq_of_beq q.1.1
  have q2:sIx items.size items.size hi - sIx items.size 0 lo=items.size:=eq_of_beq q.2
  exact hw ⟨by omega,by omega⟩
 show wpAny _ _ (if(((sIx items.size 0 lo:Nat):Int)==0 && (1:Int)==1 && (sIx items.size items.size hi - sIx items.size 0 lo)==items.size)=true then _ else _) _ _ s
 rw [Yan u5,Qi]
 first
  | exact Yab (m:=Builtin.Tuple.tupleExact _) (Ybf (Yac ⟨_,rfl,Yac h⟩) fg)
  | exact Yab (m:=Builtin.Tuple.tupleExact _) (Ybf (Yab (Yac (Yac ⟨_,rfl,Yac h⟩))) fg)
  | exact Yab (Yab (m:=Builtin.Tuple.tupleExact _) (Ybf (Yac (Yac ⟨_,rfl,Yac h⟩)) fg))
  | exact Yab (Yab (m:=Builtin.Tuple.tupleExact _) (Ybf (Yac ⟨_,rfl,Yac h⟩) fg))
end
end HT
namespace L2
open PySem PySem.Spec PyProof.Rows
abbrev TO:=St->Hp->(Option Int->Hp->Prop)->Prop
def PO(X:Cx)(e:Option Expr)(t:TO):Prop :=
 ∀(aa:List (Addr×Obj)) (s:Shared) (σ:St) (H:Hp) (Q:Option Int->Hp->Prop),Inv X aa σ H s->t σ H Q ->
  wpAny (model X.prog X.w) X.A (evalPart e X.env) (λu s'=>∃o H',Inv X aa σ H' s'/\IsPart u o/\Q o H') X.xe s
def Tl:TO:=λ_ H Q=>Q none H
def Z7(t:TE):TO:=fun σ H Q=>t σ H λx H1=>∃i,x=.int i/\Q (some i) H1
section
variable {X:Cx}{e:Expr}{te:TE}{lo hi:Option Expr}{tl th:TO}{pos p2:Pos}
theorem Tm:PO X none Tl:=by
 intro aa s σ H Q I h
 rw [evalPart_none]
 exact Yac ⟨none,H,I,.none,h⟩
theorem Tn(h:PE X e te):PO X (some e) (Z7 te):=by
 intro aa s σ H Q I hw
 rw [evalPart_some]
 refine thn (h aa s σ H _ I hw) λu s1 ph=>Ca ph λx H1 I1 r1 q1=>?_
 obtain⟨i,rfl,q⟩:=q1
 obtain⟨t,rfl⟩:=r1
 exact⟨some i,H1,I1,.int i t,q⟩
def Z8(X:Cx)(r:V->Option Int->Option Int->Hp->VK->Prop):Prop :=
 ∀(aa:List (Addr×Obj)) (s:Shared) (σ:St) (H:Hp) (x:V) (v vl vu:Value) (lo hi:Option Int) (sl:Addr) (Q:VK),Inv X aa σ H s->Bi x v->s.heap.IsSliceOf sl vl vu .none->IsPart vl lo->IsPart vu hi->r x lo hi H Q ->
  ∃T id,typeLookup (.type T) "__getitem__" = pure (some (.builtin id))/\s.TypeIs v T/\wpAny (model X.prog X.w) X.A (getItem v (.ref sl)) (EP X aa σ Q) X.xe s
def tSl(r:V->Option Int->Option Int->Hp->VK->Prop)(te:TE)(tl th:TO):TE:=fun σ H Q=>te σ H λx H1=>tl σ H1 λl H2=>th σ H2 λu H3=>r x l u H3 Q
theorem Qj{r:V->Option Int->Option Int->Hp->VK->Prop}(hr:Z8 X r)(he:PE X e te)(hl:PO X lo tl)(hu:PO X hi th):PE X (.Subscript e (.Slice lo hi none p2) pos) (tSl r te tl th):=by
 intro aa s σ H Q I h
 refine Subscript_ (thn (he aa s σ H _ I h) λv s1 ng=>Ca ng λx H1 I1 r1 q1=>?_)
 refine wpAny_Slice (thn (hl aa s1 σ H1 _ I1 q1) λvl s2 jv=>Ca jv λl H2 I2 pl q2=>thn (hu aa s2 σ H2 _ I2 q2) λvu s3 mi=>Ca mi λu H3 I3 pu q3=>?_)
 rw [evalPart_none]
 refine Yac ?_
 have I4:Inv X aa σ H3 { s3 with heap:=s3.heap.push { cls:=.type "slice",data:=.fields #[vl,vu,.none] } }:=I3.kept (t':=s3.toks) λb ob q=>Heap.get?_push_of_some _ q
 obtain⟨T,id,hT,ht,hg⟩:=hr aa { s3 with heap:=s3.heap.push { cls:=.type "slice",data:=.fields #[vl,vu,.none] } } σ H3 x v vl vu l u s3.heap.objs.size Q I4 r1 (Heap.IsSliceOf.new ..) pl pu q3
 show wpAny (model X.prog X.w) X.A (subscriptTail e (.Slice lo hi none p2) v (.ref s3.heap.objs.size)) (EP X aa σ Q) X.xe { s3 with heap:=s3.heap.push { cls:=.type "slice",data:=.fields #[vl,vu,.none] } }
 exact tail_any (ops:=[.ref s3.heap.objs.size,v]) ht hT hg (by with_unfolding_all rfl)
def Ii(xs:List V)(lo hi:Option Int):List V:=(xs.drop (HT.sIx xs.length 0 lo)).take (HT.sIx xs.length xs.length hi - HT.sIx xs.length 0 lo)
theorem Gk(xs:List V)(lo hi:Option Int):(Ii xs lo hi).length<=xs.length:=by
 unfold Ii
 rw [Ya0,Ycb]
 omega
def Qd0(K:PySem.W.Frag):V->Option Int->Option Int->Hp->VK->Prop:=λx lo hi H Q=>∃a xs,x=.ref a/\Fw K H a xs /\
 ¬(HT.sIx xs.length 0 lo=0/\HT.sIx xs.length xs.length hi=xs.length)/\∀p,H p=none->Q (.ref p) (upd H p (.tup (Ii xs lo hi)))
theorem Xc:Z8 X (Qd0 X.K):=by
 intro aa s σ H x v vl vu lo hi sl Q I rx hs pl pu h
 obtain⟨a,xs,rfl,hx,hw,q⟩:=h
 cases rx
 obtain⟨af,r,ht,hz⟩:=I.tuple hx
 have am:af.toArray.size=xs.length:=by rw [Yah];exact r.length.symm
 refine⟨"tuple",_,Ya5.lookup,ht.typeIs,?_⟩
 refine HT.getItem_tuple_cut ht hs pl pu (by rw [am];exact hw) ?_ (by rw [am];exact hz)
 rw [am]
 refine⟨.ref s.heap.objs.size,_,I.laid (t':=s.toks) (o:=.tup (Ii xs lo hi)) (λb ob q=>Heap.get?_push_of_some _ q) (Yaf _) ?_,rfl,q _ (I.hok.fresh (Yaf _))⟩
 exact⟨⟨Yai (Gk xs lo hi) hz,.inl (Vg.new _ rfl)⟩,_,(r.drop (HT.sIx xs.length 0 lo)).take (HT.sIx xs.length xs.length hi - HT.sIx xs.length 0 lo),IsTup.new _ _⟩
theorem Vals.nil_iff{xs:List V}{us:List Value}(r:Vals xs us):us=[]↔xs=[]:=by
 cases r with
 | nil=>simp
 | cons _ _=>simp
end
def To(n:Nat)(i:Int):Option Nat:=if 0<=i then(if i < n then some i.toNat else none) else if -(n:Int)<=i then some (i+n).toNat else none
def atI{α:Type}(xs:List α)(i:Int):Option α:=(To xs.length i).bind λj=>xs[j]?
theorem Tp{n:Nat}{i:Int}{j:Nat}(h:To n i=some j):seqIndex? i n=some j/\j < n/\-(n:Int)<=i/\i < n:=by
 unfold To at h
 by_cases h0:0<=i
 ·rw [Yaq h0]at h
  by_cases h1:i < n
  ·rw [Yaq h1]at h
   have e:i.toNat=j:=Ya1 h
   exact⟨by rw [seqIndex_of h0 h1,e],by omega,by omega,h1⟩
  ·rw [Yan h1]at h;cases h
 ·rw [Yan h0]at h
  by_cases h1:-(n:Int)<=i
  ·rw [Yaq h1]at h
   have e:(i+n).toNat=j:=Ya1 h
   exact⟨by rw [seqIndex_neg (by omega) h1,e],by omega,h1,by omega⟩
  ·rw [Yan h1]at h;cases h
theorem Js{α:Type}{xs:List α}{i:Int}{v:α}(h:atI xs i=some v):∃j,seqIndex? i xs.length=some j/\xs[j]?=some v/\j < xs.length/\-(xs.length:Int)<=i/\i < xs.length:=by
 unfold atI at h
 cases e:To xs.length i with
 | none=>rw [e]at h;cases h
 | some j =>
  rw [e]at h
  obtain⟨h1,h2,h3,h4⟩:=Tp e
  exact⟨j,h1,h,h2,h3,h4⟩
theorem Al{α:Type}{xs:List α}{j:Nat}{v:α}(h:xs[j]?=some v):atI xs (j:Int)=some v:=by
 have hj:j < xs.length:=(List.getElem?_eq_some_iff.mp h).1
 have e:To xs.length (j:Int)=some j:=by
  unfold To
  rw [Yaq (by omega),Yaq (by omega)];simp
 unfold atI;rw [e];exact h
def Nh(b:Expr):Prop:=∀o i,subscripted b false o i=operate [o,i] (getItem o i)
def Z9(X:Cx)(r:R2):Prop :=
 ∀(value slice:Expr) (aa:List (Addr×Obj)) (s:Shared) (σ:St) (H:Hp) (x y:V) (v u:Value) (Q:VK),Inv X aa σ H s->Bi x v->Bi y u->r x y H Q ->
  subscripted slice false v u=operate [v,u] (getItem v u)->wpAny (model X.prog X.w) X.A (subscriptTail value slice v u) (EP X aa σ Q) X.xe s
def MtR(X:Cx)(id:String)(r:V->List V->Hp->VK->Prop):Prop :=
 ∀(aa:List (Addr×Obj)) (s:Shared) (σ:St) (H:Hp) (x:V) (xs:List V) (v:Value) (us:List Value) (Q:VK),Inv X aa σ H s->Bi x v->Vals xs us->r x xs H Q ->
  wpAny (model X.prog X.w) X.A (call (.builtin id) (v :: us)) (EP X aa σ Q) X.xe s
section
variable {X:Cx}{a b:Expr}{ta tb:TE}{pos:Pos}
theorem Qab{r:R2}(hr:Z9 X r)(ha:PE X a ta)(hb:PE X b tb)(hs:Nh b):PE X (.Subscript a b pos) (Zt r ta tb):=by
 intro aa s σ H Q I h
 exact Subscript_ (W0 ha hb I h λv u s2 x y H2 I2 rx ry q=>hr a b aa s2 σ H2 x y v u Q I2 rx ry q (hs _ _))
def Qd1(K:PySem.W.Frag):R2:=λx y H Q=>∃p xs i v,x=.ref p/\y=.int i/\Dq K H p xs/\atI xs i=some v/\Q v H
def Qd2(K:PySem.W.Frag):R2:=λx y H Q=>∃p xs i v,x=.ref p/\y=.int i/\Fw K H p xs/\atI xs i=some v/\Q v H
def Qd3:R2:=λx y H Q=>∃z i c,x=.str z/\y=.int i/\z.length<=sizeLine/\atI z.cps.toList i=some c/\Q (.str ⟨#[c]⟩) H
theorem Ni:Z9 X (Qd1 X.K):=by
 intro value slice aa s σ H x y v u Q I rx ry h hs
 obtain⟨p,xs,i,z,rfl,rfl,hq,he,q⟩:=h
 cases rx
 obtain⟨t,rfl⟩:=ry
 obtain⟨af,r,pl,hz⟩:=I.list hq
 obtain⟨j,h1,h2,h3,h4,h5⟩:=Js he
 obtain⟨w,ew,fh⟩:=r.get h2
 have hl:=r.length
 have hn:=Hd
 have fin:EP X aa σ Q w s:=⟨z,H,I,fh,q⟩
 by_cases h0:0<=i
 ·have hj:i.toNat=j:=by
   rw [seqIndex_of h0 h5]at h1
   exact Ya1 h1
  exact item_listR pl.isList h0 (by omega) (by rw [hj];simpa using ew) fin hs
 ·have hj:(i+(af.toArray.size:Int)).toNat=j:=by
   rw [seqIndex_neg (by omega) h4]at h1
   rw [Yah,<- hl]
   exact Ya1 h1
  exact subscriptTail_builtinR (x:=w) pl.isList.typeIs slot_list_getitem.lookup
   (wpAny_getItem_list_neg (Q:=λr s'=>r=w/\EP X aa σ Q r s') pl.isList (by omega) (by rw [Yah] <;> omega) (by omega) (by rw [hj];simpa using ew) ⟨rfl,fin⟩) hs
theorem Xd:Z9 X (Qd2 X.K):=by
 intro value slice aa s σ H x y v u Q I rx ry h hs
 obtain⟨p,xs,i,z,rfl,rfl,hq,he,q⟩:=h
 cases rx
 obtain⟨t,rfl⟩:=ry
 obtain⟨af,r,pl,hz⟩:=I.tuple hq
 obtain⟨j,h1,h2,h3,h4,h5⟩:=Js he
 obtain⟨w,ew,fh⟩:=r.get h2
 have hl:=r.length
 have hn:=Hd
 have fin:EP X aa σ Q w s:=⟨z,H,I,fh,q⟩
 exact subscriptTail_builtinR (x:=w) pl.typeIs slot_tuple_getitem.lookup
  (getItem_tuple (j:=j) (Q:=λr s'=>r=w/\EP X aa σ Q r s') pl (by omega) (by omega) (by rw [Yah,<- hl];exact h1) (by simpa using ew) ⟨rfl,fin⟩) hs
theorem Xe:Z9 X Qd3:=by
 intro value slice aa s σ H x y v u Q I rx ry h hs
 obtain⟨z,i,c,rfl,rfl,hz,he,q⟩:=h
 obtain⟨t,rfl⟩:=rx
 obtain⟨t',rfl⟩:=ry
 obtain⟨j,h1,h2,h3,h4,h5⟩:=Js he
 have hl:z.cps.toList.length=z.length:=by simp [Str.length]
 rw [hl]at h1 h4 h5
 have hn:=Hd
 exact tail_any (typeIs_str s z t) slot_str_getitem.lookup (getItem_str (c:=c) (by
  have e1:decide (i < -(2 ^ 63:Int))=false:=Yay (by omega)
  have e2:decide (i>=2 ^ 63)=false:=Yay (by omega)
  rw [e1,e2,Bool.or_false]) (by rw [h1];simpa using h2) ⟨.str ⟨#[c]⟩,H,I.tok _,⟨_,rfl⟩,q⟩) hs
theorem Jt(lo hi:Option Int)(n:Nat):(sliceBounds lo hi none n).1=((HT.sIx n 0 lo:Nat):Int)/\(sliceBounds lo hi none n).2.1=((HT.sIx n n hi:Nat):Int)/\(sliceBounds lo hi none n).2.2=1:=by
 refine⟨?_,?_,rfl⟩
 ·cases lo with
  | none=>simp [sliceBounds,HT.sIx]
  | some i =>
   simp only [sliceBounds,HT.sIx,Option.getD_none,show(1:Int) > 0 by decide,if_true]
   by_cases h:i < 0
   ·simp only [h,if_true] <;> omega
   ·simp only [h,if_false] <;> omega
 ·cases hi with
  | none=>simp [sliceBounds,HT.sIx]
  | some i =>
   simp only [sliceBounds,HT.sIx,Option.getD_none,show(1:Int) > 0 by decide,if_true]
   by_cases h:i < 0
   ·simp only [h,if_true] <;> omega
   ·simp only [h,if_false] <;> omega
theorem Ij(af:List Value)(lo hi:Option Int):slicePick af.toArray lo hi none=((af.drop (HT.sIx af.length 0 lo)).take (HT.sIx af.length af.length hi - HT.sIx af.length 0 lo)).toArray:=by
 obtain⟨h1,h2,h3⟩:=Jt lo hi af.toArray.size
 unfold slicePick
 rw [h1,h2,h3]
 simp only [sliceRange_one,pick_run,List.size_toArray] <;> rfl
def Qd4(K:PySem.W.Frag):V->Option Int->Option Int->Hp->VK->Prop:=λx lo hi H Q=>∃a xs,x=.ref a/\Dq K H a xs/\∀p,H p=none->Q (.ref p) (upd H p (.lst (Ii xs lo hi)))
theorem Tq:Z8 X (Qd4 X.K):=by
 intro aa s σ H x v vl vu lo hi sl Q I rx hs pl pu h
 obtain⟨a,xs,rfl,hx,q⟩:=h
 cases rx
 obtain⟨af,r,ht,hz⟩:=I.list hx
 have am:=r.length
 refine⟨"list",_,slot_list_getitem.lookup,ht.isList.typeIs,?_⟩
 refine wpAny_getItem_list_slice ht.isList hs pl pu .none (by simp) ?_ (by rw [Yah] <;> omega)
 rw [Ij,<- am]
 refine⟨.ref s.heap.objs.size,_,I.laid (t':=s.toks) (o:=.lst (Ii xs lo hi)) (λb ob q=>Heap.get?_push_of_some _ q) (Yaf _) ?_,rfl,q _ (I.hok.fresh (Yaf _))⟩
 exact⟨Yai (Gk xs lo hi) hz,_,0,(r.drop (HT.sIx xs.length 0 lo)).take (HT.sIx xs.length xs.length hi - HT.sIx xs.length 0 lo),Heap.get?_push_size _ rfl⟩
theorem Ju:Fg X (compareOp .NotIn) (λx y H Q=>∃i j,x=.str i/\y=.str j/\Q (.bl (!(!(Builtin.Str.occurrences j i 0 j.length 1).isEmpty))) H):=by
 intro aa s σ H x y v u Q I rx ry h
 obtain⟨i,j,rfl,rfl,q⟩:=h
 obtain⟨t,rfl⟩:=rx
 obtain⟨t',rfl⟩:=ry
 exact notIn_str ⟨.bl _,H,I,rfl,q⟩
theorem Dy:Ec X (.builtin "len") (λxs H Q=>∃p ys,xs=[.ref p]/\(Dq X.K H p ys\/Fw X.K H p ys)/\Q (.int ys.length) H):=by
 intro aa s σ H xs us Q I r h
 obtain⟨p,ys,rfl,hq,q⟩:=h
 obtain⟨u,rfl,rx⟩:=D9 r
 cases rx
 have hn:=Hd
 rcases hq with hq | hq
 ·obtain⟨af,r',pl,hz⟩:=I.list hq
  have am:=r'.length
  exact Calls.call_len_list pl.isList (by simp only [List.size_toArray] <;> omega) ⟨.int ys.length,H,I.tok _,⟨s.toks+1,by rw [Yah,am]⟩,q⟩
 ·obtain⟨af,r',pl,hz⟩:=I.tuple hq
  have am:=r'.length
  exact len_tuple pl (by simp only [List.size_toArray] <;> omega) ⟨.int ys.length,H,I.tok _,⟨s.toks+1,by rw [Yah,am]⟩,q⟩
theorem Jv:Ec X (.builtin "len") (λxs H Q=>∃z,xs=[.str z]/\z.length<=sizeLine/\Q (.int z.length) H):=by
 intro aa s σ H xs us Q I r h
 obtain⟨z,rfl,hz,q⟩:=h
 obtain⟨u,rfl,t,rfl⟩:=D9 r
 have hn:=Hd
 exact len_str (by omega) ⟨.int z.length,H,I.tok _,⟨_,rfl⟩,q⟩
theorem Jw:Ec X (.type "list") (λxs H Q=>∃p ys,xs=[.ref p]/\(Dq X.K H p ys\/Fw X.K H p ys)/\∀l,H l=none->Q (.ref l) (upd H l (.lst ys))):=by
 intro aa s σ H xs us Q I r h
 obtain⟨p,ys,rfl,hq,q⟩:=h
 obtain⟨u,rfl,rx⟩:=D9 r
 cases rx
 have fin:∀(af:List Value),Vals ys af->ys.length<=sizeLine->∀(h':Heap) (c':Nat),(∀b o',s.heap.get? b=some o'->h'.get? b=some o') ->
   h'.get? s.heap.objs.size=some { cls:=.type "list",dict:=none,data:=.seq af.toArray c',slots:=#[] }->EP X aa σ Q (.ref s.heap.objs.size) { s with heap:=h' }:=λaf r' hz h' c' kp e =>
  ⟨.ref s.heap.objs.size,_,I.laid (t':=s.toks) kp (Yaf _) (show Bj X.prog X.w _ h' _ (.lst ys) from⟨hz,af,c',r',e⟩),rfl,q _ (I.hok.fresh (Yaf _))⟩
 rcases hq with hq | hq
 ·obtain⟨af,r',pl,hz⟩:=I.list hq
  have am:=r'.length
  obtain⟨o,ho,hc,n,hd⟩:=pl.isList
  exact call_list_seq p (.inl rfl) ho hc hd (λh' c' kp e=>fin af r' hz h' c' kp e) (by simp only [List.size_toArray] <;> omega)
 ·obtain⟨af,r',pl,hz⟩:=I.tuple hq
  have am:=r'.length
  obtain⟨o,ho,hc,n,hd⟩:=pl
  exact call_list_seq p (.inr rfl) ho hc hd (λh' c' kp e=>fin af r' hz h' c' kp e) (by simp only [List.size_toArray] <;> omega)
theorem Ey:Ec X (.type "tuple") (λxs H Q=>∃p ys,xs=[.ref p]/\((Dq X.K H p ys/\∀l,H l=none->Q (.ref l) (upd H l (.tup ys)))\/(Fw X.K H p ys/\Q (.ref p) H))):=by
 intro aa s σ H xs us Q I r h
 obtain⟨p,ys,rfl,h⟩:=h
 obtain⟨u,rfl,rx⟩:=D9 r
 cases rx
 rcases h with⟨hq,q⟩ | ⟨hq,q⟩
 ·obtain⟨af,r',pl,hz⟩:=I.list hq
  have am:=r'.length
  refine call_tuple_list pl.isList (λh' kp=>?_) (by simp only [List.size_toArray] <;> omega)
  have I1:Inv X aa σ H { s with heap:=h' }:=I.kept (t':=s.toks) kp
  have I2:Inv X aa σ (upd H h'.objs.size (.tup ys)) { s with heap:=h'.push { cls:=.type "tuple",data:=.seq af.toArray } } :=
   I1.laid (t':=s.toks) (λb o e=>Heap.get?_push_of_some _ e) (Yaf _) (show Bj X.prog X.w _ _ _ (.tup ys) from⟨⟨hz,.inl (Vg.new _ rfl)⟩,af,r',IsTup.new _ _⟩)
  exact⟨.ref h'.objs.size,_,I2,rfl,q _ (I1.hok.fresh (Yaf _))⟩
 ·obtain⟨af,r',pl,hz⟩:=I.tuple hq
  exact call_tuple_same pl ⟨.ref p,H,I,rfl,q⟩
def tyV(K:PySem.W.Frag)(T:String)(x:V)(H:Hp):Prop:=match x with
 | .str _=>T = "str"
 | .int _=>T = "int"
 | .ref p=>(T = "list" /\ ∃xs,Dq K H p xs)\/(T = "tuple" /\ ((∃o,K.lookup p=some o/\o.cls=.type "tuple" /\ o.dict=none)\/∃xs,H p=some (.tup xs)/\¬Wk xs)) \/
   (T = "dict" /\ ((∃ag,H p=some (.dK ag))\/∃ag,H p=some (.dT ag)))\/(T = "set" /\ ∃S n,H p=some (.set S n))
 | _=>False
theorem Qk{aa:List (Addr×Obj)}{σ:St}{H:Hp}{s:Shared}{T:String}{x:V}{v:Value}(I:Inv X aa σ H s)(r:Bi x v)(ty:tyV X.K T x H) :
  s.TypeIs v T/\∀a,v=.ref a->∃ob,s.heap.get? a=some ob/\ob.dict=none:=by
 cases x with
 | str z =>
  obtain⟨t,rfl⟩:=r
  cases (show T = "str" from ty)
  exact⟨typeIs_str s z t,λ_ e=>nomatch e⟩
 | int i =>
  obtain⟨t,rfl⟩:=r
  cases (show T = "int" from ty)
  exact⟨typeIs_int s i t,λ_ e=>nomatch e⟩
 | ref p =>
  cases r
  rcases ty with⟨rfl,xs,hq⟩ | ⟨rfl,⟨o,hk,hc,hd⟩ | ⟨xs,hq,nw⟩⟩ | ⟨rfl,hk⟩ | ⟨rfl,S,n,hk⟩
  ·obtain⟨af,_,pl,_⟩:=I.list hq
   refine⟨pl.isList.typeIs,λa e=>?_⟩
   cases e
   obtain⟨o,n,e,c,hd,_⟩:=pl
   exact⟨o,e,hd⟩
  ·refine⟨⟨o,I.kIn p o hk,hc⟩,λa e=>?_⟩
   cases e
   exact⟨o,I.kIn _ o hk,hd⟩
  ·obtain⟨_,af,_,ot,et,ct,_⟩:=(show Bj X.prog X.w H s.heap p (.tup xs) from I.hok p _ hq)
   refine⟨⟨ot,et,ct⟩,λa e=>?_⟩
   cases e
   exact(I.nod hq).resolve_right nw
  ·have z:∃o,s.heap.get? p=some o/\o.ExactDict:=by
    rcases hk with⟨ag,hk⟩ | ⟨ag,hk⟩
    ·obtain⟨_,_,_,_,o,_,_,e,ex,_⟩:=I.hok p _ hk
     exact⟨o,e,ex⟩
    ·obtain⟨_,_,_,_,o,_,_,e,ex,_⟩:=I.hok p _ hk
     exact⟨o,e,ex⟩
   obtain⟨o,e,ex⟩:=z
   refine⟨⟨o,e,ex.1⟩,λa e2=>?_⟩
   cases e2
   exact⟨o,e,ex.2.1⟩
  ·obtain⟨o,_,_,_,e,ex,_⟩:=I.hok p _ hk
   refine⟨⟨o,e,ex.1⟩,λa e2=>?_⟩
   cases e2
   exact⟨o,e,ex.2.1⟩
 | _=>exact False.elim ty
def Qd5(K:PySem.W.Frag)(T:String)(r:V->List V->Hp->VK->Prop)(to:TE):TE:=fun σ H Q=>to σ H λx H1=>tyV K T x H1/\r x [] H1 Q
def tBM(K:PySem.W.Frag)(T:String)(r:V->List V->Hp->VK->Prop)(to:TE)(t:TA):TE:=fun σ H Q=>to σ H λx H1=>tyV K T x H1/\t σ H1 λxs H2=>r x xs H2 Q
variable {o e:Expr}{es:List Expr}{to:TE}{t:TA}{name:Str}{bf au:Pos}{T id:String}{r:V->List V->Hp->VK->Prop}
theorem Xf(pa:PlainAttrs T)(slot:Slot T name id)(gu:typeOf (.builtin id)=pure (.type "method_descriptor")) (hm:MtR X id r) (ho:PE X o to)
  (bp:attributeBase o name X.env (eval o X.env)=eval o X.env:=by rfl) (bo:(bf.endLine==au.line)=true:=by rfl):PE X (.Call (.Attribute o name bf) [] [] au) (Qd5 X.K T r to):=by
 intro aa s σ H Q I h
 refine wpAny_Call_method0_late bp bo (thn (ho aa s σ H _ I h) λv s1 kn=>?_)
 obtain⟨x,H1,I1,r1,ty,q1⟩:=kn
 obtain⟨h1,h2⟩:=Qk I1 r1 ty
 exact⟨T,id,pa,slot,gu,h1,h2,Calls.callWith_builtin rfl (PySem.evalArgs_none (hm aa s1 σ H1 x [] v [] Q I1 r1 .nil q1))⟩
theorem Ql(pa:PlainAttrs T)(slot:Slot T name id)(gu:typeOf (.builtin id)=pure (.type "method_descriptor")) (hm:MtR X id r) (ho:PE X o to) (ha:PA X (e :: es) t)
  (bp:attributeBase o name X.env (eval o X.env)=eval o X.env:=by rfl)
  (d8:((backTo au (starEach (e :: es) X.env)).all (λx=>!x.1) && (backToKw au (keywordEach [] X.env)).all (λx=>x.1.isSome)
   && decide ((e :: es).length+([]:List Keyword).length+(if([]:List Keyword).isEmpty then 0 else 1) < 30))=true:=by rfl)
  (bo:(bf.endLine==au.line)=true:=by rfl) (hs:starEach (e :: es) X.env=(false,eval e X.env) :: starEach es X.env:=by rfl) (bq:(backTo au (starEach es X.env)).any (·.1)=false:=by rfl) :
  PE X (.Call (.Attribute o name bf) (e :: es) [] au) (tBM X.K T r to t):=by
 intro aa s σ H Q I h
 refine wpAny_Call_method_late bp d8 bo rfl (thn (ho aa s σ H _ I h) λv s1 m3=>?_)
 obtain⟨x,H1,I1,r1,ty,q1⟩:=m3
 obtain⟨h1,h2⟩:=Qk I1 r1 ty
 refine⟨T,id,pa,slot,gu,h1,h2,?_⟩
 have hA:=ha au aa s1 σ H1 _ I1 q1
 rw [hs]at hA ⊢
 refine Calls.callWith_builtin (by show(false || (backTo au (starEach es X.env)).any (·.1))=false;rw [bq] <;> rfl) (Calls.evalArgs_plain ?_)
 exact thn hA λus s2 j5=>Ca j5 λvs H2 I2 r2 q2=>hm aa s2 σ H2 x vs v us Q I2 r1 r2 q2
end
def MtM(X:Cx)(id:String)(r:V->List V->Hp->VK->Prop):Prop :=
 ∀(aa:List (Addr×Obj)) (s:Shared) (σ:St) (H:Hp) (x:V) (xs:List V) (v:Value) (us:List Value) (Q:VK),Inv X aa σ H s->Bi x v->Vals xs us->r x xs H Q ->
  wpAny (model X.prog X.w) X.A (call (.builtin id) (v :: us)) (EP X aa σ Q) X.xe s
theorem Vals.one:∀{x:V} {us:List Value},Vals [x] us->∃u,us=[u]/\Bi x u
 | _,_,.cons r .nil=>⟨_,rfl,r⟩
theorem Vals.zero:∀{us:List Value},Vals [] us->us=[]
 | _,.nil=>rfl
theorem Vals.dropLast{xs:List V}{us:List Value}(h:Vals xs us):Vals xs.dropLast us.dropLast:=by
 induction h with
 | nil=>exact .nil
 | cons r t ih =>
  cases t with
  | nil=>exact .nil
  | cons q t'=>exact .cons r ih
theorem Vals.reverse{xs:List V}{us:List Value}(h:Vals xs us):Vals xs.reverse us.reverse:=by
 induction h with
 | nil=>exact .nil
 | cons r t ih=>rw [Yc5,Yc5];exact Vals.append ih (.cons r .nil)
theorem Vals.rep{xs:List V}{us:List Value}(h:Vals xs us):∀k:Nat,Vals (List.replicate k xs).flatten (List.replicate k us).flatten
 | 0=>.nil
 | k+1=>by
  rw [Ybr,Ybr,Yb6,Yb6]
  exact Vals.append h (Vals.rep h k)
theorem Mg{α:Type}(l:List α):l.eraseIdx (l.length - 1)=l.dropLast:=by
 induction l with
 | nil=>rfl
 | cons a r ih =>
  cases r with
  | nil=>rfl
  | cons b r =>
   have e:(a :: b :: r).length - 1=((b :: r).length - 1)+1:=by
    have h1:(a :: b :: r).length=r.length+2:=rfl
    have h2:(b :: r).length=r.length+1:=rfl
    omega
   rw [e,List.eraseIdx_cons_succ,ih]
   all_goals rfl
theorem Iz(af:List Value):∀(k:Nat) (ah:List Value),
  List.foldl (λx1 x2=>x1++x2) ah.toArray (List.replicate k af.toArray)=(ah++(List.replicate k af).flatten).toArray
 | 0,ah=>by simp
 | k+1,ah=>by
  have e:ah.toArray++af.toArray=(ah++af).toArray:=by simp
  have e2:(ah++af)++(List.replicate k af).flatten=ah++(List.replicate (k+1) af).flatten:=by
   rw [Ybr,Yb6,List.append_assoc]
  rw [<- e2,<- Iz af k (ah++af),<- e,Ybr,List.foldl_cons]
section
variable {X:Cx}{aa:List (Addr×Obj)}{σ:St}{H:Hp}{s:Shared}{l b:Addr}{xs ys zs:List V}
theorem Inv.lset{af its':List Value}{n:Nat}{f:Array Value->Array Value}{t':Nat}(I:Inv X aa σ H s)(hH:H l=some (.lst xs))
  (e:s.heap.get? l=some { cls:=.type "list",data:=.seq af.toArray n }) (hf:f af.toArray=its'.toArray) (hv:Vals ys its') (hz:ys.length<=sizeLine) :
  Inv X aa σ (upd H l (.lst ys)) { s with heap:=s.heap.update l (Obj.mapSeq f),toks:=t' }:=by
 have q:=PySem.IsL.update e f
 rw [hf]at q
 refine I.write (x:=l) (e:=l) (by rw [hH];exact trivial) (.inl rfl) (λb' u hb hu=>(Heap.get?_update_other s.heap (Obj.mapSeq f) (Ycl hb)).trans hu) ⟨_,q⟩ ?_
 exact⟨hz,its',_,hv,q⟩
theorem Inv.lnew{af:List Value}{t':Nat}(I:Inv X aa σ H s)(hv:Vals ys af)(hz:ys.length<=sizeLine) :
  Inv X aa σ (upd H s.heap.objs.size (.lst ys)) { s with heap:=s.heap.push { cls:=.type "list",data:=.seq af.toArray },toks:=t' } :=
 I.laid (λ_ _ q=>Heap.get?_push_of_some _ q) (Yaf _) ⟨hz,af,0,hv,Heap.get?_push_size _ rfl⟩
theorem Inv.fresh(I:Inv X aa σ H s):H s.heap.objs.size=none:=I.hok.fresh (Yaf _)
theorem Inv.lstM(I:Inv X aa σ H s)(hH:H l=some (.lst xs)):xs.length<=sizeLine/\∃(af:List Value) (n:Nat),Vals xs af/\xs.length=af.length/\s.heap.get? l=some { cls:=.type "list",data:=.seq af.toArray n }:=by
 obtain⟨z,af,n,r,e⟩:=I.hok l _ hH
 exact⟨z,af,n,r,r.length,e⟩
theorem K0{n:Nat}(h:n<=sizeLine):Builtin.List.listTooLong n=false:=by
 unfold Builtin.List.listTooLong
 exact Yay (by omega)
end
section
variable {X:Cx}
def Tr:V->List V->Hp->VK->Prop:=λx vs H Q=>∃l xs y,x=.ref l/\vs=[y]/\H l=some (.lst xs)/\xs.length < sizeLine/\Q .non (upd H l (.lst (xs++[y])))
theorem Ja:MtM X "list.append" Tr:=by
 intro aa s σ H x vs v us Q I rx rv h
 obtain⟨l,xs,y,rfl,rfl,hH,hz,q⟩:=h
 cases rx
 obtain⟨u,rfl,ru⟩:=rv.one
 obtain⟨z,af,n,r,hl,e⟩:=I.lstM hH
 refine Yc6 F.slot_list_append ⟨_,e,rfl⟩ F.entry_list_append (F.args_list_append_2 _ _) (PySem.list_append l af.toArray n u (by rw [Yah];omega)) ⟨e,?_⟩
 refine⟨.non,_,I.lset (its':=af++[u]) hH e (by simp) (r.append (.cons ru .nil)) ?_,rfl,q⟩
 rw [Yae,List.length_singleton]
 omega
def Ts:V->List V->Hp->VK->Prop:=λx vs H Q=>∃l b xs zs,x=.ref l/\vs=[.ref b]/\H l=some (.lst xs)/\H b=some (.lst zs)/\xs.length+zs.length<=sizeLine/\Q .non (upd H l (.lst (xs++zs)))
theorem Y4:MtM X "list.extend" Ts:=by
 intro aa s σ H x vs v us Q I rx rv h
 obtain⟨l,b,xs,zs,rfl,rfl,hH,hB,hz,q⟩:=h
 cases rx
 obtain⟨u,rfl,ru⟩:=rv.one
 cases ru
 obtain⟨z,af,n,r,hl,e⟩:=I.lstM hH
 obtain⟨z2,its2,n2,r2,cz,e2⟩:=I.lstM hB
 have hsz:af.toArray.size+its2.toArray.size<=sizeLine:=by rw [Yah,Yah];omega
 have gl:¬(!af.toArray.isEmpty && Builtin.List.listTooLong (af.toArray.size+its2.toArray.size))=true:=by
  rw [K0 hsz,Ydd]
  exact Yas
 refine Yc6 F.slot_list_extend ⟨_,e,rfl⟩ F.entry_list_extend (F.args_list_extend_2 _ _)
  (AutoSeq1.list_extend_list_list_0 l af.toArray n b its2.toArray n2 gl (by rw [Yah];omega) (by omega)) ⟨e,e2,?_⟩
 refine⟨.non,_,I.lset (its':=af++its2) hH e (by simp) (r.append r2) ?_,rfl,q⟩
 rw [Yae]
 omega
def Qd7:V->List V->Hp->VK->Prop:=λx vs H Q=>∃l xs y,x=.ref l/\vs=[]/\H l=some (.lst xs)/\xs[xs.length - 1]?=some y/\Q y (upd H l (.lst xs.dropLast))
theorem Xg:MtM X "list.pop" Qd7:=by
 intro aa s σ H x vs v us Q I rx rv h
 obtain⟨l,xs,y,rfl,rfl,hH,hy,q⟩:=h
 cases rx
 have v0:=rv.zero
 subst v0
 obtain⟨z,af,n,r,hl,e⟩:=I.lstM hH
 obtain⟨u,hu,ru⟩:=r.get hy
 have hy':af.toArray[af.toArray.size - 1]?=some u:=by
  show af.toArray[af.length - 1]?=some u
  rw [<- Array.getElem?_toList,<- hl]
  exact hu
 refine Yc6 F.slot_list_pop ⟨_,e,rfl⟩ F.entry_list_pop (F.args_list_pop_1 _) (MeetsSeq.list_pop_last l af.toArray n u hy' (by rw [Yah];omega)) ⟨e,?_⟩
 refine⟨y,_,I.lset (its':=af.dropLast) hH e ?_ r.dropLast ?_,ru,q⟩
 ·show af.toArray.eraseIdxIfInBounds (af.toArray.size - 1)=af.dropLast.toArray
  rw [Yah,List.eraseIdxIfInBounds_toArray,Mg]
 ·rw [List.length_dropLast]
  omega
def Qd8:R2:=λx y H Q=>∃l b xs zs,x=.ref l/\y=.ref b/\H l=some (.lst xs)/\H b=some (.lst zs)/\xs.length+zs.length<=sizeLine/\∀p,H p=none->Q (.ref p) (upd H p (.lst (xs++zs)))
theorem Xh:Fg X (binaryOp .Add) Qd8:=by
 intro aa s σ H x y v u Q I rx ry h
 obtain⟨l,b,xs,zs,rfl,rfl,hH,hB,hz,q⟩:=h
 cases rx
 cases ry
 obtain⟨z,af,n,r,hl,e⟩:=I.lstM hH
 obtain⟨z2,its2,n2,r2,cz,e2⟩:=I.lstM hB
 refine PySem.P.add_list e e2 ?_ (by rw [Yah,Yah];omega)
 have ea:af.toArray++its2.toArray=(af++its2).toArray:=by simp
 rw [ea]
 exact⟨.ref _,_,I.lnew (t':=s.toks) (r.append r2) (by rw [Yae];omega),rfl,q _ I.fresh⟩
def Qd9:R2:=λx y H Q=>∃l k xs,x=.ref l/\y=.int k/\H l=some (.lst xs)/\-(2 ^ 63)<=k/\k < 2 ^ 63/\xs.length * k.toNat<=sizeLine /\
 ∀p,H p=none->Q (.ref p) (upd H p (.lst (List.replicate k.toNat xs).flatten))
theorem Tt{α:Type}(xs:List α)(k:Nat):(List.replicate k xs).flatten.length=k * xs.length:=by
 induction k with
 | zero=>simp
 | succ k ih=>rw [Ybr,Yb6,Yae,ih,Nat.succ_mul,Nat.add_comm]
theorem Xi:Fg X (binaryOp .Mult) Qd9:=by
 intro aa s σ H x y v u Q I rx ry h
 obtain⟨l,k,xs,rfl,rfl,hH,h1,h2,hz,q⟩:=h
 cases rx
 obtain⟨t,rfl⟩:=ry
 obtain⟨z,af,n,r,hl,e⟩:=I.lstM hH
 have am:af.toArray.size * k.toNat<=sizeLine:=by rw [Yah,<- hl];exact hz
 have zf:¬af.toArray.size * k.toNat > (2 ^ 63 - 1) / 8:=by
  have:(sizeLine:Nat)<=(2 ^ 63 - 1) / 8:=by decide
  omega
 have uu:¬(!Builtin.List.listFitsIndex k)=true:=by
  rw [fitsIndex_both h1 h2]
  exact Yas
 have gl:¬Builtin.List.listTooLong (af.toArray.size * k.toNat)=true:=by
  rw [K0 am]
  exact Yas
 have y8:List.foldl (λx1 x2=>x1++x2) #[] (List.replicate (if af.toArray.isEmpty=true then 0 else k.toNat) af.toArray)=(List.replicate k.toNat af).flatten.toArray:=by
  have f0:∀m:Nat,List.foldl (λx1 x2=>x1++x2) #[] (List.replicate m af.toArray)=(List.replicate m af).flatten.toArray:=λm=>by
   have:=Iz af m []
   rw [List.nil_append]at this
   exact this
  rw [f0]
  cases af with
  | nil=>simp
  | cons a r'=>rw [Yan (by simp)]
 refine wpAny_binaryOp_repeat_ref (T := "list") (U := "int") (by decide) ⟨_,e,rfl⟩ (λs'=>typeIs_int s' k t) noFill_list_mul F.fills_int_mul F.slot_int_rmul repeat_list F.slot_int_index.lookup
  (Yc6 F.slot_int_rmul (typeIs_int s k t) F.entry_int_rmul (F.args_int_rmul_2 _ _) (int___rmul___int_list k t l af.toArray n)
   ⟨e,rfl,⟨_,e,rfl⟩,Yc6 F.slot_list_mul ⟨_,e,rfl⟩ F.entry_list_mul (F.args_list_mul_2 _ _) (AutoListH.list___mul___list_int_3 l af.toArray n k t uu zf gl) ⟨e,?_⟩⟩)
 rw [y8]
 exact⟨.ref _,_,I.lnew (t':=s.toks) (r.rep k.toNat) (by rw [Tt,Nat.mul_comm];exact hz),rfl,q _ I.fresh⟩
end
section
variable {prog:Program}{w:World}{A:Around}{E:Value->Shared->Prop}{s:Shared}
end
section
variable {X:Cx}
end
section
variable {κ:Type} [DecidableEq κ]
def Fh(ag:List (κ×V))(k:κ):Option V:=(ag.find? λkv=>decide (kv.1=k)).map (·.2)
def Dm(ag:List (κ×V))(k:κ)(v:V):List (κ×V) :=
 if(ag.any λkv=>decide (kv.1=k))=true then ag.map (λkv=>if kv.1=k then(kv.1,v) else kv) else ag++[(k,v)]
theorem Hf{p:κ×V}{r:List (κ×V)}{k:κ}(e:p.1=k):Fh (p :: r) k=some p.2:=by simp [Fh,List.find?_cons,e]
theorem Hg{p:κ×V}{r:List (κ×V)}{k:κ}(e:¬p.1=k):Fh (p :: r) k=Fh r k:=by simp [Fh,List.find?_cons,e]
theorem K1(k:κ):∀ag:List (κ×V),(ag.any λkv=>decide (kv.1=k))=(Fh ag k).isSome
 | []=>rfl
 | p :: r=>by
  rw [Yb0]
  by_cases e:p.1=k
  ·simp only [Hf e,decide_eq_true e,Bool.true_or,Option.isSome_some]
  ·rw [Hg e,Yay e,Bool.false_or];exact K1 k r
theorem Ed(ag:List (κ×V))(k:κ)(v:V):(Dm ag k v).length<=ag.length+1:=by
 unfold Dm
 split
 ·rw [Yaa];omega
 ·rw [Yae,Ya9,List.length_nil];omega
theorem Eb.isSome_eq{o:Option V}{u:Option Value}(r:Eb o u):o.isSome=u.isSome:=by
 cases o with
 | none=>cases u with
  | none=>rfl
  | some _=>exact(show False from r).elim
 | some _=>cases u with
  | none=>exact(show False from r).elim
  | some _=>rfl
theorem KV.val{ag:List (κ×V)}{vs:List (κ×Value)}(r:KV ag vs)(k:κ):Eb (Fh ag k) (valueAt vs k):=by
 unfold KV at r
 induction r with
 | nil=>exact True.intro
 | @cons p q ps qs h t ih =>
  obtain⟨h1,h2⟩:=h
  by_cases e:p.1=k
  ·have e':q.1=k:=h1.symm.trans e
   have b:valueAt (q :: qs) k=some q.2:=by simp [valueAt,List.find?_cons,e']
   rw [Hf e,b];exact h2
  ·have e':¬q.1=k:=λz=>e (h1.trans z)
   have b:valueAt (q :: qs) k=valueAt qs k:=by simp [valueAt,List.find?_cons,e']
   rw [Hg e,b];exact ih
theorem KV.any{ag:List (κ×V)}{vs:List (κ×Value)}(r:KV ag vs)(k:κ):(ag.any λkv=>decide (kv.1=k))=vs.any λkv=>decide (kv.1=k):=by
 unfold KV at r
 induction r with
 | nil=>rfl
 | cons h t ih=>rw [Yb0,Yb0,ih,h.1]
theorem KV.repl{ag:List (κ×V)}{vs:List (κ×Value)}(r:KV ag vs)(k:κ){y:V}{u:Value}(ry:Bi y u) :
  KV (ag.map λkv=>if kv.1=k then(kv.1,y) else kv) (vs.map λkv=>if kv.1=k then(kv.1,u) else kv):=by
 unfold KV at r ⊢
 induction r with
 | nil=>exact .nil
 | @cons p q ps qs h t ih =>
  rw [Yaz,Yaz]
  refine .cons ?_ ih
  obtain⟨h1,h2⟩:=h
  by_cases e:p.1=k
  ·rw [Yaq e,Yaq (h1.symm.trans e)];exact⟨h1,ry⟩
  ·rw [Yan e,Yan (λz=>e (h1.trans z))];exact⟨h1,h2⟩
theorem KV.put{ag:List (κ×V)}{vs:List (κ×Value)}(r:KV ag vs)(k:κ){y:V}{u:Value}(ry:Bi y u):KV (Dm ag k y) (stored vs k u):=by
 unfold Dm stored
 rw [r.any k]
 by_cases e:(vs.any λkv=>decide (kv.1=k))=true
 ·rw [Yaq e,Yaq e];exact r.repl k ry
 ·rw [Yan e,Yan e];exact Paired.snoc r ⟨rfl,ry⟩
theorem KV.length{ag:List (κ×V)}{vs:List (κ×Value)}(r:KV ag vs):ag.length=vs.length:=Yck r
end
theorem Nj{P:Program}{w:World}{k:Key}{u:Value}(r:Bi (kV k) u):(B5 P w).is k u=true:=by
 cases k with
 | inl i=>obtain⟨t,e⟩:=(show ∃t,u=Value.int i t from r);subst e;exact Kw P w i t
 | inr x=>obtain⟨t,e⟩:=(show ∃t,u=Value.str x t from r);subst e;exact Kx P w x t
theorem Jb{P:Program}{w:World}:∀{ks:List Key} {us:List Value},Vals (ks.map kV) us->ItemsAre (B5 P w) ks us
 | [],_,r=>by rw [List.map_nil]at r;cases r;exact .nil
 | k :: ks,_,r=>by
  rw [Yaz]at r
  cases r with
  | cons h t=>exact .cons (Nj h) (Jb t)
abbrev KT(H:Hp):List (List Key×V)->List (List Key×Addr×Value)->Prop:=Paired λp q=>p.1=q.1/\H q.2.1=some (.tup (p.1.map kV))/\Bi p.2 q.2.2
theorem KT.val{H:Hp}{ag:List (List Key×V)}{xs:List (List Key×Addr×Value)}(r:KT H ag xs)(k:List Key):Eb (Fh ag k) ((atKey xs k).map (·.2)):=by
 induction r with
 | nil=>exact True.intro
 | @cons p q ps qs h t ih =>
  obtain⟨h1,_,h2⟩:=h
  by_cases e:p.1=k
  ·have e':q.1=k:=h1.symm.trans e
   have b:atKey (q :: qs) k=some q.2:=by simp [atKey,List.find?_cons,e']
   rw [Hf e,b];exact h2
  ·have e':¬q.1=k:=λz=>e (h1.trans z)
   have b:atKey (q :: qs) k=atKey qs k:=by simp [atKey,List.find?_cons,e']
   rw [Hg e,b];exact ih
theorem KT.repl{H:Hp}{ag:List (List Key×V)}{xs:List (List Key×Addr×Value)}(r:KT H ag xs)(k:List Key){y:V}{u:Value}(ry:Bi y u) :
  KT H (ag.map λkv=>if kv.1=k then(kv.1,y) else kv) (xs.map (putAt k u)):=by
 induction r with
 | nil=>exact .nil
 | @cons p q ps qs h t ih =>
  rw [Yaz,Yaz]
  refine .cons ?_ ih
  obtain⟨h1,h2,h3⟩:=h
  unfold putAt
  by_cases e:p.1=k
  ·rw [Yaq e,Yaq (h1.symm.trans e)];exact⟨h1,h2,ry⟩
  ·rw [Yan e,Yan (λz=>e (h1.trans z))];exact⟨h1,h2,h3⟩
theorem KT.put{H:Hp}{ag:List (List Key×V)}{xs:List (List Key×Addr×Value)}(r:KT H ag xs)(k:List Key){b:Addr}{y:V}{u:Value}(hb:H b=some (.tup (k.map kV)))(ry:Bi y u) :
  KT H (Dm ag k y) (storedH xs k b u):=by
 have e:(ag.any λkv=>decide (kv.1=k))=(atKey xs k).isSome:=by
  rw [K1,(r.val k).isSome_eq,Option.isSome_map]
 unfold Dm storedH
 rw [e]
 by_cases q:(atKey xs k).isSome=true
 ·rw [Yaq q,Yaq q];exact r.repl k ry
 ·rw [Yan q,Yan q];exact Paired.snoc r ⟨rfl,hb,ry⟩
theorem KT.keeps{H H':Hp}{ag:List (List Key×V)}{xs:List (List Key×Addr×Value)}(r:KT H ag xs)(ht:∀b ys,H b=some (.tup ys)->H' b=some (.tup ys)):KT H' ag xs :=
 Paired.mapP r λ_ _ z=>⟨z.1,ht _ _ z.2.1,z.2.2⟩
section
variable {P:Program}{w:World}{H:Hp}{h:Heap}{a:Addr}
theorem Vi{u:HO}(ok:HOk P w H h)(e:Rd H a u):Bj P w H h a u:=e.ok ok
theorem Nk{ag:List (Key×V)}(ok:HOk P w H h)(e:Rd H a (.dK ag)):ag.length<=sizeLine/\(a==sysModules)=false/\∃vs,KV ag vs/\h.DictOf (B5 P w) a vs :=
 show Bj P w H h a (.dK ag) from Vi ok e
theorem Vj{ag:List (Key×V)}(ok:HOk P w H h)(e:H a=some (.dK ag)):ag.length<=sizeLine/\(a==sysModules)=false/\∃vs,KV ag vs/\h.DictOf (B5 P w) a vs:=Nk ok (.inl e)
theorem Mh{ks:List Key}(ok:HOk P w H h)(e:H a=some (.tup (ks.map kV))):(tupleKind (B5 P w)).is h ks a:=by
 obtain⟨_,af,r,o,h1,h2,n,h3⟩:=(show Bj P w H h a (.tup (ks.map kV)) from ok a _ e)
 exact⟨o,af.toArray,n,h1,h2,h3,by simpa using Jb r⟩
theorem Qm{ag:List (List Key×V)}(ok:HOk P w H h)(e:Rd H a (.dT ag)):ag.length<=sizeLine/\(a==sysModules)=false /\
  ∃xs,KT H ag xs/\h.DictOfH (tupleKind (B5 P w)) a xs:=by
 obtain⟨z,y,xs,r,o,es,ep,h1,h2,h3,h4,h5⟩:=(show Bj P w H h a (.dT ag) from Vi ok e)
 refine⟨z,y,xs,r,o,es,ep,h1,h2,h3,h4,λx hx=>?_,h5⟩
 have all:∀{l:List (List Key×V)} {m:List (List Key×Addr×Value)},KT H l m->∀x∈m,(tupleKind (B5 P w)).is h x.1 x.2.1:=by
  intro l m q
  induction q with
  | nil=>intro x hx;exact nomatch hx
  | @cons p q ps qs hq t ih =>
   intro x hx
   rcases Ya8.mp hx with e | hx
   ·subst e
    exact Mh ok (by rw [<- hq.1];exact hq.2.1)
   ·exact ih x hx
 exact all r x hx
theorem Qad{ag:List (List Key×V)}(ok:HOk P w H h)(e:H a=some (.dT ag)):ag.length<=sizeLine/\(a==sysModules)=false /\
  ∃xs,KT H ag xs/\h.DictOfH (tupleKind (B5 P w)) a xs:=Qm ok (.inl e)
end
def DGet(H:Hp)(a:Addr)(y:V)(r:Option V):Prop :=
 (∃ag k,Rd H a (.dK ag)/\y=kV k/\r=Fh ag k)\/∃ag k b,Rd H a (.dT ag)/\y=.ref b/\H b=some (.tup (k.map kV))/\r=Fh ag k
def DPut(H:Hp)(a:Addr)(y v:V)(H':Hp):Prop :=
 (∃ag k,H a=some (.dK ag)/\y=kV k/\ag.length < sizeLine/\H'=upd H a (.dK (Dm ag k v))) \/
 ∃ag k b,H a=some (.dT ag)/\y=.ref b/\H b=some (.tup (k.map kV))/\ag.length < sizeLine/\H'=upd H a (.dT (Dm ag k v))
theorem DGet.k{H:Hp}{a:Addr}{ag:List (Key×V)}{k:Key}(e:H a=some (.dK ag)):DGet H a (kV k) (Fh ag k):=.inl ⟨ag,k,.inl e,rfl,rfl⟩
theorem DGet.t{H:Hp}{a b:Addr}{ag:List (List Key×V)}{k:List Key}(e:H a=some (.dT ag))(eb:H b=some (.tup (k.map kV))):DGet H a (.ref b) (Fh ag k):=.inr ⟨ag,k,b,.inl e,rfl,eb,rfl⟩
theorem DPut.k{H:Hp}{a:Addr}{ag:List (Key×V)}{k:Key}{v:V}(e:H a=some (.dK ag))(hl:ag.length < sizeLine):DPut H a (kV k) v (upd H a (.dK (Dm ag k v))):=.inl ⟨ag,k,e,rfl,hl,rfl⟩
theorem DPut.t{H:Hp}{a b:Addr}{ag:List (List Key×V)}{k:List Key}{v:V}(e:H a=some (.dT ag))(eb:H b=some (.tup (k.map kV)))(hl:ag.length < sizeLine) :
  DPut H a (.ref b) v (upd H a (.dT (Dm ag k v))):=.inr ⟨ag,k,b,e,rfl,eb,hl,rfl⟩
section
variable {X:Cx}{aa:List (Addr×Obj)}{σ:St}{H:Hp}{s:Shared}{a:Addr}{y v:V}{u r:Value}{o:Option V}{A:Around}{E:Value->Shared->Prop}
theorem Inv.big(I:Inv X aa σ H s):sysModules < s.heap.objs.size:=by
 have h:mainGlobals < s.heap.objs.size:=(I.mod.glob.keeps I.bk).lt
 exact Nat.lt_trans (by decide) h
theorem Ox{Q:Value->Shared->Prop}(hu:A.units+1 < cLine)(I:Inv X aa σ H s)(g:DGet H a y (some v))(ry:Bi y u)(h:∀w' s',Inv X aa σ H s'->Bi v w'->Q w' s') :
  wpAny (model X.prog X.w) A (getItem (.ref a) u) Q E s:=by
 rcases g with⟨ag,k,e,ey,l⟩ | ⟨ag,k,b,e,ey,eb,l⟩
 ·subst ey
  obtain⟨z,hd,vs,rel,dd⟩:=Nk I.hok e
  obtain⟨w',hw,fh⟩:=Eb.some_of (v:=v) (o:=valueAt vs k) (by rw [l];exact rel.val k)
  exact wpAny_getItem_of (Nj ry) dd.mapOf hw (h w' _ (I.tok _) fh)
 ·subst ey
  cases (show u=Value.ref b from ry)
  obtain⟨z,hd,xs,rel,dd⟩:=Qm I.hok e
  obtain⟨w',hw,fh⟩:=Eb.some_of (v:=v) (o:=(atKey xs k).map (·.2)) (by rw [l];exact rel.val k)
  obtain⟨p,hp,jk⟩:=Yav.mp hw
  refine wpAny_getItem_heap (tupleKind_room_in1 hu) (Mh I.hok eb) dd hp ?_
  rw [jk]
  exact h w' _ (I.tok _) fh
theorem Jx{h':Heap}{t':Nat}{ob:HO}(I:Inv X aa σ H s)(mu:Mut (H a))(hs:Heap.SameBut a s.heap h')(he:∃q,h'.get? a=some q)(new:Bj X.prog X.w (upd H a ob) h' a ob) :
  Inv X aa σ (upd H a ob) { s with heap:=h',toks:=t' } :=
 I.write (x:=a) (e:=a) mu (.inl rfl) (λb q hb z=>(hs.2 b hb).trans z) he new
theorem Qn{P:Program}{w:World}{H':Hp}{h':Heap}{ag:List (Key×V)}{vs:List (Key×Value)}(z:ag.length<=sizeLine)(hd:(a==sysModules)=false)(rel:KV ag vs)(dd:h'.DictOf (B5 P w) a vs) :
  Bj P w H' h' a (.dK ag):=⟨z,hd,vs,rel,dd⟩
theorem Oy{H':Hp}{Q:Unit->Shared->Prop}(hu:A.units+1 < cLine)(I:Inv X aa σ H s)(g:DPut H a y v H')(ry:Bi y u)(rv:Bi v r)(h:∀s',Inv X aa σ H' s'->Q () s') :
  wpAny (model X.prog X.w) A (setItem (.ref a) u r) Q E s:=by
 rcases g with⟨ag,k,e,ey,l,eH⟩ | ⟨ag,k,b,e,ey,eb,l,eH⟩
 ·subst ey eH
  obtain⟨z,hd,vs,rel,dd⟩:=Vj I.hok e
  have hz:vs.length<=sizeLine:=by rw [<- rel.length];exact z
  have hl:(Dm ag k v).length<=sizeLine:=by have:=Ed ag k v;omega
  refine wpAny_setItem_pairs (hsz:=hz) (Nj ry) dd λh' jf hs=>h _ ?_
  have he:∃q,h'.get? a=some q:=let⟨q,_,_,hq,_⟩:=jf;⟨q,hq⟩
  exact Jx I (by rw [e];exact True.intro) hs he (Qn hl hd (rel.put k rv) jf)
 ·subst ey eH
  cases (show u=Value.ref b from ry)
  obtain⟨z,hd,xs,rel,dd⟩:=Qad I.hok e
  have hz:xs.length<=sizeLine:=by rw [<- Yck rel];exact z
  have hl:(Dm ag k v).length<=sizeLine:=by have:=Ed ag k v;omega
  refine wpAny_setItem_heap (hsz:=hz) (tupleKind_room_in1 hu) (Mh I.hok eb) dd λh' jf hs=>h _ ?_
  obtain⟨q,es,ep,hq,h2,h3,h4,_,h5⟩:=jf
  refine Jx I (by rw [e];exact True.intro) hs ⟨q,hq⟩ ⟨hl,hd,_,(rel.put k eb rv).keeps λc ys ec=>?_,q,es,ep,hq,h2,h3,h4,h5⟩
  rw [Aw (Ky ec e (λz=>nomatch z))]
  exact ec
end
section
variable {X:Cx}{aa:List (Addr×Obj)}{σ:St}{H:Hp}{s:Shared}{a:Addr}{ag:List (Key×V)}{k:Key}{u:Value}{A:Around}{E:Value->Shared->Prop}
theorem Qae{Q:Value->Shared->Prop}(I:Inv X aa σ H s)(e:Rd H a (.dK ag))(h:∀t s',Inv X aa σ H s'->Q (.int ag.length t) s'):wpAny (model X.prog X.w) A (call (.builtin "len") [.ref a]) Q E s:=by
 obtain⟨z,hd,vs,rel,dd⟩:=Nk I.hok e
 refine call_len_dict hd dd (by rw [<- rel.length];rw [Ydo]at z;omega) ?_
 rw [<- rel.length]
 exact h _ _ (I.tok _)
end
def Xj(i:Expr):Prop:=∀ov iv,subscripted i false ov iv=operate [ov,iv] (getItem ov iv)
theorem Tu{prog:Program}{w:World}{A:Around}{E:Value->Shared->Prop}{s:Shared}{env:Env}{value slice:Expr}{pos:Pos}{T id:String}{Q:Value->Shared->Prop}
  (hl:typeLookup (.type T) "__getitem__" = pure (some (.builtin id))) (hs:Xj slice)
  (h:wpAny (model prog w) A (eval value env) (λo s₁=>wpAny (model prog w) A (eval slice env) (λi s₂=>s₂.TypeIs o T/\wpAny (model prog w) A (getItem o i) Q E s₂) E s₁) E s) :
  wpAny (model prog w) A (eval (.Subscript value slice pos) env) Q E s:=by
 refine Subscript_ (Ybe h (λo s₁ h₁=>Ybe h₁ (λi s₂ h₂=>?_) λ_ _ x=>x) λ_ _ x=>x)
 obtain⟨hT,h₂⟩:=h₂
 unfold subscriptTail
 refine Yab ?_
 rw [getitemInPython_of_ne hT.not_modules]
 refine Yab (wpAny_specialOf hT hl ?_)
 have fin:wpAny (model prog w) A (subscripted slice false o i) (λr s₃=>wpAny (model prog w) A (letTemporaryGo value o r >>= λ_=>pure r) Q E s₃) E s₂:=by
  rw [hs o i]
  exact wpAny_operating (Ybe h₂ (λr s₃ h₃=>Yab (wpAny_letTemporaryGo (Yac h₃))) λ_ _ x=>x)
 first
  | exact Yac (Yab fin)
  | exact Yab (Yac (Yab fin))
  | exact Yab fin
theorem K2{X:Cx}{aa:List (Addr×Obj)}{σ:St}{H:Hp}{s:Shared}{a:Addr}{y:V}{o:Option V}(I:Inv X aa σ H s)(g:DGet H a y o):s.TypeIs (.ref a) "dict" := by
 rcases g with⟨ag,k,e,_,_⟩ | ⟨ag,k,b,e,_,_,_⟩
 ·obtain⟨_,_,vs,_,dd⟩:=Nk I.hok e
  exact dd.typeIs
 ·obtain⟨_,_,xs,_,dd⟩:=Qm I.hok e
  exact dd.typeIs
def Qaf(td ty:TE):TE:=fun σ H Q=>td σ H λx H1=>ty σ H1 λy H2=>∃a v,x=.ref a/\DGet H2 a y (some v)/\Q v H2
def Qag(td ty tv:TE):TS:=λD σ H=>tv σ H λv H1=>td σ H1 λx H2=>ty σ H2 λy H3=>∃a H4,x=.ref a/\DPut H3 a y v H4/\D.nx σ H4
section
variable {X:Cx}{o i e value:Expr}{pos be jm:Pos}{td ty tv:TE}
theorem Tv(hu:X.A.units+1 < cLine)(ho:PE X o td)(hi:PE X i ty)(hs:Xj i):PE X (.Subscript o i pos) (Qaf td ty):=by
 intro aa s σ H Q I h
 refine Tu PySem.F.slot_dict_getitem.lookup hs (thn (ho aa s σ H _ I h) λu s1 og=>Ca og λx H1 I1 rx q1=>thn (hi aa s1 σ H1 _ I1 q1) λiv s2 j9=>?_)
 obtain⟨y,H2,I2,ry,a,v,ex,g,q2⟩:=j9
 subst ex
 obtain rfl:u=Value.ref a:=rx
 exact⟨K2 I2 g,Ox hu I2 g ry λw' s3 I3 fh=>⟨v,H2,I3,fh,q2⟩⟩
theorem Tw(hu:X.A.units+1 < cLine)(ho:PE X o td)(hi:PE X i ty)(hv:PE X value tv)(hs:swapsWith value (some (.Subscript o i be)) pos.line X.env=pure false) :
  PS X (.Assign [.Subscript o i be] value pos) (Qag td ty tv):=by
 intro aa s σ H D I h
 refine wpAny_Assign_Subscript (thn (hv aa s σ H _ I h) λr s1 li=>Ca li λv H1 I1 rv q1=>thn (ho aa s1 σ H1 _ I1 q1) λu s2 kh=>Ca kh λx H2 I2 rx q2=>thn (hi aa s2 σ H2 _ I2 q2) λiv s3 mq=>?_) hs
 obtain⟨y,H3,I3,ry,a,H4,ex,g,q3⟩:=mq
 subst ex
 obtain rfl:u=Value.ref a:=rx
 exact Oy hu I3 g ry rv λs4 I4=>⟨σ,H4,I4,q3⟩
end
theorem Qo{P:Program}{w:World}{H:Hp}(h:Heap)(hb:sysModules < h.objs.size):Bj P w H (h.push { cls:=.type "dict",data:=.dict #[] }) h.objs.size (.dK []) :=
 ⟨Ycq _,Ybv.mpr (Ycl (Yap hb)),[],.nil,Heap.DictOf.new h⟩
section
variable {X:Cx}{pos:Pos}
end
def Jy:List (TE×TE)->St->Hp->(List (V×V)->Hp->Prop)->Prop
 | [],_,H,Q=>Q [] H
 | (tk,tv) :: r,σ,H,Q=>tk σ H λx H1=>tv σ H1 λy H2=>Jy r σ H2 λps H3=>Q ((x,y) :: ps) H3
abbrev VV:List (V×V)->List (Value×Value)->Prop:=Paired λp q=>Bi p.1 q.1/\Bi p.2 q.2
def PPs(X:Cx)(pos:Pos)(bi:List (Option Expr))(ax:List Expr)(gt:List (TE×TE)):Prop :=
 ∀(aa:List (Addr×Obj)) (s:Shared) (σ:St) (H:Hp) (Q:List (V×V)->Hp->Prop),Inv X aa σ H s->Jy gt σ H Q ->
  wpAny (model X.prog X.w) X.A (evalPairs (pairTrees bi ax X.env pos)) (λvs s'=>∃ps H',Inv X aa σ H' s'/\VV ps vs/\Q ps H') X.xe s
theorem Tx{X:Cx}{pos:Pos}:PPs X pos [] [] []:=λaa s σ H Q I h=>pairTrees_nil_walk ⟨[],H,I,.nil,h⟩
theorem Qp{X:Cx}{pos:Pos}{k v:Expr}{ks:List (Option Expr)}{vs:List Expr}{tk tv:TE}{gt:List (TE×TE)}(hk:PE X k tk)(hv:PE X v tv)(hr:PPs X pos ks vs gt) :
  PPs X pos (some k :: ks) (v :: vs) ((tk,tv) :: gt):=λaa s σ H Q I h =>
 pairTrees_cons_walk (thn (hk aa s σ H _ I h) λu s1 mw=>Ca mw λx H1 I1 rx q1=>thn (hv aa s1 σ H1 _ I1 q1) λw2 s2 oh=>Ca oh λy H2 I2 ry q2 =>
  thn (hr aa s2 σ H2 _ I2 q2) λws s3 ow=>Ca ow λps H3 I3 rel q3=>⟨(x,y) :: ps,H3,I3,.cons ⟨rx,ry⟩ rel,q3⟩)
def E7(ag more:List (Key×V)):List (Key×V):=more.foldl (λah kv=>Dm ah kv.1 kv.2) ag
theorem KV.merge:∀{more:List (Key×V)} {rs:List (Key×Value)} {ag:List (Key×V)} {vs:List (Key×Value)},KV more rs->KV ag vs->KV (E7 ag more) (merged vs rs):=by
 intro more rs ag vs r
 unfold KV at r
 induction r generalizing ag vs with
 | nil=>intro q;exact q
 | @cons p q ps qs h t ih =>
  intro r0
  have e:KV (Dm ag p.1 p.2) (stored vs q.1 q.2):=by
   have:=r0.put p.1 h.2
   rw [<- h.1];exact this
  exact ih e
theorem Ez:∀(more ag:List (Key×V)),(E7 ag more).length<=ag.length+more.length
 | [],ag=>by show ag.length<=ag.length+0;omega
 | p :: r,ag=>by
  have h1:=Ez r (Dm ag p.1 p.2)
  have h2:=Ed ag p.1 p.2
  show(E7 (Dm ag p.1 p.2) r).length<=_
  rw [Ya9];omega
theorem Hh{P:Program}{w:World}:∀{ag:List (Key×V)} {ws:List (Value×Value)},VV (ag.map λkv=>(kV kv.1,kv.2)) ws->∃rs,Carries (B5 P w) ws rs/\KV ag rs
 | [],_,r=>by rw [List.map_nil]at r;cases r;exact⟨[],True.intro,.nil⟩
 | p :: ag,_,r=>by
  rw [Yaz]at r
  cases r with
  | @cons a b as bs h t =>
   obtain⟨rs,c,q⟩:=Hh (P:=P) (w:=w) t
   obtain⟨b1,b2⟩:=b
   exact⟨(p.1,b2) :: rs,⟨Nj h.1,rfl,c⟩,.cons ⟨rfl,h.2⟩ q⟩
def Qah(gt:List (TE×TE)):TE:=fun σ H Q=>∀p,H p=none->Jy gt σ (upd H p (.dK [])) λps H2=>H2 p=some (.dK [])/\∃ag:List (Key×V),ps=ag.map (λkv=>(kV kv.1,kv.2))/\ag.length<=15/\Q (.ref p) (upd H2 p (.dK (E7 [] ag)))
theorem Ty{X:Cx}{pos:Pos}{bi:List (Option Expr)}{ax:List Expr}{gt:List (TE×TE)}(h:PPs X pos bi ax gt)(gi:bi.all (·.isSome)=true)(hl:bi.length=ax.length)(h0:bi≠[])
  (vf:bi.length<=15):PE X (.Dict bi ax pos) (Qah gt):=by
 intro aa s σ H Q I q
 have hn:=I.hok.fresh (Yaf s.heap.objs.size)
 have I1:=I.laid (a:=s.heap.objs.size) (o:=.dK []) (h':=s.heap.push { cls:=.type "dict",data:=.dict #[] }) (t':=s.toks) (λ_ _ q=>Heap.get?_push_of_some _ q) (Yaf _) (Qo s.heap I.big)
 refine wpAny_Dict_walk (knd:=B5 X.prog X.w) gi hl h0 vf (thn (h aa _ σ _ _ I1 (q _ hn)) λws s2 nz=>?_)
 obtain⟨ps,H2,I2,rel,e,ag,ep,lk,q2⟩:=nz
 subst ep
 obtain⟨rs,c,rk⟩:=Hh (P:=X.prog) (w:=X.w) rel
 obtain⟨z,hd,vs0,r0,dd⟩:=Vj I2.hok e
 cases r0
 refine⟨rs,c,dd,λh' jf hs=>⟨.ref s.heap.objs.size,_,?_,rfl,q2⟩⟩
 have hz:(E7 [] ag).length<=sizeLine:=by
  have h1:=Ez ag []
  rw [List.length_nil]at h1
  rw [Ydo];omega
 have he:∃q,h'.get? s.heap.objs.size=some q:=let⟨q,_,_,hq,_⟩:=jf;⟨q,hq⟩
 exact Jx I2 (by rw [e];exact True.intro) hs he (Qn hz hd (rk.merge .nil) jf)
section
variable {X:Cx}{aa:List (Addr×Obj)}{σ:St}{H:Hp}{s:Shared}{a:Addr}{y d:V}{u r:Value}{o:Option V}{A:Around}{E:Value->Shared->Prop}
end
section
variable {X:Cx}{o e f:Expr}{bf au:Pos}{td ty tx:TE}
end
section
variable {X:Cx}{aa:List (Addr×Obj)}{σ:St}{H:Hp}{s:Shared}{a:Addr}{ag:List (Key×V)}{A:Around}{E:Value->Shared->Prop}
end
section
variable {X:Cx}{aa:List (Addr×Obj)}{σ:St}{H:Hp}{s:Shared}{a:Addr}{y:V}{u:Value}{A:Around}{E:Value->Shared->Prop}
end
end L2
namespace Att
open PySem PySem.W PySem.Calls PyProof.Rows
theorem Gv{P:Params}{h:Heap}:∀(ns:List Int) (vs:List Value),WellAll P h vs (ns.map WData.int)->IntsAre vs ns:=by
 intro ns
 induction ns with
 | nil =>
  intro vs w
  rw [List.map_nil]at w
  cases w
  exact .nil
 | cons n ns ih =>
  intro vs w
  rw [Yaz]at w
  cases w with
  | cons a b =>
   cases a
   exact .cons _ _ (ih _ b)
theorem Oz{l:OpenLaw}{n:Nat}(hn:l.most=some n){P:Params}{h:Heap}{args:List WData}{ge:List Value}
  (gr:l.row.toRowW.claim.pre args=true) (ze:WellAll P h ge args) :
  ∃a vs ns,ge=[Value.ref a]/\args=[WData.list (ns.map WData.int)]/\h.get? a=some { cls:=.type "list",data:=.seq vs.toArray }/\IntsAre vs ns/\ns.length<=n:=by
 have hsh:WShape.hasAll [] args [.list .int]=true:=(pre_splitW gr).1
 have hc:l.pre.holds [] { args:=args }=true:=(pre_splitW gr).2
 obtain⟨d,r,rfl,h1,h2⟩:=hasAllW_cons hsh
 obtain rfl:=hasAllW_nil h2
 obtain⟨xs,rfl,h3⟩:=hasW_list h1
 obtain⟨ns,rfl⟩:=items_int h3
 have am:ns.length<=n:=by
  unfold OpenLaw.pre at hc
  have h4:(WTm.not (.lt (.lit (.int (n:Int))) (.len (.arg 0)))).holds [] { args:=[.list (ns.map .int)] }=true:=by
   have h4:=(holds_andW hc).1
   rw [hn]at h4
   exact h4
  have h5:=condW_of h4 (w_not (w_lt w_lit (w_len_list (w_arg rfl))))
  rw [Yaa]at h5
  refine Nat.le_of_not_lt λq=>?_
  have q':(n:Int) < ((ns.length:Nat):Int):=by omega
  first
   | (rw [Ybl q']at h5;exact absurd h5 (by decide))
   | (simp at h5;omega)
 cases ze with
 | cons w1 w2 =>
  cases w2
  cases w1 with
  | list ho gi=>exact⟨_,_,ns,rfl,rfl,ho,Gv ns _ gi,am⟩
theorem O0(l:OpenLaw)(args:List WData):l.row.toRowW.claim.post args (.bool true) args=true :=
 postW_of (r:=l.row.toRowW) (X:=(true==true))
  (show WShape.has [] (.bool true) .bool=true by first | rfl | decide | simp [WShape.has,WShape.arms,WShape.armsAll])
  (show(WTm.eq .res (.lit (.bool true))).value [] { args:=args,res:=some (.bool true),after:=args }=some (.bool (true==true)) from w_eq_bool (w_res rfl) w_lit) rfl
theorem attach_call{l:OpenLaw}{n:Nat}{q:Program}{cw:List Str}{XP:(Str->Option Value)->Heap->Prop}{YP:World->Heap->Prop}{d:DefRec}
  (hn:l.most=some n) (om:d.params.defaults=[])
  (call:∀(w:World) (s₀ s₁:Shared) (mg mb:Str->Option Value) (fa:Addr) (o:Obj) (pm cd db:Value) (a:Addr) (vs:List Value) (ns:List Int),
   Ground q cw [] XP w s₀ mg mb s₁.heap->YP w s₁.heap ->
   s₁.heap.get? fa=some o->o.data=.func (docDef d.name d.params d.body d.scope pm cd db)->s₁.heap.CodeRec cd d.name->mg d.name=some (.ref fa) ->
   s₁.heap.get? a=some { cls:=.type "list",data:=.seq vs.toArray }->IntsAre vs ns->ns.length<=n->s₁.gens=#[] ->
   codeAny (model l.prog w) callerA (.call (.ref fa) ⟨[.ref a],[]⟩) (λr s'=>r=.ok (.ret (.bool true))/\OldK s₁.heap s'.heap/\s'.os=s₁.os/\AllBare s'.gens) s₁) :
  WalkO q cw XP YP l.row.toRowW d [] (λf vs=>PySem.call f vs):=by
 intro w s₀ s₁ mg mb G Y fa o pm cd db dV kV ho hd d2 hD hmg hg args ge as gr hlay hrd ze hlo
 obtain rfl:dV=.none:=Dflts.none hD om
 obtain rfl:kV=.none:=Dflts.noKw hD
 obtain⟨a,vs,ns,rfl,rfl,hobj,hints,am⟩:=Oz hn gr ze
 refine enter_call (Ydt (call w s₀ s₁ mg mb fa o pm cd db a vs ns G Y ho (fd_plain hd) d2 hmg hobj hints am hg) λr s' hq=>?_)
 obtain⟨rfl,h2,h3,h4⟩:=hq
 exact⟨.inl ⟨.bool true,.bool true,[],rfl,λ_=>rfl,.bool true,O0 l _,λ_=>⟨List.Pairwise.nil,λ_ hm=>(nomatch hm)⟩⟩,h2,h3,h4⟩
section
variable {prog:Program}{w:World}{A:Around}{E:Value->Shared->Prop}{s:Shared}{K:Frag}
end
end Att
namespace L2
open PySem PySem.Spec PyProof.Rows
theorem Jc:∀{vs:List Value} {ns:List Int},IntsAre vs ns->Vals (ns.map V.int) vs
 | _,_,.nil=>.nil
 | _,_,.cons n t h=>.cons ⟨t,rfl⟩ (Jc h)
def Only(H:Hp):Prop:=∀b,H b=none\/∃o xs,H b=some (.frz o (.lst xs))
theorem Qq{P:Program}{w:World}{K:PySem.W.Frag}{mg mb:Str->Option Value}{CX:CXT}{k:Nat}{fa a:Addr}{fd:FuncData}{x:Str}{sp:Sp}{s₁:Shared}{vs:List Value}{ns:List Int}
  (KX:K.In s₁.heap) (dg:s₁.heap.Ns mainGlobals mg) (hb:s₁.heap.Ns builtinsNs mb) (hbb:∀x:Str,x ≠ "__name__" -> mb x=bootBuiltins x) (rj:s₁.heap.NoLimit) (hg:s₁.gens=#[])
  (ha:s₁.heap.get? a=some { cls:=.type "list",data:=.seq vs.toArray }) (hi:IntsAre vs ns) (hl:ns.length<=sizeLine) (hr:Room k callerA)
  (F:∀base:Heap,K.In base->base.Ns mainGlobals mg->FnOk P w K mg base CX k fa fd [x] sp) (ou:∀(s:Shared) (u:Value),BindsTo s fd ⟨[u],[]⟩ [(x,u)])
  (eh:∀H:Hp,Only H->Dq K H a (ns.map V.int)->sp [.ref a] H (λv _=>v=.bl true) λ_ _ _=>False)
  (vo:∀H e s',CX [] H s₁ (λ_ _ _=>False) e s'->False) :
  codeAny (model P w) callerA (.call (.ref fa) ⟨[.ref a],[]⟩) (λr s'=>r=.ok (.ret (.bool true))/\OldK s₁.heap s'.heap/\s'.os=s₁.os/\AllBare s'.gens) s₁:=by
 have rv:=Jc hi
 have rq:=hi.length
 have ak:∀H:Hp,Only H->Dq K H a (ns.map V.int)->HOk P w H s₁.heap->(∀b,H b≠none->b=a)->(H a≠none->K.lookup a=none) ->
   codeAny (model P w) callerA (.call (.ref fa) ⟨[.ref a],[]⟩) (λr s'=>r=.ok (.ret (.bool true))/\OldK s₁.heap s'.heap/\s'.os=s₁.os/\AllBare s'.gens) s₁:=by
  intro H hO hS hok hA hK
  have fc:∀{b:Addr} {o:Obj},s₁.heap.get? b=some o->H b=none->(Jq s₁.heap H).get? b=some o:=λe n=>Pu e n
  have nv:∀{b:Addr} {o:Obj} {es:Array DictEntry} {ep:Nat},s₁.heap.get? b=some o->o.data=.dict es ep->H b=none:=λ{b o es ep} e d=>by
   cases q:H b with
   | none=>rfl
   | some u =>
    have e':b=a:=hA b (by rw [q];simp)
    subst e'
    rw [ha]at e;cases e
    have d':Data.seq vs.toArray _=Data.dict es ep:=d
    cases d'
  have qp:∀{b:Addr} {m:Str->Option Value},s₁.heap.Ns b m->(Jq s₁.heap H).Ns b m:=λ{b m} ⟨o,es,ep,e,d,r⟩=>⟨o,es,ep,fc e (nv e d),d,r⟩
  have hKb:K.In (Jq s₁.heap H):=λb o e=>fc (KX b o e) (by
   cases q:H b with
   | none=>rfl
   | some u =>
    have e':b=a:=hA b (by rw [q];simp)
    subst e'
    rw [hK (by rw [q];simp)]at e;cases e)
  have hM:Mod K mg (Jq s₁.heap H):=⟨hKb,qp dg,⟨mb,qp hb,hbb⟩,let⟨mc,h1,h2⟩:=rj;⟨mc,qp h1,h2⟩⟩
  have e0:Env0 P w K mg (Jq s₁.heap H) callerA [] s₁ H:=⟨rfl,hM,λb o e=>Sx e,Nat.le_of_eq (On _ _),trivial,λb hb=>absurd (show b∈([]:List Addr) from hb) (by simp),hok,.of_eq hg⟩
  refine Ydt ((F _ hKb (qp dg)).run callerA [] s₁ H ⟨[.ref a],[]⟩ [.ref a] [.ref a] _ _ hr e0 (ou s₁ (.ref a)) (.cons rfl .nil) (eh H hO hS)) λr s' h=>?_
  cases r with
  | error e=>exact(vo H e s' h).elim
  | ok fl =>
   cases fl with
   | next=>exact False.elim h
   | brk=>exact False.elim h
   | cont=>exact False.elim h
   | ret u =>
    obtain⟨v,H',os,bare,un,hok',r',q⟩:=h
    have q':v=.bl true:=q
    subst q'
    obtain rfl:u=Value.bool true:=r'
    refine⟨rfl,OldK.of_keep λb o e=>?_,os,bare⟩
    cases q:H b with
    | none=>exact un.keep b o e q (by intro z;exact absurd (show b∈([]:List Addr) from z) (by simp)) (by simp)
    | some u =>
     rcases hO b with z | ⟨ob,xs,z⟩
     ·rw [q]at z;cases z
     ·have z2:=un.frzs b ob _ z
      obtain⟨e1,_⟩:=hok b _ z
      obtain⟨e2,_⟩:=hok' b _ z2
      rw [e]at e1;cases e1
      exact e2
 cases hk:K.lookup a with
 | some o =>
  have e:=KX a o hk
  rw [ha]at e
  cases e
  refine ak (λ_=>none) (λ_=>.inl rfl) (.inr ⟨_,vs.toArray,_,hk,rfl,rfl,rfl,by rw [Yah,rq];exact hl,by simpa using rv⟩) (λb u z=>by have z':(none:Option HO)=some u:=z;cases z') (λb z=>absurd rfl z) λz=>absurd rfl z
 | none =>
  refine ak (λb=>if b=a then some (.frz { cls:=.type "list",data:=.seq vs.toArray } (.lst (ns.map V.int))) else none) (λb=>?_) (.inl (.inr ⟨{ cls:=.type "list",data:=.seq vs.toArray },Yaq rfl⟩)) (λb u z=>?_) (λb z=>?_) λ_=>hk
  ·by_cases hb:b=a
   ·exact .inr ⟨_,_,Yaq hb⟩
   ·exact .inl (Yan hb)
  ·by_cases hb:b=a
   ·have z':=(Yaq hb).symm.trans z
    cases z'
    subst hb
    exact⟨ha,by rw [Yaa];exact hl,vs,_,rv,ha⟩
   ·have z':=(Yan hb).symm.trans z
    cases z'
  ·by_cases hb:b=a
   ·exact hb
   ·exact absurd (Yan hb) z
theorem walk_of{l:PySem.W.OpenLaw}{n k:Nat}{q:Program}{cw:List Str}{XP:(Str->Option Value)->Heap->Prop}{YP:World->Heap->Prop}{d:DefRec}{K:Params->PySem.W.Frag}{CX:World->CXT}{sp:World->Sp}{x:Str}
  (hn:l.most=some n) (fy:n<=sizeLine) (om:d.params.defaults=[]) (hr:Room k callerA)
  (hY:∀(w:World) (h:Heap),YP w h->(K w.params).In h)
  (F:∀(w:World) (mg:Str->Option Value) (fa:Addr) (h:Heap),(K w.params).In h->h.Ns mainGlobals mg->mg d.name=some (.ref fa) ->
   ∃fd:FuncData,(∀(s:Shared) (u:Value),BindsTo s fd ⟨[u],[]⟩ [(x,u)]) /\
    ∀base:Heap,(K w.params).In base->base.Ns mainGlobals mg->FnOk l.prog w (K w.params) mg base (CX w) k fa fd [x] (sp w))
  (eh:∀(w:World) (H:Hp) (a:Addr) (ns:List Int),ns.length<=n->Only H->Dq (K w.params) H a (ns.map V.int)->sp w [.ref a] H (λv _=>v=.bl true) λ_ _ _=>False)
  (vo:∀(w:World) (H:Hp) (s:Shared) (e:Value) (s':Shared),CX w [] H s (λ_ _ _=>False) e s'->False) :
  PySem.W.WalkO q cw XP YP l.row.toRowW d [] (λf vs=>PySem.call f vs):=by
 refine Att.attach_call hn om λw s₀ s₁ mg mb fa o pm cd db a vs ns G Y ho hd d2 hmg hobj hints am hg=>?_
 have KX:=hY w _ Y
 obtain⟨fd,hb,hF⟩:=F w mg fa _ KX G.T.g hmg
 exact Qq KX G.T.g G.T.b G.T.builtins G.T.nolimit hg hobj hints (Yai am fy) hr hF hb (λH hO hS=>eh w H a ns am hO hS) λH e s'=>vo w H s₁ e s'
def Bf(s:Stmt):Arguments:=match s with
 | .FunctionDef _ a _ _ _ _ _ _ _ _=>a
 | _=>{ posonlyargs:=[],args:=[],vararg:=none,kwonlyargs:=[],kw_defaults:=[],kwarg:=none,defaults:=[] }
def A5(s:Stmt):List Stmt:=match s with
 | .FunctionDef _ _ b _ _ _ _ _ _ _=>b
 | _=>[]
def Ag(s:Stmt):Scope:=match s with
 | .FunctionDef _ _ _ _ _ _ sc _ _ _=>sc
 | _=>{ kind:=.function,names:=[],isGenerator:=false,isCoroutine:=false }
abbrev En:CXT:=λ_ _ _ _ _ _=>False
abbrev E0:XK:=λ_ _ _=>False
theorem Vk{X:Cx}:Passes En X E0:=λ_ _ _ _ _ _ _ h=>h.elim
structure Fun(K:PySem.W.Frag)(x qual:Str)(st:Stmt)(f:Addr)(fd:FuncData):Prop where
 ex:∃(oc:Value) (od:Option Addr) (kV db pm:Value) (an:Option Addr) (aq ct:Value) (gx:Array (Option Value)),
  fd=PySem.W.fnOf x qual (Bf st) (A5 st) (Ag st) .none kV db pm an aq ct/\K.lookup f=some ⟨oc,od,.func fd,gx⟩/\PySem.W.codeIn K aq qual=true
 kp:PySem.W.keepIn K (.ref f)=true
section
variable {P:Program}{w:World}{K:PySem.W.Frag}{mg:Str->Option Value}{base:Heap}
theorem Fun.ok{x qual:Str}{st:Stmt}{f:Addr}{fd:FuncData}{N ps:List Str}{k:Nat}{sp:Sp}(F:Fun K x qual st f fd)(S:FnScope N ps (Ag st))(len:∀vs H Q E,sp vs H Q E->vs.length=ps.length)
  (bw:∀(aq:Value) (A:Around) (outer:List Env) (s:Shared) (H:Hp) (vs:List V) (Q:VK) (E:XK),Room k (A.deeper (envOfC qual (Ag st) s.heap.objs.size f aq))->sp vs H Q E ->
   ∃t,PSs (Fz En P w K mg base N qual (Ag st) f aq A outer s H E).nox (A5 st) t/\t { nx:=λ_ H'=>Q .non H',rt:=Q } (start N vs) H):FnOk P w K mg base En (k+1) f fd ps sp:=by
 obtain⟨oc,od,kV,db,pm,an,aq,ct,gx,rfl,lk,d2⟩:=F.ex
 refine Vh lk d2 S len λA outer s H vs Q E hr eh=>?_
 obtain⟨t,h,q⟩:=bw aq A outer s H vs Q E hr eh
 exact⟨t,h.nox,q⟩
theorem Fun.binds{x qual:Str}{st:Stmt}{f:Addr}{fd:FuncData}{ps:List Str}(F:Fun K x qual st f fd)
  (h:∀(kV db pm:Value) (an:Option Addr) (aq ct:Value) (us:List Value),us.length=ps.length->bindArgs (PySem.W.fnOf x qual (Bf st) (A5 st) (Ag st) .none kV db pm an aq ct) ⟨us,[]⟩=pure (ps.zip us)):Binds K fd ps []:=by
 obtain⟨oc,od,kV,db,pm,an,aq,ct,gx,rfl,lk,d2⟩:=F.ex
 exact .all (h kV db pm an aq ct)
theorem Br{x qual:Str}{st:Stmt}{f:Addr}{oc:Value}{od an:Option Addr}{gx:Array (Option Value)}{kV db pm aq ct:Value}(l:K.lookup f=some ⟨oc,od,.func (PySem.W.fnOf x qual (Bf st) (A5 st) (Ag st) .none kV db pm an aq ct),gx⟩)
  (c:PySem.W.codeIn K aq qual=true) (k:PySem.W.keepIn K (.ref f)=true):Fun K x qual st f (PySem.W.fnOf x qual (Bf st) (A5 st) (Ag st) .none kV db pm an aq ct):=⟨⟨oc,od,kV,db,pm,an,aq,ct,gx,rfl,l,c⟩,k⟩
end
theorem E2{A:Around}{k:Nat}(hr:Room k A):A.units+1 < cLine:=Nat.lt_of_le_of_lt (Nat.add_le_add_left (by decide:1<=64) _) hr.units
theorem Bs{n:Nat}(h:n<=1000):n < sizeLine:=Nat.lt_of_le_of_lt h (by decide)
section
variable {X:Cx}
theorem pv(i:Nat){x:Str}{pos:Pos}(hN:X.N[i]?=some x:=by rfl)(hv:Vis X.env.scope x:=by first | exact Or.inl rfl | exact Or.inr (Or.inl rfl) | exact Or.inr (Or.inr rfl))(hd:(x==("__debug__" : Str))=false:=by decide)
  (d2:(x==("__classdict__" : Str))=false:=by decide):PE X (.Name x pos) (Wi i):=Pw hN hv hd d2
theorem O1:Ec X (.builtin "len") (λxs H Q=>∃a ag,xs=[V.ref a]/\H a=some (.dK ag)/\Q (.int ag.length) H):=by
 intro aa s σ H xs us Q I r h
 obtain⟨a,ag,rfl,ha,q⟩:=h
 obtain⟨u,rfl,ru⟩:=D9 r
 cases ru
 exact Qae I (.inl ha) λt s' I'=>⟨.int ag.length,H,I',⟨t,rfl⟩,q⟩
end
section
variable {κ:Type} [DecidableEq κ]
end
end L2
set_option maxHeartbeats 4000000
namespace L2
open PySem
def Ee(cells:List (Str×Addr)):List (Str×NameKind)->List (Str×Addr)->List (Str×Addr)
 | [],ah=>ah
 | (n,k) :: r,ah=>if k=NameKind.free then Ee cells r ((n,(cells.lookup n).getD 0) :: ah) else Ee cells r ah
theorem E3{scope:Scope}{env:Env}(h:∀x∈scope.names,x.2=.free->∃c,env.cells.lookup x.1=some c) :
  closureFor scope env=pure (Ee env.cells scope.names []):=by
 have ij:∀(names:List (Str×NameKind)) (ah:List (Str×Addr)),(∀x∈names,x.2=.free->∃c,env.cells.lookup x.1=some c) ->
   (do
     let mut cs:=ah
     for (name,kind) in names do
      if kind==.free then cs:=(name,<- cellOf env name) :: cs
     return cs:Sem (List (Str×Addr)))=pure (Ee env.cells names ah):=by
  intro names
  induction names with
  | nil=>intro ah _;rfl
  | cons x r ih =>
   intro ah h
   obtain⟨n,k⟩:=x
   have hr:∀y∈r,y.2=.free->∃c,env.cells.lookup y.1=some c:=λy hy=>h y (Yao _ hy)
   by_cases hk:k=.free
   ·subst hk
    obtain⟨c,hc⟩:=h (n,.free) Yau rfl
    have e:cellOf env n=pure c:=by unfold cellOf;rw [hc]
    have q:=ih ((n,c) :: ah) hr
    simp only [List.forIn_cons,beq_self_eq_true,if_true,e]
    unfold Ee
    rw [Yaq rfl,hc]
    exact q
   ·have hb:(k==NameKind.free)=false:=by simpa using hk
    have q:=ih ah hr
    simp only [List.forIn_cons,hb,Bool.false_eq_true,if_false]
    unfold Ee
    rw [Yan hk]
    exact q
 exact ij scope.names [] h
theorem Hi{cells:List (Str×Addr)}:∀{names:List (Str×NameKind)} {ah:List (Str×Addr)},
  (∀x∈names,x.2=.free->∃c,cells.lookup x.1=some c)->(∀x c,ah.lookup x=some c->cells.lookup x=some c) ->
  ∀x c,(Ee cells names ah).lookup x=some c->cells.lookup x=some c
 | [],_,_,h,x,c,e=>h x c e
 | (n,k) :: r,ah,hf,h,x,c,e=>by
  unfold Ee at e
  have hr:∀y∈r,y.2=.free->∃c,cells.lookup y.1=some c:=λy hy=>hf y (Yao _ hy)
  by_cases hk:k=.free
  ·rw [Yaq hk]at e
   refine Hi hr (λy d q=>?_) x c e
   obtain⟨c',cj⟩:=hf (n,k) Yau hk
   have cj:cells.lookup n=some c':=cj
   rw [Ydh]at q
   cases hy:y==n with
   | true =>
    rw [hy,cj]at q
    have e1:y=n:=by simpa using hy
    rw [e1,cj]
    exact q
   | false=>rw [hy]at q;exact h y d q
  ·rw [Yan hk]at e
   exact Hi hr h x c e
theorem E8{cells:List (Str×Addr)}{x:Str}:∀{names:List (Str×NameKind)} {ah:List (Str×Addr)},
  (∃c,ah.lookup x=some c)->∃c,(Ee cells names ah).lookup x=some c
 | [],_,h=>h
 | (n,k) :: r,ah,⟨c,h⟩=>by
  unfold Ee
  split
  ·refine E8 ?_
   rw [Ydh]
   cases x==n with
   | true=>exact⟨_,rfl⟩
   | false=>exact⟨c,h⟩
  ·exact E8 ⟨c,h⟩
theorem Fi{cells:List (Str×Addr)}{x:Str}:∀{names:List (Str×NameKind)} {ah:List (Str×Addr)},
  (x,NameKind.free)∈names->∃c,(Ee cells names ah).lookup x=some c
 | (n,k) :: r,ah,h=>by
  unfold Ee
  rcases Ya8.mp h with e | e
  ·cases e
   rw [Yaq rfl]
   refine E8 ?_
   rw [Ydh,beq_self_eq_true]
   exact⟨_,rfl⟩
  ·split
   ·exact Fi e
   ·exact Fi e
end L2
namespace PySem
open Sem (wp)
section
variable {prog:Program}{w:World}{A:Around}{E:Value->Shared->Prop}{R:Result->Shared->Prop}{s:Shared}
theorem K3{de ci ap:Expr}{cp:List Expr}{scope:Scope}{pos:Pos}{it ah:Value}{env:Env}(I:Nat->Shared->Prop)
  (turn:∀n s,I n s->wpAny (model prog w) A (pyNext it) (λr s₁=>match r with
   | none=>R (.ok .next) s₁
   | some v=>wpAny (model prog w) A (letOwnedTupleGo ci it v) (λ_ s₁'=>wpAny (model prog w) A (assign ci env v) (λ_ s₂ =>
     wpAny (model prog w) A (forIn cp true λc r=>if r=true then do let ok <- isTrue c env (eval c env);pure (ForInStep.yield ok) else pure (ForInStep.yield r)) (λok s₃ =>
      if ok=true then wpAny (model prog w) A (eval de env) (λx s₄ =>
       wpAny (model prog w) A (call (.builtin "list.append") [ah,x]) (λ_ s₅=>∃m,m < n/\I m s₅) (λ_ _=>False) s₄) (λ_ _=>False) s₃
      else ∃m,m < n/\I m s₃) (λ_ _=>False) s₂) (λ_ _=>False) s₁') (λ_ _=>False) s₁) (λ_ _=>False) s)
  (n:Nat) (h:I n s) :
  codeAny (model prog w) A (.compLoop (.ListComp de [⟨ci,ap,cp,0⟩] scope pos) 0 it ah env) R s:=by
 refine codeAny_loop rfl I (λn s hI=>?_) n h
 show wpAny _ A ((compTurn (.ListComp de [⟨ci,ap,cp,0⟩] scope pos) 0 it ah env).onRaise (λx=>do noteFrame x env;theTreesLotGoes x)) _ _ s
 refine wpAny_noted ?_
 rw [compTurn_list]
 refine Yab (Ycv (Yab (Ybe (turn n s hI) (λr s₁ h₁=>?_) λ_ _ h'=>h'.elim)))
 cases r with
 | none=>exact Yac h₁
 | some v =>
  refine Yab (Ybe h₁ (λ_ s₁' h₁'=>?_) λ_ _ h'=>h'.elim)
  refine Yab (Ybe h₁' (λ_ s₂ h₂=>Yab (Ybe h₂ (λok s₃ h₃=>?_) λ_ _ h'=>h'.elim)) λ_ _ h'=>h'.elim)
  cases ok with
  | false=>exact Yac ⟨rfl,h₃⟩
  | true =>
   exact Yab (Yab (Ybe h₃ (λx s₄ h₄=>Yab (Ybe h₄ (λ_ s₅ h₅=>Yac (Yac ⟨rfl,h₅⟩)) λ_ _ h'=>h'.elim)) λ_ _ h'=>h'.elim))
end
end PySem
namespace L2
open PySem PySem.Spec PyProof.Rows
def K4(mp:List (Option Nat))(σ:St):St:=mp.map λo=>match o with | some i=>(σ[i]?).join | none=>none
def Tz(pn:List (Str×NameKind))(x:Str):Bool:=decide (pn.lookup x=some .cell) || decide (pn.lookup x=some .free)
def Qr(N:List Str)(pn cn:List (Str×NameKind))(N':List Str)(mp:List (Option Nat)):Bool :=
 decide (N'.length=mp.length) && decide N'.Nodup &&
 (List.range N'.length).all (λk=>match mp[k]?,N'[k]? with
  | some (some i),some x=>decide (N[i]?=some x) && Tz pn x && decide ((x,NameKind.free)∈cn) && decide (cn.lookup x=some .free)
  | _,_=>true) &&
 cn.all (λp=>decide (p.2≠.cell)) && cn.all (λp=>decide (p.2≠.free) || Tz pn p.1) && cn.all (λp=>decide (p.2≠.local) || decide (cn.lookup p.1=some .local))
structure CompOk(N:List Str)(pn cn:List (Str×NameKind))(N':List Str)(mp:List (Option Nat)):Prop where
 len:N'.length=mp.length
 nd:N'.Nodup
 map:∀(k i:Nat) (x:Str),mp[k]?=some (some i)->N'[k]?=some x->N[i]?=some x/\(pn.lookup x=some .cell\/pn.lookup x=some .free)/\(x,NameKind.free)∈cn/\cn.lookup x=some .free
 nocell:∀p∈cn,p.2≠.cell
 free:∀p∈cn,p.2=.free->(pn.lookup p.1=some .cell\/pn.lookup p.1=some .free)
 loc:∀p∈cn,p.2=.local->cn.lookup p.1=some .local
theorem K5{pn:List (Str×NameKind)}{x:Str}(h:Tz pn x=true):pn.lookup x=some .cell\/pn.lookup x=some .free:=by
 unfold Tz at h
 rcases(Bool.or_eq_true _ _).mp h with h | h
 ·exact .inl (Yam h)
 ·exact .inr (Yam h)
theorem Bb{N:List Str}{pn cn:List (Str×NameKind)}{N':List Str}{mp:List (Option Nat)}(h:Qr N pn cn N' mp=true):CompOk N pn cn N' mp:=by
 unfold Qr at h
 obtain⟨h,h6⟩:=(Yar _ _).mp h
 obtain⟨h,h5⟩:=(Yar _ _).mp h
 obtain⟨h,h4⟩:=(Yar _ _).mp h
 obtain⟨h,h3⟩:=(Yar _ _).mp h
 obtain⟨h1,h2⟩:=(Yar _ _).mp h
 refine⟨Yam h1,Yam h2,λk i x e1 e2=>?_,λp hp=>Yam (Ybx.mp h4 p hp),λp hp e=>?_,λp hp e=>?_⟩
 ·have hk:k < N'.length:=(List.getElem?_eq_some_iff.mp e2).1
  have q:=Ybx.mp h3 k (Yb2.mpr hk)
  simp only [e1,e2]at q
  obtain⟨q,q4⟩:=(Yar _ _).mp q
  obtain⟨q,q3⟩:=(Yar _ _).mp q
  obtain⟨q1,q2⟩:=(Yar _ _).mp q
  exact⟨Yam q1,K5 q2,Yam q3,Yam q4⟩
 ·rcases(Bool.or_eq_true _ _).mp (Ybx.mp h5 p hp) with z | z
  ·exact absurd e (Yam z)
  ·exact K5 z
 ·rcases(Bool.or_eq_true _ _).mp (Ybx.mp h6 p hp) with z | z
  ·exact absurd e (Yam z)
  ·exact Yam z
theorem Jz{env:Env}:∀{names:List (Str×NameKind)} {x:Str},names.lookup x=some .free ->
  (names.map λ(n,k)=>if(k==NameKind.free && env.scope.kind==.function && env.kindOf n==some .cell) then(n,NameKind.cell) else(n,k)).lookup x=some .cell \/
  (names.map λ(n,k)=>if(k==NameKind.free && env.scope.kind==.function && env.kindOf n==some .cell) then(n,NameKind.cell) else(n,k)).lookup x=some .free
 | [],_,h=>by simp at h
 | (n,k) :: r,x,h=>by
  have ih:=@Jz env r x
  rw [Yaz]
  cases hx:x==n with
  | true =>
   simp only [List.lookup_cons,hx]at h
   cases h
   by_cases hc:(NameKind.free==NameKind.free && env.scope.kind==.function && env.kindOf n==some .cell)=true
   ·refine .inl ?_
    simp only [hc,if_true,List.lookup_cons,hx]
   ·refine .inr ?_
    simp only [if_neg hc,List.lookup_cons,hx]
  | false =>
   simp only [List.lookup_cons,hx]at h
   by_cases hc:(k==NameKind.free && env.scope.kind==.function && env.kindOf n==some .cell)=true
   ·simp only [hc,if_true,List.lookup_cons,hx];exact ih h
   ·simp only [if_neg hc,List.lookup_cons,hx];exact ih h
theorem J1{env:Env}:∀{names:List (Str×NameKind)} {x:Str},(∀p∈names,p.2≠.cell) ->
  ((names.map λ(n,k)=>if(k==NameKind.free && env.scope.kind==.function && env.kindOf n==some .cell) then(n,NameKind.cell) else(n,k)).lookup x=some .cell \/
  (names.map λ(n,k)=>if(k==NameKind.free && env.scope.kind==.function && env.kindOf n==some .cell) then(n,NameKind.cell) else(n,k)).lookup x=some .free)->(x,NameKind.free)∈names
 | [],_,_,h=>by simp at h
 | (n,k) :: r,x,hn,h=>by
  have ih:=@J1 env r x λp hp=>hn p (Yao _ hp)
  rw [Yaz]at h
  cases hx:x==n with
  | true =>
   have e:x=n:=by simpa using hx
   subst e
   have hk:=hn (x,k) Yau
   by_cases hc:(k==NameKind.free && env.scope.kind==.function && env.kindOf x==some .cell)=true
   ·have:k=.free:=by
     simp only [Bool.and_eq_true]at hc
     simpa using hc.1.1
    rw [this];exact Yau
   ·simp only [if_neg hc,List.lookup_cons,hx]at h
    rcases h with h | h
    ·exact absurd (Ya1 h) hk
    ·rw [Ya1 h];exact Yau
  | false =>
   by_cases hc:(k==NameKind.free && env.scope.kind==.function && env.kindOf n==some .cell)=true
   ·simp only [hc,if_true,List.lookup_cons,hx]at h;exact Yao _ (ih h)
   ·simp only [if_neg hc,List.lookup_cons,hx]at h;exact Yao _ (ih h)
end L2
namespace PySem
open Sem (wp)
section
variable {prog:Program}{w:World}{A:Around}{E:Value->Shared->Prop}{R:Result->Shared->Prop}{s:Shared}
variable {I:Addr}{fp wr:List Addr}{G:Array GenState->Array GenState->Prop}{n:Nat}{P:Nat->Value->Prop}{St:Nat->Shared->Prop}
theorem J5:typeLookup (.type "list_reverseiterator") "__len__" = pure none:=by rw [typeLookup_type,builtinLookup_eq_fast];kernel_rfl
theorem K6:typeLookup (.type "list_reverseiterator") "__length_hint__" = pure (some (.builtin "list_reverseiterator.__length_hint__")):=by rw [typeLookup_type,builtinLookup_eq_fast];kernel_rfl
set_option maxRecDepth 100000 in
theorem Ik(W:WalksS prog w A.in1 I fp wr G n P St)(hT:∀i s,St i s->s.TypeIs (.ref I) "list_reverseiterator") (S:Addr) (res:Value) (bg:St 0 s) (jl:S∉fp) (hI:I∈fp)
  {c:Nat} (hS:s.heap.get? S=some { cls:=.type "list",dict:=none,data:=.seq #[] c,slots:=#[] })
  (hR:∀s' aw c',Moved (S :: wr) G s s'->s'.heap.get? S=some { cls:=.type "list",dict:=none,data:=.seq aw c',slots:=#[] }->ItemsOf P aw n->R (.ok (.ret res)) s') (hn:n<=sizeLine:=by size_fits) :
  wpAny (model prog w) A.in1 (Builtin.List.listExtendWith (.ref S) (.ref I) res)
   (λfin s'=>match fin with | .done f=>R (.ok f) s' | .again c'=>c'.quiet=true/\codeAny (model prog w) A c' R s') (λe s'=>R (.error e) s') s:=by
 have hSI:S≠I:=λe=>jl (e ▸ hI)
 have h1:Builtin.List.listSameRef (.ref S) (.ref I)=false:=by simp [Builtin.List.listSameRef,hSI]
 unfold Builtin.List.listExtendWith
 refine Yab (wpAny_typeOf (hT 0 _ bg) ?_)
 rw [Yan (by rw [h1];decide)]
 refine Yab (W.self 0 _ _ _ bg ?_)
 refine Yab (Yb8 ?_)
 unfold Builtin.List.listLengthHint
 refine Yab (wpAny_specialOf (hT 0 _ bg) J5 ?_)
 show wpAny _ A.in1 (specialOf (Value.ref I) (Str.ofString "__length_hint__") >>= _) _ _ _
 refine Yab (wpAny_specialOf (hT 0 _ bg) K6 ?_)
 generalize hid:("list_reverseiterator.__length_hint__" : String)=id0
 wp_delta
 rw [show splitId id0=some ("list_reverseiterator","__length_hint__") from by subst hid;decide +kernel]
 subst hid
 refine Yab (wpAny_isInstance (b:=true) (hT 0 _ bg) (by rw [isSubtype_type];kernel_rfl) ?_)
 refine Yac ?_
 rw [Yan (by decide)]
 exact Yac ⟨plainId_quiet F.plain_extend_loop _,codeAny_extend_loopS W hn _ jl _ n 0 _ _ _ rfl (Ycq _) bg hS (ItemsOf.nil P) λs' aw c' hm lj bv=>hR s' aw c' hm lj bv⟩
set_option maxRecDepth 100000 in
theorem Ga(W:WalksS prog w A.in1 I fp wr G n P St)(hT:∀i s,St i s->s.TypeIs (.ref I) "list_reverseiterator") (S:Addr) (bg:St 0 s) (jl:S∉fp) (hI:I∈fp)
  (hS:s.heap.get? S=some { cls:=.type "list",data:=.seq #[] })
  (hR:∀s' aw c',Moved (S :: wr) G s s'->s'.heap.get? S=some { cls:=.type "list",dict:=none,data:=.seq aw c',slots:=#[] }->ItemsOf P aw n->R (.ok (.ret .none)) s') (hn:n<=sizeLine:=by size_fits) :
  wpAny (model prog w) A.in1 (Builtin.«list.__init__» ⟨[.ref S,.ref I],[]⟩)
   (λfin s'=>match fin with | .done f=>R (.ok f) s' | .again c'=>c'.quiet=true/\codeAny (model prog w) A c' R s') (λe s'=>R (.error e) s') s:=by
 show wpAny _ A.in1 (do let c9 <- Builtin.List.listItems (.ref S);Builtin.List.listUpdate (.ref S) (λ_=>#[]);letGo c9.toList.reverse;Builtin.List.listExtendWith (.ref S) (.ref I) .none) _ _ s
 refine Yab ?_
 unfold Builtin.List.listItems
 refine Yab (wpAny_seqItems hS rfl (Yac ?_))
 show wpAny _ A.in1 (updateSeq S (λ_=>#[]) >>= λ_=>letGo (#[]:Array Value).toList.reverse >>= λ_=>Builtin.List.listExtendWith (.ref S) (.ref I) .none) _ _ s
 refine Yab (wpAny_updateSeq hS rfl ?_)
 have hS₂:=Heap.get?_update_self (Obj.mapSeq (λ_=>(#[]:Array Value))) hS rfl
 have cu:∀b o,b≠S->s.heap.get? b=some o->(s.heap.update S (Obj.mapSeq (λ_=>(#[]:Array Value)))).get? b=some o :=
  λb o hb e=>(Heap.get?_update_other _ _ (Ycl hb)).trans e
 refine Yab (wpAny_letGo ?_)
 refine Ik (hn:=hn) W hT S .none (W.frame 0 s _ s.toks bg (Yaf _) λb hb o e=>cu b o (λh=>jl (h ▸ hb)) e) jl hI hS₂ λs' aw c' hm lj bv=>?_
 exact hR s' aw c' (Moved.trans W.gtrans ((Moved.refl W.grefl).then_heap (Yaf _) λb o hb e=>cu b o (λh=>hb (h ▸ Yau)) e) hm) lj bv
theorem Gb{Q:Value->Shared->Prop}(W:WalksS prog w A.in1.in1 I fp wr G n P St)(hT:∀i s,St i s->s.TypeIs (.ref I) "list_reverseiterator") (bg:St 0 s) (hfp:∀b∈fp,b < s.heap.objs.size) (hI:I∈fp)
  (hQ:∀s' aw c',Moved (s.heap.objs.size :: wr) G { s with heap:=s.heap.push { cls:=.type "list",data:=.seq #[] } } s' ->
   s'.heap.get? s.heap.objs.size=some { cls:=.type "list",dict:=none,data:=.seq aw c',slots:=#[] }->ItemsOf P aw n->Q (.ref s.heap.objs.size) s') (hn:n<=sizeLine:=by size_fits) :
  wpAny (model prog w) A (call (.type "list") [.ref I]) Q E s:=by
 have jl:s.heap.objs.size∉fp:=λhm=>Yby _ (hfp _ hm)
 refine callType_codes (Q₁:=λobj s₁=>obj=.ref s.heap.objs.size/\s₁={ s with heap:=s.heap.push { cls:=.type "list",data:=.seq #[] } }) F.called_list (F.typeCall_list_1 _) F.entry_list_init
  (code_list_new _ ⟨rfl,rfl⟩) λobj s₁ h₁=>?_
 obtain⟨rfl,rfl⟩:=h₁
 have hS:(s.heap.push { cls:=.type "list",data:=.seq #[] }).get? s.heap.objs.size=some { cls:=.type "list",data:=.seq #[] }:=Heap.get?_push_size _ rfl
 refine⟨⟨_,hS,rfl⟩,F.args_list_init_2 _ _,Ga (hn:=hn) W hT _ (W.frame 0 s _ s.toks bg (Yaf _) λb _ o e=>Heap.get?_push_of_some _ e) jl hI hS λs' aw c' hm lj bv=>?_⟩
 exact⟨rfl,hQ s' aw c' hm lj bv⟩
end
end PySem
namespace L2
open PySem PySem.Spec PyProof.Rows
def Bu(X:Cx)(N':List Str)(scope:Scope)(C:Addr)(s:Shared)(H:Hp)(fp:List Addr):Cx :=
 { X with N:=N',s₀:=s,H₀:=H,env:=compEnvC scope (Ee X.env.cells scope.names []) C X.env,outer:=X.stack,stack:=X.stack,ex:=fp,fn:=λ_=>false,pn:=[],xe:=λ_ _=>False }
def PIfs(X:Cx)(cp:List Expr)(t:TT):Prop :=
 ∀(aa:List (Addr×Obj)) (s:Shared) (σ:St) (H:Hp) (Q:Bool->Hp->Prop),Inv X aa σ H s->t σ H Q ->
  wpAny (model X.prog X.w) X.A (forIn cp true λc r=>if r=true then do let ok <- isTrue c X.env (eval c X.env);pure (ForInStep.yield ok) else pure (ForInStep.yield r)) (TP X aa σ Q) X.xe s
def Qea:TT:=λ_ H Q=>Q true H
theorem Qs{X:Cx}:PIfs X [] Qea:=λ_ _ _ H _ I h=>wpAny_tests_nil ⟨H,I,h⟩
theorem Qt{X:Cx}{c:Expr}{t:TT}(h:PT X c t):PIfs X [c] t:=λaa s σ H Q I hw=>wpAny_tests_one (h aa s σ H Q I hw)
def Qu(p:Addr)(J:It)(g:TG)(tst:TT)(te:TE)(Q:Hp->Prop)(σ:St)(H:Hp):Prop :=
 ∃W:Nat->Nat->List V->St->Hp->Prop,(∃m,W 0 m [] σ H)/\∀i m ah σ' H',W i m ah σ' H' ->
  (J.stop i H'/\Q H')\/(J.go i H'/\∃N:List V->St->Hp->Prop,(∀ah σ H,N ah σ H->∃m',m' < m/\W (i+1) m' ah σ H)/\∀x H2,J.yld i H' x H2->g x σ' H2 fun σ3 H3=>tst σ3 H3 λb H4 =>
   if b=true then te σ3 H4 λv H5=>∃ac,H5 p=some (.lst ac)/\ac.length < sizeLine/\N (ac++[v]) σ3 (upd H5 p (.lst (ac++[v])))
   else N ah σ3 H4)
def Qv(mp:List (Option Nat))(wi:TI)(g:TG)(tst:TT)(te:TE):TE:=fun σ H Q=>wi σ H λJ H1=>∀p,H1 p=none ->
 Qu p J g tst te (λH'=>Q (.ref p) H') (K4 mp σ) (upd H1 p (.lst []))
section
variable {X:Cx}{N':List Str}{mp:List (Option Nat)}{de tg ap:Expr}{cp:List Expr}{scope:Scope}{pos:Pos}{wi:TI}{g:TG}{tst:TT}{te:TE}
theorem Inv.comp0{aa:List (Addr×Obj)}{σ:St}{H:Hp}{s:Shared}{fp:List Addr}{tn:Heap->Prop}{h₁:Heap}{tk:Nat}{C:Addr}(ok:CompOk X.N X.env.scope.names scope.names N' mp)(hk:scope.kind=.function)
  (I:Inv X aa σ H s) (hf:∀b∈fp,Ff X aa H b) (qm:∀b∈fp,∃o,s.heap.get? b=some o) (hC:C=s.heap.objs.size+1)
  (dg:∃m,h₁.Ns C m) (keep:∀b o,s.heap.get? b=some o->h₁.get? b=some o) (bv:∃n,h₁.get? s.heap.objs.size=some { cls:=.type "list",data:=.seq #[] n }) :
  Inv (Bu X N' scope C s H fp) [] (K4 mp σ) (upd H s.heap.objs.size (.lst [])) { s with heap:=h₁,toks:=tk }:=by
 subst hC
 have bz:∀x∈scope.names,x.2=.free->∃c,X.env.cells.lookup x.1=some c:=λx hx e=>I.ok.has x.1 (ok.free x hx e)
 have sub:∀x c,(Ee X.env.cells scope.names []).lookup x=some c->X.env.cells.lookup x=some c:=Hi bz (λx c e=>by simp at e)
 have bu:∀b∈fp,b < s.heap.objs.size:=λb hb=>let⟨_,e⟩:=qm b hb;Yag e
 have hnC:H (s.heap.objs.size+1)=none:=I.hok.fresh (Yc7 _)
 have hnp:H s.heap.objs.size=none:=I.hok.fresh (Yaf _)
 have jg:∀b∈fp,b∉frs X.stack:=λb hb z=>by
  obtain⟨_,f1,f2,_⟩:=hf b hb
  rcases Ya8.mp (I.stkSub b z) with e | e
  ·exact f1 e
  ·exact f2 e
 refine⟨⟨I.ok.mod,hk,I.ok.glob,I.ok.blt,Yc7 _,λx y c e1 e2=>I.ok.inj x y c (sub x c e1) (sub y c e2),λx e=>?_,λx c e=>(nomatch e),I.ok.hd,I.ok.frames,.inl rfl,λb hb=>⟨?_,λx c e=>?_⟩,I.bs,Yai I.ok.bsz I.sz,λb o e hb=>?_,jg,I.stack,I.stkFree⟩,
  rfl,I.bare,Un.laid keep (Yaf _) hnp,?_,λx c e=>?_,?_,λx c e=>?_,λp hp=>(nomatch hp),I.hok.laid keep (Yaf _) ?_,?_⟩
 ·exact Fi (J1 ok.nocell e)
 ·exact Yap (Nat.lt_succ_of_lt (bu b hb))
 ·exact(hf b hb).2.2.2.2.1 x c (sub x c e)
 ·rcases(hf b hb).2.2.2.1 with z | z
  ·exact I.ok.noex b o e z
  ·exact absurd (Yal (Yag e) (Yai I.ok.bsz z)) (Yby _)
 ·obtain⟨m,hm⟩:=dg
  refine⟨m,hm,λi x v e1 e2 e3=>?_⟩
  have i6:(K4 mp σ)[i]?=some (some v):=e2
  unfold K4 at i6
  rw [List.getElem?_map]at i6
  cases hmp:mp[i]? with
  | none=>rw [hmp]at i6;cases i6
  | some o =>
   rw [hmp]at i6
   cases o with
   | none=>cases i6
   | some j =>
    have e4:σ[j]?=some (some v):=by
     have q:(σ[j]?).join=some v:=Ya1 i6
     cases hj:σ[j]? with
     | none=>rw [hj]at q;cases q
     | some y=>rw [hj]at q;exact Ybb some q
    obtain⟨a1,a2,a3,a4⟩:=ok.map i j x hmp e1
    obtain⟨m0,hn0,hl0⟩:=I.loc
    obtain⟨u,r,l⟩:=hl0 j x v a1 e4 (a2.elim (λz=>.inr (.inl z)) λz=>.inr (.inr z))
    refine⟨u,r,.inr ⟨?_,?_⟩⟩
    ·exact Jz a4
    ·rcases l with⟨l1,_⟩ | ⟨_,c,l2,l3⟩
     ·have l1:X.env.scope.names.lookup x=some .local:=l1
      rcases a2 with a2 | a2 <;> rw [a2]at l1 <;> cases l1
     ·obtain⟨c',cj⟩:∃c',(Ee X.env.cells scope.names []).lookup x=some c':=Fi a3
      have:c'=c:=Ya1 ((sub x c' cj).symm.trans l2)
      subst this
      exact⟨c',cj,l3.keeps keep⟩
 ·obtain⟨v,z⟩:=I.cell x c (sub x c e)
  exact⟨v,z.keeps keep⟩
 ·show upd H s.heap.objs.size (.lst []) (s.heap.objs.size+1)=none
  rw [Aw (Nat.succ_ne_self _)];exact hnC
 ·obtain⟨v,z⟩:=I.cell x c (sub x c e)
  show upd H s.heap.objs.size (.lst []) c=none
  rw [Aw (Yap z.lt)];exact I.freeC x c (sub x c e)
 ·obtain⟨n,e⟩:=bv
  exact⟨Ycq _,[],n,.nil,e⟩
 ·show(K4 mp σ).length=N'.length
  unfold K4
  rw [Yaa,ok.len]
theorem K7{aa:List (Addr×Obj)}{σ:St}{H:Hp}{s:Shared}{it:Addr}{fp:List Addr}{tn:Nat->Heap->Prop}{J:It}{Q:Addr->Hp->Prop}{E:Value->Shared->Prop}{RR:Value->Addr->Result->Shared->Prop}
  (ok:CompOk X.N X.env.scope.names scope.names N' mp) (hk:scope.kind=.function) (hc:X.calm=true) (I:Inv X aa σ H s) (T:Turn X.prog X.w X.K tg J fp it tn) (st:tn 0 s.heap) (hf:∀b∈fp,Ff X aa H b)
  (hg:∀C s H fp,PG (Bu X N' scope C s H fp) tg g) (ht:∀C s H fp,PIfs (Bu X N' scope C s H fp) cp tst) (he:∀C s H fp,PE (Bu X N' scope C s H fp) de te)
  (h:∀p,H p=none->Qu p J g tst te (Q p) (K4 mp σ) (upd H p (.lst [])))
  (hRR:∀C s' H',Inv X aa σ H' s'->(∃m,s'.heap.Ns C m)->H' C=none->X.s₀.heap.objs.size<=C->C≠X.env.locals->(∀x c,X.env.cells.lookup x=some c->c≠C)->(∀q∈X.pn++aa,q.1≠C)->Q s.heap.objs.size H'->RR (.ref s.heap.objs.size) C (.ok .next) s') :
  wpAny (model X.prog X.w) X.A (newList []) (λah s₃=>wpAny (model X.prog X.w) X.A (newFunctionEnv scope X.env.globals (Ee X.env.cells scope.names []) [] X.env.qual none .none (some X.env)) (λp4 s₄ =>
   codeAny (model X.prog X.w) X.A (.compStart (.ListComp de [⟨tg,ap,cp,0⟩] scope pos) 0 (.ref it) ah { p4 with scope:=relabel scope X.env }) (RR ah p4.locals) s₄) E s₃) E s:=by
 refine Ybf (wpAny_newFunctionEnv ok.nocell (by intro y hy;simp at hy) (λh₁ dg₁ hsb₁=>?_) hk)
 dsimp only at dg₁ hsb₁ ⊢
 generalize i4:s.heap.push { cls:=.type "list",dict:=none,data:=.seq ([]:List Value).toArray }=H2 at dg₁ hsb₁ ⊢
 have hC:H2.objs.size=s.heap.objs.size+1:=by rw [<- i4,Ycg]
 have keep:∀b o,s.heap.get? b=some o->h₁.get? b=some o:=λb o e =>
  hsb₁.extBut b o (by rw [hC];exact Yap (Nat.lt_succ_of_lt (Yag e))) (Heap.get?_push_of_some _ (i4 ▸ Heap.get?_push_of_some _ e))
 have bv:∃n,h₁.get? s.heap.objs.size=some { cls:=.type "list",data:=.seq #[] n } :=
  ⟨_,hsb₁.extBut _ _ (by rw [hC];exact Yap (Ydi _)) (Heap.get?_push_of_some _ (i4 ▸ Heap.get?_push_size _ rfl))⟩
 have qm:∀b∈fp,∃o,s.heap.get? b=some o:=λb hb=>let⟨o,e,_⟩:=T.obj _ _ st b hb;⟨o,e⟩
 have ig:s.heap.objs.size<=H2.objs.size:=by rw [hC];exact Yc7 _
 have I0:=I.comp0 (tn:=tn 0) (C:=H2.objs.size) (tk:=s.toks+([]:List (Str×Value)).length) ok hk hf qm hC ⟨_,dg₁⟩ keep bv
 have st0:tn 0 h₁:=T.keep _ _ _ st λb hb o e=>keep b o e
 obtain⟨W,⟨m0,w0⟩,turn⟩:=h _ (I.hok.fresh (Yaf _))
 have jg:∀b∈fp,b∉frs X.stack:=I0.ok.exfs
 have dz:∀{H':Hp},(∀b∈fp,H' b=none)->∀b∈fp,Ff (Bu X N' scope H2.objs.size s H fp) [] H' b:=λhn b hb =>
  ⟨hn b hb,(I0.ok.exf b hb).1,jg b hb,.inl hb,(I0.ok.exf b hb).2,λq hq=>(nomatch hq)⟩
 have n5:∀s₃:Shared,s₃={ s with heap:=h₁,toks:=s.toks+([]:List (Str×Value)).length } ->
   codeAny (model X.prog X.w) X.A (.compLoop (.ListComp de [⟨tg,ap,cp,0⟩] scope pos) 0 (.ref it) (.ref s.heap.objs.size) (compEnvC scope (Ee X.env.cells scope.names []) H2.objs.size X.env)) (RR (.ref s.heap.objs.size) H2.objs.size) s₃:=by
  rintro s₃ rfl
  refine K3 (λn s'=>∃i ah σ' H',Inv (Bu X N' scope H2.objs.size s H fp) [] σ' H' s'/\tn i s'.heap/\(∀b∈fp,H' b=none)/\W i n ah σ' H') ?_ m0
   ⟨0,[],_,_,I0,st0,λb hb=>by rw [Aw (Yap (let⟨_,e⟩:=qm b hb;Yag e))];exact(hf b hb).1,w0⟩
  rintro n s3 ⟨i,ah,σ3,H3,I3,st3,fr3,w3⟩
  rcases turn i n ah σ3 H3 w3 with⟨stop,qn⟩ | ⟨go,N,hN,step⟩
  ·refine thn (T.done (Bu X N' scope H2.objs.size s H fp) rfl rfl rfl hc i [] s3 σ3 H3 _ I3 (dz fr3) st3 stop) λr s4 ⟨hr,I4⟩=>?_
   subst hr
   refine hRR _ s4 H3 ?_ (let⟨m,hm,_⟩:=I4.loc;⟨m,hm⟩) I4.free (Yai I.sz ig) (Nat.ne_of_gt (Yal I.lt ig)) (λx c e=>?_) (λq hq=>?_) qn
   ·exact I.call' I4.os I4.base I4.hok I4.bare λb hb=>let⟨_,f1,_,f3,f4,f5⟩:=hf b hb;⟨f3,f1,f4,f5⟩
   ·obtain⟨v,z⟩:=I.cell x c e
    exact Yap (Yal z.lt ig)
   ·exact Yap (Yal (Yag (I.pin q hq).1) ig)
  ·refine thn (T.item (Bu X N' scope H2.objs.size s H fp) rfl rfl rfl hc i [] s3 σ3 H3 _ I3 (dz fr3) st3 go) λr s4 ⟨u,hr,h4⟩=>?_
   subst hr
   refine thn h4 λ_ s5 ms=>?_
   obtain⟨x,H5,I5,r5,y5,st5,fr5⟩:=ms
   have I5':=I5.pinned (dz fr5) (T.obj _ _ st5)
   refine thn (hg _ _ _ _ _ s5 σ3 H5 x u _ I5' r5 (step x H5 y5)) λ_ s6 mj=>?_
   obtain⟨σ6,H6,I6,q6⟩:=mj
   refine thn (ht _ _ _ _ _ s6 σ6 H6 _ I6 q6) λb s7 ⟨H7,I7,q7⟩=>?_
   have again:∀{σ8:St} {H8:Hp} {ji:List V} {s8:Shared},Inv (Bu X N' scope H2.objs.size s H fp) ([]++Hc fp s5.heap) σ8 H8 s8->(∃m',m' < n/\W (i+1) m' ji σ8 H8) ->
     ∃m,m < n/\∃i ah σ' H',Inv (Bu X N' scope H2.objs.size s H fp) [] σ' H' s8/\tn i s8.heap/\(∀b∈fp,H' b=none)/\W i m ah σ' H':=λ{σ8 H8 ji s8} I8 hw=>by
    obtain⟨m',hm,w8⟩:=hw
    refine⟨m',hm,i+1,ji,σ8,H8,I8.unpinned,T.keep _ _ _ st5 λb hb o e=>(I8.pin (b,o) (Ya2 _ (Ya2 _ (Dx hb e)))).1,λb hb=>?_,w8⟩
    obtain⟨o,e,d⟩:=T.obj _ _ st5 b hb
    exact(I8.pin (b,o) (Ya2 _ (Ya2 _ (Dx hb e)))).2.1
   cases b with
   | false =>
    rw [Yan Yas]
    rw [Yan Yas]at q7
    exact again I7 (hN _ _ _ q7)
   | true =>
    rw [Yaq rfl]
    rw [Yaq rfl]at q7
    refine thn (he _ _ _ _ _ s7 σ6 H7 _ I7 q7) λy s8 mf=>?_
    obtain⟨v,H8,I8,r8,ac,e8,z8,w8⟩:=mf
    refine thn (Ja (X:=Bu X N' scope H2.objs.size s H fp) _ s8 σ6 H8 (.ref s.heap.objs.size) [v] (.ref s.heap.objs.size) [y] (λ_ H9=>H9=upd H8 s.heap.objs.size (.lst (ac++[v]))) I8 rfl (.cons r8 .nil) ⟨_,ac,v,rfl,rfl,e8,z8,rfl⟩) λ_ s9 jy=>?_
    obtain⟨_,H9,I9,_,e9⟩:=jy
    subst e9
    exact again I9 (hN _ _ _ w8)
 exact codeAny_compStart_list (n5 _ rfl) (T.self _ 0 _ _ _ st0 (n5 _ rfl))
theorem Inv.letgo{aa:List (Addr×Obj)}{σ:St}{H:Hp}{s:Shared}{C:Addr}{h':Heap}(I:Inv X aa σ H s)(hn:H C=none)(h1:X.s₀.heap.objs.size<=C)(hL:C≠X.env.locals)(h2:∀x c,X.env.cells.lookup x=some c->c≠C)
  (h3:∀q∈X.pn++aa,q.1≠C) (hs:Heap.SameBut C s.heap h'):Inv X aa σ H { s with heap:=h' } :=
 I.turned (t':=s.toks) (λb o hb e=>(hs.2 b hb).trans e) hn hL (.inr h1) h2 h3
theorem T0(hc:X.calm=true)(hi:PI X tg ap wi)(hg:∀C s H fp,PG (Bu X N' scope C s H fp) tg g)(ht:∀C s H fp,PIfs (Bu X N' scope C s H fp) cp tst)(he:∀C s H fp,PE (Bu X N' scope C s H fp) de te)
  (ok:CompOk X.N X.env.scope.names scope.names N' mp) (hk:scope.kind=.function:=by rfl) (hs:∀x,foldedSetIterable ap X.env x=pure x:=by intro _;rfl) :
  PE X (.ListComp de [⟨tg,ap,cp,0⟩] scope pos) (Qv mp wi g tst te):=by
 intro aa s σ H Q I h
 rw [eval_ListComp]
 refine wpAny_comprehension_free (use:=none) rfl hs (E3 λx hx e=>I.ok.has x.1 (ok.free x hx e)) hk ok.loc (thn (hi aa s σ H _ I h) λv s1 h1=>thn h1 λqt s2 h2=>?_)
 obtain⟨it,fp,tn,J,H2,e,I2,T,st2,f2,hw⟩:=h2
 subst e
 refine K7 (Q:=λp H'=>Q (.ref p) H') (RR:=λah C=>compPost (model X.prog X.w) X.A X.xe none (EP X aa σ Q) ah C) ok hk hc I2 T st2 f2 hg ht he hw ?_
 intro C s' H' I' dg hn h1 hL bz jj q
 obtain⟨m,hm⟩:=dg
 exact⟨m,hm,λh' cv=>⟨.ref s2.heap.objs.size,H',I'.letgo hn h1 hL bz jj cv,rfl,q⟩⟩
theorem T1{i:Nat}{y:Str}{py fx:Pos}(hc:X.calm=true)(hN:X.N.Nodup)(zy:X.N[i]?=some y)(hy:X.env.scope.names.lookup y=some .local)
  (hi:PI X tg ap wi) (hg:∀C s H fp,PG (Bu X N' scope C s H fp) tg g) (ht:∀C s H fp,PIfs (Bu X N' scope C s H fp) cp tst) (he:∀C s H fp,PE (Bu X N' scope C s H fp) de te)
  (ok:CompOk X.N X.env.scope.names scope.names N' mp) (uf:swapsWith (.ListComp de [⟨tg,ap,cp,0⟩] scope pos) (some (.Name y py)) fx.line X.env=pure true:=by rfl)
  (hk:scope.kind=.function:=by rfl) (hs:∀x,foldedSetIterable ap X.env x=pure x:=by intro _;rfl) :
  PS X (.Assign [.Name y py] (.ListComp de [⟨tg,ap,cp,0⟩] scope pos) fx) (Te (Qv mp wi g tst te) (Py i)):=by
 intro aa s σ H D I h
 rw [exec_Assign_Name_used _ _ _ _ uf]
 refine Yab (Ycv (Yab ?_))
 show wpAny _ _ (do let _ <- comprehension (.ListComp de [⟨tg,ap,cp,0⟩] scope pos) scope X.env _ (newList []) false (eval ap X.env) (some (assign (.Name y py) X.env))) _ _ s
 refine Yab (Ybe (wpAny_comprehension_free (use:=some (assign (.Name y py) X.env)) (Q:=λ_ s'=>SP X aa D .next s') rfl hs (E3 λx hx e=>I.ok.has x.1 (ok.free x hx e)) hk ok.loc
  (thn (hi aa s σ H _ I h) λv s1 h1=>thn h1 λqt s2 h2=>?_)) (λ_ s' hq=>Yac (Yac hq)) λ_ _ e=>e)
 obtain⟨it,fp,tn,J,H2,e,I2,T,st2,f2,hw⟩:=h2
 subst e
 refine K7 (Q:=λp H'=>D.nx (σ.set i (some (.ref p))) H') (RR:=λah C=>compPost (model X.prog X.w) X.A X.xe (some (assign (.Name y py) X.env)) (λ_ s'=>SP X aa D .next s') ah C) ok hk hc I2 T st2 f2 hg ht he hw ?_
 intro C s' H' I' dg hn h1 hL bz jj q
 obtain⟨m,hm⟩:=dg
 show wpAny _ _ (assign (.Name y py) X.env (.ref s2.heap.objs.size)) _ _ s'
 refine wpAny_assign_Name (Ir I' hN zy (.inl hy) (v:=.ref s2.heap.objs.size) rfl (λqf I'' dy=>?_) (.inr hy))
 obtain⟨a,hsb,ha⟩:=dy
 have hCa:C≠a:=by
  rcases ha with rfl | ha
  ·exact hL
  ·exact(bz _ _ ha).symm
 refine⟨m,hm.sameBut hsb hCa,λh' cv=>?_⟩
 exact⟨_,H',I''.letgo hn h1 hL bz jj cv,q⟩
end
section
variable {K:PySem.W.Frag}{a p:Addr}{xs:List V}{g:TG}{tst:TT}{te:TE}{Q:Hp->Prop}{σ:St}{H:Hp}
theorem T2{J:It}(n:Nat)(Pv:Nat->List V->St->Hp->Prop)(h0:Pv 0 [] σ H)
  (v1:∀i ah σ H,i < n->Pv i ah σ H->J.go i H) (fv:∀ah σ H,Pv n ah σ H->J.stop n H/\Q H)
  (hs:∀i x ah σ H H2,i < n->Pv i ah σ H->J.yld i H x H2->g x σ H2 fun σ3 H3=>tst σ3 H3 λb H4 =>
   if b=true then te σ3 H4 λv H5=>∃ac,H5 p=some (.lst ac)/\ac.length < sizeLine/\Pv (i+1) (ac++[v]) σ3 (upd H5 p (.lst (ac++[v]))) else Pv (i+1) ah σ3 H4) :
  Qu p J g tst te Q σ H:=by
 refine⟨λi m ah σ H=>m=n - i/\i<=n/\Pv i ah σ H,⟨n,by simp,Ycq _,h0⟩,?_⟩
 rintro i m ah σ H ⟨rfl,hi,pv⟩
 by_cases bu:i < n
 ·exact .inr ⟨v1 i ah σ H bu pv,Pv (i+1),λah σ H q=>⟨n - (i+1),by omega,rfl,bu,q⟩,λx H2 y=>hs i x ah σ H H2 bu pv y⟩
 ·have e:i=n:=by omega
  subst e
  exact .inl (fv ah σ H pv)
end
section
variable {X:Cx}
def Qeb:V->Option Int->Option Int->Hp->VK->Prop:=λx lo hi H Q=>∃z,x=.str z/\z.length<=sizeLine/\Q (.str (Txt.slice z lo hi)) H
theorem Xk:Z8 X Qeb:=by
 intro aa s σ H x v vl vu lo hi sl Q I rx hs pl pu h
 obtain⟨z,rfl,hz,q⟩:=h
 obtain⟨t,rfl⟩:=rx
 refine⟨"str",_,F.slot_str_getitem.lookup,typeIs_str _ _ _,?_⟩
 have fin:∀t' k,EP X aa σ Q (.str (Txt.slice z lo hi) t') { s with toks:=k }:=λt' k=>⟨.str _,H,I.tok _,⟨_,rfl⟩,q⟩
 cases pl with
 | none =>
  cases pu with
  | none=>exact Yb9 (l:=none) (u:=none) (st:=none) hs rfl (Ydq ⟨Yai (Txt.slice_le z _ _) hz,fin⟩)
  | int j tj=>exact Yb9 (l:=none) (u:=some (j,tj)) (st:=none) hs rfl (Ydq ⟨Yai (Txt.slice_le z _ _) hz,fin⟩)
 | int i ti =>
  cases pu with
  | none=>exact Yb9 (l:=some (i,ti)) (u:=none) (st:=none) hs rfl (Ydq ⟨Yai (Txt.slice_le z _ _) hz,fin⟩)
  | int j tj=>exact Yb9 (l:=some (i,ti)) (u:=some (j,tj)) (st:=none) hs rfl (Ydq ⟨Yai (Txt.slice_le z _ _) hz,fin⟩)
theorem Qw(hc:X.calm=true):Ec X (.builtin "all") (λxs H Q=>∃(p:Addr) (bs:List Bool),xs=[.ref p]/\Dq X.K H p (bs.map V.bl)/\Q (.bl (bs.all id)) H):=by
 intro aa s σ H xs us Q I r h
 obtain⟨p,bs,rfl,hq,q⟩:=h
 obtain⟨u,rfl,rx⟩:=D9 r
 cases rx
 obtain⟨af,r',pl,hz⟩:=I.list hq
 have am:=r'.length
 rw [Yaa]at am
 refine call_all_walk (wpAny_pyIter_list pl.isList ?_)
 have ay:p≠s.heap.objs.size:=Yap (let⟨_,ho,_⟩:=pl.isList;Yag ho)
 refine⟨s.heap.objs.size,_,_,_,_,_,λi=>bs.getD i true,rfl,Walks.list (show X.A.in1.handled=none from I.ok.hd hc) s.heap.objs.size p ay af.toArray,?_,?_,λh' tk k=>?_⟩
 ·exact⟨⟨_,Heap.get?_push_size _ rfl,rfl,rfl⟩,pl.isList.at λo e=>Heap.get?_push_of_some _ e⟩
 ·intro i v s' Q' E' hP hQ'
  have hv:af[i]?=some v:=by simpa using hP
  have hi:i < bs.length:=by rw [am];exact(List.getElem?_eq_some_iff.mp hv).1
  obtain⟨u,hu,ru⟩:=r'.get (i:=i) (x:=V.bl bs[i]) (by simp [hi])
  rw [hv]at hu
  cases hu
  cases (show v=Value.bool bs[i] from ru)
  refine Ybp ?_
  have e:bs.getD i true=bs[i]:=by simp [hi]
  have ql:Q' (bs.getD i true) s':=hQ'
  rw [e]at ql
  exact ql
 ·have e:(List.range af.toArray.size).all (λi=>bs.getD i true)=bs.all id:=by
   rw [Yah,<- am]
   rw [Ycj,Ybx,Ybx]
   constructor
   ·intro a x hx
    obtain⟨i,hi,rfl⟩:=List.mem_iff_getElem.mp hx
    have:=a i (Yb2.mpr hi)
    simpa [hi] using this
   ·intro a i hi
    have hi:=Yb2.mp hi
    have:=a bs[i] (Ybu hi)
    simpa [hi] using this
  rw [e]
  exact⟨.bl _,H,I.kept λb o e=>k b o (by
   intro hb
   have:b=s.heap.objs.size:=by simpa using hb
   exact absurd (Yag e) (by rw [this];exact Yby _)) (Heap.get?_push_of_some _ e),rfl,q⟩
theorem Mi{ys:List Str}{us:List Value}(h:Vals (ys.map V.str) us):StrsAre us ys:=by
 induction ys generalizing us with
 | nil=>cases h;exact .nil
 | cons y ys ih =>
  cases h with
  | cons r t =>
   obtain⟨tk,rfl⟩:=r
   exact .cons y tk (ih t)
theorem T3:MtR X "str.join" (λx xs H Q=>∃z p ys,x=.str z/\xs=[.ref p]/\Dq X.K H p (ys.map V.str)/\(ys.map (·.length)).sum+ys.length * z.length<=16777216/\Q (.str (Txt.join z ys)) H):=by
 intro aa s σ H x xs v us Q I rx r h
 obtain⟨z,p,ys,rfl,rfl,hq,hz,q⟩:=h
 obtain⟨t,rfl⟩:=rx
 obtain⟨u,rfl,ru⟩:=D9 r
 cases ru
 obtain⟨af,r',pl,_⟩:=I.list hq
 exact join_list pl.isList (Mi (by simpa using r')) hz λt' k=>⟨.str _,H,I.tok _,⟨_,rfl⟩,q⟩
def Qai(K:PySem.W.Frag)(te:TE):TE:=fun σ H Q=>te σ H λx H1=>∃a xs,x=.ref a/\Dq K H1 a xs/\∀l,H1 l=none->Q (.ref l) (upd H1 l (.lst xs.reverse))
theorem T4{e:Expr}{te:TE}{p p2 pos d6:Pos}(hc:X.calm=true)(hg:Gl X "list") (hm:X.mg "list" = none) (d7:Gl X "reversed") (fi:X.mg "reversed" = none) (he:PE X e te)
  (hs:starEach [.Call (.Name "reversed" p2) [e] [] d6] X.env=[(false,eval (.Call (.Name "reversed" p2) [e] [] d6) X.env)]:=by rfl) (cr:starEach [e] X.env=[(false,eval e X.env)]:=by rfl) :
  PE X (.Call (.Name "list" p) [.Call (.Name "reversed" p2) [e] [] d6] [] pos) (Qai X.K te):=by
 intro aa s σ H Q I h
 refine Ya6 (C4 I hg hm boot_list ?_)
 refine Ybm ?_ hs rfl
 rw [hs]
 refine Ya3 ?_
 refine Ya6 (C4 I d7 fi boot_reversed ?_)
 refine Ybm ?_ cr rfl
 rw [cr]
 refine Ya3 (thn (he aa s σ H _ I h) λu s1 nh=>Ybq ?_)
 obtain⟨v,H1,I1,r1,q1⟩:=nh
 obtain⟨a,xs,rfl,hq,q⟩:=q1
 cases r1
 obtain⟨af,r',pl,hz⟩:=I1.list hq
 have am:=r'.length
 refine call_reversed_list pl.isList (Ybq ?_)
 have ay:a≠s1.heap.objs.size:=Yap (let⟨_,ho,_⟩:=pl.isList;Yag ho)
 have hpl:(s1.heap.push (revObj a ((af.toArray.size:Int) - 1))).IsList a af.toArray:=pl.isList.at λo e=>Heap.get?_push_of_some _ e
 refine Gb (s:={ s1 with heap:=s1.heap.push (revObj a ((af.toArray.size:Int) - 1)) }) (Walks.listRev (show X.A.in1.in1.handled=none from I.ok.hd hc) s1.heap.objs.size a ay af.toArray).toS (λi s st=>st.2.1.typeIs) ?_ ?_ (by simp) (λs' aw c' mv hS bv=>?_) (by rw [Yah,<- am];exact hz)
 ·refine⟨Ycq _,⟨_,Heap.get?_push_size _ rfl,rfl,?_⟩,hpl⟩
  simp [revObj]
 ·intro b hb
  rw [Ycg]
  rcases Ya8.mp hb with rfl | hb
  ·exact Ydi _
  ·have:b=a:=by simpa using hb
   subst this
   exact Nat.lt_succ_of_lt (let⟨_,ho,_⟩:=pl.isList;Yag ho)
 ·have hsz:(s1.heap.push (revObj a ((af.toArray.size:Int) - 1))).objs.size=s1.heap.objs.size+1:=Ycg ..
  obtain⟨h',g',d',t',o'⟩:=s'
  have eg:g'=s1.gens:=mv.gens
  have ed:d'=s1.drawn:=mv.drawn
  have eo:o'=s1.os:=mv.os
  subst eg ed eo
  have keep:∀b o,s1.heap.get? b=some o->h'.get? b=some o:=λb o e=>by
   have hb:=Yag e
   refine mv.heap b o (λhm=>?_) (Heap.get?_push_of_some _ (Heap.get?_push_of_some _ e))
   rcases Ya8.mp hm with z | z
   ·have z:b=(s1.heap.push (revObj a ((af.toArray.size:Int) - 1))).objs.size:=z
    rw [z,hsz]at hb
    exact absurd hb (Nat.not_lt.mpr (Yc7 _))
   ·have z:b=s1.heap.objs.size:=by simpa using z
    rw [z]at hb
    exact absurd hb (Yby _)
  have ea:aw.toList=af.reverse:=by
   refine List.ext_getElem? λj=>?_
   have zab:aw.toList.length=af.length:=by have:=bv.1;simp at this ⊢;omega
   by_cases hj:j < af.length
   ·have h1:aw[j]?=some (aw[j]'(by have:=bv.1;simp at this;omega)):=Array.getElem?_eq_getElem _
    have h2:=bv.2 j _ h1
    rw [List.getElem?_reverse hj]
    have h3:af[af.length - 1 - j]?=some (aw[j]'(by have:=bv.1;simp at this;omega)):=by simpa using h2
    rw [h3]
    simpa using h1
   ·rw [List.getElem?_eq_none (by omega),List.getElem?_eq_none (by rw [List.length_reverse];omega)]
  refine⟨.ref (s1.heap.push (revObj a ((af.toArray.size:Int) - 1))).objs.size,upd H1 (s1.heap.push (revObj a ((af.toArray.size:Int) - 1))).objs.size (.lst xs.reverse),
   I1.laid (h':=h') (t':=t') keep (by omega) (show Bj X.prog X.w _ h' _ (.lst xs.reverse) from⟨by rw [List.length_reverse];exact hz,aw.toList,c',by rw [ea];exact r'.reverse,by simpa using hS⟩),rfl,q _ (I1.hok.fresh (by omega))⟩
end
section
variable {H H':Hp}{d l p:Addr}{s n:Int}{ns:List Int}{o:HO}
end
theorem seven{n:Nat}(h:n<=1000):n<=sizeLine:=Nat.le_of_lt (Bs h)
end L2
namespace PySem
open Sem (wp)
open AutoSeq1 (wpAny_loadPart')
set_option maxRecDepth 100000
section
variable {prog:Program}{w:World}{A:Around}{E:Value->Shared->Prop}{s:Shared}
theorem Ef{it t:Addr}{i:Nat}{items}{x:Value}{Q:Value->Shared->Prop}(cf:s.heap.IsTupleIter it t i)
  (ht:s.heap.IsTuple t items) (hx:items[i]?=some x)
  (hQ:∀h',h'.IsTupleIter it t (i+1)->Heap.SameBut it s.heap h'->Q x { s with heap:=h' }) :
  wpAny (model prog w) A (Builtin.SmallTypes.nextOf (.ref it)) Q E s:=by
 obtain⟨o,ho,hc,hd⟩:=id cf
 obtain⟨ol,hol,_,nl,m6⟩:=ht
 unfold Builtin.SmallTypes.nextOf
 refine Yab (wpAny_callSpecial?_slot (name:=Str.ofString "__next__") cf.typeIs F.slot_tuple_iterator_next
  (Ydg F.slot_tuple_iterator_next cf.typeIs F.entry_tuple_iterator_next ?_ (F.args_tuple_iterator_next_1 _)))
 show wpAny _ _ (field (.ref it) 0 >>= _) _ _ s
 refine Yab (Ybh ho hd (x:=.ref t) rfl ?_)
 show wpAny _ _ (if(Value.ref t==Value.none)=true then _ else _) _ _ s
 rw [Yan (show ¬((Value.ref t==Value.none)=true) from Yas)]
 show wpAny _ _ (field (.ref it) 1 >>= _) _ _ s
 refine Yab (Ybh ho hd (x:=.int i 0) rfl ?_)
 show wpAny _ _ (seqItems? (.ref t) >>= _) _ _ s
 refine Yab (wpAny_seqItems hol m6 ?_)
 simp only [Int.toNat_natCast,hx]
 refine Yab (Ych ho hd (by simp) (Yac ⟨x,rfl,Yac (hQ _ ?_ (Heap.SameBut.update ..))⟩))
 exact⟨_,Heap.get?_update_self _ ho (Yde (Ycx hd _)),(Obj.cls_mapFields ..).trans hc,by
  rw [Ycx hd];simp [rawInt]⟩
theorem Ev{it t:Addr}{i:Nat}{items}{Q:Value->Shared->Prop}(hh:A.handled=none)
  (cf:s.heap.IsTupleIter it t i) (ht:s.heap.IsTuple t items) (hx:items[i]?=none)
  (hE:∀h' e,Heap.ExtBut it s.heap h'->(∃o,h'.get? e=some o/\o.cls=.type "StopIteration")->E (.ref e) { s with heap:=h' }) :
  wpAny (model prog w) A (Builtin.SmallTypes.nextOf (.ref it)) Q E s:=by
 obtain⟨o,ho,hc,hd⟩:=id cf
 obtain⟨ol,hol,_,nl,m6⟩:=ht
 unfold Builtin.SmallTypes.nextOf
 refine Yab (wpAny_callSpecial?_slot (name:=Str.ofString "__next__") cf.typeIs F.slot_tuple_iterator_next
  (Ydg F.slot_tuple_iterator_next cf.typeIs F.entry_tuple_iterator_next ?_ (F.args_tuple_iterator_next_1 _)))
 show wpAny _ _ (field (.ref it) 0 >>= _) _ _ s
 refine Yab (Ybh ho hd (x:=.ref t) rfl ?_)
 show wpAny _ _ (if(Value.ref t==Value.none)=true then _ else _) _ _ s
 rw [Yan (show ¬((Value.ref t==Value.none)=true) from Yas)]
 show wpAny _ _ (field (.ref it) 1 >>= _) _ _ s
 refine Yab (Ybh ho hd (x:=.int i 0) rfl ?_)
 show wpAny _ _ (seqItems? (.ref t) >>= _) _ _ s
 refine Yab (wpAny_seqItems hol m6 ?_)
 simp only [Int.toNat_natCast,hx]
 refine Yab (wpAny_rule (Yab (Ych ho hd (by simp) ?_)))
 show wpAny _ _ (newExc (.type "StopIteration") [] >>= _) _ _ _
 refine Yab ?_
 simp only [newExc,newTuple]
 refine Yab (Ybf ?_ (by size_fits))
 refine Yab (m:=firstArgMember _ _) (wpAny_of_eq (a:=Value.none) (by first | rfl | (simp only [firstArgMember];rfl)) ?_)
 refine Ybf ?_ (by size_fits)
 simp only [raiseNew]
 refine Yab (wpAny_handled ?_)
 first | rw [show A.in1.handled=none from hh] | rw [hh]
 refine Yab (Yac (wpAny_throw ?_))
 exact hE _ _ (((Heap.SameBut.update ..).extBut.push _).push _) ⟨_,Heap.get?_push_size _ rfl,rfl⟩
end
theorem Eg{prog:Program}{w:World}{A:Around}(hh:A.handled=none)(it l:Addr)(ay:l≠it)(items:Array Value) :
  Draws prog w A it [it,l] items.size (λi v=>items[i]?=some v) (λi h=>h.IsTupleIter it l i/\h.IsTuple l items) where
 live:=λ_ _ st=>let⟨o,ho,_⟩:=st.1;⟨o,ho⟩
 frame:=λ_ _ _ st hk=>⟨st.1.at λo e=>hk it (by simp) o e,st.2.at λo e=>hk l (by simp) o e⟩
 item:=λi s Q E hi st hQ=>by
  refine Ef st.1 st.2 (x:=items[i]) (by simp [hi]) λh' zt cv=>?_
  exact hQ _ h' s.toks (by simp [hi]) ⟨zt,st.2.extBut cv.extBut ay⟩ cv
 done:=λs Q E st hE=>Ev hh st.1 st.2 (by simp) hE
theorem Ew(l:Addr)(items:Array Value)(n:Nat)(rp:Option Addr)(sl:Array (Option Value)) :
  Meets (Builtin.«enumerate.__new__» ⟨[.type "enumerate",.ref l],[]⟩) (λ_ R s=>s.heap.get? l=some { cls:=.type "tuple",dict:=rp,data:=.seq items n,slots:=sl } /\
   R (.ok (.ret (.ref (s.heap.push { cls:=.type "tuple_iterator",data:=.fields #[.ref l,.int 0 0] }).objs.size)))
    { s with heap:=(s.heap.push { cls:=.type "tuple_iterator",data:=.fields #[.ref l,.int 0 0] }).push { cls:=.type "enumerate",data:=.fields #[.none,.bool false,.ref s.heap.objs.size,rawInt 0,.none,.none] } }) :=
 .of_wp λprog w A R s h=>by
  obtain⟨hp,g,d,tk,os⟩:=s;obtain⟨hl,h⟩:=h
  have zah:=sub_enumerate
  have hL:Heap.IsTuple (Shared.heap ⟨hp,g,d,tk,os⟩) l items:=⟨_,hl,rfl,n,rfl⟩
  wp_walk using Ycy hl
  refine wpAny_stack_any λst=>Yac ?_
  split
  ·rename_i c _ _ _ _ _
   cases (c==Value.type "enumerate")
   ·wp_walk using Ycy hl,Yci hL
    exact⟨_,rfl,h⟩
   ·wp_walk using Ycy hl,Yci hL
    exact⟨_,rfl,h⟩
  ·wp_walk using Ycy hl,Yci hL
   exact⟨_,rfl,h⟩
section
variable {prog:Program}{w:World}{A:Around}{E:Value->Shared->Prop}{s:Shared}
theorem E9{l:Addr}{items:Array Value}{Q:Value->Shared->Prop}(hL:s.heap.IsTuple l items)
  (h:∀h',IsEnum h' (s.heap.objs.size+1) s.heap.objs.size 0 .none->h'.IsTupleIter s.heap.objs.size l 0->h'.objs.size=s.heap.objs.size+2 ->
   (∀b o,s.heap.get? b=some o->h'.get? b=some o)->Q (.ref (s.heap.objs.size+1)) { s with heap:=h' }) :
  wpAny (model prog w) A (call (.type "enumerate") [.ref l]) Q E s:=by
 obtain⟨⟨c,rp,dt,sl⟩,hl,hc,n,hd⟩:=hL
 replace hc:c=.type "tuple" := hc
 replace hd:dt=.seq items n:=hd
 subst hc hd
 refine callType_new F.called_enumerate (by decide) (F.typeCall_enumerate_1 _) (F.newCall_enumerate_1 _) (λobj=>F.args_object_init_2 obj _) F.entry_enumerate_new
  (Ew l items n rp sl) ⟨hl,?_⟩
 have hz:(s.heap.push { cls:=.type "tuple_iterator",data:=.fields #[.ref l,.int 0 0] }).objs.size=s.heap.objs.size+1:=Ycg ..
 show _/\_
 rw [hz]
 have he:IsEnum ((s.heap.push { cls:=.type "tuple_iterator",data:=.fields #[.ref l,.int 0 0] }).push
   { cls:=.type "enumerate",data:=.fields #[.none,.bool false,.ref s.heap.objs.size,rawInt 0,.none,.none] }) (s.heap.objs.size+1) s.heap.objs.size 0 .none:=by
  have:=Heap.get?_push_size (s.heap.push { cls:=.type "tuple_iterator",data:=.fields #[.ref l,.int 0 0] })
   (o:={ cls:=.type "enumerate",data:=.fields #[.none,.bool false,.ref s.heap.objs.size,rawInt 0,.none,.none] }) rfl
  rw [hz]at this;exact this
 refine⟨⟨_,he,rfl⟩,h _ he ⟨_,Heap.get?_push_of_some _ (Heap.get?_push_size _ rfl),rfl,rfl⟩ (by rw [Ycg,hz]) λb o x=>Heap.get?_push_of_some _ (Heap.get?_push_of_some _ x)⟩
end
end PySem
namespace L2
open PySem PySem.Spec PyProof.Rows
def Cl(ds:List PyData)(lo hi:Option Int):List PyData:=(ds.drop (HT.sIx ds.length 0 lo)).take (HT.sIx ds.length ds.length hi - HT.sIx ds.length 0 lo)
section
variable {X:Cx}{k:Nat}
noncomputable def Gw(h:Heap)(e:PyData)(u:Value):Bool:=@decide (∃d as,Reads h u d as/\d.canLay0=true/\PyData.eqv d e=true) (Classical.propDecidable _)
theorem Mj{h:Heap}{e d:PyData}{u:Value}{as:List Addr}(r:Reads h u d as)(c:d.canLay0=true):Gw h e u=PyData.eqv d e:=by
 unfold Gw
 cases q:PyData.eqv d e with
 | true=>exact @Ybl _ (Classical.propDecidable _) ⟨d,as,r,c,q⟩
 | false =>
  refine @Yay _ (Classical.propDecidable _) λkr=>?_
  obtain⟨d',as',r',_,q'⟩:=kr
  rw [SeqAt.Reads.unique d d' u as as' c r r',q']at q
  cases q
theorem Cp{A:Around}{s:Shared}{e:PyData}{v:Value}{bs:List Addr}(rv:Reads s.heap v e bs)(ce:e.canLay0=true)(hu:A.units+64 < cLine):∀{ds:List PyData} {us:List Value} {as:List Addr},ReadsAll s.heap us ds as ->
  PyData.canLayAll0 ds=true->PyData.depthAll ds<=64->(∀u∈us,SeqAt.EqAt A s u v (Gw s.heap e u))/\us.any (Gw s.heap e)=ds.any λd=>PyData.eqv d e
 | [],_,_,r,_,_=>by
  cases r
  exact⟨(λ_ z=>nomatch z),rfl⟩
 | d :: ds,_,_,r,c,dp=>by
  cases r with
  | cons r1 r2 =>
   simp only [PyData.canLayAll0,Bool.and_eq_true]at c
   simp only [PyData.depthAll]at dp
   obtain⟨i1,i2⟩:=Cp rv ce hu r2 c.2 (by omega)
   have e1:=Mj (e:=e) r1 c.1
   refine⟨λu hu'=>?_,?_⟩
   ·rcases Ya8.mp hu' with rfl | z
    ·rw [e1]
     exact SeqAt.eqAt_reads d e A s _ v _ _ r1 rv c.1 ce (by omega)
    ·exact i1 u z
   ·rw [Yb0,Yb0,e1,i2]
end
section
variable {X:Cx}{aa:List (Addr×Obj)}{σ:St}{H:Hp}{s:Shared}{h':Heap}
theorem Inv.turnedL{t':Nat}{fp:List Addr}(I:Inv X aa σ H s)(k:∀b o,b∉fp->s.heap.get? b=some o->h'.get? b=some o)(hf:∀b∈fp,Ff X aa H b):Inv X aa σ H { s with heap:=h',toks:=t' }:=by
 have oy:∀b u,H b=some u->b∉fp:=λb u e z=>by rw [(hf b z).1]at e;cases e
 have nL:X.env.locals∉fp:=λz=>(hf _ z).2.1 rfl
 refine I.step (g':=s.gens) (d':=s.drawn) (ch:=fp) (λb hb=>?_) (λb o _ _ hc e _=>k b o hc e) (λb o _ _ hc e _=>⟨o.slots,k b o hc e⟩) (λ_ _ _ _ n=>n)
  (λb o hc e=>⟨o,k b o hc e⟩) (λ_ _ e=>e) (λ_ _ _ e=>e) (λb ps e=>⟨#[],by rw [e];simp⟩) (λm hm=>?_) (λb u e=>?_) I.bare
 ·obtain⟨_,f1,_,f3,f4,f5⟩:=hf b hb
  exact⟨f3,f1,f4,f5⟩
 ·obtain⟨o,es,ep,ho,r⟩:=hm
  exact⟨o,es,ep,k _ o nL ho,r⟩
 ·refine(I.hok b u e).stay (λc v hc q=>k c v ?_ q) (λ_ q=>q) λ_ _ q=>q
  rcases hc with z | z
  ·rw [z];exact oy b u e
  ·exact oy c _ z
theorem Inv.track{T:Addr}{o:HO}(I:Inv X aa σ H s)(hT:Ff X aa H T)(new:Bj X.prog X.w (upd H T o) s.heap T o):Inv X aa σ (upd H T o) s:=by
 obtain⟨f0,f1,_,f3,f4,f5⟩:=hT
 have nT:∀b u,H b=some u->b≠T:=λb u e z=>by rw [z,f0]at e;cases e
 refine I.step (H':=upd H T o) (h':=s.heap) (g':=s.gens) (d':=s.drawn) (t':=s.toks) (ch:=[T]) (λb hb=>?_) (λb o _ _ _ e _=>e) (λb o _ _ _ e _=>⟨o.slots,e⟩)
  (λb u hc _ n=>by rw [Aw (λz=>hc (by simp [z]))];exact n) (λb o _ e=>⟨o,e⟩) (λb xs e=>by rw [Aw (nT b _ e)];exact e) (λb u v e=>by rw [Aw (nT b _ e)];exact e)
  (λb ps e=>⟨#[],by rw [Aw (nT b _ e),e];simp⟩) (λm hm=>hm) (λb u e=>?_) I.bare
 ·have e:b=T:=by simpa using hb
  subst e
  exact⟨f3,f1,f4,f5⟩
 ·by_cases hb:b=T
  ·subst hb
   rw [Be]at e
   cases e
   exact new
  ·rw [Aw hb]at e
   exact(I.hok b u e).stay (λ_ _ _ q=>q) (λc q=>by rw [Aw (nT c _ q)];exact q) λc xs q=>by rw [Aw (nT c _ q)];exact q
end
def Ien(K:PySem.W.Frag)(a:Addr):It :=
 ⟨λi H => ∃ xs x, Fw K H a xs /\ xs[i]? = some x,
  λi H v H' => ∃ T x, H T = none /\ v = .ref T /\ H' = upd H T (.tup [.int i, x]) /\ ∀ xs, Fw K H a xs -> xs[i]? = some x,
  λi H => ∃ xs, Fw K H a xs /\ xs.length = i⟩
theorem O2{P:Program}{w:World}{K:PySem.W.Frag}{dw:List Expr}{k:Nat}{pos:Pos}(a e it:Addr)(ik:e≠it) :
  Turn P w K (.Tuple dw k pos) (Ien K a) [e,it] e (λi h=>(∃c9,IsEnum h e it i c9)/\h.IsTupleIter it a i) where
 mem:=by simp
 obj:=λi h st b hb=>by
  rcases Ya8.mp hb with rfl | hb
  ·obtain⟨⟨c9,he⟩,_⟩:=st
   exact⟨_,he,λv z=>nomatch z⟩
  ·have q:b=it:=by simpa using hb
   subst q
   obtain⟨_,o,e,c,d⟩:=st
   exact⟨o,e,λv z=>by rw [d]at z;cases z⟩
 keep:=λi h h' st k=>⟨let⟨c9,he⟩:=st.1;⟨c9,k e (by simp) _ he⟩,st.2.at λo q=>k it (by simp) o q⟩
 item:=by
  intro X hP hw hK hc i aa s σ H E I hf st hg
  subst hP hw hK
  obtain⟨xs,x,hq,hx⟩:=hg
  obtain⟨af,rv,p,hz⟩:=I.tuple hq
  obtain⟨u,hu,ru⟩:=rv.get hx
  obtain⟨⟨c9,he⟩,cf⟩:=id st
  have jh:a≠e:=by
   intro z;subst z
   obtain⟨o,ho,bz,_⟩:=p
   rw [he]at ho;cases ho
   exact absurd bz (by intro z;injection z with z;exact absurd z (by decide))
  have ja:a≠it:=by
   intro z;subst z
   obtain⟨o,ho,bz,_⟩:=p
   obtain⟨o',bx,hcl',_⟩:=cf
   rw [ho]at bx;cases bx
   rw [bz]at hcl'
   exact absurd hcl' (by intro z;injection z with z;exact absurd z (by decide))
  have W:=Yc8 (prog:=X.prog) (w:=X.w) (A:=X.A) (Eg (A:=X.A.in1) (I.ok.hd hc) it a ja af.toArray) e ik (by simp [ik,Ne.symm jh]) (by simp)
  refine W.item i s _ _ (by rw [Yah];exact(List.getElem?_eq_some_iff.mp hu).1) ⟨⟨c9,he⟩,cf,p⟩ λT ge h' tk hv hT ht hm kk=>?_
  have apart:=W.apart i T h' hm
  refine⟨_,rfl,W.go dw k pos i T _ _ _ hm λka gf fz=>?_⟩
  obtain⟨t,x',fj,rfl⟩:=hv
  have ub:x'=u:=by
   have:af[i]?=some x':=by simpa using fj
   rw [hu]at this;exact(Ya1 this).symm
  subst ub
  have I1:Inv X aa σ H { s with heap:=h',toks:=tk }:=I.turnedL kk hf
  have I2:Inv X aa σ H { s with heap:=ka,toks:=tk }:=I1.turnedL (s:={ s with heap:=h',toks:=tk }) (t':=tk) fz hf
  have fT:Ff X aa H T:=I.fpOk hT (I.hok.fresh hT)
  have je:IsTup ka T #[.int i t,x']:=let⟨o,ho,r⟩:=ht;⟨o,fz T o apart ho,r⟩
  refine⟨.ref T,upd H T (.tup [.int i,x]),I2.track fT ⟨⟨by show 2<=sizeLine;decide,.inr (.inl ⟨_,_,rfl⟩)⟩,[.int i t,x'],.cons ⟨t,rfl⟩ (.cons ru .nil),je⟩,rfl,⟨T,x,fT.1,rfl,rfl,λys hy=>by rw [I.tuple_inj hy hq];exact hx⟩,⟨gf.1,gf.2.1⟩,λb hb=>?_⟩
  have jn:b≠T:=by
   rcases Ya8.mp hb with rfl | hb
   ·exact Yap (Yal (Yag he) hT)
   ·have q:b=it:=by simpa using hb
    subst q
    obtain⟨o,ho,_⟩:=cf
    exact Yap (Yal (Yag ho) hT)
  rw [Aw jn]
  exact(hf b hb).1
 done:=by
  intro X hP hw hK hc i aa s σ H E I hf st hg
  subst hP hw hK
  obtain⟨xs,hq,hl⟩:=hg
  obtain⟨af,rv,p,hz⟩:=I.tuple hq
  obtain⟨⟨c9,he⟩,cf⟩:=id st
  have jh:a≠e:=by
   intro z;subst z
   obtain⟨o,ho,bz,_⟩:=p
   rw [he]at ho;cases ho
   exact absurd bz (by intro z;injection z with z;exact absurd z (by decide))
  have ja:a≠it:=by
   intro z;subst z
   obtain⟨o,ho,bz,_⟩:=p
   obtain⟨o',bx,hcl',_⟩:=cf
   rw [ho]at bx;cases bx
   rw [bz]at hcl'
   exact absurd hcl' (by intro z;injection z with z;exact absurd z (by decide))
  have W:=Yc8 (prog:=X.prog) (w:=X.w) (A:=X.A) (Eg (A:=X.A.in1) (I.ok.hd hc) it a ja af.toArray) e ik (by simp [ik,Ne.symm jh]) (by simp)
  have hn:af.toArray.size=i:=by rw [Yah,<- rv.length];exact hl
  subst hn
  exact W.done s _ _ ⟨⟨c9,he⟩,cf,p⟩ λh' tk kk=>⟨rfl,I.turnedL kk hf⟩
 self:=λA i s Q E st h=>let⟨⟨_,he⟩,_⟩:=st;Yc9 he h
section
variable {X:Cx}
theorem Xl{J:It}{g:TG}{tb:TS}{D:Ends}{σ:St}{H:Hp}(n:Nat)(Pv:Nat->St->Hp->Prop)(h0:Pv 0 σ H)(v1:∀i σ H,i < n->Pv i σ H->J.go i H)(fv:∀ σ H,Pv n σ H->J.stop n H/\D.nx σ H)
  (hs:∀i x σ H H2,i < n->Pv i σ H->J.yld i H x H2->g x σ H2 fun σ2 H3=>tb { D with nx:=Pv (i+1),ct:=Pv (i+1),bk:=D.nx } σ2 H3) :
  ∃W:Nat->Nat->St->Hp->Prop,(∃m,W 0 m σ H)/\∀i m σ H,W i m σ H ->
   (J.stop i H/\D.nx σ H)\/(J.go i H/\∃N:St->Hp->Prop,(∀ σ' H',N σ' H'->∃m',m' < m/\W (i+1) m' σ' H')/\∀x H',J.yld i H x H'->g x σ H' fun σ2 H2=>tb { D with nx:=N,ct:=N,bk:=D.nx } σ2 H2):=by
 refine⟨λi m σ H=>m=n - i/\i<=n/\Pv i σ H,⟨n,by simp,Ycq _,h0⟩,?_⟩
 rintro i m σ H ⟨rfl,hi,p⟩
 by_cases bu:i < n
 ·exact .inr ⟨v1 i σ H bu p,Pv (i+1),fun σ' H' p'=>⟨n - (i+1),by omega,rfl,bu,p'⟩,λx H' y=>hs i x σ H H' bu p y⟩
 ·have e:i=n:=by omega
  subst e
  exact .inl (fv σ H p)
def Qaj(i j l:Nat)(ta:TA):TS:=λD σ H=>ta σ H λvs H1=>∃u v w,vs=[u,v,w]/\D.nx (((σ.set i (some u)).set j (some v)).set l (some w)) H1
theorem T5{i j l:Nat}{x y z:Str}{a b c:Expr}{ta:TA}{px py pz pt pos:Pos}{kt k2 pt2}(hc:X.calm=true)(hN:X.N.Nodup)(hi:X.N[i]?=some x)(hj:X.N[j]?=some y)(hl:X.N[l]?=some z)(gw:i≠j)(yg:i≠l)(yl:j≠l)
  (hx:X.env.scope.names.lookup x=some .local) (hy:X.env.scope.names.lookup y=some .local) (hz:X.env.scope.names.lookup z=some .local) (ha:PA X [a,b,c] ta)
  (hw:swappedStores [.Tuple [.Name x px,.Name y py,.Name z pz] kt pt] (.Tuple [a,b,c] k2 pt2) X.env=pure (some [x,y,z]))
  (hs:swapsWithSole [.Tuple [.Name x px,.Name y py,.Name z pz] kt pt] (.Tuple [a,b,c] k2 pt2) pos.line X.env=pure false:=by rfl) :
  PS X (.Assign [.Tuple [.Name x px,.Name y py,.Name z pz] kt pt] (.Tuple [a,b,c] k2 pt2) pos) (Qaj i j l ta):=by
 intro aa s σ H D I h
 rw [exec_Assign_arm]
 refine Yab (Ycv ?_)
 rw [hs]
 refine Yab (Yac ?_)
 rw [Yan (by decide)]
 refine Yab (Tuple_ (thn (ha _ aa s σ H _ I h) λus s1 nq=>?_))
 obtain⟨vs,H1,I1,r1,q1⟩:=nq
 obtain⟨u,v,w,e1,q1⟩:=q1
 subst e1
 obtain⟨u1,u2,u3,rfl,ru,rv,fh⟩:∃u1 u2 u3,us=[u1,u2,u3]/\Bi u u1/\Bi v u2/\Bi w u3:=by
  cases r1 with
  | cons p q =>
   cases q with
   | cons p' q' =>
    cases q' with
    | cons p'' q'' =>
     cases q''
     exact⟨_,_,_,rfl,p,p',p''⟩
 refine Ybf ?_ (by show 3<=sizeLine;decide)
 have I2:Inv X aa σ H1 { s1 with heap:=s1.heap.push { cls:=.type "tuple",data:=.seq [u1,u2,u3].toArray } }:=I1.kept (t':=s1.toks) λb o e=>Heap.get?_push_of_some _ e
 rw [hw]
 refine Yab (Yac ?_)
 show wpAny (model X.prog X.w) X.A (do rule "assign.swapped-stores";let items <- unpackItems (.ref s1.heap.objs.size) 3 none;assignInOrder [λv=>bindName X.env z v,λv=>bindName X.env y v,λv=>bindName X.env x v] items.reverse;pure Flow.next) _ _ _
 refine Yab (wpAny_rule (Yab (unpackItems_tuple (items:=#[u1,u2,u3]) (I.ok.hd hc) (IsTup.new s1.heap _) λh' fj=>?_)))
 have I3:=I2.kept (h':=h') (t':=s1.toks) λb o e=>fj b o (Yap (Yag e)) e
 show wpAny _ _ (assignInOrder [λv=>bindName X.env z v,λv=>bindName X.env y v,λv=>bindName X.env x v] [u3,u2,u1] >>= λ_=>pure Flow.next) _ _ _
 refine Yab (Ybz (Ydc (C1 I3 hN hl (.inl hz) fh (λs2 I4=>?_) (.inr hz))))
 refine Ybz (Ydc (C1 I4 hN hj (.inl hy) rv (λs3 I5=>?_) (.inr hy)))
 refine Ybz (Ydc (C1 I5 hN hi (.inl hx) ru (λs4 I6=>assignInOrder_nil (Yac ?_)) (.inr hx)))
 have e1:((σ.set l (some w)).set j (some v)).set i (some u)=((σ.set l (some w)).set i (some u)).set j (some v):=List.set_comm _ _ (Ycl gw)
 have e2:(σ.set l (some w)).set i (some u)=(σ.set i (some u)).set l (some w):=List.set_comm _ _ (Ycl yg)
 have e3:((σ.set i (some u)).set l (some w)).set j (some v)=((σ.set i (some u)).set j (some v)).set l (some w):=List.set_comm _ _ (Ycl yl)
 rw [e1,e2,e3]at I6
 exact⟨_,H1,I6,q1⟩
theorem J6:Fg X (binaryOp .Mult) (λx y H Q=>∃z n,x=.str z/\y=.int n/\(n=0\/n=1)/\Q (.str (if n=0 then Str.empty else z)) H):=by
 intro aa s σ H x y v u Q I rx ry h
 obtain⟨z,n,rfl,rfl,hn,q⟩:=h
 obtain⟨t,rfl⟩:=rx
 obtain⟨t',rfl⟩:=ry
 rcases hn with rfl | rfl
 ·exact P.mul_str_none (by decide) (by decide) ⟨.str Str.empty,H,I.tok _,⟨_,rfl⟩,by simpa using q⟩
 ·refine P.mul_str (by decide) (λ_ z=>by simp at z) (λ_ z=>by simp at z) ?_
  rw [Yan (by decide),Yaq (by simp)]
  exact⟨.str z,H,I,⟨_,rfl⟩,by simpa using q⟩
end
section
variable {X:Cx}
end
end L2
namespace HT
open PySem PySem.Spec PyProof.Rows
section
variable {prog:Program}{w:World}{A:Around}{E:Value->Shared->Prop}{s:Shared}
theorem getItem_tuple_all{t sl:Addr}{items:Array Value}{vl vu:Value}{lo hi:Option Int}{Q:Value->Shared->Prop}(ht:IsTup s.heap t items)(hs:s.heap.IsSliceOf sl vl vu .none)(pl:IsPart vl lo)(pu:IsPart vu hi)
  (hw:sIx items.size 0 lo=0/\sIx items.size items.size hi=items.size)
  (h:Q (.ref t) s):wpAny (model prog w) A (getItem (.ref t) (.ref sl)) Q E s:=by
 obtain⟨os,hos,ix,hds⟩:=id hs
 have uk:s.TypeIs (.ref sl) "slice" := ⟨os,hos,ix⟩
 unfold getItem
 try with_reducible refine Yb8 ?_
 first | refine Yab (Yac ?_) | skip
 refine Yab (wpAny_sequenceKey ht.typeIs (by decide) ?_)
 refine Yab (wpAny_callSpecial?_slot (name:=Str.ofString "__getitem__") ht.typeIs Ya5
  (Ydg Ya5 ht.typeIs entry_tuple_getitem ?_ (args_tuple_getitem _ _)))
 show wpAny _ _ (Builtin.Tuple.tupleItemsOf (.ref t) >>= _) _ _ s
 refine Yab (tupleItemsOf_ ht ?_)
 refine Yab (wpAny_typeOf uk ?_)
 rw [Yaq (by decide)]
 refine Yab (Dr hs pl pu ?_)
 have rh:(((sIx items.size 0 lo:Nat):Int)==0 && (1:Int)==1 && (sIx items.size items.size hi - sIx items.size 0 lo)==items.size)=true:=by
  rw [hw.1,hw.2];simp
 show wpAny _ _ (if(((sIx items.size 0 lo:Nat):Int)==0 && (1:Int)==1 && (sIx items.size items.size hi - sIx items.size 0 lo)==items.size)=true then _ else _) _ _ s
 rw [Yaq rh]
 unfold Builtin.Tuple.tupleIsExact
 refine Yab (Yab (wpAny_typeOf ht.typeIs (Yac ?_)))
 rw [Yaq (by decide)]
 refine Yab (wpAny_rule ?_)
 first
  | exact Yac ⟨_,rfl,Yac h⟩
  | exact Yab (Yac (Yac ⟨_,rfl,Yac h⟩))
  | exact Yab (Yac ⟨_,rfl,Yac h⟩)
end
end HT
namespace L2
open PySem PySem.Spec PyProof.Rows
section
variable {X:Cx}
theorem Qx{ds:List PyData}{lo hi:Option Int}(h:HT.sIx ds.length 0 lo=0/\HT.sIx ds.length ds.length hi=ds.length):Cl ds lo hi=ds:=by
 unfold Cl
 rw [h.1,h.2,List.drop_zero,Nat.sub_zero,Ybw (Yaf _)]
end
section
variable {X:Cx}
def Iel(K:PySem.W.Frag)(a:Addr):It :=
 ⟨λi H => ∃ xs x, Dq K H a xs /\ xs[i]? = some x,
  λi H v H' => ∃ T x, H T = none /\ v = .ref T /\ H' = upd H T (.tup [.int i, x]) /\ ∀ xs, Dq K H a xs -> xs[i]? = some x,
  λi H => ∃ xs, Dq K H a xs /\ xs.length = i⟩
theorem Mk{P:Program}{w:World}{K:PySem.W.Frag}{dw:List Expr}{k:Nat}{pos:Pos}(a e it:Addr)(ik:e≠it) :
  Turn P w K (.Tuple dw k pos) (Iel K a) [e,it] e (λi h=>(∃c9,IsEnum h e it i c9)/\h.IsListIter it a i) where
 mem:=by simp
 obj:=λi h st b hb=>by
  rcases Ya8.mp hb with rfl | hb
  ·obtain⟨⟨c9,he⟩,_⟩:=st
   exact⟨_,he,λv z=>nomatch z⟩
  ·have q:b=it:=by simpa using hb
   subst q
   obtain⟨_,o,e,c,d⟩:=st
   exact⟨o,e,λv z=>by rw [d]at z;cases z⟩
 keep:=λi h h' st k=>⟨let⟨c9,he⟩:=st.1;⟨c9,k e (by simp) _ he⟩,st.2.at λo q=>k it (by simp) o q⟩
 item:=by
  intro X hP hw hK hc i aa s σ H E I hf st hg
  subst hP hw hK
  obtain⟨xs,x,hq,hx⟩:=hg
  obtain⟨af,rv,p,hz⟩:=I.list hq
  obtain⟨u,hu,ru⟩:=rv.get hx
  obtain⟨⟨c9,he⟩,cf⟩:=id st
  have jh:a≠e:=by
   intro z;subst z
   obtain⟨o,ho,bz,_⟩:=p.isList
   rw [he]at ho;cases ho
   exact absurd bz (by intro z;injection z with z;exact absurd z (by decide))
  have ja:a≠it:=by
   intro z;subst z
   obtain⟨o,ho,bz,_⟩:=p.isList
   obtain⟨o',bx,hcl',_⟩:=cf
   rw [ho]at bx;cases bx
   rw [bz]at hcl'
   exact absurd hcl' (by intro z;injection z with z;exact absurd z (by decide))
  have W:=Yc8 (prog:=X.prog) (w:=X.w) (A:=X.A) (Draws.list (A:=X.A.in1) (I.ok.hd hc) it a ja af.toArray) e ik (by simp [ik,Ne.symm jh]) (by simp)
  refine W.item i s _ _ (by rw [Yah];exact(List.getElem?_eq_some_iff.mp hu).1) ⟨⟨c9,he⟩,cf,p.isList⟩ λT ge h' tk hv hT ht hm kk=>?_
  have apart:=W.apart i T h' hm
  refine⟨_,rfl,W.go dw k pos i T _ _ _ hm λka gf fz=>?_⟩
  obtain⟨t,x',fj,rfl⟩:=hv
  have ub:x'=u:=by
   have:af[i]?=some x':=by simpa using fj
   rw [hu]at this;exact(Ya1 this).symm
  subst ub
  have I1:Inv X aa σ H { s with heap:=h',toks:=tk }:=I.turnedL kk hf
  have I2:Inv X aa σ H { s with heap:=ka,toks:=tk }:=I1.turnedL (s:={ s with heap:=h',toks:=tk }) (t':=tk) fz hf
  have fT:Ff X aa H T:=I.fpOk hT (I.hok.fresh hT)
  have je:IsTup ka T #[.int i t,x']:=let⟨o,ho,r⟩:=ht;⟨o,fz T o apart ho,r⟩
  refine⟨.ref T,upd H T (.tup [.int i,x]),I2.track fT ⟨⟨by show 2<=sizeLine;decide,.inr (.inl ⟨_,_,rfl⟩)⟩,[.int i t,x'],.cons ⟨t,rfl⟩ (.cons ru .nil),je⟩,rfl,⟨T,x,fT.1,rfl,rfl,λys hy=>by rw [I.list_inj hy hq];exact hx⟩,⟨gf.1,gf.2.1⟩,λb hb=>?_⟩
  have jn:b≠T:=by
   rcases Ya8.mp hb with rfl | hb
   ·exact Yap (Yal (Yag he) hT)
   ·have q:b=it:=by simpa using hb
    subst q
    obtain⟨o,ho,_⟩:=cf
    exact Yap (Yal (Yag ho) hT)
  rw [Aw jn]
  exact(hf b hb).1
 done:=by
  intro X hP hw hK hc i aa s σ H E I hf st hg
  subst hP hw hK
  obtain⟨xs,hq,hl⟩:=hg
  obtain⟨af,rv,p,hz⟩:=I.list hq
  obtain⟨⟨c9,he⟩,cf⟩:=id st
  have jh:a≠e:=by
   intro z;subst z
   obtain⟨o,ho,bz,_⟩:=p.isList
   rw [he]at ho;cases ho
   exact absurd bz (by intro z;injection z with z;exact absurd z (by decide))
  have ja:a≠it:=by
   intro z;subst z
   obtain⟨o,ho,bz,_⟩:=p.isList
   obtain⟨o',bx,hcl',_⟩:=cf
   rw [ho]at bx;cases bx
   rw [bz]at hcl'
   exact absurd hcl' (by intro z;injection z with z;exact absurd z (by decide))
  have W:=Yc8 (prog:=X.prog) (w:=X.w) (A:=X.A) (Draws.list (A:=X.A.in1) (I.ok.hd hc) it a ja af.toArray) e ik (by simp [ik,Ne.symm jh]) (by simp)
  have hn:af.toArray.size=i:=by rw [Yah,<- rv.length];exact hl
  subst hn
  exact W.done s _ _ ⟨⟨c9,he⟩,cf,p.isList⟩ λh' tk kk=>⟨rfl,I.turnedL kk hf⟩
 self:=λA i s Q E st h=>let⟨⟨_,he⟩,_⟩:=st;Yc9 he h
end
end L2
namespace PySem
open Sem (wp)
open AutoSeq1 (wpAny_loadPart')
set_option maxRecDepth 100000
section
variable {prog:Program}{w:World}{K:Type} [DecidableEq K]
end
end PySem
namespace L2
open PySem PySem.Spec PyProof.Rows
section
variable {X:Cx}
theorem T6{a b:Str}(h:a.cps.toList=b.cps.toList):a=b:=PySem.Str.ext' (by simpa using Ybb List.toArray h)
end
section
variable {X:Cx}{K:PySem.W.Frag}
variable {o e:Expr}{es:List Expr}{to:TE}{t:TA}{name:Str}{bf au:Pos}{T id:String}{r:V->List V->Hp->VK->Prop}
theorem O3:MtR X "str.join" (λx xs H Q=>∃z p ys,x=.str z/\xs=[.ref p]/\H p=some (.lst (ys.map V.str))/\(ys.map (·.length)).sum+ys.length * z.length<=16777216/\Q (.str (Txt.join z ys)) H):=by
 intro aa s σ H x xs v us Q I rx r h
 obtain⟨z,p,ys,e1,e2,hp,hz,q⟩:=h
 exact T3 aa s σ H x xs v us Q I rx r ⟨z,p,ys,e1,e2,Dq.of hp,hz,q⟩
end
def Cal(P:Program)(w:World)(K:PySem.W.Frag)(mg:Str->Option Value)(base:Heap)(n:Nat)(x:Str)(ps:List Str)(sp:Sp):Prop :=
 ∃g gd,FnOk P w K mg base En n g gd ps sp/\Binds K gd ps []/\PySem.W.keepIn K (.ref g)=true/\mg x=some (.ref g)
theorem Cal.mono{P:Program}{w:World}{K:PySem.W.Frag}{mg:Str->Option Value}{base:Heap}{n m:Nat}{x:Str}{ps:List Str}{sp:Sp}(c:Cal P w K mg base n x ps sp)(h:n<=m):Cal P w K mg base m x ps sp :=
 let⟨g,gd,G,r⟩:=c;⟨g,gd,G.mono h,r⟩
end L2
namespace L2
open PySem PySem.Spec PySem.Calls PyProof.Rows
section
variable {prog:Program}{w:World}{A:Around}{E:Value->Shared->Prop}{s:Shared}{K:PySem.W.Frag}{x C:Addr}{ox:Obj}{od:Option Obj}{name:Str}
theorem K8{tk:Tok}{R:Result->Shared->Prop}(X:K.In s.heap)(I:PySem.W.InstAt s.heap x ox C od)(hm:PySem.W.mroIn K C (.type "BaseException")=some true)
  (h:wpAny (model prog w) A.in1 (Builtin.«object.__getattribute__» ⟨[.ref x,.str name tk],[]⟩)
   (λfin s'=>match fin with | .done f=>R (.ok f) s' | .again c'=>c'.quiet=true/\codeAny (model prog w) A c' R s') (λe s'=>R (.error e) s') s) :
  codeAny (model prog w) A (.call (.builtin "BaseException.__getattribute__") ⟨[.ref x,.str name tk],[]⟩) R s:=by
 have hk:builtinKind "BaseException.__getattribute__" = some .slot:=by decide +kernel
 have hs:splitId "BaseException.__getattribute__" = some ("BaseException","__getattribute__"):=by decide +kernel
 have sub:PySem.W.Looks (model prog w) s.heap (isInstance (.ref x) (.type "BaseException")) true:=I.type.andThen (Yca X hm)
 exact codeAny_call_builtin F.excAttr_ValueError.ga.plain F.entry_bexc_ga (@PySem.W.check_slot (model prog w) _ _ s "BaseException.__getattribute__" "BaseException" "__getattribute__" (.ref x) [.str name tk] [] _ hk hs sub (F.args_bexc_ga _ _) h)
theorem O4{tk:Tok}{v:Value}{R:Result->Shared->Prop}(X:K.In s.heap)(I:PySem.W.InstAt s.heap x ox C od)(hm:PySem.W.mroIn K C (.type "BaseException")=some true)
  (hf:PySem.W.findObj K C od name=some (.value v)) (h:R (.ok (.ret v)) s) :
  codeAny (model prog w) A (.call (.builtin "BaseException.__getattribute__") ⟨[.ref x,.str name tk],[]⟩) R s:=by
 refine K8 X I hm ?_
 obtain⟨hh,g,d,t,os⟩:=s
 have L0:=I.type (M:=model prog w)
 have L1:=PySem.W.looks_find (M:=model prog w) X I hf
 refine Yab (Yac (Yab (Yac (Yab (L0.at (Yab (L1.at ?_)))))))
 exact Yac h
theorem Qz{tk:Tok}{g a:Value}{R:Result->Shared->Prop}(X:K.In s.heap)(I:PySem.W.InstAt s.heap x ox C od)(hm:PySem.W.mroIn K C (.type "BaseException")=some true)
  (hf:PySem.W.findObj K C od name=some (.bind g a)) (h:wpAny (model prog w) A.in1 (call g [a,.ref x,.ref C]) (λv s'=>R (.ok (.ret v)) s') (λe s'=>R (.error e) s') s) :
  codeAny (model prog w) A (.call (.builtin "BaseException.__getattribute__") ⟨[.ref x,.str name tk],[]⟩) R s:=by
 refine K8 X I hm ?_
 obtain⟨hh,gg,d,t,os⟩:=s
 have L0:=I.type (M:=model prog w)
 have L1:=PySem.W.looks_find (M:=model prog w) X I hf
 refine Yab (Yac (Yab (Yac (Yab (L0.at (Yab (L1.at ?_)))))))
 show wpAny _ _ (holding [a] (call g [a,.ref x,.ref C]) >>= ret) _ _ _
 exact Yab (Yb8 (Ybe h (λv s' z=>Yac z) λ_ _ z=>z))
theorem Nl{tk:Tok}{fill fu:Bool}{Q:Value->Shared->Prop}(X:K.In s.heap)(I:PySem.W.InstAt s.heap x ox C od)
  (vq:PySem.W.findIn K (.ref C) "__getattribute__" = some (some (.builtin "BaseException.__getattribute__"))) (yn:PySem.W.findIn K (.ref C) "__getattr__" = some none)
  (h:codeAny (model prog w) A (.call (.builtin "BaseException.__getattribute__") ⟨[.ref x,.str name tk],[]⟩) (λr s'=>match r with | .ok (.ret v)=>wpAny (model prog w) A (handedOut v) Q E s' | _=>False) s) :
  wpAny (model prog w) A (getAttrBy (.ref x) (.str name tk) fill fu) Q E s:=by
 obtain⟨hh,g,d,t,os⟩:=s
 have L0:=I.type (M:=model prog w)
 have L1:=Ycm (M:=model prog w) X vq
 have L2:=Ycm (M:=model prog w) X yn
 have f3:=F.excAttr_ValueError.ga.bind (.ref x)
 have pk:(Value.builtin "BaseException.__getattribute__" == Value.builtin "object.__getattribute__")=false:=by decide +kernel
 unfold getAttrBy
 refine Yb8 (Yab (L0.at (Yab (L1.at ?_))))
 show wpAny _ _ (if(onTheHeap (Value.ref C) && Value.builtin "BaseException.__getattribute__" == Value.builtin "object.__getattribute__")=true then _ else _) _ _ _
 rw [pk,Ydd,Yan Yas]
 unfold getAttrByItsOwn
 refine Yab (L2.at (Yab (wpAny_attempt (Yb8 ?_))))
 unfold callGetattribute boundAndCalled
 rw [show(fu && onTheHeap (Value.builtin "BaseException.__getattribute__"))=false by cases fu <;> rfl,Yan Yas,f3]
 refine Yab (Yac (wpAny_call (Ydt h λr s' z=>?_)))
 rcases r with e | (v | _ | _ | _) <;> first | exact z | exact z.elim
theorem Ml{fu:Bool}{v:Value}{Q:Value->Shared->Prop}(X:K.In s.heap)(I:PySem.W.InstAt s.heap x ox C od)(hm:PySem.W.mroIn K C (.type "BaseException")=some true)
  (vq:PySem.W.findIn K (.ref C) "__getattribute__" = some (some (.builtin "BaseException.__getattribute__"))) (yn:PySem.W.findIn K (.ref C) "__getattr__" = some none)
  (hf:PySem.W.findObj K C od name=some (.value v)) (hh:PySem.W.handedIn v=true) (h:Q v { s with toks:=s.toks+1 }):wpAny (model prog w) A (getAttr (.ref x) name fu) Q E s:=by
 unfold getAttr
 refine Yab (wpAny_mkText ?_)
 exact Nl (s:={ s with toks:=s.toks+1 }) X I vq yn (O4 (s:={ s with toks:=s.toks+1 }) X I hm hf (PySem.W.handed_on hh h))
end
abbrev bmV:List Value:=[.type "ValueError",.type "Exception",.type "BaseException",.type "object"]
def Qal(K:PySem.W.Frag)(C:Addr)(cd:ClassData)(sl:Array (Option Value)):Bool:=cd.mro.head?==some (.ref C) && !cd.hasDel && PySem.W.tailIn K bmV cd.mro.tail && sl.size==6 && sl[4]?==some (some (.builtin "ValueError.__new__"))
def Fa(K:PySem.W.Frag)(C:Addr):Bool:=match K.lookup C with
 | some o=>o.cls==.type "type" && (match o.data with
  | .cls cd=>Qal K C cd o.slots
  | _=>false)
 | none=>false
theorem Xm{sl:Array (Option Value)}{v:Option Value}(h:sl.size=6)(e:sl[4]?=some v):∃k0 k1 k2 k3 k5,sl=#[k0,k1,k2,k3,v,k5]:=by
 obtain⟨l⟩:=sl
 match l,h with
 | [k0,k1,k2,k3,k4,k5],_ =>
  have:k4=v:=by simpa using e
  subst this
  exact⟨k0,k1,k2,k3,k5,rfl⟩
theorem Nm{K:PySem.W.Frag}{h:Heap}{C:Addr}(X:K.In h)(q:Fa K C=true):∃nm qn N bs bm gc sn sub ab i9 dd k0 k1 k2 k3 k5,
  h.get? C=some (excClassObj nm qn C N bs bm gc sn sub ab i9 dd k0 k1 k2 k3 k5 "ValueError.__new__")/\OwnTail h bmV bm:=by
 unfold Fa at q
 cases ho:K.lookup C with
 | none=>rw [ho]at q;cases q
 | some o =>
  rw [ho]at q
  obtain⟨oc,dd,od,sl⟩:=o
  dsimp only at q
  rw [Yar,Ydn]at q
  obtain⟨q0,q⟩:=q
  cases od with
  | cls cd =>
   unfold Qal at q
   simp only [Bool.and_eq_true,beq_iff_eq,Bool.not_eq_true']at q
   obtain⟨⟨⟨⟨q1,q2⟩,q3⟩,q4⟩,q5⟩:=q
   obtain⟨k0,k1,k2,k3,k5,rfl⟩:=Xm q4 q5
   obtain⟨nm,bs,mro,ns,qn,hd,sn,sub,ab,i9,del⟩:=cd
   dsimp only at q1 q2 q3
   subst q0 q2
   cases mro with
   | nil=>cases q1
   | cons m bm =>
    cases q1
    exact⟨nm,qn,ns,bs,bm,hd,sn,sub,ab,i9,dd,k0,k1,k2,k3,k5,X _ _ ho,PySem.W.tail_of_in X q3⟩
  | _=>cases q
def Cz(C t:Addr)(d:Option Addr):Obj:={ cls:=.ref C,dict:=d,data:=.fields #[.ref t,.none,.none,.none,.bool false,.none] }
def Cr(h:Heap)(C:Addr)(rest:List Value):Heap:=(h.push { cls:=.type "tuple",data:=.seq rest.toArray }).push (Cz C h.objs.size none)
section
variable {prog:Program}{w:World}{A:Around}{E:Value->Shared->Prop}{h:Heap}{g:Array GenState}{d:Drawn}{t:Nat}{os:OsState}{K:PySem.W.Frag}{C:Addr}
theorem Mm{rest:List Value}{fI:Addr}{Q:Fin->Shared->Prop}(X:K.In h)(q:Fa K C=true)(hi:PySem.W.findIn K (.ref C) "__init__" = some (some (.ref fI))) (hf:PySem.W.typeIn K (.ref fI)=some (.type "function"))
  (hq:wpAny (model prog w) A (call (.ref fI) (.ref (h.objs.size+1) :: rest)) (λr s'=>r=.none/\Q (.done (.ret (.ref (h.objs.size+1)))) s') E ⟨Cr h C rest,g,d,t,os⟩) (gh:rest.length<=sizeLine) :
  wpAny (model prog w) A (Builtin.«type.__call__» ⟨.ref C :: rest,[]⟩) Q E ⟨h,g,d,t,os⟩:=by
 obtain⟨nm,qn,N,bs,bm,gc,sn,sub,ab,i9,dd,k0,k1,k2,k3,k5,hC,T⟩:=Nm X q
 have Fn:=F.excBase_ValueError
 repeat (first | with_reducible refine wpAny_loadPart_at hC ?_ | with_reducible refine wpAny_madeBy_exc hC ?_ | wp_step)
 refine codeAny_call_builtin_code (Code.quiet_builtin _ Fn.quiet) (wpAny_check_new_subU (bmB:=bmV) Fn (by decide +kernel) T hC ?_)
 refine codeAny_exc_new_subU (bmB:=bmV) Fn (by decide +kernel) Fn T hC ?_ gh
 show wpAny _ _ _ _ _ ⟨Cr h C rest,g,d,t,os⟩
 have kk:∀b o,h.get? b=some o->(Cr h C rest).get? b=some o:=λb o e=>Heap.get?_push_of_some _ (Heap.get?_push_of_some _ e)
 have hC₁:=kk _ _ hC
 have gz:(Cr h C rest).get? (h.objs.size+1)=some (Cz C h.objs.size none):=by
  unfold Cr
  exact Heap.get?_push_at (by simp only [Heap.size_push]) rfl
 have hcC:(Value.ref C :: bm).contains (.ref C)=true:=by simp
 have X₁:K.In (Cr h C rest):=λb o e=>kk b o (X b o e)
 have L1:=Ycm (M:=model prog w) X₁ hi
 have L2:=PySem.W.bind_fn (M:=model prog w) X₁ (.ref (h.objs.size+1)) hf
 generalize Cr h C rest=h₁ at hC₁ gz L1 L2 hq ⊢
 unfold isInstance
 have bz:(Cz C h.objs.size none).cls=.ref C:=rfl
 repeat (first | (with_reducible refine wpAny_loadPart_at gz ?_;rw [bz]) | (with_reducible refine wpAny_isSubtype_exc hC₁ ?_;rw [hcC]) | wp_step)
 show wpAny _ _ (typeLookup (.ref C) _) _ _ _
 refine L1.at ?_
 refine Yb8 (Yab (L2.at ?_))
 refine Yab (Ybe hq (λr s' hr=>?_) λ_ _ x=>x)
 obtain⟨rfl,hQ⟩:=hr
 wp_walk
 exact hQ
theorem xmake{rest:List Value}{fI:Addr}{Q:Value->Shared->Prop}(X:K.In h)(q:Fa K C=true)(hi:PySem.W.findIn K (.ref C) "__init__" = some (some (.ref fI))) (hf:PySem.W.typeIn K (.ref fI)=some (.type "function"))
  (hq:wpAny (model prog w) (A.under (.builtin "type.__call__" ⟨.ref C :: rest,[]⟩)) (call (.ref fI) (.ref (h.objs.size+1) :: rest)) (λr s'=>r=.none/\Q (.ref (h.objs.size+1)) s') E ⟨Cr h C rest,g,d,t,os⟩) (gh:rest.length<=sizeLine) :
  wpAny (model prog w) A (call (.ref C) rest) Q E ⟨h,g,d,t,os⟩:=by
 obtain⟨nm,qn,N,bs,bm,gc,sn,sub,ab,i9,dd,k0,k1,k2,k3,k5,hC,T⟩:=Nm X q
 have f1:=tc_lookup
 have f2:=tc_bind (.ref C)
 have hT:(⟨h,g,d,t,os⟩:Shared).TypeIs (.ref C) "type" := ⟨_,hC,rfl⟩
 refine wpAny_call (codeAny_of_tree ?_)
 show wpAny _ _ (callAny (.ref C) _) _ _ _
 repeat (any_goals (first | assumption | with_reducible refine wpAny_loadPart_at hC ?_ | wp_step))
 refine⟨rfl,?_⟩
 exact codeAny_call_builtin_at (Code.quiet_builtin _ (by decide +kernel)) entry_typeCall (wpAny_check_type_call_sub hC (Mm X q hi hf hq gh))
end
def Qam:Value->Bool
 | .ref _=>true
 | _=>false
theorem Gm(self:Value)(i7:Str):∀l:List Value,refuseLoop self i7 l=refuseLoop self i7 (l.dropWhile Qam)
 | []=>rfl
 | v :: r=>by
  cases v with
  | ref c =>
   rw [refuseLoop_ref,Gm self i7 r]
   rfl
  | _=>rfl
def Mn(K:PySem.W.Frag)(C:Addr):Bool:=(PySem.W.clsIn K C).any λcd=>cd.mro.dropWhile Qam==bmV && !cd.mro.isEmpty && cd.mro.contains (.type "object")
section
open Builtin Builtin.ObjectAttr
variable {prog:Program}{w:World}{A:Around}{E:Value->Shared->Prop}{s:Shared}{K:PySem.W.Frag}{x C:Addr}{ox:Obj}{od:Option Obj}{name:Str}{v:Value}{R:Result->Shared->Prop}
theorem Jd{tk:Tok}(X:K.In s.heap)(I:PySem.W.InstAt s.heap x ox C od)(hp:Mn K C=true)(ha:PySem.W.findIn K (.ref C) name=some none)
  (h:wpAny (model prog w) A.in1 (storeInOwnDict (.ref x) (.ref C) (.str name tk) name v false)
   (λfin s'=>match fin with | .done f=>R (.ok f) s' | .again c'=>c'.quiet=true/\codeAny (model prog w) A c' R s') (λe s'=>R (.error e) s') s) :
  codeAny (model prog w) A (.call (.builtin "object.__setattr__") ⟨[.ref x,.str name tk,v],[]⟩) R s:=by
 have SF:=PySem.F.store_object
 obtain⟨cd,hc,ho⟩:=Ycc hp
 simp only [Bool.and_eq_true,beq_iff_eq,Bool.not_eq_true']at ho
 obtain⟨⟨h1,ne⟩,h3⟩:=ho
 have sub:PySem.W.Looks (model prog w) s.heap (isInstance (.ref x) (.type "object")) true:=I.type.andThen (Yca X (by unfold PySem.W.mroIn;rw [hc,Yco,Yan (by rw [ne];decide),h3]))
 refine codeAny_call_builtin SF.slot.plain SF.entry (@PySem.W.check_slot (model prog w) _ _ s "object.__setattr__" "object" "__setattr__" (.ref x) [.str name tk,v] [] _ SF.kind SF.split sub (SF.args (.ref x) (.str name tk) v) ?_)
 have hm:PySem.W.Looks (model prog w) s.heap (mroOf (.ref C)) cd.mro:=(PySem.W.looks_clsIn X hc).andThen .now
 rw [PySem.W.osa_eq,refuse_eq]
 refine Yab (Yab (I.type.here (Yab (hm.here ?_))))
 rw [Gm,h1,F.store_ValueError.passes]
 refine Yac (Yab (I.type.here (Yab ((Ycm X ha).here (Yab (Yac ?_))))))
 exact h
end
end L2
namespace L2
open PySem PySem.Spec PySem.Calls PyProof.Rows
def XO(e C t:Addr)(d:Option Addr):HO:=.ext λh=>h.get? e=some (Cz C t d)
def XD(dx:Addr)(fs:List (Str×V)):HO:=.ext λh=>∃mA,h.Ns1 dx mA/\(∀f,Eb (fs.lookup f) (mA f))/\PySem.Within mA (fs.map (·.1))
section
variable {P:Program}{w:World}{H:Hp}{h:Heap}{e C t dx:Addr}{d:Option Addr}{fs:List (Str×V)}
theorem Vl(hx:h.get? e=some (Cz C t d)):Bj P w H h e (XO e C t d):=⟨hx,⟨_,hx⟩,λ_ _ p k=>k _ p⟩
theorem Mo(ok:HOk P w H h)(q:H e=some (XO e C t d)):h.get? e=some (Cz C t d):=(show Bj P w H h e (XO e C t d) from ok e _ q).1
theorem Nn{mA:Str->Option Value}(n:h.Ns1 dx mA)(r:∀f,Eb (fs.lookup f) (mA f))(wi:PySem.Within mA (fs.map (·.1))):Bj P w H h dx (XD dx fs) :=
 ⟨⟨mA,n,r,wi⟩,(let⟨o,_,_,q,_⟩:=n;⟨o,q⟩),λ_ _ ⟨mB,n,r⟩ k=>⟨mB,n.at k,r⟩⟩
theorem Q0(ok:HOk P w H h)(q:H dx=some (XD dx fs)):∃mA,h.Ns1 dx mA/\(∀f,Eb (fs.lookup f) (mA f))/\PySem.Within mA (fs.map (·.1)):=(show Bj P w H h dx (XD dx fs) from ok dx _ q).1
theorem T7(hx:h.get? e=some (Cz C t none)):PySem.W.InstAt h e (Cz C t none) C none:=⟨hx,rfl,rfl,trivial⟩
theorem Q1{mA:Str->Option Value}(hx:h.get? e=some (Cz C t (some dx)))(n:h.Ns1 dx mA):∃od,PySem.W.InstAt h e (Cz C t (some dx)) C (some od)/\∀name,PySem.W.lookIn name od=some (mA name) :=
 let⟨od,ho,hl⟩:=Fx n
 ⟨od,⟨hx,rfl,rfl,ho⟩,hl⟩
end
structure XCls(K:PySem.W.Frag)(C:Addr):Prop where
 ga:PySem.W.findIn K (.ref C) "__getattribute__" = some (some (.builtin "BaseException.__getattribute__"))
 gn:PySem.W.findIn K (.ref C) "__getattr__" = some none
 sa:PySem.W.findIn K (.ref C) "__setattr__" = some (some (.builtin "object.__setattr__"))
 hd:PySem.W.hasDictIn K C=true
 mb:PySem.W.mroIn K C (.type "BaseException")=some true
 mo:PySem.W.mroIn K C (.type "object")=some true
 ve:Mn K C=true
section
variable {X:Cx}{aa:List (Addr×Obj)}{σ:St}{H:Hp}{s:Shared}{e C t dx:Addr}{fs:List (Str×V)}{f:Str}{v:V}{A:Around}{E:Value->Shared->Prop}
theorem Qec{H:Hp}{a b:Addr}{o1 o2 o3:HO}:upd (upd (upd H a o1) b o2) a o3=upd (upd H b o2) a o3:=by
 funext c
 unfold upd
 by_cases h:c=a
 ·rw [Yaq h,Yaq h]
 ·rw [Yan h,Yan h,Yan h]
theorem Qan{y:V}{u:Value}{Q:Unit->Shared->Prop}(I:Inv X aa σ H s)(he:H e=some (XO e C t none))(c:XCls X.K C)(n:Dl X.K C f)(ry:Bi y u)
  (h:∀dx s',H dx=none->dx≠e->Inv X aa σ (upd (upd H e (XO e C t (some dx))) dx (XD dx [(f,y)])) s'->Q () s'):wpAny (model X.prog X.w) A (setAttr (.ref e) f u) Q E s:=by
 have hx:=Mo I.hok he
 have J:=T7 hx
 refine PySem.W.set_plain I.kIn J c.sa (Jd (s:={ s with toks:=s.toks+1 }) I.kIn J c.ve n ?_)
 obtain⟨cd,hc,hd'⟩:=Ycc c.hd
 have fj:s.heap.get? e=some ⟨.ref C,none,.fields #[.ref t,.none,.none,.none,.bool false,.none],#[]⟩:=hx
 refine Yab (Yac (Yab (Yab (wpAny_loadPart fj (Yab (PySem.W.Looks.here (s:={ s with toks:=s.toks+1 }) (PySem.W.looks_clsIn I.kIn hc) ?_))))))
 rw [hd']
 have hx1:(s.heap.push { cls:=.type "dict",data:=.dict #[] }).get? e=some (Cz C t none):=Heap.get?_push_of_some _ hx
 have qr:e≠s.heap.objs.size:=Yap (Yag hx)
 show wpAny _ _ (if(!true || !typeHasDict (Value.ref C))=true then _ else _) _ _ _
 rw [Yan (by simp [typeHasDict])]
 refine Yab (wpAny_alloc' ?_)
 refine Yab (wpAny_update' hx1 ?_)
 refine Yac ?_
 have pk:((s.heap.push { cls:=.type "dict",data:=.dict #[] }).update e λo=>{ cls:=o.cls,dict:=some s.heap.objs.size,data:=o.data,slots:=o.slots }).get? e=some (Cz C t (some s.heap.objs.size)):=Heap.get?_update_self _ hx1 rfl
 have hgd:((s.heap.push { cls:=.type "dict",data:=.dict #[] }).update e λo=>{ cls:=o.cls,dict:=some s.heap.objs.size,data:=o.data,slots:=o.slots }).get? s.heap.objs.size
   = some { cls:=.type "dict",data:=.dict #[] }:=(Heap.get?_update_ne _ _ _ _ qr.symm).trans (Heap.get?_push_at rfl rfl)
 have hnd:((s.heap.push { cls:=.type "dict",data:=.dict #[] }).update e λo=>{ cls:=o.cls,dict:=some s.heap.objs.size,data:=o.data,slots:=o.slots }).Ns s.heap.objs.size (λ_=>none) :=
  ⟨_,#[],_,hgd,rfl,λe he=>absurd he (by simp),λ_=>rfl⟩
 have ir:∀b o,b≠e->(s.heap.push { cls:=.type "dict",data:=.dict #[] }).get? b=some o->((s.heap.push { cls:=.type "dict",data:=.dict #[] }).update e λo=>{ cls:=o.cls,dict:=some s.heap.objs.size,data:=o.data,slots:=o.slots }).get? b=some o :=
  λb o hb q=>(Heap.get?_update_ne _ _ _ _ hb).trans q
 have hn0:(s.heap.push { cls:=.type "dict",data:=.dict #[] }).Ns s.heap.objs.size (λ_=>none):=⟨_,#[],_,Heap.get?_push_at rfl rfl,rfl,λe he=>absurd he (by simp),λ_=>rfl⟩
 have fr:=I.hok.fresh (Yaf s.heap.objs.size)
 have I1:=I.laid (a:=s.heap.objs.size) (o:=XD s.heap.objs.size []) (h':=s.heap.push { cls:=.type "dict",data:=.dict #[] }) (t':=s.toks) (λb u q=>Heap.get?_push_of_some _ q) (Yaf _) (Nn (Heap.Ns1.of_empty hn0) (λ_=>True.intro) λy hy=>absurd rfl hy)
 generalize i4:(s.heap.push { cls:=.type "dict",data:=.dict #[] }).update e (λo=>{ cls:=o.cls,dict:=some s.heap.objs.size,data:=o.data,slots:=o.slots })=h2 at pk hgd hnd ir ⊢
 have I2:=I1.write (x:=e) (e:=e) (o:=XO e C t (some s.heap.objs.size)) (h':=h2) (t':=s.toks) (by rw [Aw qr,he];exact True.intro) (.inl rfl) ir ⟨_,pk⟩ (Vl pk)
 show wpAny _ _ (Builtin.ObjectAttr.storeInDict s.heap.objs.size (.str f s.toks) f u) _ _ _
 unfold Builtin.ObjectAttr.storeInDict Builtin.ObjectAttr.newKeyGuard
 refine Yab (Yac (Yab (wpAny_nsSet1 (Heap.Ns1.of_empty hnd) λh' gv hs=>?_)))
 obtain⟨oD,esD,epD,hoD,hdD,hcD⟩:=gv.count (PySem.Within.cons f u PySem.Within.nil)
 refine Yab (wpAny_lookBehind hoD (by rw [hdD];exact pastItsLine_dict (Yai hcD (by rw [Ya9,List.length_nil,Ydo];omega))) ?_)
 refine Yac ?_
 refine h s.heap.objs.size _ fr qr.symm ?_
 rw [<- Qec (o1:=XD s.heap.objs.size [])]
 refine I2.write (x:=s.heap.objs.size) (e:=s.heap.objs.size) (by rw [Aw qr.symm,Be];exact True.intro) (.inl rfl) (λb o hb q=>(hs.2 b hb).trans q) ⟨_,hoD⟩ (Nn gv (λg=>?_) λg hg=>?_)
 ·show Eb (List.lookup g [(f,y)]) (if g=f then some u else none)
  by_cases q:g=f
  ·rw [Yaq q,q]
   show Eb (List.lookup f [(f,y)]) (some u)
   have hb:(f==f)=true:=Ydn.mpr rfl
   simp only [List.lookup,hb]
   exact ry
  ·rw [Yan q]
   have hb:(g==f)=false:=Ybv.mpr q
   simp only [List.lookup,hb]
   exact True.intro
 ·by_cases q:g=f
  ·rw [q];exact Yau
  ·exact absurd (show(if g=f then some u else none)=none by rw [Yan q]) hg
theorem Qao{y:V}{u:Value}{Q:Unit->Shared->Prop}(I:Inv X aa σ H s)(he:H e=some (XO e C t (some dx)))(hd:H dx=some (XD dx fs))(hl:fs.length < 1000)(c:XCls X.K C)(n:Dl X.K C f)(ry:Bi y u)
  (h:∀s',Inv X aa σ (upd H dx (XD dx (Gu f y fs))) s'->Q () s'):wpAny (model X.prog X.w) A (setAttr (.ref e) f u) Q E s:=by
 have hx:=Mo I.hok he
 obtain⟨mA,N,r,wi⟩:=Q0 I.hok hd
 obtain⟨od,J,hlk⟩:=Q1 hx N
 have ay:dx≠e:=λz=>by
  subst z
  obtain⟨o,es,ep,q,hd',_⟩:=N
  rw [hx]at q
  cases q
  cases hd'
 refine PySem.W.set_plain I.kIn J c.sa (Jd (s:={ s with toks:=s.toks+1 }) I.kIn J c.ve n ?_)
 obtain⟨cd,hc,hd'⟩:=Ycc c.hd
 have fj:s.heap.get? e=some ⟨.ref C,some dx,.fields #[.ref t,.none,.none,.none,.bool false,.none],#[]⟩:=hx
 refine Yab (Yac (Yab (Yab (wpAny_loadPart fj (Yab (PySem.W.Looks.here (s:={ s with toks:=s.toks+1 }) (PySem.W.looks_clsIn I.kIn hc) ?_))))))
 rw [hd']
 refine Yac (a:=some dx) (Yab (Yac (Yab ?_)))
 refine wpAny_nsSet1 (s:={ s with toks:=s.toks+1 }) N λh' gv hs=>?_
 have hz:(fs.map (·.1)).length<=sizeLine:=by rw [Yaa,Ydo];omega
 obtain⟨oD,esD,epD,hoD,hdD,hcD⟩:=gv.count (PySem.Within.cons f u wi)
 refine Yab (wpAny_lookBehind hoD (by rw [hdD];exact pastItsLine_dict (Yai hcD (by rw [Ya9,Yaa,Ydo];omega))) ?_)
 refine Yac (h _ ?_)
 refine I.write (x:=dx) (e:=dx) (by rw [hd];exact True.intro) (.inl rfl) (λb o hb q=>(hs.2 b hb).trans q) ⟨_,hoD⟩ (Nn gv (λg=>?_) λg hg=>?_)
 ·show Eb ((Gu f y fs).lookup g) (if g=f then some u else mA g)
  rw [Gj]
  by_cases q:g=f
  ·rw [Yaq q,Yaq q];exact ry
  ·rw [Yan q,Yan q];exact r g
 ·by_cases q:g=f
  ·rw [q];exact(Fy f y fs).1
  ·refine(Fy f y fs).2 g (wi g λz=>hg ?_)
   show(if g=f then some u else mA g)=none
   rw [Yan q];exact z
end
structure XMk(K:PySem.W.Frag)(C f:Addr):Prop where
 xc:Fa K C=true
 init:PySem.W.findIn K (.ref C) "__init__" = some (some (.ref f))
 fn:PySem.W.isFn K (.ref f)=true
 kp:PySem.W.keepIn K (.ref C)=true
def Xn(C:Addr)(sp:Sp)(E:XK)(t:TA):TE:=fun σ H Q=>t σ H λvs H1=>vs.length<=1000/\∀x tp,H1 x=none->sp (.ref x :: vs) (upd H1 x (XO x C tp none)) (λv H2=>v=.non/\Q (.ref x) H2) E
section
variable {X:Cx}{CX:CXT}{k:Nat}{f C:Addr}{fd:FuncData}{ps:List Str}{sp:Sp}{E:XK}{x:Str}{p pos be bf:Pos}{e o value:Expr}{es:List Expr}{t:TA}{ta tv:TE}{fl:Str}
theorem O5{aa:List (Addr×Obj)}{σ:St}{H:Hp}{s:Shared}{Q:VK}{us:List Value}{vs:List V}(M:XMk X.K C f)(F:FnOk X.prog X.w X.K X.mg X.base CX k f fd ps sp)(hr:Room (k+1) X.A)(hb:Binds X.K fd ps [])
  (hx:Passes CX X E) (I:Inv X aa σ H s) (r:Vals vs us) (hl:vs.length<=1000)
  (h:∀x tp,H x=none->sp (.ref x :: vs) (upd H x (XO x C tp none)) (λv H2=>v=.non/\Q (.ref x) H2) E) :
  wpAny (model X.prog X.w) X.A (call (.ref C) us) (EP X aa σ Q) X.xe s:=by
 have hq:=h (s.heap.objs.size+1) s.heap.objs.size (I.hok.fresh (Yc7 _))
 have I1:Inv X aa σ H { s with heap:=s.heap.push { cls:=.type "tuple",data:=.seq us.toArray } }:=I.kept (t':=s.toks) λb u q=>Heap.get?_push_of_some _ q
 have gz:(Cr s.heap C us).get? (s.heap.objs.size+1)=some (Cz C s.heap.objs.size none):=by
  unfold Cr
  exact Heap.get?_push_at (by simp only [Heap.size_push]) rfl
 have I2:Inv X aa σ (upd H (s.heap.objs.size+1) (XO (s.heap.objs.size+1) C s.heap.objs.size none)) { s with heap:=Cr s.heap C us } :=
  I1.laid (a:=s.heap.objs.size+1) (t':=s.toks) (λb u q=>Heap.get?_push_of_some _ q) (Nat.le_of_eq (Ycg _ _)) (Vl gz)
 have r2:Vals (V.ref (s.heap.objs.size+1) :: vs) (Value.ref (s.heap.objs.size+1) :: us):=.cons rfl r
 have cz:(Value.ref (s.heap.objs.size+1) :: us++[]).length=ps.length:=by
  have e:=r2.length
  rw [F.len _ _ _ _ hq]at e
  rw [Ybs]
  exact e.symm
 have sm:=F.run _ X.stack _ _ ⟨Value.ref (s.heap.objs.size+1) :: us,[]⟩ (Value.ref (s.heap.objs.size+1) :: us++[]) _ _ E (hr.make C us []) (I2.env0.make C us []) (hb _ (Value.ref (s.heap.objs.size+1) :: us) I2.kIn cz) (by rw [Ybs];exact r2) hq
 have v0:us.length<=sizeLine:=by have:=r.length;exact Yai (by omega) (show 1000<=sizeLine by decide)
 obtain⟨hh,g,d,tt,os⟩:=s
 refine xmake I.kIn M.xc M.init (Ydn.mp M.fn) (wpAny_call (Ydt sm λr s' pw=>?_)) v0
 cases r with
 | error e=>exact hx aa σ _ _ e s' I2 pw
 | ok fl =>
  cases fl with
  | ret u =>
   obtain⟨v,H',I3,rv,ev,q3⟩:=I2.after pw
   subst ev
   exact⟨rv,⟨V.ref (hh.objs.size+1),H',I3,rfl,q3⟩⟩
  | next=>exact False.elim pw
  | brk=>exact False.elim pw
  | cont=>exact False.elim pw
theorem Q2(M:XMk X.K C f)(F:FnOk X.prog X.w X.K X.mg X.base CX k f fd ps sp)(hr:Room (k+1) X.A)(hg:Gl X x)(hm:X.mg x=some (.ref C))(hb:Binds X.K fd ps [])(hx:Passes CX X E)
  (ha:PA X (e :: es) t) (hdb:(x==("__debug__" : Str))=false:=by decide) (he:starEach (e :: es) X.env=(false,eval e X.env) :: starEach es X.env:=by rfl) (hpl:(backTo pos (starEach es X.env)).any (·.1)=false:=by rfl) :
  PE X (.Call (.Name x p) (e :: es) [] pos) (Xn C sp E t):=by
 intro aa s σ H Q I h
 refine Ya6 (Fe I hg hm ?_ hdb)
 refine PySem.W.callWith_K (h₀:=X.base) I.ok.mod.kin M.kp (thn (ha pos aa s σ H _ I h) λus s1 ⟨vs,H1,I1,r,hl,q⟩=>⟨I1.kIn,?_⟩) he hpl
 exact O5 M F hr hb hx I1 r hl q
def sX1(K:PySem.W.Frag)(ta tv:TE)(f:Str):TS:=λD σ H=>tv σ H λy H1=>ta σ H1 λx H2=>∃e C t,x=.ref e/\H2 e=some (XO e C t none)/\XCls K C/\Dl K C f /\
 ∀dx,H2 dx=none->dx≠e->D.nx σ (upd (upd H2 e (XO e C t (some dx))) dx (XD dx [(f,y)]))
def sX2(K:PySem.W.Frag)(ta tv:TE)(f:Str):TS:=λD σ H=>tv σ H λy H1=>ta σ H1 λx H2=>∃e C t dx fs,x=.ref e/\H2 e=some (XO e C t (some dx))/\H2 dx=some (XD dx fs)/\fs.length < 1000/\XCls K C/\Dl K C f /\
 D.nx σ (upd H2 dx (XD dx (Gu f y fs)))
theorem Qap(ha:PE X o ta)(hv:PE X value tv)(hs:swapsWith value (some (.Attribute o fl be)) pos.line X.env=pure false):PS X (.Assign [.Attribute o fl be] value pos) (sX1 X.K ta tv fl):=by
 intro aa s σ H D I h
 refine plainObj_wpAny_Assign_Attribute (thn (hv aa s σ H _ I h) λu s1 ⟨y,H1,I1,ry,q⟩=>thn (ha aa s1 σ H1 _ I1 q) λov s2 nn=>?_) hs
 obtain⟨x,H2,I2,rx,e,C,t,ex,ea,c,n,q2⟩:=nn
 subst ex
 obtain rfl:ov=Value.ref e:=rx
 exact Qan I2 ea c n ry λdx s3 qa ay I3=>⟨σ,_,I3,q2 dx qa ay⟩
theorem Qaq(ha:PE X o ta)(hv:PE X value tv)(hs:swapsWith value (some (.Attribute o fl be)) pos.line X.env=pure false):PS X (.Assign [.Attribute o fl be] value pos) (sX2 X.K ta tv fl):=by
 intro aa s σ H D I h
 refine plainObj_wpAny_Assign_Attribute (thn (hv aa s σ H _ I h) λu s1 ⟨y,H1,I1,ry,q⟩=>thn (ha aa s1 σ H1 _ I1 q) λov s2 on=>?_) hs
 obtain⟨x,H2,I2,rx,e,C,t,dx,fs,ex,ea,ed,hl,c,n,q2⟩:=on
 subst ex
 obtain rfl:ov=Value.ref e:=rx
 exact Qao I2 ea ed hl c n ry λs3 I3=>⟨σ,_,I3,q2⟩
end
structure XIs(K:PySem.W.Frag)(C:Addr):Prop extends XCls K C where
 ca:PySem.W.findIn K (.ref C) "__class__" = some (some (.builtin "object.__class__"))
 cg:PySem.W.specialIn K (.builtin "object.__class__") "__get__" = some (some (.builtin "getset_descriptor.__get__"))
 ct:PySem.W.takesIn K (.builtin "object.__class__")=some true
theorem Il{K:PySem.W.Frag}{C:Addr}{od:Option Obj}{name:Str}{a g:Value}(hc:(PySem.W.clsIn K C).isSome=true)(ha:PySem.W.findIn K (.ref C) name=some (some a))(hg:PySem.W.specialIn K a "__get__" = some (some g)) (ht:PySem.W.takesIn K a=some true):PySem.W.findObj K C od name=some (.bind g a):=by
 obtain⟨cd,hc⟩:=Ycr.mp hc
 unfold PySem.W.findObj
 rw [hc,Yco,ha,Yco]
 dsimp only
 rw [hg,Yco]
 dsimp only
 rw [ht,Yco]
theorem K9{prog:Program}{w:World}{A:Around}{E:Value->Shared->Prop}{s:Shared}{K:PySem.W.Frag}{x C:Addr}{ox:Obj}{od:Option Obj}{Q:Option Value->Shared->Prop}(X:K.In s.heap)(I:PySem.W.InstAt s.heap x ox C od)(c:XIs K C)
  (h:Q (some (.ref C)) { s with toks:=s.toks+1 }):wpAny (model prog w) A (getAttr? (.ref x) "__class__") Q E s:=by
 have hc:(PySem.W.clsIn K C).isSome=true:=by obtain⟨cd,hc,_⟩:=Ycc c.hd;rw [hc];rfl
 have hf:PySem.W.findObj K C od "__class__" = some (.bind (.builtin "getset_descriptor.__get__") (.builtin "object.__class__")):=Il hc c.ca c.cg c.ct
 unfold getAttr? getAttrBy?
 refine Yab (wpAny_mkText (Yab (wpAny_attempt ?_)))
 refine Nl (s:={ s with toks:=s.toks+1 }) X I c.ga c.gn (Qz (s:={ s with toks:=s.toks+1 }) X I c.mb hf ?_)
 exact wpAny_call (PySem.W.class_get (s:={ s with toks:=s.toks+1 }) (ox:=ox) (od:=od) X I c.mo (PySem.W.handed_on rfl (Yac h)))
theorem Hj{K:PySem.W.Frag}{x C:Addr}(c:XIs K C):PySem.W.KitX K (.ref x) (.ref C) (λh=>∃ox od,PySem.W.InstAt h x ox C od) where
 ty:=λ_ _ _ ⟨_,_,I⟩=>I.type
 it:=λ_ _ X _=>by
  obtain⟨cdD,hcD,_⟩:=Ycc c.hd
  unfold PySem.W.clsIn at hcD
  split at hcD
  ·rename_i c' d' cd' sl' ho
   intro A' Q' E' s' k q
   unfold isType loadHead
   exact Yab (wpAny_loadPart (k _ _ (X _ _ ho)) (Yac q))
  ·cases hcD
 ne:=λh tp dd af n sl X htp=>by
  obtain⟨cdD,hcD,_⟩:=Ycc c.hd
  refine Bool.eq_false_iff.mpr λq=>?_
  have e:C=tp:=Value.ref.inj (Ydn.mp q)
  subst e
  unfold PySem.W.clsIn at hcD
  split at hcD
  ·rename_i c' d' cd' sl' ho
   have z:=(X _ _ ho).symm.trans htp
   cases z
  ·cases hcD
 ca:=λX ⟨_,_,I⟩ k=>K9 X I c k
section
variable {X:Cx}
end
inductive Ctxs (h:Heap):Addr->List Addr->Prop
 | nil {e:Addr} {o:Obj} {vs:Array Value}:h.get? e=some o->o.data=.fields vs->vs[2]?=some Value.none->Ctxs h e []
 | cons {e E:Addr} {o:Obj} {vs:Array Value} {l:List Addr}:h.get? e=some o->o.data=.fields vs->vs[2]?=some (Value.ref E)->Ctxs h E l->Ctxs h e (E :: l)
theorem Ctxs.keep{h h':Heap}(k:∀b o (vs:Array Value),h.get? b=some o->o.data=.fields vs->∃o' d3,h'.get? b=some o'/\o'.data=.fields d3/\d3[2]?=vs[2]?){e:Addr}{l:List Addr}(c:Ctxs h e l):Ctxs h' e l:=by
 induction c with
 | nil a b c=>obtain⟨o',d3,a',b',c'⟩:=k _ _ _ a b;exact .nil a' b' (c'.trans c)
 | cons a b c _ ih=>obtain⟨o',d3,a',b',c'⟩:=k _ _ _ a b;exact .cons a' b' (c'.trans c) ih
theorem Ctxs.same{h h':Heap}(k:∀b o,h.get? b=some o->h'.get? b=some o){e:Addr}{l:List Addr}(c:Ctxs h e l):Ctxs h' e l :=
 c.keep λb o vs a d=>⟨o,vs,k b o a,d,rfl⟩
structure ExcRec(h:Heap)(e:Addr)(cls:Value)(d:Option Addr)(vs:Array Value):Prop where
 at_:h.get? e=some ⟨cls,d,.fields vs,#[]⟩
 six:vs.size=6
 tb:vs[1]?=some .none\/∃T oT ts,vs[1]?=some (.ref T)/\T≠e/\h.get? T=some oT/\oT.data=.fields ts/\ts[3]?=some .none
 cx:∃l,Ctxs h e l
structure LeftBy(fs:List Addr)(e:Addr)(cls:Value)(d:Option Addr)(h h':Heap):Prop where
 size:h.objs.size<=h'.objs.size
 keep:∀b o,b∉fs->b≠e->h.get? b=some o->h'.get? b=some o
 slot:∀b o,b∈fs->h.get? b=some o->∃sl,h'.get? b=some { o with slots:=sl }
 rc:∃vs,ExcRec h' e cls d vs/\vs[1]?≠some .none
 c9:∃T,(∀vs,ExcRec h' e cls d vs->vs[1]?=some (.ref T))/\h.get? T=none
section
variable {M:Model}{A:Around}{E:Value->Shared->Prop}{s:Shared}{base:Heap}{env:Env}{outer:List Env}{L e:Addr}{cls:Value}{d:Option Addr}{vs:Array Value}
theorem No{o:Obj}(hd:o.data=.fields vs)(g:Array Value->Array Value):o.mapFields g=⟨o.cls,o.dict,.fields (g vs),o.slots⟩:=by
 obtain⟨c,di,dt,sl⟩:=o
 dsimp only at hd
 subst hd;rfl
theorem Dg{head:Value}{gy:Bool}{Q:Unit->Shared->Prop}(gq:A.frames=some (env :: outer))(hl:s.heap.FunFrames base (env :: outer))(hf:env.frame=some L)(he:s.heap.get? e=some ⟨cls,d,.fields vs,#[]⟩)(h6:vs.size=6)(hcx:∃l,Ctxs s.heap e l)
  (h:∀h',LeftBy (frs (env :: outer)) e cls d s.heap h'->Q () { s with heap:=h' }) :
  wpAny M A (do let fr <- frameOf env;let place <- entryPlaceOf L gy;let x <- EntryCells.newEntry head fr .none (rawInt L) .none place;setField (.ref e) 1 x) (λ_ s'=>wpAny M A (setFlight (.ref e) none) Q E s') E s:=by
 have hef:e∉frs (env :: outer):=λhm=>by
  obtain⟨_,o,q,nf⟩:=hl.mem hm
  rw [he]at q;cases q
  exact nf vs rfl
 refine Yab (wpAny_frameOf_fun gq hl hf λh1 S1=>?_)
 refine Yab (wpAny_entryPlaceOf λpl ip=>?_)
 unfold EntryCells.newEntry newFields
 have he1:h1.get? e=some ⟨cls,d,.fields vs,#[]⟩:=(S1.2.1 e hef).trans he
 have hT:h1.objs.size≠e:=Nat.ne_of_gt (Yag he1)
 refine Yab (Ybf ?_ (ip.sizeOk5 _ _ _ _ _))
 generalize hts:([head,Value.ref L,Value.none,rawInt L,Value.none]++if pl.isEmpty=true then List.replicate 6 Value.none else pl).toArray=ts
 have zae:5<=ts.size:=by rw [<- hts];simp
 have he2:=Heap.get?_push_of_some (h:=h1) { cls:=.type "traceback",dict:=none,data:=.fields ts } he1
 refine Ych he2 rfl (by rw [h6];decide) ?_
 dsimp only
 have sw:=Heap.get?_update_self (Obj.mapFields (·.setIfInBounds 1 (Value.ref h1.objs.size))) he2 rfl
 have xm:((h1.push { cls:=.type "traceback",dict:=none,data:=.fields ts }).update e (Obj.mapFields (·.setIfInBounds 1 (Value.ref h1.objs.size)))).get? h1.objs.size=some { cls:=.type "traceback",dict:=none,data:=.fields ts } :=
  (Heap.get?_update_other _ _ hT.symm).trans (Heap.get?_push_size h1 rfl)
 unfold setFlight
 refine Yab (Ybh sw rfl (x:=.ref h1.objs.size) (by simp [h6]) ?_)
 rw [Yaq (by simp)]
 refine Ych xm rfl (by omega) (h _ ?_)
 generalize hh3:(h1.push { cls:=.type "traceback",dict:=none,data:=.fields ts }).update e (Obj.mapFields (·.setIfInBounds 1 (Value.ref h1.objs.size)))=h3 at sw xm
 have eT:=Heap.get?_update_self (Obj.mapFields (·.setIfInBounds 3 ((none:Option Addr).elim Value.none λf=>rawInt f))) xm rfl
 have cu:∀b o,b≠e->h1.get? b=some o->(h3.update h1.objs.size (Obj.mapFields (·.setIfInBounds 3 ((none:Option Addr).elim Value.none λf=>rawInt f)))).get? b=some o:=λb o hb q=>by
  have hbT:h1.objs.size≠b:=Nat.ne_of_gt (Yag q)
  rw [Heap.get?_update_other _ _ hbT,<- hh3,Heap.get?_update_other _ _ (Ycl hb)]
  exact Heap.get?_push_of_some _ q
 have qw:(h3.update h1.objs.size (Obj.mapFields (·.setIfInBounds 3 ((none:Option Addr).elim Value.none λf=>rawInt f)))).get? e=some ⟨cls,d,.fields (vs.setIfInBounds 1 (.ref h1.objs.size)),#[]⟩:=by
  rw [Heap.get?_update_other _ _ hT];exact sw
 refine⟨?_,λb o hb dm q=>cu b o dm ((S1.2.1 b hb).trans q),λb o hb q=>?_,⟨_,⟨qw,by simp [h6],.inr ⟨h1.objs.size,_,_,by simp [h6],hT,eT,rfl,?_⟩,hcx.imp λl c=>c.keep λb o d3 q dq=>?_⟩,by simp [h6]⟩,⟨h1.objs.size,λd3 R=>?_,?_⟩⟩
 ·rw [Ydj,<- hh3,Ydj,Ycg,S1.1];exact Yc7 _
 ·obtain⟨sl,q1⟩:=S1.2.2 b o q
  exact⟨sl,cu b _ (λz=>hef (z ▸ hb)) q1⟩
 ·show(ts.setIfInBounds 3 Value.none)[3]?=some Value.none
  rw [Array.getElem?_setIfInBounds,Yaq rfl,Yaq (by omega)]
 ·have:=R.at_.symm.trans qw
  cases this
  simp [h6]
 ·exact Heap.get?_none_of_le (by rw [S1.1];exact Yaf _)
 ·by_cases dm:b=e
  ·subst dm
   rw [he]at q;cases q
   cases dq
   exact⟨_,_,qw,rfl,by rw [Array.getElem?_setIfInBounds,Yan (by decide)]⟩
  ·by_cases hb:b∈frs (env :: outer)
   ·obtain⟨sl,q1⟩:=S1.2.2 b o q
    exact⟨_,d3,cu b _ dm q1,dq,rfl⟩
   ·exact⟨o,d3,cu b o dm ((S1.2.1 b hb).trans q),dq,rfl⟩
theorem Q3{Q:Unit->Shared->Prop}(gq:A.frames=some (env :: outer))(hl:s.heap.FunFrames base (env :: outer))(hf:env.frame=some L)(R:ExcRec s.heap e cls d vs)
  (h:∀h',LeftBy (frs (env :: outer)) e cls d s.heap h'->Q () { s with heap:=h' }):wpAny M A («leaving» env (.ref e)) Q E s:=by
 unfold «leaving» noteFrame
 simp only [hf]
 rcases R.tb with h1 | ⟨T,oT,ts,h1,hTe,hT,hd,h3⟩
 ·refine Yab (Yab (Ybh R.at_ rfl h1 ?_))
  rw [Yan (by decide)]
  exact Dg gq hl hf R.at_ R.six R.cx h
 ·refine Yab (Yab (Ybh R.at_ rfl h1 ?_))
  rw [Yaq (by simp)]
  refine Yab (Ybh hT hd h3 ?_)
  rw [Yan (by simp [rawInt])]
  have jr:3 < ts.size:=(Array.getElem?_eq_some_iff.mp h3).1
  refine Yab (Ych hT hd jr ?_)
  have same:s.heap.update T (Obj.mapFields (·.setIfInBounds 3 Value.none))=s.heap\/True:=.inr trivial
  have eT:(s.heap.update T (Obj.mapFields (·.setIfInBounds 3 Value.none))).get? T=some oT:=by
   have q:=Heap.get?_update_self (Obj.mapFields (·.setIfInBounds 3 Value.none)) hT (Yde (Ycx hd _))
   rw [q,No hd]
   have:ts.setIfInBounds 3 Value.none=ts:=by
    apply Array.ext_getElem?
    intro k
    rw [Array.getElem?_setIfInBounds]
    by_cases hk:3=k
    ·subst hk;rw [Yaq rfl,Yaq jr,h3]
    ·rw [Yan hk]
   rw [this,<- hd]
  have cu:∀b o,s.heap.get? b=some o->(s.heap.update T (Obj.mapFields (·.setIfInBounds 3 Value.none))).get? b=some o:=λb o q=>by
   by_cases hb:T=b
   ·subst hb;rw [eT,<- q,hT]
   ·rw [Heap.get?_update_other _ _ hb];exact q
  refine Dg (s:={ s with heap:=s.heap.update T (Obj.mapFields (·.setIfInBounds 3 Value.none)) }) gq (hl.of_keeps λb o q _=>⟨o,cu b o q,rfl⟩) hf (cu _ _ R.at_) R.six (R.cx.imp λ_ c=>c.same cu) λh' ⟨x1,x2,x3,x4,x5⟩=>h h' ⟨?_,λb o hb dm q=>x2 b o hb dm (cu b o q),λb o hb q=>x3 b o hb (cu b o q),x4,?_⟩
  ·rw [Ydj]at x1;exact x1
  ·obtain⟨T',y1,y2⟩:=x5
   refine⟨T',y1,?_⟩
   cases z:s.heap.get? T' with
   | none=>rfl
   | some o=>rw [cu _ _ z]at y2;cases y2
end
section
variable {prog:Program}{w:World}{A:Around}{E:Value->Shared->Prop}{s:Shared}{K:PySem.W.Frag}{env:Env}{e C:Addr}{d:Option Addr}{vs:Array Value}
theorem Q4{x:Sem Value}{Q:Flow->Shared->Prop}(hh:A.handled=none)
  (h:wpAny (model prog w) A x (λv s1=>∃e C d vs,v=.ref e/\K.In s1.heap/\s1.heap.get? e=some ⟨.ref C,d,.fields vs,#[]⟩/\vs[1]?=some .none/\Fa K C=true/\PySem.W.mroIn K C (.type "BaseException")=some true/\E (.ref e) s1) E s) :
  wpAny (model prog w) A (raiseStmt env (some x) none) Q E s:=by
 unfold raiseStmt
 refine Yab (Ybe h (λv s1 h1=>?_) λ_ _ z=>z)
 obtain⟨e,C,d,vs,rfl,X,he,h1,hc,hm,hE⟩:=h1
 obtain⟨nm,qn,N,bs,bm,gc,sn,sub,ab,i9,dd,k0,k1,k2,k3,k5,hC,_⟩:=Nm X hc
 obtain⟨hp,g,dr,tk,os⟩:=s1
 have Lt:PySem.W.Looks (model prog w) hp (typeOf (.ref e)) (.ref C):=(Ycd he).andThen .now
 have Lc:PySem.W.Looks (model prog w) hp (typeOf (.ref C)) (.type "type"):=(Ycd hC).andThen .now
 have Li:PySem.W.Looks (model prog w) hp (isType (.ref e)) false:=(Ycd he).andThen .now
 have Ls:PySem.W.Looks (model prog w) hp (isInstance (.ref e) (.type "BaseException")) true:=Lt.andThen (Yca X hm)
 refine Yab (Yac ?_)
 refine Yab (Yb8 ?_)
 unfold excFromValue isExcClass
 refine Yab (Yab (Li.at (Yac ?_)))
 rw [Yan (by decide)]
 refine Yab (Ls.at ?_)
 rw [Yaq rfl]
 refine Yac ?_
 refine Yab (Li.at ?_)
 dsimp only
 rw [Yan (by decide)]
 unfold raisedInstance
 refine Yab (Yab (Lt.at (Yab (Lc.at ?_))))
 rw [Yaq (by decide)]
 refine Yac ?_
 unfold setFlight
 refine Yab (Yab (Ybh he rfl h1 ?_))
 rw [Yan (by decide)]
 exact Yac (wpAny_raiseNew_none hh hE)
theorem Mp{ex:Expr}{pos:Pos}{Q:Flow->Shared->Prop}(hh:A.handled=none)
  (h:wpAny (model prog w) A (eval ex env) (λv s1=>∃e C d vs,v=.ref e/\K.In s1.heap/\s1.heap.get? e=some ⟨.ref C,d,.fields vs,#[]⟩/\vs[1]?=some .none/\Fa K C=true/\PySem.W.mroIn K C (.type "BaseException")=some true/\E (.ref e) s1) E s) :
  wpAny (model prog w) A (exec (.Raise (some ex) none pos) env) Q E s:=by
 rw [arm_exec_Raise]
 refine Yab (Ycv ?_)
 show wpAny (model prog w) A (raiseStmt env (some (do let v <- eval ex env;standAt pos;pure v)) none) Q E s
 refine Q4 (K:=K) hh (Yab (Ybe h (λv s1 h1=>Yab (Ycv (Yac h1))) λ_ _ z=>z))
end
def XR(e C:Addr)(d:Option Addr):HO:=.ext λh=>∃vs:Array Value,h.get? e=some ⟨.ref C,d,.fields vs,#[]⟩/\vs.size=6
theorem Q5{P:Program}{w:World}{H:Hp}{h:Heap}{e C:Addr}{d:Option Addr}{vs:Array Value}(hx:h.get? e=some ⟨.ref C,d,.fields vs,#[]⟩)(h6:vs.size=6):Bj P w H h e (XR e C d) :=
 ⟨⟨vs,hx,h6⟩,⟨_,hx⟩,λ_ _ ⟨vs,p,q⟩ k=>⟨vs,k _ p,q⟩⟩
theorem Q6{P:Program}{w:World}{H:Hp}{h:Heap}{e C:Addr}{d:Option Addr}(ok:HOk P w H h)(q:H e=some (XR e C d)):∃vs:Array Value,h.get? e=some ⟨.ref C,d,.fields vs,#[]⟩/\vs.size=6:=(show Bj P w H h e (XR e C d) from ok e _ q).1
def Q7(P:Program)(w:World):CXT:=λouter H s E e s'=>∃a C d H',e=.ref a/\s'.os=s.os/\AllBare s'.gens/\Un (frs outer) [] H H' s.heap s'.heap/\HOk P w H' s'.heap/\(∃vs,ExcRec s'.heap a (.ref C) d vs)/\H' a=some (XR a C d)/\E (.ref C) (some a) H'
section
variable {X:Cx}{aa:List (Addr×Obj)}{σ:St}{H:Hp}{s:Shared}{a C:Addr}{d:Option Addr}{h':Heap}
theorem Inv.left(I:Inv X aa σ H s)(hx:H a=some (XR a C d))(L:LeftBy (frs X.stack) a (.ref C) d s.heap h'):Inv X aa σ H { s with heap:=h' }:=by
 have nf:∀b u,H b=some u->b∉frs X.stack:=λb u q z=>by rw [I.stkFree b z]at q;cases q
 obtain⟨vs,R,_⟩:=id L.rc
 have un:Un (frs X.stack) [] H H s.heap h':=by
  refine⟨λb o q n hb _=>L.keep b o hb (λz=>by rw [z,hx]at n;cases n) q,λb o q n hb _=>L.slot b o hb q,λ_ _ _ n _=>n,λb o q _=>?_,λ_ _ q=>q,λ_ _ _ q=>q,λ_ ps q=>⟨#[],by rw [q];simp⟩⟩
  by_cases h1:b∈frs X.stack
  ·obtain⟨sl,q2⟩:=L.slot b o h1 q
   exact⟨_,q2⟩
  ·by_cases h2:b=a
   ·subst h2;exact⟨_,R.at_⟩
   ·exact⟨o,L.keep b o h1 h2 q⟩
 refine I.call (ch:=[]) (g':=s.gens) (d':=s.drawn) (t':=s.toks) un (λb u q=>?_) I.bare (λb z=>absurd z (by simp))
 by_cases hb:b=a
 ·subst hb
  rw [hx]at q;cases q
  exact Q5 R.at_ R.six
 ·refine(I.hok b u q).stay (λc v hc r=>L.keep c v ?_ ?_ r) (λ_ q=>q) λ_ _ q=>q
  ·rcases hc with rfl | hc
   ·exact nf _ _ q
   ·exact nf _ _ hc
  ·rintro rfl
   rcases hc with z | hc
   ·exact hb z.symm
   ·rw [hx]at hc;cases hc
def O6(X:Cx)(EX:XK):Prop:=∀(aa:List (Addr×Obj)) (σ:St) (H:Hp) (s:Shared) (a C:Addr) (d:Option Addr) (vs:Array Value),Inv X aa σ H s->H a=some (XR a C d)->ExcRec s.heap a (.ref C) d vs->EX (.ref C) (some a) H->X.xe (.ref a) s
theorem O6.passes{EX E1:XK}(h:O6 X EX)(i:∀c d H,E1 c d H->EX c d H):Passes (Q7 X.prog X.w) X E1:=by
 rintro aa σ H s e s' I ⟨a,C,d,H',rfl,os,bare,un,hok,⟨vs,R⟩,hx,hE⟩
 exact h aa σ H' s' a C d vs (I.call' os un hok bare (λb z=>absurd z (by simp))) hx R (i _ _ _ hE)
end
theorem T8{P:Program}{w:World}{K:PySem.W.Frag}{mg:Str->Option Value}{base:Heap}{N:List Str}{qual:Str}{scope:Scope}{f:Addr}{cd:Value}{A:Around}{outer:List Env}{s:Shared}{H:Hp}{E:XK} :
  O6 (Fz (Q7 P w) P w K mg base N qual scope f cd A outer s H E) E:=by
 intro aa σ H1 s1 a C d vs I hx R hE
 show wpAny (model P w) _ («leaving» (envOfC qual scope s.heap.objs.size f cd) (.ref a)) _ _ s1
 refine Q3 (base:=base) (outer:=outer) I.ok.frames I.stack rfl R λh' L=>?_
 have J:=I.left hx L
 obtain⟨d3,R',_⟩:=L.rc
 exact⟨a,C,d,H1,rfl,J.os,J.bare,J.base,J.hok,⟨d3,R'⟩,hx,hE⟩
section
variable {M:Model}{A:Around}{E:Value->Shared->Prop}{s:Shared}{base:Heap}{env:Env}{outer:List Env}{L e:Addr}{cls:Value}{d:Option Addr}{vs:Array Value}
theorem Gn{h:Heap}{T:Addr}{oT:Obj}{ts:Array Value}(hT:h.get? T=some oT)(hd:oT.data=.fields ts)(h3:ts[3]?=some .none) :
  ∀b o,h.get? b=some o->(h.update T (Obj.mapFields (·.setIfInBounds 3 Value.none))).get? b=some o:=by
 have jr:3 < ts.size:=(Array.getElem?_eq_some_iff.mp h3).1
 have eT:(h.update T (Obj.mapFields (·.setIfInBounds 3 Value.none))).get? T=some oT:=by
  have q:=Heap.get?_update_self (Obj.mapFields (·.setIfInBounds 3 Value.none)) hT (Yde (Ycx hd _))
  rw [q,No hd]
  have:ts.setIfInBounds 3 Value.none=ts:=by
   apply Array.ext_getElem?
   intro k
   rw [Array.getElem?_setIfInBounds]
   by_cases hk:3=k
   ·subst hk;rw [Yaq rfl,Yaq jr,h3]
   ·rw [Yan hk]
  rw [this,<- hd]
 intro b o q
 by_cases hb:T=b
 ·subst hb;rw [eT,<- q,hT]
 ·rw [Heap.get?_update_other _ _ hb];exact q
theorem O7{Q:Unit->Shared->Prop}(gq:A.frames=some (env :: outer))(hl:s.heap.FunFrames base (env :: outer))(hf:env.frame=some L)(R:ExcRec s.heap e cls d vs)
  (h:∀h',LeftBy (frs (env :: outer)) e cls d s.heap h'->Q () { s with heap:=h' }):wpAny M A (noteFrame (.ref e) env) (λ_ s₂=>wpAny M A (setFlight (.ref e) none) Q E s₂) E s:=by
 unfold noteFrame
 simp only [hf]
 rcases R.tb with h1 | ⟨T,oT,ts,h1,hTe,hT,hd,h3⟩
 ·refine Yab (Ybh R.at_ rfl h1 ?_)
  rw [Yan (by decide)]
  exact Dg gq hl hf R.at_ R.six R.cx h
 ·refine Yab (Ybh R.at_ rfl h1 ?_)
  rw [Yaq (by simp)]
  refine Yab (Ybh hT hd h3 ?_)
  rw [Yan (by simp [rawInt])]
  have jr:3 < ts.size:=(Array.getElem?_eq_some_iff.mp h3).1
  refine Yab (Ych hT hd jr ?_)
  have cu:=Gn hT hd h3
  refine Dg (s:={ s with heap:=s.heap.update T (Obj.mapFields (·.setIfInBounds 3 Value.none)) }) gq (hl.of_keeps λb o q _=>⟨o,cu b o q,rfl⟩) hf (cu _ _ R.at_) R.six (R.cx.imp λ_ c=>c.same cu) λh' ⟨x1,x2,x3,x4,x5⟩=>h h' ⟨?_,λb o hb dm q=>x2 b o hb dm (cu b o q),λb o hb q=>x3 b o hb (cu b o q),x4,?_⟩
  ·rw [Ydj]at x1;exact x1
  ·obtain⟨T',y1,y2⟩:=x5
   refine⟨T',y1,?_⟩
   cases z:s.heap.get? T' with
   | none=>rfl
   | some o=>rw [cu _ _ z]at y2;cases y2
theorem O8{Q:Unit->Shared->Prop}(R:ExcRec s.heap e cls d vs)(h:∀h',(∀b o,s.heap.get? b=some o->h'.get? b=some o)->Q () { s with heap:=h' }):wpAny M A (setFlight (.ref e) none) Q E s:=by
 unfold setFlight
 rcases R.tb with h1 | ⟨T,oT,ts,h1,hTe,hT,hd,h3⟩
 ·refine Yab (Ybh R.at_ rfl h1 ?_)
  rw [Yan (by decide)]
  exact Yac (h _ λ_ _ q=>q)
 ·refine Yab (Ybh R.at_ rfl h1 ?_)
  rw [Yaq (by simp)]
  exact Ych hT hd (Array.getElem?_eq_some_iff.mp h3).1 (h _ (Gn hT hd h3))
end
section
variable {prog:Program}{w:World}{A:Around}{E:Value->Shared->Prop}{s:Shared}{K:PySem.W.Frag}{e C D:Addr}{d:Option Addr}{vs:Array Value}
theorem La{b:Bool}{Q:Bool->Shared->Prop}(X:K.In s.heap)(hD:Fa K D=true)(he:s.heap.get? e=some ⟨.ref C,d,.fields vs,#[]⟩)(hb:PySem.W.mroIn K D (.type "BaseException")=some true)
  (hm:PySem.W.mroIn K C (.ref D)=some b) (h:Q b s):wpAny (model prog w) A (excMatches (.ref e) (.ref D)) Q E s:=by
 obtain⟨nm,qn,N,bs,bm,gc,sn,sub,ab,i9,dd,k0,k1,k2,k3,k5,hDo,_⟩:=Nm X hD
 obtain⟨hp,g,dr,tk,os⟩:=s
 have Lt:PySem.W.Looks (model prog w) hp (typeOf (.ref e)) (.ref C):=(Ycd he).andThen .now
 have Lc:PySem.W.Looks (model prog w) hp (typeOf (.ref D)) (.type "type"):=(Ycd hDo).andThen .now
 have Li:PySem.W.Looks (model prog w) hp (isType (.ref D)) true:=(Ycd hDo).andThen .now
 have f1:isSubtype (.type "type") (.type "tuple")=pure false:=isSubtype_of_subB rfl
 unfold excMatches isExcClass isInstance
 refine Yab (Yab (Lc.at ?_))
 rw [f1]
 refine Yac ?_
 rw [Yan (by decide)]
 refine Yab (Yac ?_)
 simp only [List.forIn_cons,List.forIn_nil]
 refine Yab (Yab (Yab (Yab (Li.at ?_))))
 rw [Yaq rfl]
 refine(Yca X hb).at ?_
 simp only [Bool.not_true,Bool.false_eq_true,if_false]
 refine Yac ?_
 refine Yac ?_
 refine Yab (Lt.at ?_)
 refine Yab (Yab (Yab ((Yca X hm).at ?_)))
 cases b with
 | true =>
  simp only [if_true]
  exact Yac (Yac (Yac h))
 | false =>
  simp only [Bool.false_eq_true,if_false]
  exact Yac (Yac (Yac h))
end
section
variable {X:Cx}{aa:List (Addr×Obj)}{σ:St}{H:Hp}{s:Shared}
theorem Inv.retype{a:Addr}{φ:Heap->Prop}{o:HO}(I:Inv X aa σ H s)(q:H a=some (.ext φ))(new:Bj X.prog X.w (upd H a o) s.heap a o):Inv X aa σ (upd H a o) s :=
 I.write (x:=a) (e:=a) (t':=s.toks) (h':=s.heap) (by rw [q];exact True.intro) (.inl rfl) (λ_ _ _ z=>z) (let⟨_,q,_⟩:=(show Bj X.prog X.w H s.heap a (.ext φ) from I.hok a _ q);q) new
def Xo(K:PySem.W.Frag)(EX:XK)(te:TE):TS:=λ_ σ H=>te σ H λx H1=>∃a C t d,x=.ref a/\H1 a=some (XO a C t d)/\Fa K C=true/\PySem.W.mroIn K C (.type "BaseException")=some true/\EX (.ref C) (some a) (upd H1 a (XR a C d))
theorem Q8{ex:Expr}{pos:Pos}{te:TE}{EX:XK}(hc:X.calm=true)(hx:O6 X EX)(he:PE X ex te):PS X (.Raise (some ex) none pos) (Xo X.K EX te):=by
 intro aa s σ H D I h
 refine Mp (K:=X.K) (I.ok.hd hc) (thn (he aa s σ H _ I h) λv s1 ki=>?_)
 obtain⟨x,H1,I1,r,a,C,t,d,ex,ha,xc,mr,hE⟩:=ki
 subst ex
 obtain rfl:v=Value.ref a:=r
 have hg:=Mo I1.hok ha
 exact⟨a,C,d,_,rfl,I1.kIn,hg,rfl,xc,mr,hx aa σ _ s1 a C d _ (I1.retype ha (Q5 hg rfl)) Be ⟨hg,rfl,.inl rfl,[],.nil hg rfl rfl⟩ hE⟩
abbrev Cx.suite(X:Cx)(e:Addr):Cx:={ X with A:=X.A.mark (some (.ref e)),calm:=false,xe:=λ_ _=>False }
theorem Inv.suite{e:Addr}(I:Inv X aa σ H s):Inv (X.suite e) aa σ H s :=
 ⟨⟨I.ok.mod,I.ok.kind,I.ok.glob,I.ok.blt,I.ok.above,I.ok.inj,I.ok.has,I.ok.cab,λz=>(nomatch z),I.ok.frames,I.ok.stk,I.ok.exf,I.ok.bs,I.ok.bsz,I.ok.noex,I.ok.exfs,I.ok.funs,I.ok.frf⟩,I.os,I.bare,I.base,I.loc,I.cell,I.free,I.freeC,I.pin,I.hok,I.len⟩
theorem Inv.unsuite{e:Addr}(ok:X.Ok)(I:Inv (X.suite e) aa σ H s):Inv X aa σ H s:=⟨ok,I.os,I.bare,I.base,I.loc,I.cell,I.free,I.freeC,I.pin,I.hok,I.len⟩
theorem G0{M:Model}{A:Around}{E:Value->Shared->Prop}{i:Nat}{n:Str}{pos:Pos}{Q:Unit->Shared->Prop}(I:Inv X aa σ H s)(hN:X.N.Nodup)(hi:X.N[i]?=some n)(hk:X.env.scope.names.lookup n=some .local)
  (h:∀s',Inv X aa (σ.set i none) H s'->Q () s'):wpAny M A (do bindName X.env n .none;unbindBehindTheSuite X.env n pos) Q E s:=by
 obtain⟨m,hn,hl⟩:=id I.loc
 have i3:(X.env.scope.kind==.class || (X.env.scope.kind==.module && X.env.locals != X.env.globals))=false:=by rw [I.ok.kind];rfl
 refine wpAny_nameGoes_keeps hk hn i3 λh' v gv hs=>?_
 have nl:∀b o,X.s₀.heap.get? b=some o->b≠X.env.locals:=λb o e=>Yap (Yal (Yag e) I.ok.above)
 refine h _ ⟨I.ok,I.os,I.bare,⟨λb o e z hb hx=>(hs.2 b (nl b o e)).trans (I.base.keep b o e z hb hx),λb o e z hb hx=>?_,I.base.free,λb o e hx=>?_,I.base.tups,I.base.frzs,I.base.tbls⟩,⟨_,gv,λj y v' e1 e2 e3=>?_⟩,λy c e=>?_,I.free,I.freeC,λp hp=>?_,λb ob e=>?_,by rw [List.length_set];exact I.len⟩
 ·obtain⟨sl,e1⟩:=I.base.slot b o e z hb hx
  exact⟨sl,(hs.2 b (nl b o e)).trans e1⟩
 ·obtain⟨o',e1⟩:=I.base.there b o e hx
  exact⟨o',(hs.2 b (nl b o e)).trans e1⟩
 ·have hj:j≠i:=by
   rintro rfl
   rw [List.getElem?_set]at e2
   simp only [if_true]at e2
   split at e2 <;> cases e2
  rw [List.getElem?_set_ne (Ycl hj)]at e2
  obtain⟨u',r',q⟩:=hl j y v' e1 e2 e3
  refine⟨u',r',?_⟩
  have ny:y≠n:=λz=>hj (G9 hN e1 (z ▸ hi))
  rcases q with⟨k,e⟩ | ⟨k,c,e,z⟩
  ·exact .inl ⟨k,by show(if y=n then v else m y)=_;rw [Yan ny];exact e⟩
  ·exact .inr ⟨k,c,e,z.sameBut hs (I.cne y c e)⟩
 ·obtain⟨w',z⟩:=I.cell y c e
  exact⟨w',z.sameBut hs (I.cne y c e)⟩
 ·obtain⟨e,z,ne,nf,d⟩:=I.pin p hp
  exact⟨(hs.2 p.1 ne).trans e,z,ne,nf,d⟩
 ·refine(I.hok b ob e).stay (λc w' hc q=>(hs.2 c ?_).trans q) (λ_ q=>q) λ_ _ q=>q
  rintro rfl
  rcases hc with z | z
  ·rw [<- z,I.free]at e;cases e
  ·rw [I.free]at z;cases z
abbrev Cx.taking(X:Cx)(xe:Value->Shared->Prop)(pn:List (Addr×Obj)):Cx:={ X with xe:=xe,pn:=pn }
theorem Inv.take{xe:Value->Shared->Prop}(I:Inv X aa σ H s):Inv (X.taking xe (X.pn++aa)) [] σ H s :=
 ⟨⟨I.ok.mod,I.ok.kind,I.ok.glob,I.ok.blt,I.ok.above,I.ok.inj,I.ok.has,I.ok.cab,I.ok.hd,I.ok.frames,I.ok.stk,I.ok.exf,I.ok.bs,I.ok.bsz,I.ok.noex,I.ok.exfs,I.ok.funs,I.ok.frf⟩,I.os,I.bare,I.base,I.loc,I.cell,I.free,I.freeC,λp hp=>I.pin p (by rw [Ybs]at hp;exact hp),I.hok,I.len⟩
theorem Inv.untake{xe:Value->Shared->Prop}{dj:List (Addr×Obj)}(ok:X.Ok)(I:Inv (X.taking xe (X.pn++aa)) dj σ H s):Inv X aa σ H s :=
 ⟨ok,I.os,I.bare,I.base,I.loc,I.cell,I.free,I.freeC,λp hp=>I.pin p (Ydm _ hp),I.hok,I.len⟩
end
end L2
namespace L2
open PySem PySem.Spec PyProof.Rows
inductive AV where
 | D (d:PyData) | R (a:Addr) | C (ds:List PyData) | X (C:Addr) (fs:List (Str×PyData))
 deriving Inhabited
mutual
def Cano:PyData->Bool
 | .int _=>true
 | .str _=>true
 | .tuple xs=>Ci xs
 | _=>false
def Ci:List PyData->Bool
 | []=>true
 | x :: xs=>Cano x && Ci xs
end
structure KeyTree(d:PyData):Prop where
 can:Cano d=true
 lay:d.canLay0=true
 dep:d.depth<=6
def T9(K:PySem.W.Frag)(H:Hp)(a:Addr)(xs:List V):Prop :=
 (∃o,H a=some (.frz o (.lst xs))) \/
  ∃(o:Obj) (af:Array Value) (n:Nat),K.lookup a=some o/\o.cls=.type "list" /\ o.dict=none/\o.data=.seq af n/\af.size<=sizeLine/\Vals xs af.toList
theorem T9.sq{K:PySem.W.Frag}{H:Hp}{a:Addr}{xs:List V}(h:T9 K H a xs):Dq K H a xs:=by
 rcases h with⟨o,h⟩ | h
 ·exact .inl (.inr ⟨o,h⟩)
 ·exact .inr h
def Lit:List PyData->Bool
 | .str _ :: _=>true
 | .tuple _ :: _=>true
 | _=>false
def Sv(K:PySem.W.Frag)(H:Hp)(a:Addr)(ds:List PyData)(xs:List V):Prop :=
 H a=some (.tup xs)\/(Lit ds=true/\(∃o,K.lookup a=some o/\o.dict=none)/\∃(o:Obj) (af:Array Value) (n:Nat),K.lookup a=some o/\o.cls=.type "tuple" /\ o.data=.seq af n/\af.size<=sizeLine/\Vals xs af.toList)
theorem Sv.sq{K:PySem.W.Frag}{H:Hp}{a:Addr}{ds:List PyData}{xs:List V}(h:Sv K H a ds xs):Fw K H a xs:=by
 rcases h with h | h
 ·exact Fw.of h
 ·exact .inr h.2.2
mutual
def Dk(K:PySem.W.Frag)(H:Hp):PyData->V->Prop
 | .none,x=>x=.non
 | .bool b,x=>x=.bl b
 | .int i,x=>x=.int i
 | .str z,x=>x=.str z
 | .list ds,x=>∃a xs,x=.ref a/\T9 K H a xs/\Ao K H ds xs
 | .tuple ds,x=>∃a xs,x=.ref a/\Sv K H a ds xs/\Ao K H ds xs
 | .dict _,_=>False
def Ao(K:PySem.W.Frag)(H:Hp):List PyData->List V->Prop
 | [],xs=>xs=[]
 | d :: ds,xs=>∃x r,xs=x :: r/\Dk K H d x/\Ao K H ds r
end
structure Kp(H H':Hp):Prop where
 t:∀b xs,H b=some (.tup xs)->H' b=some (.tup xs)
 f:∀b o u,H b=some (.frz o u)->H' b=some (.frz o u)
theorem Kp.refl{H:Hp}:Kp H H:=⟨λ_ _ h=>h,λ_ _ _ h=>h⟩
theorem Kp.trans{H H1 H2:Hp}(a:Kp H H1)(b:Kp H1 H2):Kp H H2:=⟨λc xs h=>b.t c xs (a.t c xs h),λc o u h=>b.f c o u (a.f c o u h)⟩
theorem Kp.new{H:Hp}{p:Addr}(h:H p=none)(o:HO):Kp H (upd H p o) :=
 ⟨λb xs e=>by rw [Aw (B1 e h)];exact e,λb o' u e=>by rw [Aw (B1 e h)];exact e⟩
def Mt:HO->Prop
 | .lst _=>True
 | .dK _=>True
 | .dT _=>True
 | .dd _=>True
 | _=>False
theorem Kp.put{H:Hp}{p:Addr}{o0:HO}(h:H p=some o0)(m:Mt o0)(o:HO):Kp H (upd H p o) :=
 ⟨λb xs e=>by rw [Aw (Ky e h (by intro z;subst z;exact m))];exact e,λb o' u e=>by rw [Aw (Ky e h (by intro z;subst z;exact m))];exact e⟩
theorem T9.kp{K:PySem.W.Frag}{H H':Hp}{a:Addr}{xs:List V}(S:Kp H H')(h:T9 K H a xs):T9 K H' a xs:=by
 rcases h with⟨o,h⟩ | h
 ·exact .inl ⟨o,S.f _ _ _ h⟩
 ·exact .inr h
theorem Sv.kp{K:PySem.W.Frag}{H H':Hp}{a:Addr}{ds:List PyData}{xs:List V}(S:Kp H H')(h:Sv K H a ds xs):Sv K H' a ds xs:=by
 rcases h with h | h
 ·exact .inl (S.t _ _ h)
 ·exact .inr h
section
variable {K:PySem.W.Frag}{H H':Hp}
mutual
theorem Dk.kp(S:Kp H H'):∀(d:PyData) (x:V),Dk K H d x->Dk K H' d x
 | .none,x,h=>by simp only [Dk]at h ⊢;exact h
 | .bool b,x,h=>by simp only [Dk]at h ⊢;exact h
 | .int i,x,h=>by simp only [Dk]at h ⊢;exact h
 | .str z,x,h=>by simp only [Dk]at h ⊢;exact h
 | .list ds,x,h=>by
  simp only [Dk]at h ⊢
  obtain⟨a,xs,e,q,r⟩:=h
  exact⟨a,xs,e,q.kp S,Ao.kp S ds xs r⟩
 | .tuple ds,x,h=>by
  simp only [Dk]at h ⊢
  obtain⟨a,xs,e,q,r⟩:=h
  exact⟨a,xs,e,q.kp S,Ao.kp S ds xs r⟩
 | .dict _,x,h=>by simp only [Dk]at h
theorem Ao.kp(S:Kp H H'):∀(ds:List PyData) (xs:List V),Ao K H ds xs->Ao K H' ds xs
 | [],xs,h=>by simp only [Ao]at h ⊢;exact h
 | d :: ds,xs,h=>by
  simp only [Ao]at h ⊢
  obtain⟨x,r,e,h1,h2⟩:=h
  exact⟨x,r,e,Dk.kp S d x h1,Ao.kp S ds r h2⟩
end
theorem Cm{i:Int}:Dk K H (.int i) (.int i):=by simp only [Dk]
theorem Je{b:Bool}:Dk K H (.bool b) (.bl b):=by simp only [Dk]
theorem Q9{z:Str}:Dk K H (.str z) (.str z):=by simp only [Dk]
theorem Ra:Dk K H .none .non:=by simp only [Dk]
theorem Dk.int{x:V}{i:Int}(h:Dk K H (.int i) x):x=.int i:=by simp only [Dk]at h;exact h
theorem Dk.bl{x:V}{i:Bool}(h:Dk K H (.bool i) x):x=.bl i:=by simp only [Dk]at h;exact h
theorem Dk.str{x:V}{i:Str}(h:Dk K H (.str i) x):x=.str i:=by simp only [Dk]at h;exact h
theorem Dk.non{x:V}(h:Dk K H .none x):x=.non:=by simp only [Dk]at h;exact h
theorem Dk.tup{x:V}{ds:List PyData}(h:Dk K H (.tuple ds) x):∃a xs,x=.ref a/\Sv K H a ds xs/\Ao K H ds xs:=by simp only [Dk]at h;exact h
theorem Dk.lst{x:V}{ds:List PyData}(h:Dk K H (.list ds) x):∃a xs,x=.ref a/\T9 K H a xs/\Ao K H ds xs:=by simp only [Dk]at h;exact h
theorem Mq{a:Addr}{xs:List V}{ds:List PyData}(h:H a=some (.tup xs))(r:Ao K H ds xs):Dk K H (.tuple ds) (.ref a):=by simp only [Dk];exact⟨a,xs,rfl,.inl h,r⟩
theorem Xp{a:Addr}{xs:List V}{ds:List PyData}(h:T9 K H a xs)(r:Ao K H ds xs):Dk K H (.list ds) (.ref a):=by simp only [Dk];exact⟨a,xs,rfl,h,r⟩
theorem Dz:Ao K H [] []:=by simp only [Ao]
theorem C2{d:PyData}{ds:List PyData}{x:V}{xs:List V}(h:Dk K H d x)(r:Ao K H ds xs):Ao K H (d :: ds) (x :: xs):=by simp only [Ao];exact⟨x,xs,rfl,h,r⟩
theorem Ao.cons{d:PyData}{ds:List PyData}{xs:List V}(h:Ao K H (d :: ds) xs):∃x r,xs=x :: r/\Dk K H d x/\Ao K H ds r:=by simp only [Ao]at h;exact h
theorem Ao.nil{xs:List V}(h:Ao K H [] xs):xs=[]:=by simp only [Ao]at h;exact h
theorem Ao.length:∀{ds:List PyData} {xs:List V},Ao K H ds xs->xs.length=ds.length
 | [],_,h=>by rw [h.nil];rfl
 | _ :: ds,_,h=>by
  obtain⟨x,r,rfl,_,h2⟩:=h.cons
  rw [Ya9,Ya9,Ao.length h2]
theorem Ao.get:∀{ds:List PyData} {xs:List V} {i:Nat} {d:PyData},Ao K H ds xs->ds[i]?=some d->∃x,xs[i]?=some x/\Dk K H d x
 | [],_,_,_,_,e=>by simp at e
 | _ :: ds,_,0,d,h,e=>by
  obtain⟨x,r,rfl,h1,_⟩:=h.cons
  simp at e;subst e
  exact⟨x,rfl,h1⟩
 | _ :: ds,_,i+1,d,h,e=>by
  obtain⟨x,r,rfl,_,h2⟩:=h.cons
  obtain⟨y,e1,e2⟩:=Ao.get (i:=i) (d:=d) h2 (by simpa using e)
  exact⟨y,by simpa using e1,e2⟩
theorem Ao.append:∀{ds es:List PyData} {xs ys:List V},Ao K H ds xs->Ao K H es ys->Ao K H (ds++es) (xs++ys)
 | [],_,_,_,h,k=>by rw [h.nil];exact k
 | _ :: ds,_,_,_,h,k=>by
  obtain⟨x,r,rfl,h1,h2⟩:=h.cons
  exact C2 h1 (Ao.append h2 k)
theorem Ao.drop:∀(n:Nat) {ds:List PyData} {xs:List V},Ao K H ds xs->Ao K H (ds.drop n) (xs.drop n)
 | 0,_,_,h=>h
 | _+1,[],_,h=>by rw [h.nil];exact Dz
 | n+1,_ :: ds,_,h=>by
  obtain⟨x,r,rfl,_,h2⟩:=h.cons
  exact Ao.drop n h2
theorem Ao.take:∀(n:Nat) {ds:List PyData} {xs:List V},Ao K H ds xs->Ao K H (ds.take n) (xs.take n)
 | 0,_,_,_=>Dz
 | _+1,[],_,h=>by rw [h.nil];exact Dz
 | n+1,_ :: ds,_,h=>by
  obtain⟨x,r,rfl,h1,h2⟩:=h.cons
  exact C2 h1 (Ao.take n h2)
theorem Ao.cut{ds:List PyData}{xs:List V}(h:Ao K H ds xs)(lo hi:Option Int):Ao K H (Cl ds lo hi) (Ii xs lo hi):=by
 unfold Cl Ii
 rw [h.length]
 exact(h.drop _).take _
theorem Ao.atI{ds:List PyData}{xs:List V}{i:Int}{d:PyData}(h:Ao K H ds xs)(e:atI ds i=some d):∃x,L2.atI xs i=some x/\Dk K H d x:=by
 unfold L2.atI at e ⊢
 rw [h.length]
 cases q:To ds.length i with
 | none=>rw [q]at e;cases e
 | some j =>
  rw [q]at e
  obtain⟨x,hx,hd⟩:=h.get (show ds[j]?=some d from e)
  exact⟨x,hx,hd⟩
def Gx(K:PySem.W.Frag)(H:Hp):List (Str×PyData)->List (Str×V)->Prop:=Paired λp q=>p.1=q.1/\Dk K H p.2 q.2
theorem Gx.kp{fs:List (Str×PyData)}{vs:List (Str×V)}(S:Kp H H')(h:Gx K H fs vs):Gx K H' fs vs:=Paired.mapP h λp q r=>⟨r.1,Dk.kp S _ _ r.2⟩
def XFs(K:PySem.W.Frag)(H:Hp)(d:Option Addr)(fs:List (Str×PyData)):Prop:=match d with
 | none=>fs=[]
 | some d=>∃od ag,H d=some (.frz od (XD d ag))/\Gx K H fs ag
theorem XFs.kp{d:Option Addr}{fs:List (Str×PyData)}(S:Kp H H')(h:XFs K H d fs):XFs K H' d fs:=by
 cases d with
 | none=>exact h
 | some d=>obtain⟨od,ag,q,r⟩:=h;exact⟨od,ag,S.f _ _ _ q,r.kp S⟩
def RelA(K:PySem.W.Frag)(H:Hp):AV->V->Prop
 | .D d,v=>Dk K H d v
 | .R a,v=>v=.ref a
 | .C ds,v=>∃a xs,v=.ref a/\(∀H,Fw K H a xs)/\Ao K H ds xs
 | .X C fs,v=>∃a o d,v=.ref a/\H a=some (.frz o (XR a C d))/\XFs K H d fs
theorem Co{i:Int}:RelA K H (.D (.int i)) (.int i):=Cm (K:=K) (H:=H)
theorem C7{i:Bool}:RelA K H (.D (.bool i)) (.bl i):=Je (K:=K) (H:=H)
theorem Hk{i:Str}:RelA K H (.D (.str i)) (.str i):=Q9 (K:=K) (H:=H)
theorem J7:RelA K H (.D .none) .non:=Ra (K:=K) (H:=H)
theorem RelA.int{x:V}{i:Int}(h:RelA K H (.D (.int i)) x):x=.int i:=Dk.int (K:=K) (H:=H) h
theorem RelA.bl{x:V}{i:Bool}(h:RelA K H (.D (.bool i)) x):x=.bl i:=Dk.bl (K:=K) (H:=H) h
theorem RelA.str{x:V}{i:Str}(h:RelA K H (.D (.str i)) x):x=.str i:=Dk.str (K:=K) (H:=H) h
theorem RelA.non{x:V}(h:RelA K H (.D .none) x):x=.non:=Dk.non (K:=K) (H:=H) h
theorem RelA.tup{x:V}{ds:List PyData}(h:RelA K H (.D (.tuple ds)) x):∃a xs,x=.ref a/\Sv K H a ds xs/\Ao K H ds xs:=Dk.tup (K:=K) (H:=H) h
theorem RelA.lst{x:V}{ds:List PyData}(h:RelA K H (.D (.list ds)) x):∃a xs,x=.ref a/\T9 K H a xs/\Ao K H ds xs:=Dk.lst (K:=K) (H:=H) h
theorem RelA.ref{x:V}{a:Addr}(h:RelA K H (.R a) x):x=.ref a:=h
theorem Eh{a:Addr}:RelA K H (.R a) (.ref a):=rfl
theorem Mr{d:PyData}{v:V}(h:Dk K H d v):RelA K H (.D d) v:=h
theorem J8{a:Addr}{xs:List V}{ds:List PyData}(h:H a=some (.tup xs))(r:Ao K H ds xs):RelA K H (.D (.tuple ds)) (.ref a):=Mq (K:=K) (H:=H) h r
abbrev Av(K:PySem.W.Frag)(H:Hp):List AV->List V->Prop:=Paired (RelA K H)
theorem RelA.kp(S:Kp H H'):∀{x:AV} {v:V},RelA K H x v->RelA K H' x v
 | .D d,v,h=>Dk.kp S d v h
 | .R a,_,h=>h
 | .C ds,v,⟨a,xs,e,q,r⟩=>⟨a,xs,e,q,Ao.kp S ds xs r⟩
 | .X C fs,v,⟨a,o,d,e,q,r⟩=>⟨a,o,d,e,S.f _ _ _ q,r.kp S⟩
theorem Av.kp(S:Kp H H'){xs:List AV}{vs:List V}(h:Av K H xs vs):Av K H' xs vs:=Paired.mapP h λ_ _ q=>q.kp S
theorem Av.length{xs:List AV}{vs:List V}(h:Av K H xs vs):xs.length=vs.length:=Yck h
theorem Av.append{xs ys:List AV}{us ws:List V}(h:Av K H xs us)(s:Av K H ys ws):Av K H (xs++ys) (us++ws):=by
 induction h with
 | nil=>exact s
 | cons r t ih=>exact .cons r ih
theorem Av.get:∀{xs:List AV} {us:List V} {i:Nat} {x:AV},Av K H xs us->xs[i]?=some x->∃u,us[i]?=some u/\RelA K H x u
 | _,_,_,_,.nil,e=>by simp at e
 | _,_,0,_,.cons r _,e=>by simp at e;subst e;exact⟨_,rfl,r⟩
 | _,_,i+1,x,.cons _ t,e=>by
  obtain⟨u,h1,h2⟩:=Av.get (i:=i) (x:=x) t (by simpa using e)
  exact⟨u,by simpa using h1,h2⟩
theorem Av.drop:∀{xs:List AV} {us:List V} (n:Nat),Av K H xs us->Av K H (xs.drop n) (us.drop n)
 | _,_,0,r=>r
 | _,_,_+1,.nil=>.nil
 | _,_,n+1,.cons _ t=>Av.drop n t
theorem Av.take:∀{xs:List AV} {us:List V} (n:Nat),Av K H xs us->Av K H (xs.take n) (us.take n)
 | _,_,0,_=>.nil
 | _,_,_+1,.nil=>.nil
 | _,_,n+1,.cons r t=>.cons r (Av.take n t)
theorem Av.dropLast{xs:List AV}{us:List V}(h:Av K H xs us):Av K H xs.dropLast us.dropLast:=by
 induction h with
 | nil=>exact .nil
 | cons r t ih =>
  cases t with
  | nil=>exact .nil
  | cons r2 t=>exact .cons r ih
theorem Av.rev{xs:List AV}{us:List V}(h:Av K H xs us):Av K H xs.reverse us.reverse:=by
 induction h with
 | nil=>exact .nil
 | cons r t ih=>rw [Yc5,Yc5];exact ih.append (.cons r .nil)
def Ms(xs:List AV)(lo hi:Option Int):List AV:=(xs.drop (HT.sIx xs.length 0 lo)).take (HT.sIx xs.length xs.length hi - HT.sIx xs.length 0 lo)
theorem Av.cut{xs:List AV}{us:List V}(h:Av K H xs us)(lo hi:Option Int):Av K H (Ms xs lo hi) (Ii us lo hi):=by
 unfold Ms Ii
 rw [h.length]
 exact(h.drop _).take _
theorem Av.atI{xs:List AV}{us:List V}{i:Int}{x:AV}(h:Av K H xs us)(e:atI xs i=some x):∃u,L2.atI us i=some u/\RelA K H x u:=by
 unfold L2.atI at e ⊢
 rw [<- h.length]
 cases q:To xs.length i with
 | none=>rw [q]at e;cases e
 | some j =>
  rw [q]at e
  obtain⟨x,hx,hd⟩:=h.get (show xs[j]?=some x from e)
  exact⟨x,hx,hd⟩
def dats:List AV->Option (List PyData)
 | []=>some []
 | .D d :: r=>match dats r with
  | some ds=>some (d :: ds)
  | none=>none
 | .R _ :: _=>none
 | .C _ :: _=>none
 | .X _ _ :: _=>none
@[simp] theorem dats_nil:dats []=some []:=rfl
theorem B7:∀(ds:List PyData),dats (ds.map .D)=some ds
 | []=>rfl
 | d :: ds=>by simp only [List.map_cons,dats,B7 ds]
theorem G1:∀{xs:List AV} {ds:List PyData},dats xs=some ds->xs=ds.map .D
 | [],ds,h=>by cases h;rfl
 | .D d :: r,ds,h=>by
  simp only [dats]at h
  cases q:dats r with
  | none=>rw [q]at h;cases h
  | some es=>rw [q]at h;cases h;rw [G1 q];rfl
 | .R _ :: _,_,h=>by simp [dats]at h
 | .C _ :: _,_,h=>by simp [dats]at h
 | .X _ _ :: _,_,h=>by simp [dats]at h
theorem Av.dk:∀{ds:List PyData} {vs:List V},Av K H (ds.map .D) vs->Ao K H ds vs
 | [],_,h=>by cases h;exact Dz
 | _ :: _,_,h=>by
  rw [Yaz]at h
  cases h with
  | cons r t=>exact C2 r (Av.dk t)
theorem Ao.rel:∀{ds:List PyData} {vs:List V},Ao K H ds vs->Av K H (ds.map .D) vs
 | [],_,h=>by rw [h.nil];exact .nil
 | _ :: _,_,h=>by
  obtain⟨x,r,rfl,h1,h2⟩:=h.cons
  exact .cons h1 (Ao.rel h2)
theorem Av.dats{xs:List AV}{vs:List V}{ds:List PyData}(h:Av K H xs vs)(e:dats xs=some ds):Ao K H ds vs:=by rw [G1 e]at h;exact h.dk
inductive MO where
 | lst (xs:List AV) | dk (ag:List (Key×AV)) | dt (ag:List (List Key×AV)) | dd (ag:List (PyData×AV))
abbrev M:=Addr->Option MO
def Ar(μ:M)(a:Addr)(m:MO):M:=λb=>if b=a then some m else μ b
theorem Ad{μ:M}{a:Addr}{m:MO}:Ar μ a m a=some m:=by unfold Ar;rw [Yaq rfl]
theorem Aj{μ:M}{a b:Addr}{m:MO}(h:b≠a):Ar μ a m b=μ b:=by unfold Ar;rw [Yan h]
theorem Ds{μ:M}{a:Addr}{m n:MO}:Ar (Ar μ a m) a n=Ar μ a n:=by funext b;unfold Ar;split <;> rfl
def Ea{κ:Type}(K:PySem.W.Frag)(H:Hp):List (κ×AV)->List (κ×V)->Prop:=Paired λp q=>p.1=q.1/\RelA K H p.2 q.2
theorem Ea.kp{κ:Type}(S:Kp H H'){xs:List (κ×AV)}{vs:List (κ×V)}(h:Ea K H xs vs):Ea K H' xs vs:=Paired.mapP h λ_ _ q=>⟨q.1,q.2.kp S⟩
def Ua(K:PySem.W.Frag)(H:Hp):List (PyData×AV)->List (PyData×Addr×Value)->Prop:=Paired λp q=>p.1=q.1/\KeyTree p.1/\Dk K H p.1 (.ref q.2.1)/\∃v,RelA K H p.2 v/\Bi v q.2.2
theorem Ua.kp(S:Kp H H'){xs:List (PyData×AV)}{vs:List (PyData×Addr×Value)}(h:Ua K H xs vs):Ua K H' xs vs:=Paired.mapP h λ_ _ ⟨a,b,c,v,r,q⟩=>⟨a,b,Dk.kp S _ _ c,v,r.kp S,q⟩
def Im(K:PySem.W.Frag)(H:Hp):MO->HO->Prop
 | .lst xs,o=>∃vs,o=.lst vs/\Av K H xs vs
 | .dk ag,o=>∃vs,o=.dK vs/\Ea K H ag vs
 | .dt ag,o=>∃vs,o=.dT vs/\Ea K H ag vs
 | .dd ag,o=>∃xs,o=.dd xs/\Ua K H ag xs
theorem Im.kp(S:Kp H H'){m:MO}{o:HO}(h:Im K H m o):Im K H' m o:=by
 cases m with
 | lst xs=>obtain⟨vs,e,r⟩:=h;exact⟨vs,e,r.kp S⟩
 | dk xs=>obtain⟨vs,e,r⟩:=h;exact⟨vs,e,r.kp S⟩
 | dt xs=>obtain⟨vs,e,r⟩:=h;exact⟨vs,e,r.kp S⟩
 | dd xs=>obtain⟨vs,e,r⟩:=h;exact⟨vs,e,r.kp S⟩
theorem Dn{xs:List AV}{vs:List V}(h:Av K H xs vs):Im K H (.lst xs) (.lst vs):=⟨vs,rfl,h⟩
theorem Im.mt{m:MO}{o:HO}(h:Im K H m o):Mt o:=by
 cases m with
 | lst xs=>obtain⟨vs,rfl,r⟩:=h;trivial
 | dk xs=>obtain⟨vs,rfl,r⟩:=h;trivial
 | dt xs=>obtain⟨vs,rfl,r⟩:=h;trivial
 | dd xs=>obtain⟨vs,rfl,r⟩:=h;trivial
def Cn(K:PySem.W.Frag)(μ:M)(H:Hp):Prop:=∀a m,μ a=some m->∃o,H a=some o/\Im K H m o
theorem Cn.none{μ:M}{p:Addr}(c:Cn K μ H)(h:H p=none):μ p=none:=by
 cases q:μ p with
 | none=>rfl
 | some m=>obtain⟨o,e,_⟩:=c p m q;rw [h]at e;cases e
theorem Cn.over{μ:M}{p:Addr}{o:HO}(c:Cn K μ H)(h:H p=Option.none):Cn K μ (upd H p o):=λa m e=>by
 obtain⟨o',e',r⟩:=c a m e
 exact⟨o',by rw [Aw (B1 e' h)];exact e',r.kp (Kp.new h o)⟩
theorem Cn.new{μ:M}{p:Addr}{m:MO}{o:HO}(c:Cn K μ H)(h:H p=Option.none)(r:Im K H m o):Cn K (Ar μ p m) (upd H p o):=λa m' e=>by
 by_cases ha:a=p
 ·subst ha;rw [Ad]at e;cases e;exact⟨o,Be,r.kp (Kp.new h o)⟩
 ·rw [Aj ha]at e;exact c.over h a m' e
theorem Cn.put{μ:M}{p:Addr}{m:MO}{o o0:HO}(c:Cn K μ H)(h:H p=some o0)(hm:Mt o0)(r:Im K H m o):Cn K (Ar μ p m) (upd H p o):=λa m' e=>by
 by_cases ha:a=p
 ·subst ha;rw [Ad]at e;cases e;exact⟨o,Be,r.kp (Kp.put h hm o)⟩
 ·rw [Aj ha]at e
  obtain⟨o',e',r'⟩:=c a m' e
  exact⟨o',by rw [Aw ha];exact e',r'.kp (Kp.put h hm o)⟩
def Sub(μ ν:M):Prop:=∀a m,μ a=some m->ν a=some m
theorem Sub.refl{μ:M}:Sub μ μ:=λ_ _ h=>h
theorem Sub.trans{μ ν ρ:M}(h:Sub μ ν)(k:Sub ν ρ):Sub μ ρ:=λa m e=>k a m (h a m e)
theorem Sub.new{μ ν:M}{p:Addr}{m:MO}(h:Sub μ ν)(e:μ p=none):Sub μ (Ar ν p m):=λa m' e'=>by
 rw [Aj (by intro z;subst z;rw [e]at e';cases e')];exact h a m' e'
theorem Sub.none{μ ν:M}{p:Addr}(h:Sub μ ν)(e:ν p=none):μ p=none:=by
 cases q:μ p with
 | none=>rfl
 | some m=>rw [h p m q]at e;cases e
theorem Cn.sub{μ ν:M}(c:Cn K ν H)(h:Sub μ ν):Cn K μ H:=λa m e=>c a m (h a m e)
abbrev ASt:=List (Option AV)
def Jf(K:PySem.W.Frag)(H:Hp)(a:Option AV)(b:Option V):Prop:=∀x,a=some x->∃v,b=some v/\RelA K H x v
abbrev Cy(K:PySem.W.Frag)(H:Hp):ASt->St->Prop:=Paired (Jf K H)
theorem Jf.kp{a:Option AV}{b:Option V}(S:Kp H H')(h:Jf K H a b):Jf K H' a b:=λx e=>let⟨v,e2,r⟩:=h x e;⟨v,e2,r.kp S⟩
theorem Cy.kp{τ:ASt}{σ:St}(S:Kp H H')(h:Cy K H τ σ):Cy K H' τ σ:=Paired.mapP h λ_ _ q=>q.kp S
theorem Cy.get:∀{τ:ASt} {σ:St} {i:Nat} {x:AV},Cy K H τ σ->τ[i]?=some (some x)->∃v,σ[i]?=some (some v)/\RelA K H x v
 | _,_,_,_,.nil,e=>by simp at e
 | _,_,0,_,.cons r _,e=>by simp at e;subst e;obtain⟨v,rfl,q⟩:=r _ rfl;exact⟨v,rfl,q⟩
 | _,_,i+1,x,.cons _ t,e=>by
  obtain⟨u,h1,h2⟩:=Cy.get (i:=i) (x:=x) t (by simpa using e)
  exact⟨u,by simpa using h1,h2⟩
theorem Hl{x:AV}{v:V}(r:RelA K H x v):Jf K H (some x) (some v):=λy e=>by cases e;exact⟨v,rfl,r⟩
theorem D1{b:Option V}:Jf K H none b:=λy e=>nomatch e
theorem Cy.set{x:AV}{v:V}(r:RelA K H x v):∀{τ:ASt} {σ:St} (i:Nat),Cy K H τ σ->Cy K H (τ.set i (some x)) (σ.set i (some v))
 | _,_,_,.nil=>.nil
 | _,_,0,.cons _ t=>.cons (Hl r) t
 | _,_,i+1,.cons q t=>.cons q (Cy.set r i t)
def C0(N:List Str)(xs:List AV):ASt:=xs.map some++List.replicate (N.length - xs.length) none
theorem Cy.rep:∀(n:Nat),Cy K H (List.replicate n none) (List.replicate n none)
 | 0=>.nil
 | n+1=>.cons D1 (Cy.rep n)
theorem Cy.somes:∀{xs:List AV} {vs:List V},Av K H xs vs->Cy K H (xs.map some) (vs.map some)
 | _,_,.nil=>.nil
 | _,_,.cons r t=>.cons (Hl r) (Cy.somes t)
theorem Cy.append{τ τ':ASt}{σ σ':St}(h:Cy K H τ σ)(s:Cy K H τ' σ'):Cy K H (τ++τ') (σ++σ'):=by
 induction h with
 | nil=>exact s
 | cons r t ih=>exact .cons r ih
theorem Cy.begin{N:List Str}{xs:List AV}{vs:List V}(h:Av K H xs vs):Cy K H (C0 N xs) (start N vs):=by
 unfold C0 start
 rw [h.length]
 exact(Cy.somes h).append (Cy.rep _)
def Qar(mp:List (Option Nat))(τ:ASt):ASt:=mp.map λo=>match o with
 | none=>none
 | some j=>match τ[j]? with
  | some x=>x
  | none=>none
theorem Cy.sub{τ:ASt}{σ:St}(h:Cy K H τ σ):∀(mp:List (Option Nat)),Cy K H (Qar mp τ) (K4 mp σ)
 | []=>.nil
 | none :: mp=>.cons D1 (Cy.sub h mp)
 | some j :: mp=>by
  refine .cons (λx e=>?_) (Cy.sub h mp)
  have e':τ[j]?=some (some x):=by
   dsimp only at e
   cases q:τ[j]? with
   | none=>rw [q]at e;cases e
   | some y=>rw [q]at e;exact Ybb some e
  obtain⟨v,hv,r⟩:=h.get e'
  refine⟨v,?_,r⟩
  show(σ[j]?).join=some v
  rw [hv];rfl
end
abbrev AE:=ASt->M->(AV->M->Prop)->Prop
abbrev AT:=ASt->M->(Bool->M->Prop)->Prop
abbrev AA:=ASt->M->(List AV->M->Prop)->Prop
abbrev AO:=ASt->M->(Option Int->M->Prop)->Prop
abbrev AS:=(ASt->M->Prop)->(AV->M->Prop)->(ASt->M->Prop)->(ASt->M->Prop)->ASt->M->Prop
abbrev AG:=AV->ASt->M->(ASt->M->Prop)->Prop
abbrev AGs:=List AV->ASt->M->(ASt->M->Prop)->Prop
abbrev A2:=AV->AV->M->(AV->M->Prop)->Prop
abbrev AC:=List AV->M->(AV->M->Prop)->Prop
@[irreducible] def brP (b:Bool) (T F:Prop):Prop:=match b with
 | true=>T
 | false=>F
@[irreducible] def opt {α:Type} (o:Option α) (k:α->Prop):Prop:=match o with
 | some x=>k x
 | none=>False
theorem br{b:Bool}{T F:Prop}(h1:b=true->T)(h2:b=false->F):brP b T F:=by
 unfold brP;cases b with
 | true=>exact h1 rfl
 | false=>exact h2 rfl
theorem Lb{b:Bool}{T F:Prop}(hb:b=true)(h:T):brP b T F:=by subst hb;unfold brP;exact h
theorem Jg{b:Bool}{T F:Prop}(hb:b=false)(h:F):brP b T F:=by subst hb;unfold brP;exact h
theorem Rb{T F:Prop}:brP true T F=T:=by unfold brP;rfl
theorem br_e{b:Bool}{T F:Prop}(h:brP b T F):(b=true/\T)\/(b=false/\F):=by
 unfold brP at h;cases b with
 | true=>exact .inl ⟨rfl,h⟩
 | false=>exact .inr ⟨rfl,h⟩
theorem Ac{α:Type}{o:Option α}{x:α}{k:α->Prop}(h:o=some x)(q:k x):opt o k:=by subst h;unfold opt;exact q
theorem A9{α:Type}{o:Option α}{k:α->Prop}(h:opt o k):∃x,o=some x/\k x:=by
 unfold opt at h;cases o with
 | none=>exact h.elim
 | some x=>exact⟨x,rfl,h⟩
theorem dif{p:Prop} [Decidable p]{T F:Prop}(h1:p->T)(h2:¬p->F):brP (decide p) T F:=br (λh=>h1 (Yam h)) (λh=>h2 (of_decide_eq_false h))
def LV(K:PySem.W.Frag)(H:Hp)(R:AV->M->Prop)(Q:VK):Prop:=∀x μ v H',Kp H H'->Cn K μ H'->RelA K H' x v->R x μ->Q v H'
def LB(K:PySem.W.Frag)(H:Hp)(R:Bool->M->Prop)(Q:Bool->Hp->Prop):Prop:=∀b μ H',Kp H H'->Cn K μ H'->R b μ->Q b H'
def LA(K:PySem.W.Frag)(n:Nat)(H:Hp)(R:List AV->M->Prop)(Q:List V->Hp->Prop):Prop:=∀xs μ vs H',Kp H H'->Cn K μ H'->Av K H' xs vs->xs.length=n->R xs μ->Q vs H'
def LO(K:PySem.W.Frag)(H:Hp)(R:Option Int->M->Prop)(Q:Option Int->Hp->Prop):Prop:=∀b μ H',Kp H H'->Cn K μ H'->R b μ->Q b H'
def LS(K:PySem.W.Frag)(H:Hp)(R:ASt->M->Prop)(Q:St->Hp->Prop):Prop:=∀ τ μ σ H',Kp H H'->Cy K H' τ σ->Cn K μ H'->R τ μ->Q σ H'
theorem LV.kp{K:PySem.W.Frag}{H H':Hp}{R:AV->M->Prop}{Q:VK}(h:LV K H R Q)(S:Kp H H'):LV K H' R Q:=λx μ v H2 S2=>h x μ v H2 (S.trans S2)
theorem LB.kp{K:PySem.W.Frag}{H H':Hp}{R:Bool->M->Prop}{Q:Bool->Hp->Prop}(h:LB K H R Q)(S:Kp H H'):LB K H' R Q:=λx μ H2 S2=>h x μ H2 (S.trans S2)
theorem LS.kp{K:PySem.W.Frag}{H H':Hp}{R:ASt->M->Prop}{Q:St->Hp->Prop}(h:LS K H R Q)(S:Kp H H'):LS K H' R Q:=λx μ v H2 S2=>h x μ v H2 (S.trans S2)
structure LE'(K:PySem.W.Frag)(H:Hp)(k:ASt->M->Prop)(r:AV->M->Prop)(b c:ASt->M->Prop)(D:Ends):Prop where
 nx:LS K H k D.nx
 rt:LV K H r D.rt
 bk:LS K H b D.bk
 ct:LS K H c D.ct
theorem LE'.kp{K:PySem.W.Frag}{H H':Hp}{k:ASt->M->Prop}{r:AV->M->Prop}{b c:ASt->M->Prop}{D:Ends}(h:LE' K H k r b c D)(S:Kp H H'):LE' K H' k r b c D:=⟨h.nx.kp S,h.rt.kp S,h.bk.kp S,h.ct.kp S⟩
def cE(K:PySem.W.Frag)(t:AE):TE:=fun σ H Q=>∃ τ μ R,Cy K H τ σ/\Cn K μ H/\t τ μ R/\LV K H R Q
def cT(K:PySem.W.Frag)(t:AT):TT:=fun σ H Q=>∃ τ μ R,Cy K H τ σ/\Cn K μ H/\t τ μ R/\LB K H R Q
def cA(K:PySem.W.Frag)(n:Nat)(t:AA):TA:=fun σ H Q=>∃ τ μ R,Cy K H τ σ/\Cn K μ H/\t τ μ R/\LA K n H R Q
def cO(K:PySem.W.Frag)(t:AO):TO:=fun σ H Q=>∃ τ μ R,Cy K H τ σ/\Cn K μ H/\t τ μ R/\LO K H R Q
def cS(K:PySem.W.Frag)(t:AS):TS:=λD σ H=>∃ τ μ k r b c,Cy K H τ σ/\Cn K μ H/\t k r b c τ μ/\LE' K H k r b c D
def cG(K:PySem.W.Frag)(t:AG):TG:=λv σ H Q=>∃x τ μ R,RelA K H x v/\Cy K H τ σ/\Cn K μ H/\t x τ μ R/\LS K H R Q
def cGs(K:PySem.W.Frag)(t:AGs):TGs:=λvs σ H Q=>∃xs τ μ R,Av K H xs vs/\Cy K H τ σ/\Cn K μ H/\t xs τ μ R/\LS K H R Q
def cR(K:PySem.W.Frag)(r:A2):R2:=λx y H Q=>∃a b μ R,RelA K H a x/\RelA K H b y/\Cn K μ H/\r a b μ R/\LV K H R Q
def cC(K:PySem.W.Frag)(r:AC):List V->Hp->VK->Prop:=λxs H Q=>∃as μ R,Av K H as xs/\Cn K μ H/\r as μ R/\LV K H R Q
def cM(K:PySem.W.Frag)(r:AV->AC):V->List V->Hp->VK->Prop:=λx xs H Q=>∃a as μ R,RelA K H a x/\Av K H as xs/\Cn K μ H/\r a as μ R/\LV K H R Q
def VE(X:Cx)(e:Expr)(t:AE):Prop:=PE X e (cE X.K t)
def VT(X:Cx)(e:Expr)(t:AT):Prop:=PT X e (cT X.K t)
def VW(X:Cx)(e:Expr)(t:AT):Prop:=PW X e (cT X.K t)
def VA(X:Cx)(es:List Expr)(t:AA):Prop:=PA X es (cA X.K es.length t)
def VO(X:Cx)(e:Option Expr)(t:AO):Prop:=PO X e (cO X.K t)
def VS(X:Cx)(st:Stmt)(t:AS):Prop:=PS X st (cS X.K t)
def VSs(X:Cx)(st:List Stmt)(t:AS):Prop:=PSs X st (cS X.K t)
def VG(X:Cx)(e:Expr)(t:AG):Prop:=PG X e (cG X.K t)
def VGs(X:Cx)(es:List Expr)(t:AGs):Prop:=PGs X es (cGs X.K t)
def VOp(X:Cx)(f:Value->Value->Sem Value)(r:A2):Prop:=Fg X f (cR X.K r)
def VIx(X:Cx)(r:A2):Prop:=Z9 X (cR X.K r)
def VCall(X:Cx)(f:Value)(r:AC):Prop:=Ec X f (cC X.K r)
def VMt(X:Cx)(id:String)(r:AV->AC):Prop:=MtR X id (cM X.K r)
section
variable {X:Cx}
theorem PE.imp{e:Expr}{t u:TE}(h:PE X e t)(i:∀ σ H Q,u σ H Q->t σ H Q):PE X e u:=λaa s σ H Q I q=>h aa s σ H Q I (i σ H Q q)
theorem PT.imp{e:Expr}{t u:TT}(h:PT X e t)(i:∀ σ H Q,u σ H Q->t σ H Q):PT X e u:=λaa s σ H Q I q=>h aa s σ H Q I (i σ H Q q)
theorem PW.imp{e:Expr}{t u:TT}(h:PW X e t)(i:∀ σ H Q,u σ H Q->t σ H Q):PW X e u:=λwh aa s σ H Q I q=>h wh aa s σ H Q I (i σ H Q q)
theorem PA.imp{e:List Expr}{t u:TA}(h:PA X e t)(i:∀ σ H Q,u σ H Q->t σ H Q):PA X e u:=λpos aa s σ H Q I q=>h pos aa s σ H Q I (i σ H Q q)
theorem PO.imp{e:Option Expr}{t u:TO}(h:PO X e t)(i:∀ σ H Q,u σ H Q->t σ H Q):PO X e u:=λaa s σ H Q I q=>h aa s σ H Q I (i σ H Q q)
theorem PS.imp{e:Stmt}{t u:TS}(h:PS X e t)(i:∀D σ H,u D σ H->t D σ H):PS X e u:=λaa s σ H D I q=>h aa s σ H D I (i D σ H q)
theorem PSs.imp{e:List Stmt}{t u:TS}(h:PSs X e t)(i:∀D σ H,u D σ H->t D σ H):PSs X e u:=λaa s σ H D I q=>h aa s σ H D I (i D σ H q)
theorem PG.imp{e:Expr}{t u:TG}(h:PG X e t)(i:∀v σ H Q,u v σ H Q->t v σ H Q):PG X e u:=λaa s σ H v w Q I r q=>h aa s σ H v w Q I r (i v σ H Q q)
theorem PGs.imp{e:List Expr}{t u:TGs}(h:PGs X e t)(i:∀v σ H Q,u v σ H Q->t v σ H Q):PGs X e u:=λaa s σ H v w Q I r q=>h aa s σ H v w Q I r (i v σ H Q q)
def Cw(i:Nat):AE:=fun τ μ R=>match τ[i]? with
 | some (some x)=>R x μ
 | _=>False
theorem Rc{K:PySem.W.Frag}{i:Nat}{σ:St}{H:Hp}{Q:VK}(h:cE K (Cw i) σ H Q):Wi i σ H Q:=by
 obtain⟨τ,μ,R,hs,hc,h,hq⟩:=h
 unfold Cw at h
 split at h
 ·rename_i x e
  obtain⟨v,ev,r⟩:=hs.get e
  exact⟨v,ev,hq _ _ _ _ Kp.refl hc r h⟩
 ·exact h.elim
theorem vv(i:Nat){x:Str}{pos:Pos}(hN:X.N[i]?=some x:=by rfl)(hv:Vis X.env.scope x:=by first | exact Or.inl rfl | exact Or.inr (Or.inl rfl) | exact Or.inr (Or.inr rfl))(hd:(x==("__debug__" : Str))=false:=by decide)
  (d2:(x==("__classdict__" : Str))=false:=by decide):VE X (.Name x pos) (Cw i):=(Pw hN hv hd d2).imp λ_ _ _ h=>Rc h
def vC(x:AV):AE:=λ_ μ R=>R x μ
theorem Ei{e:Expr}{v:V}{d:PyData}(h:PE X e (tC v))(r:∀H,Dk X.K H d v):VE X e (vC (.D d)):=h.imp fun σ H Q zz1=>B4 zz1 fun τ μ R hs hc h hq=>hq _ _ _ _ Kp.refl hc (Mr (r H)) h
theorem Af{i j pos}:VE X (.Constant (.int i) j pos) (vC (.D (.int i))):=Ei Wj λ_=>Cm
theorem E4{b j pos}:VE X (.Constant (.bool b) j pos) (vC (.D (.bool b))):=Ei Zk λ_=>Je
theorem Re{j pos}:VE X (.Constant .none j pos) (vC (.D .none)):=Ei Wl λ_=>Ra
theorem A4{x j pos}:VE X (.Constant (.str x) j pos) (vC (.D (.str x))):=Ei Px λ_=>Q9
theorem Eo{x:Str}{v:V}{u:Value}{d:PyData}{pos:Pos}(hg:Gl X x)(hm:X.mg x=some u)(r:Bi v u)(hd:∀H,Dk X.K H d v)(h1:(x==("__debug__" : Str))=false:=by decide):VE X (.Name x pos) (vC (.D d)):=Ei (Nc hg hm r h1) hd
def Rf(r:A2)(ta tb:AE):AE:=fun τ μ R=>ta τ μ λx μ1=>tb τ μ1 λy μ2=>r x y μ2 R
theorem G2{K:PySem.W.Frag}{r:A2}{ta tb:AE}{σ:St}{H:Hp}{Q:VK}(h:cE K (Rf r ta tb) σ H Q):Zt (cR K r) (cE K ta) (cE K tb) σ H Q:=by
 obtain⟨τ,μ,R,hs,hc,h,hq⟩:=h
 exact⟨τ,μ,_,hs,hc,h,λx μ1 v H1 S1 c1 rx hx=>⟨τ,μ1,_,hs.kp S1,c1,hx,λy μ2 u H2 S2 c2 ry hy=>⟨x,y,μ2,R,rx.kp S2,ry,c2,hy,hq.kp (S1.trans S2)⟩⟩⟩
variable {a b c:Expr}{ta tb tc:AE}{pos:Pos}
theorem Au{op:Operator}{r:A2}(ho:VOp X (binaryOp op) r)(ha:VE X a ta)(hb:VE X b tb):VE X (.BinOp a op b pos) (Rf r ta tb):=(Zu ho ha hb).imp λ_ _ _ h=>G2 h
theorem Gc{op:CmpOp}{r:A2}(ho:VOp X (compareOp op) r)(ha:VE X a ta)(hb:VE X b tb)(hm:behindInMarks op b=false):VE X (.Compare a [op] [b] pos) (Rf r ta tb):=(Ti ho ha hb hm).imp λ_ _ _ h=>G2 h
def Ld(t:AE):AT:=fun τ μ R=>t τ μ λx μ1=>match x with
 | .D (.bool k)=>R k μ1
 | _=>False
theorem Gd{K:PySem.W.Frag}{t:AE}{u:TE}(hu:∀ σ H Q,cE K t σ H Q->u σ H Q){σ:St}{H:Hp}{Q:Bool->Hp->Prop}(h:cT K (Ld t) σ H Q):Qc u σ H Q:=by
 obtain⟨τ,μ,R,hs,hc,h,hq⟩:=h
 refine hu _ _ _ ⟨τ,μ,_,hs,hc,h,λx μ1 v H1 S1 c1 rx hx=>?_⟩
 split at hx
 ·cases RelA.bl rx
  exact⟨_,rfl,hq _ _ _ S1 c1 hx⟩
 ·exact hx.elim
theorem Aq{op:CmpOp}{r:A2}(ho:VOp X (compareOp op) r)(ha:VE X a ta)(hb:VE X b tb)(hm:behindInMarks op b=false):VT X (.Compare a [op] [b] pos) (Ld (Rf r ta tb)) :=
 (Tj ho ha hb hm).imp λ_ _ _ h=>Gd (λ_ _ _ q=>G2 q) h
def Mu(r r':A2)(ta tb tc:AE):AE:=fun τ μ R=>ta τ μ λx μ1=>tb τ μ1 λy μ2=>r x y μ2 λz μ3=>match z with
 | .D (.bool k)=>brP k (tc τ μ3 λw μ4=>r' y w μ4 R) (R (.D (.bool false)) μ3)
 | _=>False
theorem Hm{K:PySem.W.Frag}{r r':A2}{ta tb tc:AE}{σ:St}{H:Hp}{Q:VK}(h:cE K (Mu r r' ta tb tc) σ H Q):L9 (cR K r) (cR K r') (cE K ta) (cE K tb) (cE K tc) σ H Q:=by
 obtain⟨τ,μ,R,hs,hc,h,hq⟩:=h
 refine⟨τ,μ,_,hs,hc,h,λx μ1 v H1 S1 c1 rx hx=>⟨τ,μ1,_,hs.kp S1,c1,hx,λy μ2 u H2 S2 c2 ry hy=>⟨x,y,μ2,_,rx.kp S2,ry,c2,hy,λz μ3 q H3 S3 c3 rz hz=>?_⟩⟩⟩
 split at hz
 ·cases RelA.bl rz
  rcases br_e hz with⟨rfl,hz'⟩ | ⟨rfl,hz'⟩
  ·exact⟨true,rfl,by
    first
     | exact⟨τ,μ3,_,hs.kp (S1.trans (S2.trans S3)),c3,hz',λw μ4 p H4 S4 c4 rw hw=>⟨y,w,μ4,R,ry.kp (S3.trans S4),rw,c4,hw,hq.kp (S1.trans (S2.trans (S3.trans S4)))⟩⟩
     | (rw [Yaq rfl];exact⟨τ,μ3,_,hs.kp (S1.trans (S2.trans S3)),c3,hz',λw μ4 p H4 S4 c4 rw hw=>⟨y,w,μ4,R,ry.kp (S3.trans S4),rw,c4,hw,hq.kp (S1.trans (S2.trans (S3.trans S4)))⟩⟩)⟩
  ·exact⟨false,rfl,by
    first
     | exact hq _ _ _ _ (S1.trans (S2.trans S3)) c3 C7 hz'
     | (rw [Yan Yas];exact hq _ _ _ _ (S1.trans (S2.trans S3)) c3 C7 hz')⟩
 ·exact hz.elim
theorem Rg{op d0:CmpOp}{r r':A2}(ho:VOp X (compareOp op) r)(bx:VOp X (compareOp d0) r')(ha:VE X a ta)(hb:VE X b tb)(hc:VE X c tc)(hm:lastMarks [op,d0] [b,c]=false:=by rfl):VE X (.Compare a [op,d0] [b,c] pos) (Mu r r' ta tb tc) :=
 (Qe ho bx ha hb hc hm).imp λ_ _ _ h=>Hm h
theorem Rh{op d0:CmpOp}{r r':A2}(ho:VOp X (compareOp op) r)(bx:VOp X (compareOp d0) r')(ha:VE X a ta)(hb:VE X b tb)(hc:VE X c tc)(hm:lastMarks [op,d0] [b,c]=false:=by rfl):VT X (.Compare a [op,d0] [b,c] pos) (Ld (Mu r r' ta tb tc)) :=
 (Qf ho bx ha hb hc hm).imp λ_ _ _ h=>Gd (λ_ _ _ q=>Hm q) h
theorem Dp{e:Expr}{t:AE}(h:VE X e t)(he:∀cq,isTrue e X.env cq=(do let v <- cq;standAt e.pos;holding [v] (truthy v)):=by intro _;rfl):VT X e (Ld t) :=
 (Wm h he).imp λ_ _ _ h=>by
  have h:=Gd (λ_ _ _ q=>q) h
  exact h
def Qed(t u:AT):AT:=fun τ μ R=>t τ μ λk μ1=>brP k (u τ μ1 R) (R false μ1)
def vOr(t u:AT):AT:=fun τ μ R=>t τ μ λk μ1=>brP k (R true μ1) (u τ μ1 R)
def Qee(t:AT):AT:=fun τ μ R=>t τ μ λk μ1=>R (!k) μ1
theorem VW.pt{e:Expr}{t:AT}(h:VW X e t):VT X e t:=PW.pt h
variable {rest:List Expr}{tA gs:AT}
theorem Cs(ha:VT X a tA):VW X (.BoolOp .And [a] pos) tA:=Sz ha
theorem D3(ha:VT X a tA):VW X (.BoolOp .Or [a] pos) tA:=Wn ha
theorem Ct(ha:VT X a tA)(hb:VW X (.BoolOp .And (b :: rest) pos) gs):VW X (.BoolOp .And (a :: b :: rest) pos) (Qed tA gs) :=
 (Wo ha hb).imp fun σ H Q zz3=>B4 zz3 fun τ μ R hs hc h hq=>⟨τ,μ,_,hs,hc,h,λk μ1 H1 S1 c1 hk=>by
  rcases br_e hk with⟨rfl,hk'⟩ | ⟨rfl,hk'⟩
  ·exact⟨τ,μ1,R,hs.kp S1,c1,hk',hq.kp S1⟩
  ·exact hq _ _ _ S1 c1 hk'⟩
theorem Fj(ha:VT X a tA)(hb:VW X (.BoolOp .Or (b :: rest) pos) gs):VW X (.BoolOp .Or (a :: b :: rest) pos) (vOr tA gs) :=
 (Zl ha hb).imp fun σ H Q zz4=>B4 zz4 fun τ μ R hs hc h hq=>⟨τ,μ,_,hs,hc,h,λk μ1 H1 S1 c1 hk=>by
  rcases br_e hk with⟨rfl,hk'⟩ | ⟨rfl,hk'⟩
  ·exact hq _ _ _ S1 c1 hk'
  ·exact⟨τ,μ1,R,hs.kp S1,c1,hk',hq.kp S1⟩⟩
theorem Ej(ha:VT X a tA):VT X (.UnaryOp .Not a pos) (Qee tA):=(Wp ha).imp fun σ H Q zz5=>B4 zz5 fun τ μ R hs hc h hq=>⟨τ,μ,_,hs,hc,h,λk μ1 H1 S1 c1 hk=>hq _ _ _ S1 c1 hk⟩
theorem Mv{op}{t:AE}(h:VE X a t):VE X (.BoolOp op [a] pos) t:=Wq h
def Qas(ta tb:AE):AE:=fun τ μ R=>ta τ μ λx μ1=>match x with
 | .D (.bool k)=>brP k (tb τ μ1 R) (R (.D (.bool false)) μ1)
 | _=>False
def Qat(ta:AE):AE:=fun τ μ R=>ta τ μ λx μ1=>match x with
 | .D (.bool k)=>R (.D (.bool (!k))) μ1
 | _=>False
theorem J9(ha:VE X a ta)(hb:VE X (.BoolOp .And (b :: rest) pos) tb):VE X (.BoolOp .And (a :: b :: rest) pos) (Qas ta tb) :=
 (Wr ha hb).imp fun σ H Q zz6=>B4 zz6 fun τ μ R hs hc h hq=>⟨τ,μ,_,hs,hc,h,λx μ1 v H1 S1 c1 rx hk=>by
  split at hk
  ·cases RelA.bl rx
   rcases br_e hk with⟨rfl,hk'⟩ | ⟨rfl,hk'⟩
   ·exact⟨true,rfl,⟨τ,μ1,R,hs.kp S1,c1,hk',hq.kp S1⟩⟩
   ·exact⟨false,rfl,hq _ _ _ _ S1 c1 C7 hk'⟩
  ·exact hk.elim⟩
theorem Xq(ha:VE X a ta):VE X (.UnaryOp .Not a pos) (Qat ta) :=
 (Ws ha).imp fun σ H Q zz8=>B4 zz8 fun τ μ R hs hc h hq=>⟨τ,μ,_,hs,hc,h,λx μ1 v H1 S1 c1 rx hk=>by
  split at hk
  ·cases RelA.bl rx
   exact⟨_,rfl,hq _ _ _ _ S1 c1 C7 hk⟩
  ·exact hk.elim⟩
def D4:AA:=λ_ μ R=>R [] μ
def Bp(ta:AE)(tr:AA):AA:=fun τ μ R=>ta τ μ λx μ1=>tr τ μ1 λxs μ2=>R (x :: xs) μ2
theorem Ab:VA X [] D4:=Qg.imp fun σ H Q zz10=>B4 zz10 fun τ μ R hs hc h hq=>hq [] μ [] H Kp.refl hc .nil rfl h
theorem Aa{e:Expr}{es:List Expr}{te:AE}{t:AA}(ha:VE X e te)(hr:VA X es t)(hs:starEach (e :: es) X.env=(false,eval e X.env) :: starEach es X.env:=by rfl):VA X (e :: es) (Bp te t) :=
 (Nd ha hr hs).imp fun σ H Q zz11=>B4 zz11 fun τ μ R hs hc h hq=>⟨τ,μ,_,hs,hc,h,λx μ1 v H1 S1 c1 rx hx=>⟨τ,μ1,_,hs.kp S1,c1,hx,λxs μ2 vs H2 S2 c2 rs hl ff =>
  hq (x :: xs) μ2 (v :: vs) H2 (S1.trans S2) c2 (.cons (rx.kp S2) rs) (by rw [Ya9,hl];rfl) ff⟩⟩
def O9(t:AA):AE:=fun τ μ R=>t τ μ λxs μ1=>match dats xs with
 | some ds=>R (.D (.tuple ds)) μ1
 | none=>False
def Qef(t:AA):AE:=fun τ μ R=>t τ μ λxs μ1=>∀p,μ1 p=none->R (.R p) (Ar μ1 p (.lst xs))
variable {es:List Expr}{t:AA}
theorem Az{k:Nat}(h:VA X es t)(hn:es.length<=sizeLine:=by decide):VE X (.Tuple es k pos) (O9 t) :=
 (Md h).imp fun σ H Q zz12=>B4 zz12 fun τ μ R hs hc h hq=>⟨τ,μ,_,hs,hc,h,λxs μ1 vs H1 S1 c1 rs hl hx=>⟨by rw [<- rs.length,hl];exact hn,λp hp=>by
  split at hx
  ·rename_i ds e
   refine hq _ _ _ _ (S1.trans (Kp.new hp _)) (c1.over hp) ?_ hx
   exact Mq Be (Ao.kp (Kp.new hp _) _ _ (rs.dats e))
  ·exact hx.elim⟩⟩
theorem Cg(h:VA X es t)(hn:es.length<=sizeLine:=by decide):VE X (.List es pos) (Qef t) :=
 (W9 h).imp fun σ H Q zz13=>B4 zz13 fun τ μ R hs hc h hq=>⟨τ,μ,_,hs,hc,h,λxs μ1 vs H1 S1 c1 rs hl hx=>⟨by rw [<- rs.length,hl];exact hn,λp hp =>
  hq _ _ _ _ (S1.trans (Kp.new hp _)) (c1.new hp (Dn (rs))) Eh (hx p (c1.none hp))⟩⟩
mutual
theorem Dk.reads{aa:List (Addr×Obj)}{σ:St}{H:Hp}{s:Shared}(I:Inv X aa σ H s):∀(d:PyData) (x:V) (u:Value),Dk X.K H d x->Bi x u->∃as,Reads s.heap u d as
 | .none,x,u,h,r=>by cases h.non;cases r;exact⟨_,.none⟩
 | .bool b,x,u,h,r=>by cases h.bl;cases r;exact⟨_,.bool b⟩
 | .int i,x,u,h,r=>by cases h.int;obtain⟨t,rfl⟩:=r;exact⟨_,.int i t⟩
 | .str z,x,u,h,r=>by cases h.str;obtain⟨t,rfl⟩:=r;exact⟨_,.str z t⟩
 | .list ds,x,u,h,r=>by
  obtain⟨a,xs,rfl,q,k⟩:=h.lst
  cases r
  obtain⟨af,rv,⟨o,n,e,c,_,d⟩,_⟩:=I.list q.sq
  obtain⟨as,ra⟩:=Ao.reads I ds xs af k rv
  exact⟨_,.list e c d (by simpa using ra)⟩
 | .tuple ds,x,u,h,r=>by
  obtain⟨a,xs,rfl,q,k⟩:=h.tup
  cases r
  obtain⟨af,rv,⟨o,e,c,n,d⟩,_⟩:=I.tuple q.sq
  obtain⟨as,ra⟩:=Ao.reads I ds xs af k rv
  exact⟨_,.tuple e c d (by simpa using ra)⟩
 | .dict _,x,u,h,_=>by simp only [Dk]at h
theorem Ao.reads{aa:List (Addr×Obj)}{σ:St}{H:Hp}{s:Shared}(I:Inv X aa σ H s):∀(ds:List PyData) (xs:List V) (us:List Value),Ao X.K H ds xs->Vals xs us->∃as,ReadsAll s.heap us ds as
 | [],xs,us,h,r=>by
  have e:=h.nil
  subst e
  cases r
  exact⟨_,.nil⟩
 | d :: ds,xs,us,h,r=>by
  obtain⟨x,xr,rfl,h1,h2⟩:=h.cons
  cases r with
  | cons r1 r2 =>
   obtain⟨as,ra⟩:=Dk.reads I d x _ h1 r1
   obtain⟨bs,rb⟩:=Ao.reads I ds xr _ h2 r2
   exact⟨_,.cons ra rb⟩
end
def see(μ:M):AV->Option PyData
 | .X _ _=>none
 | .D d=>some d
 | .C ds=>some (.tuple ds)
 | .R a=>match μ a with
  | some (.lst xs)=>match dats xs with
   | some ds=>some (.list ds)
   | none=>none
  | _=>none
@[simp] theorem see_D {μ:M} {d:PyData}:see μ (.D d)=some d:=rfl
theorem Cd{aa:List (Addr×Obj)}{σ:St}{H:Hp}{s:Shared}{μ:M}{x:AV}{v:V}{u:Value}{d:PyData}(I:Inv X aa σ H s)(hc:Cn X.K μ H)(rx:RelA X.K H x v)(r:Bi v u)(e:see μ x=some d):∃as,Reads s.heap u d as:=by
 cases x with
 | X C fs=>cases e
 | D d'=>cases e;exact Dk.reads I _ _ _ rx r
 | C ds =>
  cases e
  obtain⟨a,xs,rfl,q,k⟩:=rx
  cases r
  obtain⟨af,rv,⟨o,e,c,n,d⟩,_⟩:=I.tuple (q H)
  obtain⟨as,ra⟩:=Ao.reads I ds xs af k rv
  exact⟨_,.tuple e c d (by simpa using ra)⟩
 | R a =>
  dsimp only [see]at e
  split at e
  ·rename_i xs ex
   split at e
   ·rename_i ds ed
    cases e
    cases (show v=.ref a from rx)
    cases r
    obtain⟨o,ho,vs,rfl,rs⟩:=hc a _ ex
    obtain⟨af,rv,⟨o,n,e,c,_,dd⟩,_⟩:=I.list (Dq.of ho)
    obtain⟨as,ra⟩:=Ao.reads I ds vs af (rs.dats ed) rv
    exact⟨_,.list e c dd (by simpa using ra)⟩
   ·cases e
  ·cases e
def Bq(d:PyData):Prop:=d.canLay0=true/\d.depth<=64
def aEq:A2:=λx y μ R=>match x,y with
 | .D d,.D e=>Bq d/\Bq e/\R (.D (.bool (PyData.eqv d e))) μ
 | x,y=>opt (see μ x) λd=>opt (see μ y) λe=>Bq d/\Bq e/\R (.D (.bool (PyData.eqv d e))) μ
theorem Ub{x y:AV}{μ:M}{R:AV->M->Prop}(h:aEq x y μ R):∃d e,see μ x=some d/\see μ y=some e/\Bq d/\Bq e/\R (.D (.bool (PyData.eqv d e))) μ:=by
 have g:∀(h:opt (see μ x) λd=>opt (see μ y) λe=>Bq d/\Bq e/\R (.D (.bool (PyData.eqv d e))) μ),∃d e,see μ x=some d/\see μ y=some e/\Bq d/\Bq e/\R (.D (.bool (PyData.eqv d e))) μ:=by
  intro h
  obtain⟨d,ed,h⟩:=A9 h
  obtain⟨e,ee,h⟩:=A9 h
  exact⟨d,e,ed,ee,h⟩
 cases x with
 | D d =>
  cases y with
  | D e=>exact⟨_,_,rfl,rfl,h⟩
  | _=>exact g h
 | _=>exact g h
def aNe:A2:=λx y μ R=>match x,y with
 | .D d,.D e=>Bq d/\Bq e/\R (.D (.bool (!PyData.eqv d e))) μ
 | x,y=>opt (see μ x) λd=>opt (see μ y) λe=>Bq d/\Bq e/\R (.D (.bool (!PyData.eqv d e))) μ
theorem Uc{x y:AV}{μ:M}{R:AV->M->Prop}(h:aNe x y μ R):∃d e,see μ x=some d/\see μ y=some e/\Bq d/\Bq e/\R (.D (.bool (!PyData.eqv d e))) μ:=by
 unfold aNe at h
 split at h
 ·exact⟨_,_,rfl,rfl,h⟩
 ·obtain⟨d,ed,h⟩:=A9 h
  obtain⟨e,ee,h⟩:=A9 h
  exact⟨d,e,ed,ee,h⟩
variable {k:Nat}
theorem Ce(hr:Room k X.A):VOp X (compareOp .Eq) aEq:=by
 intro aa s σ H x y v u Q I rx ry zz14
 refine Df zz14 λa b μ R ra rb hc h hq=>?_
 obtain⟨d,e,ed,ee,h⟩:=Ub h
 ·obtain⟨as,r1⟩:=Cd I hc ra rx ed
  obtain⟨bs,r2⟩:=Cd I hc rb ry ee
  have hu:=hr.un
  have:=h.1.2
  exact SeqAt.compareEq_reads r1 r2 h.1.1 h.2.1.1 (by omega) ⟨.bl _,H,I,rfl,hq _ _ _ _ Kp.refl hc C7 h.2.2⟩
theorem Xr(hr:Room k X.A):VOp X (compareOp .NotEq) aNe:=by
 intro aa s σ H x y v u Q I rx ry zz15
 refine Df zz15 λa b μ R ra rb hc h hq=>?_
 obtain⟨d,e,ed,ee,h⟩:=Uc h
 ·obtain⟨as,r1⟩:=Cd I hc ra rx ed
  obtain⟨bs,r2⟩:=Cd I hc rb ry ee
  have hu:=hr.un
  have:=h.1.2
  exact SeqAt.compareNe_reads r1 r2 h.1.1 h.2.1.1 (by omega) ⟨.bl _,H,I,rfl,hq _ _ _ _ Kp.refl hc C7 h.2.2⟩
def Le:PyData->Option Key
 | .int i=>some (.inl i)
 | .str z=>some (.inr z)
 | _=>none
def items(μ:M):AV->Option (List AV)
 | .D (.tuple ds)=>some (ds.map .D)
 | .C ds=>some (ds.map .D)
 | .D (.list ds)=>some (ds.map .D)
 | .R a=>match μ a with
  | some (.lst xs)=>some xs
  | _=>none
 | _=>none
theorem Ge{H:Hp}{μ:M}{x:AV}{v:V}{xs:List AV}(hc:Cn X.K μ H)(rx:RelA X.K H x v)(e:items μ x=some xs):∃p vs,v=.ref p/\(Dq X.K H p vs\/Fw X.K H p vs)/\Av X.K H xs vs:=by
 unfold items at e
 split at e
 ·cases e;obtain⟨a,vs,rfl,q,r⟩:=RelA.tup rx;exact⟨a,vs,rfl,.inr q.sq,r.rel⟩
 ·cases e;obtain⟨a,vs,rfl,q,r⟩:=rx;exact⟨a,vs,rfl,.inr (q H),r.rel⟩
 ·cases e;obtain⟨a,vs,rfl,q,r⟩:=RelA.lst rx;exact⟨a,vs,rfl,.inl q.sq,r.rel⟩
 ·split at e
  ·rename_i ys ey
   cases e
   obtain⟨o,ho,vs,rfl,rs⟩:=hc _ _ ey
   exact⟨_,vs,rx,.inl (Dq.of ho),rs⟩
  ·cases e
 ·cases e
def Y5:AV->Bool
 | .D (.tuple _)=>true
 | .C _=>true
 | _=>false
theorem Cb{H:Hp}{μ:M}{x:AV}{v:V}{xs:List AV}(hc:Cn X.K μ H)(rx:RelA X.K H x v)(e:items μ x=some xs):∃p vs,v=.ref p/\((Y5 x=false/\Dq X.K H p vs)\/(Y5 x=true/\Fw X.K H p vs))/\Av X.K H xs vs:=by
 unfold items at e
 split at e
 ·cases e;obtain⟨a,vs,rfl,q,r⟩:=RelA.tup rx;exact⟨a,vs,rfl,.inr ⟨rfl,q.sq⟩,r.rel⟩
 ·cases e;obtain⟨a,vs,rfl,q,r⟩:=rx;exact⟨a,vs,rfl,.inr ⟨rfl,q H⟩,r.rel⟩
 ·cases e;obtain⟨a,vs,rfl,q,r⟩:=RelA.lst rx;exact⟨a,vs,rfl,.inl ⟨rfl,q.sq⟩,r.rel⟩
 ·split at e
  ·rename_i ys ey
   cases e
   obtain⟨o,ho,vs,rfl,rs⟩:=hc _ _ ey
   exact⟨_,vs,rx,.inl ⟨rfl,Dq.of ho⟩,rs⟩
  ·cases e
 ·cases e
def Y6(nb:Bool->Bool):A2:=λx y μ R=>match y with
 | .D (.str j)=>match x with
  | .D (.str i)=>R (.D (.bool (nb (!(Builtin.Str.occurrences j i 0 j.length 1).isEmpty)))) μ
  | _=>False
 | .C ds=>opt (see μ x) λd=>Bq d/\Bq (.tuple ds)/\R (.D (.bool (nb (ds.any λe=>PyData.eqv e d)))) μ
 | .D (.tuple ds)=>opt (see μ x) λd=>Bq d/\Bq (.tuple ds)/\R (.D (.bool (nb (ds.any λe=>PyData.eqv e d)))) μ
 | y=>opt (see μ x) λd=>opt (items μ y) λys=>opt (dats ys) λds=>Bq d/\Bq (.tuple ds)/\R (.D (.bool (nb (ds.any λe=>PyData.eqv e d)))) μ
theorem Np{nb:Bool->Bool}{x y:AV}{μ:M}{R:AV->M->Prop}(h:Y6 nb x y μ R)(hn:∀z,y≠.D (.str z)):∃d ys ds,see μ x=some d/\items μ y=some ys/\dats ys=some ds/\Bq d/\Bq (.tuple ds)/\R (.D (.bool (nb (ds.any λe=>PyData.eqv e d)))) μ:=by
 unfold Y6 at h
 split at h
 ·exact absurd rfl (hn _)
 ·obtain⟨d,ed,h⟩:=A9 h
  exact⟨d,_,_,ed,rfl,B7 _,h⟩
 ·obtain⟨d,ed,h⟩:=A9 h
  exact⟨d,_,_,ed,rfl,B7 _,h⟩
 ·obtain⟨d,ed,h⟩:=A9 h
  obtain⟨ys,ey,h⟩:=A9 h
  obtain⟨ds,eds,h⟩:=A9 h
  exact⟨d,ys,ds,ed,ey,eds,h⟩
theorem Ek{ds:List PyData}(h:Bq (.tuple ds)):PyData.canLayAll0 ds=true/\PyData.depthAll ds<=64:=by
 obtain⟨h1,h2⟩:=h
 simp only [PyData.canLay0]at h1
 simp only [PyData.depth]at h2
 exact⟨h1,by omega⟩
theorem Ud(hr:Room k X.A):VOp X (compareOp .In) (Y6 λb=>b):=by
 intro aa s σ H x y v u Q I rx ry zz16
 refine Df zz16 λa b μ R ra rb hc h hq=>?_
 by_cases hb:∃z,b=.D (.str z)
 ·obtain⟨z,rfl⟩:=hb
  unfold Y6 at h
  dsimp only at h
  split at h
  ·cases RelA.str ra;cases RelA.str rb
   exact Os aa s σ H _ _ v u Q I rx ry ⟨_,_,rfl,rfl,hq _ _ _ _ Kp.refl hc C7 h⟩
  ·exact h.elim
 ·obtain⟨d,ys,ds,ed,ey,eds,h⟩:=Np h λz e=>hb ⟨z,e⟩
  ·skip
   obtain⟨ok1,ok2,h⟩:=h
   obtain⟨as,r1⟩:=Cd I hc ra rx ed
   obtain⟨p,vs,rfl,hp,rs⟩:=Ge hc rb ey
   cases ry
   obtain⟨c1,c2⟩:=Ek ok2
   have hs:=rs.dats eds
   have hu:=hr.un
   have q:=hq _ _ _ _ Kp.refl hc C7 h
   rcases hp with hp | hp
   ·obtain⟨af,r,pl,hz⟩:=I.list hp
    obtain⟨bs,rb⟩:=Ao.reads I ds vs af hs r
    have e:=λA=>Cp (A:=A) r1 ok1.1
    refine SeqAt.in_listAt (Gw s.heap d) pl.isList (λw hw=>(e _ (by first | (show X.A.units+64 < _;omega) | (show X.A.units+1+64 < _;omega) | (show X.A.units+1+1+64 < _;omega)) rb c1 c2).1 w (by simpa using hw)) ⟨.bl _,H,I,rfl,?_⟩
    rw [show af.toArray.any (Gw s.heap d)=af.any (Gw s.heap d) by simp,(e X.A (by omega) rb c1 c2).2]
    exact q
   ·obtain⟨af,r,pl,hz⟩:=I.tuple hp
    obtain⟨bs,rb⟩:=Ao.reads I ds vs af hs r
    have e:=λA=>Cp (A:=A) r1 ok1.1
    refine SeqAt.in_tupleAt (Gw s.heap d) pl (λw hw=>(e _ (by first | (show X.A.units+64 < _;omega) | (show X.A.units+1+64 < _;omega) | (show X.A.units+1+1+64 < _;omega)) rb c1 c2).1 w (by simpa using hw)) ⟨.bl _,H,I,rfl,?_⟩
    rw [show af.toArray.any (Gw s.heap d)=af.any (Gw s.heap d) by simp,(e X.A (by omega) rb c1 c2).2]
    exact q
theorem Ka(hr:Room k X.A):VOp X (compareOp .NotIn) (Y6 λb=>!b):=by
 intro aa s σ H x y v u Q I rx ry zz17
 refine Df zz17 λa b μ R ra rb hc h hq=>?_
 by_cases hb:∃z,b=.D (.str z)
 ·obtain⟨z,rfl⟩:=hb
  unfold Y6 at h
  dsimp only at h
  split at h
  ·cases RelA.str ra;cases RelA.str rb
   exact Ju aa s σ H _ _ v u Q I rx ry ⟨_,_,rfl,rfl,hq _ _ _ _ Kp.refl hc C7 h⟩
  ·exact h.elim
 ·obtain⟨d,ys,ds,ed,ey,eds,h⟩:=Np h λz e=>hb ⟨z,e⟩
  ·skip
   obtain⟨ok1,ok2,h⟩:=h
   obtain⟨as,r1⟩:=Cd I hc ra rx ed
   obtain⟨p,vs,rfl,hp,rs⟩:=Ge hc rb ey
   cases ry
   obtain⟨c1,c2⟩:=Ek ok2
   have hs:=rs.dats eds
   have hu:=hr.un
   have q:=hq _ _ _ _ Kp.refl hc C7 h
   rcases hp with hp | hp
   ·obtain⟨af,r,pl,hz⟩:=I.list hp
    obtain⟨bs,rb⟩:=Ao.reads I ds vs af hs r
    have e:=λA=>Cp (A:=A) r1 ok1.1
    refine SeqAt.notIn_listAt (Gw s.heap d) pl.isList (λw hw=>(e _ (by first | (show X.A.units+64 < _;omega) | (show X.A.units+1+64 < _;omega) | (show X.A.units+1+1+64 < _;omega)) rb c1 c2).1 w (by simpa using hw)) ⟨.bl _,H,I,rfl,?_⟩
    rw [show af.toArray.any (Gw s.heap d)=af.any (Gw s.heap d) by simp,(e X.A (by omega) rb c1 c2).2]
    exact q
   ·obtain⟨af,r,pl,hz⟩:=I.tuple hp
    obtain⟨bs,rb⟩:=Ao.reads I ds vs af hs r
    have e:=λA=>Cp (A:=A) r1 ok1.1
    refine SeqAt.notIn_tupleAt (Gw s.heap d) pl (λw hw=>(e _ (by first | (show X.A.units+64 < _;omega) | (show X.A.units+1+64 < _;omega) | (show X.A.units+1+1+64 < _;omega)) rb c1 c2).1 w (by simpa using hw)) ⟨.bl _,H,I,rfl,?_⟩
    rw [show af.toArray.any (Gw s.heap d)=af.any (Gw s.heap d) by simp,(e X.A (by omega) rb c1 c2).2]
    exact q
def aI(C:Int->Int->Prop)(g:Int->Int->PyData):A2:=λx y μ R=>match x,y with
 | .D (.int i),.D (.int j)=>C i j/\R (.D (g i j)) μ
 | _,_=>False
def Y7(g:Int->Int->PyData):A2:=λx y μ R=>match x,y with
 | .D (.int i),.D (.int j)=>R (.D (g i j)) μ
 | _,_=>False
theorem o_I{f:Value->Value->Sem Value}{C:Int->Int->Prop}{g:Int->Int->V}{g':Int->Int->PyData}(h:Fg X f (rI C g))(hg:∀i j H,Dk X.K H (g' i j) (g i j)):VOp X f (aI C g'):=by
 intro aa s σ H x y v u Q I rx ry zz20
 refine Df zz20 λa b μ R ra rb hc h' hq=>?_
 cases a with
 | D d =>
  cases d with
  | int i =>
   cases b with
   | D e =>
    cases e with
    | int j =>
     cases RelA.int ra;cases RelA.int rb
     exact h aa s σ H _ _ v u Q I rx ry ⟨_,_,rfl,rfl,h'.1,hq _ _ _ _ Kp.refl hc (Mr (hg _ _ _)) h'.2⟩
    | _=>exact False.elim h'
   | _=>exact False.elim h'
  | _=>exact False.elim h'
 | _=>exact False.elim h'
theorem Ri{f:Value->Value->Sem Value}{g:Int->Int->V}{g':Int->Int->PyData}(h:Fg X f (Tf g))(hg:∀i j H,Dk X.K H (g' i j) (g i j)):VOp X f (Y7 g'):=by
 intro aa s σ H x y v u Q I rx ry zz21
 refine Df zz21 λa b μ R ra rb hc h' hq=>?_
 cases a with
 | D d =>
  cases d with
  | int i =>
   cases b with
   | D e =>
    cases e with
    | int j =>
     cases RelA.int ra;cases RelA.int rb
     exact h aa s σ H _ _ v u Q I rx ry ⟨_,_,rfl,rfl,hq _ _ _ _ Kp.refl hc (Mr (hg _ _ _)) h'⟩
    | _=>exact False.elim h'
   | _=>exact False.elim h'
  | _=>exact False.elim h'
 | _=>exact False.elim h'
abbrev Qei:A2:=Y7 λi j=>.int (i - j)
abbrev Qau:A2:=aI CDiv λi j=>.int (i / j)
abbrev Qej:A2:=aI (λ_ j=>0 < j) λi j=>.int (i % j)
abbrev Qek:A2:=aI CPow λi j=>.int (i ^ j.toNat)
abbrev aLt:A2:=Y7 λi j=>.bool (decide (i < j))
abbrev aLe:A2:=Y7 λi j=>.bool (decide (i<=j))
abbrev aGt:A2:=Y7 λi j=>.bool (decide (j < i))
abbrev aGe:A2:=Y7 λi j=>.bool (decide (j<=i))
theorem Qav:VOp X (binaryOp .Sub) Qei:=Ri W4 λ_ _ _=>Cm
theorem Xs:VOp X (binaryOp .FloorDiv) Qau:=o_I Th λ_ _ _=>Cm
theorem Fk:VOp X (binaryOp .Mod) Qej:=o_I W6 λ_ _ _=>Cm
theorem Vm:VOp X (binaryOp .Pow) Qek:=o_I W7 λ_ _ _=>Cm
theorem Mw:VOp X (compareOp .Lt) aLt:=Ri Zx λ_ _ _=>Je
theorem Ue:VOp X (compareOp .LtE) aLe:=Ri Zy λ_ _ _=>Je
theorem Lf:VOp X (compareOp .Gt) aGt:=Ri Zz λ_ _ _=>Je
theorem Qel:VOp X (compareOp .GtE) aGe:=Ri Z0 λ_ _ _=>Je
def Qem:A2:=λx y μ R=>match x,y with
 | .D (.int i),.D (.int j)=>CMul i j/\R (.D (.int (i * j))) μ
 | .D (.str z),.D (.int n)=>(n=0\/n=1)/\R (.D (.str (if n=0 then Str.empty else z))) μ
 | _,_=>False
theorem Fl:VOp X (binaryOp .Mult) Qem:=by
 intro aa s σ H x y v u Q I rx ry zz22
 refine Df zz22 λa b μ R ra rb hc h hq=>?_
 cases a with
 | D d =>
  cases d with
  | int i =>
   cases b with
   | D e =>
    cases e with
    | int j =>
     cases RelA.int ra;cases RelA.int rb
     exact W5 aa s σ H _ _ v u Q I rx ry ⟨_,_,rfl,rfl,h.1,hq _ _ _ _ Kp.refl hc Co h.2⟩
    | _=>exact False.elim h
   | _=>exact False.elim h
  | str z =>
   cases b with
   | D e =>
    cases e with
    | int j =>
     cases RelA.str ra;cases RelA.int rb
     exact J6 aa s σ H _ _ v u Q I rx ry ⟨_,_,rfl,rfl,h.1,hq _ _ _ _ Kp.refl hc Hk h.2⟩
    | _=>exact False.elim h
   | _=>exact False.elim h
  | _=>exact False.elim h
 | _=>exact False.elim h
def Rj:A2:=λx y μ R=>match x,y with
 | .D (.int i),.D (.int j)=>R (.D (.int (i+j))) μ
 | .D (.str i),.D (.str j)=>i.length+j.length<=sizeLine/\R (.D (.str (i++j))) μ
 | .D (.tuple i),.D (.tuple j)=>i.length+j.length<=sizeLine/\R (.D (.tuple (i++j))) μ
 | .R i,.R j=>opt (μ i) λm=>opt (μ j) λn=>match m,n with
  | .lst xs,.lst ys=>xs.length+ys.length<=sizeLine/\∀p,μ p=none->R (.R p) (Ar μ p (.lst (xs++ys)))
  | _,_=>False
 | _,_=>False
theorem Qen{K:PySem.W.Frag}{aa:List (Addr×Obj)}{σ:St}{H:Hp}{s:Shared}{v u:Value}{x y:V}{ds es:List PyData}{Q:VK}(hK:X.K=K)(I:Inv X aa σ H s)(rx:Bi x v)(ry:Bi y u)(hx:Dk K H (.tuple ds) x)(hy:Dk K H (.tuple es) y)
  (hz:ds.length+es.length<=sizeLine) (q:∀z H',Kp H H'->(∀ μ,Cn K μ H->Cn K μ H')->Dk K H' (.tuple (ds++es)) z->Q z H'):wpAny (model X.prog X.w) X.A (binaryOp .Add v u) (EP X aa σ Q) X.xe s:=by
 subst hK
 obtain⟨a,xs,rfl,ha,ff⟩:=hx.tup
 obtain⟨b,ys,rfl,hb,ll⟩:=hy.tup
 cases rx
 cases ry
 obtain⟨af,r1,p1,_⟩:=I.tuple ha.sq
 obtain⟨its2,r2,p2,_⟩:=I.tuple hb.sq
 have l1:=ff.length
 have l2:=ll.length
 by_cases hv:xs=[]
 ·subst hv
  have e:af=[]:=r1.nil_iff.mpr rfl
  subst e
  have ed:ds=[]:=List.length_eq_zero_iff.mp l1.symm
  subst ed
  obtain⟨⟨cls,dd,data,sl⟩,ho,hc,n,hd⟩:=id p1
  obtain⟨⟨cls2,dd2,data2,jt⟩,ho2,hc2,n2,b0⟩:=id p2
  simp only at hc hd hc2 b0
  subst hc hd hc2 b0
  exact concat_meets ⟨_,ho,rfl⟩ ⟨_,ho2,rfl⟩ noFill_tuple_add seq_tuple_add Yc3 Ycw (Ycs _ _)
   (tuple_addW0 a b [].toArray its2.toArray n n2 dd dd2 sl jt rfl) ⟨ho,ho2,.ref b,H,I,rfl,q _ _ Kp.refl (λ_ c=>c) (by simpa using hy)⟩
 ·refine HT.cat_tup p1 p2 (λz=>hv (r1.nil_iff.mp z)) (λz=>⟨.ref a,H,I,rfl,q _ _ Kp.refl (λ_ c=>c) ?_⟩) (λz=>?_) (by rw [<- r1.length,<- r2.length,l1,l2];exact hz)
  ·have e:ys=[]:=r2.nil_iff.mp z
   subst e
   have ed:es=[]:=List.length_eq_zero_iff.mp l2.symm
   subst ed
   simpa using hx
  ·have hf:=I.hok.fresh (Yaf s.heap.objs.size)
   refine⟨.ref s.heap.objs.size,_,I.laid (t':=s.toks) (o:=.tup (xs++ys)) (λb ob q=>Heap.get?_push_of_some _ q) (Yaf _) ?_,rfl,q _ _ (Kp.new hf _) (λ_ c=>c.over hf) ?_⟩
   ·exact⟨⟨by rw [Yae,l1,l2];exact hz,.inl (Vg.new _ rfl)⟩,_,r1.append r2,IsTup.new _ _⟩
   ·exact Mq Be (Ao.kp (Kp.new hf _) _ _ (ff.append ll))
theorem Bh:VOp X (binaryOp .Add) Rj:=by
 intro aa s σ H x y v u Q I rx ry zz23
 refine Df zz23 λa b μ R ra rb hc h hq=>?_
 cases a with
 | D d =>
  cases d with
  | int i =>
   cases b with
   | D e =>
    cases e with
    | int j =>
     cases RelA.int ra;cases RelA.int rb
     exact W1 aa s σ H _ _ v u Q I rx ry ⟨_,_,rfl,rfl,hq _ _ _ _ Kp.refl hc Co h⟩
    | _=>exact False.elim h
   | _=>exact False.elim h
  | str z =>
   cases b with
   | D e =>
    cases e with
    | str j =>
     cases RelA.str ra;cases RelA.str rb
     exact Ma aa s σ H _ _ v u Q I rx ry ⟨_,_,rfl,rfl,h.1,hq _ _ _ _ Kp.refl hc Hk h.2⟩
    | _=>exact False.elim h
   | _=>exact False.elim h
  | tuple ds =>
   cases b with
   | D e =>
    cases e with
    | tuple es=>exact Qen rfl I rx ry ra rb h.1 λz H' S c hd=>hq _ _ _ _ S (c _ hc) (Mr hd) h.2
    | _=>exact False.elim h
   | _=>exact False.elim h
  | _=>exact False.elim h
 | R i =>
  cases b with
  | R j =>
   obtain⟨m,ei,h⟩:=A9 h
   obtain⟨n,ej,h⟩:=A9 h
   cases m with
   | lst xs =>
    cases n with
    | lst ys =>
     cases (show x=.ref i from ra);cases (show y=.ref j from rb)
     obtain⟨o,ho,vs,rfl,rs⟩:=hc i _ ei
     obtain⟨o',bx,ws,rfl,rs'⟩:=hc j _ ej
     exact Xh aa s σ H _ _ v u Q I rx ry ⟨i,j,vs,ws,rfl,rfl,ho,bx,by rw [<- rs.length,<- rs'.length];exact h.1,λp hp=>hq _ _ _ _ (Kp.new hp _) (hc.new hp (Dn (rs.append rs'))) Eh (h.2 p (hc.none hp))⟩
    | _=>exact False.elim h
   | _=>exact False.elim h
  | _=>exact False.elim h
 | _=>exact False.elim h
end
section
variable {X:Cx}{a b c:Expr}{ta tb tc:AE}{pos:Pos}
def aIx:A2:=λx y μ R=>match x,y with
 | .D (.str z),.D (.int i)=>z.length<=sizeLine/\opt (atI z.cps.toList i) λc=>R (.D (.str ⟨#[c]⟩)) μ
 | .D (.tuple ds),.D (.int i)=>opt (atI ds i) λd=>R (.D d) μ
 | .D (.list ds),.D (.int i)=>opt (atI ds i) λd=>R (.D d) μ
 | .R a,.D (.int i)=>opt (μ a) λm=>match m with
  | .lst xs=>opt (atI xs i) λw=>R w μ
  | _=>False
 | _,_=>False
theorem Uf{x y:AV}{μ:M}{R:AV->M->Prop}(h:aIx x y μ R):∃i,y=.D (.int i):=by
 have no:(∀d,aIx (.D d) y μ R->False)->(∀a,aIx (.R a) y μ R->False)->False:=λh1 h2=>by
  cases x with
  | D d=>exact h1 d h
  | R a=>exact h2 a h
  | _=>exact h
 cases y with
 | D e =>
  cases e with
  | int i=>exact⟨i,rfl⟩
  | _=>exact(no (λd q=>by cases d <;> exact q) λa q=>q).elim
 | _=>exact(no (λd q=>by cases d <;> exact q) λa q=>q).elim
theorem Bk:VIx X aIx:=by
 intro value slice aa s σ H x y v u Q I rx ry zq hs
 refine Df zq λa b μ R ra rb hc h hq=>?_
 obtain⟨i,rfl⟩:=Uf h
 cases RelA.int rb
 cases a with
 | D d =>
  cases d with
  | str z =>
   cases RelA.str ra
   obtain⟨h1,h⟩:=h
   obtain⟨c,e,h⟩:=A9 h
   exact Xe value slice aa s σ H _ _ v u Q I rx ry ⟨_,_,_,rfl,rfl,h1,e,hq _ _ _ _ Kp.refl hc Hk h⟩ hs
  | tuple ds =>
   obtain⟨d,ed,h⟩:=A9 h
   obtain⟨p,vs,rfl,hp,rs⟩:=RelA.tup ra
   obtain⟨z,ez,rz⟩:=rs.atI ed
   exact Xd value slice aa s σ H _ _ v u Q I rx ry ⟨_,_,_,_,rfl,rfl,hp.sq,ez,hq _ _ _ _ Kp.refl hc (Mr rz) h⟩ hs
  | list ds =>
   obtain⟨d,ed,h⟩:=A9 h
   obtain⟨p,vs,rfl,hp,rs⟩:=RelA.lst ra
   obtain⟨z,ez,rz⟩:=rs.atI ed
   exact Ni value slice aa s σ H _ _ v u Q I rx ry ⟨_,_,_,_,rfl,rfl,hp.sq,ez,hq _ _ _ _ Kp.refl hc (Mr rz) h⟩ hs
  | _=>exact False.elim h
 | R a =>
  obtain⟨m,em,h⟩:=A9 h
  cases m with
  | lst xs =>
   obtain⟨w,ew,h⟩:=A9 h
   obtain⟨o,ho,vs,rfl,rs⟩:=hc _ _ em
   cases (show x=.ref _ from ra)
   obtain⟨z,ez,rz⟩:=rs.atI ew
   exact Ni value slice aa s σ H _ _ v u Q I rx ry ⟨_,_,_,_,rfl,rfl,Dq.of ho,ez,hq _ _ _ _ Kp.refl hc rz h⟩ hs
  | _=>exact False.elim h
 | _=>exact False.elim h
theorem A3{r:A2}(hr:VIx X r)(ha:VE X a ta)(hb:VE X b tb)(hs:Nh b:=by intro _ _;rfl):VE X (.Subscript a b pos) (Rf r ta tb):=(Qab hr ha hb hs).imp λ_ _ _ h=>G2 h
def G3:AO:=λ_ μ R=>R none μ
def Nq(t:AE):AO:=fun τ μ R=>t τ μ λx μ1=>match x with
 | .D (.int i)=>R (some i) μ1
 | _=>False
theorem Bc:VO X none G3:=Tm.imp fun σ H Q zz24=>B4 zz24 fun τ μ R hs hc h hq=>hq _ _ _ Kp.refl hc h
theorem A6(h:VE X a ta):VO X (some a) (Nq ta):=(Tn h).imp fun σ H Q zz25=>B4 zz25 fun τ μ R hs hc h hq=>⟨τ,μ,_,hs,hc,h,λx μ1 v H1 S1 c1 rx hx=>by
 split at hx
 ·cases RelA.int rx
  exact⟨_,rfl,hq _ _ _ S1 c1 hx⟩
 ·exact hx.elim⟩
def aSl(x:AV)(lo hi:Option Int):M->(AV->M->Prop)->Prop:=fun μ R=>match x with
 | .D (.str z)=>z.length<=sizeLine/\R (.D (.str (Txt.slice z lo hi))) μ
 | .D (.tuple ds)=>R (.D (.tuple (Cl ds lo hi))) μ
 | .C _=>False
 | x=>opt (items μ x) λxs=>∀p,μ p=none->R (.R p) (Ar μ p (.lst (Ms xs lo hi)))
def cSl(K:PySem.W.Frag):V->Option Int->Option Int->Hp->VK->Prop:=λx lo hi H Q=>∃a μ R,RelA K H a x/\Cn K μ H/\aSl a lo hi μ R/\LV K H R Q
theorem Qep:Z8 X (cSl X.K):=by
 intro aa s σ H x v vl vu lo hi sl Q I rx hs pl pu ⟨a,μ,R,ra,hc,h,hq⟩
 unfold aSl at h
 split at h
 ·cases RelA.str ra
  exact Xk aa s σ H _ v vl vu lo hi sl Q I rx hs pl pu ⟨_,rfl,h.1,hq _ _ _ _ Kp.refl hc Hk h.2⟩
 ·rename_i ds
  by_cases hw:HT.sIx ds.length 0 lo=0/\HT.sIx ds.length ds.length hi=ds.length
  ·obtain⟨a,xs,rfl,ha,hx⟩:=RelA.tup ra
   cases rx
   obtain⟨af,r,ht,hz⟩:=I.tuple ha.sq
   have am:af.toArray.size=ds.length:=by rw [Yah,<- r.length,hx.length]
   refine⟨"tuple",_,Ya5.lookup,ht.typeIs,?_⟩
   refine HT.getItem_tuple_all ht hs pl pu (by rw [am];exact hw) ⟨.ref a,H,I,rfl,hq _ _ _ _ Kp.refl hc ?_ h⟩
   rw [Qx hw]
   exact ra
  ·obtain⟨a,xs,rfl,ha,hx⟩:=RelA.tup ra
   refine Xc aa s σ H (.ref a) v vl vu lo hi sl Q I rx hs pl pu ⟨a,xs,rfl,ha.sq,by rw [hx.length];exact hw,λp hp=>?_⟩
   exact hq _ _ _ _ (Kp.new hp _) (hc.over hp) (J8 Be (Ao.kp (Kp.new hp _) _ _ (hx.cut lo hi))) h
 ·exact h.elim
 ·rename_i n1 n2 n3
  obtain⟨xs,ex,h⟩:=A9 h
  ·obtain⟨p,vs,rfl,hp,rs⟩:=Cb hc ra ex
   rcases hp with⟨_,hp⟩ | ⟨ht,hp⟩
   ·exact Tq aa s σ H _ v vl vu lo hi sl Q I rx hs pl pu ⟨_,_,rfl,hp,λp hp=>hq _ _ _ _ (Kp.new hp _) (hc.new hp (Dn (rs.cut lo hi))) Eh (h p (hc.none hp))⟩
   ·exfalso
    unfold Y5 at ht
    split at ht
    ·exact n2 _ rfl
    ·exact n3 _ rfl
    ·cases ht
def vSl(te:AE)(tl th:AO):AE:=fun τ μ R=>te τ μ λx μ1=>tl τ μ1 λl μ2=>th τ μ2 λu μ3=>aSl x l u μ3 R
theorem Ax{lo hi:Option Expr}{tl th:AO}{p2:Pos}(he:VE X a ta)(hl:VO X lo tl)(hu:VO X hi th):VE X (.Subscript a (.Slice lo hi none p2) pos) (vSl ta tl th) :=
 (Qj Qep he hl hu).imp fun σ H Q zz26=>B4 zz26 fun τ μ R hs hc h hq=>⟨τ,μ,_,hs,hc,h,λx μ1 v H1 S1 c1 rx hx=>⟨τ,μ1,_,hs.kp S1,c1,hx,λl μ2 H2 S2 c2 hl=>⟨τ,μ2,_,hs.kp (S1.trans S2),c2,hl,λu μ3 H3 S3 c3 hu =>
  ⟨x,μ3,R,rx.kp (S2.trans S3),c3,hu,hq.kp (S1.trans (S2.trans S3))⟩⟩⟩⟩
variable {x:Str}{p:Pos}{e:Expr}{es:List Expr}{t:AA}{gj T:String}{r:AC}
def Vn(r:AC)(t:AA):AE:=fun τ μ R=>t τ μ λxs μ1=>r xs μ1 R
theorem Nr{K:PySem.W.Frag}{n:Nat}{r:AC}{t:AA}{σ:St}{H:Hp}{Q:VK}(h:cE K (Vn r t) σ H Q):tCB (cC K r) (cA K n t) σ H Q:=by
 obtain⟨τ,μ,R,hs,hc,h,hq⟩:=h
 exact⟨τ,μ,_,hs,hc,h,λxs μ1 vs H1 S1 c1 rs hl hx=>⟨xs,μ1,R,rs,c1,hx,hq.kp S1⟩⟩
theorem Ah(hc:VCall X (.builtin gj) r)(hg:Gl X x)(hm:X.mg x=none)(hv:bootBuiltins x=some (.builtin gj))(ha:VA X (e :: es) t)(hn:x ≠ "__name__" := by decide) (hd:(x==("__debug__" : Str))=false:=by decide)
  (bg:starEach (e :: es) X.env=(false,eval e X.env) :: starEach es X.env:=by rfl) (hpl:(backTo pos (starEach es X.env)).any (·.1)=false:=by rfl):VE X (.Call (.Name x p) (e :: es) [] pos) (Vn r t) :=
 (Qh hc hg hm hv ha hn hd bg hpl).imp λ_ _ _ h=>Nr h
theorem Bw(hc:VCall X (.type T) r)(hg:Gl X x)(hm:X.mg x=none)(hv:bootBuiltins x=some (.type T))(ha:VA X (e :: es) t)(hn:x ≠ "__name__" := by decide) (hd:(x==("__debug__" : Str))=false:=by decide)
  (bg:starEach (e :: es) X.env=(false,eval e X.env) :: starEach es X.env:=by rfl) (hpl:(backTo pos (starEach es X.env)).any (·.1)=false:=by rfl):VE X (.Call (.Name x p) (e :: es) [] pos) (Vn r t) :=
 (Ow hc hg hm hv ha hn hd bg hpl).imp λ_ _ _ h=>Nr h
def Rk:AC:=λxs μ R=>match xs with
 | [.D (.str z)]=>z.length<=sizeLine/\R (.D (.int z.length)) μ
 | [.D (.tuple ds)]=>R (.D (.int ds.length)) μ
 | [.D (.list ds)]=>R (.D (.int ds.length)) μ
 | [.R a]=>opt (μ a) λm=>match m with
  | .lst ys=>R (.D (.int ys.length)) μ
  | .dk ag=>R (.D (.int ag.length)) μ
  | _=>False
 | _=>False
theorem Ba:VCall X (.builtin "len") Rk:=by
 intro aa s σ H xs us Q I r zz27
 refine B4 zz27 λas μ R ra hc h hq=>?_
 have no:∀{y:AV} {t:List AV} {x:AV},Rk (x :: y :: t) μ R->False:=λ{y t x} q=>by
  cases x with
  | D d=>cases d <;> exact q
  | _=>exact q
 cases ra with
 | nil=>exact False.elim h
 | @cons x v xs' d3 r1 r2 =>
  cases r2 with
  | cons _ _=>exact(no h).elim
  | nil =>
   cases x with
   | D d =>
    cases d with
    | str z =>
     cases RelA.str r1
     exact Jv aa s σ H _ us Q I r ⟨_,rfl,h.1,hq _ _ _ _ Kp.refl hc Co h.2⟩
    | tuple ds =>
     obtain⟨p,vs,rfl,hp,rs⟩:=RelA.tup r1
     refine Dy aa s σ H _ us Q I r ⟨p,vs,rfl,.inr hp.sq,hq _ _ _ _ Kp.refl hc ?_ h⟩
     rw [rs.length];exact Co
    | list ds =>
     obtain⟨p,vs,rfl,hp,rs⟩:=RelA.lst r1
     refine Dy aa s σ H _ us Q I r ⟨p,vs,rfl,.inl hp.sq,hq _ _ _ _ Kp.refl hc ?_ h⟩
     rw [rs.length];exact Co
    | _=>exact False.elim h
   | R a =>
    obtain⟨m,em,h⟩:=A9 h
    cases (show _=V.ref _ from r1)
    obtain⟨o,ho,rm⟩:=hc _ _ em
    cases m with
    | lst ys =>
     obtain⟨vs,rfl,rs⟩:=rm
     refine Dy aa s σ H _ us Q I r ⟨_,vs,rfl,.inl (Dq.of ho),hq _ _ _ _ Kp.refl hc ?_ h⟩
     rw [rs.length];exact Co
    | dk ag =>
     obtain⟨vs,rfl,rs⟩:=rm
     refine O1 aa s σ H _ us Q I r ⟨_,vs,rfl,ho,hq _ _ _ _ Kp.refl hc ?_ h⟩
     rw [Yck rs];exact Co
    | _=>exact False.elim h
   | _=>exact False.elim h
def Hn:AC:=λxs μ R=>match xs with
 | [.D (.tuple ds)]=>R (.D (.tuple ds)) μ
 | [.C _]=>False
 | [y]=>opt (items μ y) λys=>opt (dats ys) λds=>R (.D (.tuple ds)) μ
 | _=>False
theorem Mx{x:AV}{t:List AV}{μ:M}{R:AV->M->Prop}(h:Hn (x :: t) μ R):t=[]:=by
 cases t with
 | nil=>rfl
 | cons y t =>
  refine False.elim ?_
  cases x with
  | D d=>cases d <;> exact h
  | _=>exact h
theorem Pa{x:AV}{μ:M}{R:AV->M->Prop}(ht:Y5 x=false)(h:Hn [x] μ R):opt (items μ x) λys=>opt (dats ys) λds=>R (.D (.tuple ds)) μ:=by
 cases x with
 | D d=>cases d <;> first | exact h | cases ht
 | C ds=>cases ht
 | _=>exact h
theorem Rl{x:AV}{μ:M}{R:AV->M->Prop}(ht:Y5 x=true)(h:Hn [x] μ R):∃ds,x=.D (.tuple ds)/\R (.D (.tuple ds)) μ:=by
 cases x with
 | D d =>
  cases d with
  | tuple ds=>exact⟨ds,rfl,h⟩
  | _=>cases ht
 | C ds=>exact False.elim h
 | _=>cases ht
theorem Ep:VCall X (.type "tuple") Hn:=by
 intro aa s σ H xs us Q I r zz28
 refine B4 zz28 λas μ R ra hc h hq=>?_
 cases ra with
 | nil=>exact False.elim h
 | @cons y v ys' d3 r1 r2 =>
  have hn:=Mx h
  subst hn
  cases r2
  cases ht:Y5 y with
  | true =>
   obtain⟨ds,rfl,h⟩:=Rl ht h
   obtain⟨p,vs,rfl,hp,rs⟩:=RelA.tup r1
   exact Ey aa s σ H _ us Q I r ⟨p,vs,rfl,.inr ⟨hp.sq,hq _ _ _ _ Kp.refl hc r1 h⟩⟩
  | false =>
   obtain⟨ys,ey,h⟩:=A9 (Pa ht h)
   obtain⟨ds,ed,h⟩:=A9 h
   obtain⟨p,vs,rfl,hp,rs⟩:=Cb hc r1 ey
   rcases hp with⟨_,hp⟩ | ⟨ht2,_⟩
   ·exact Ey aa s σ H _ us Q I r ⟨p,vs,rfl,.inl ⟨hp,λl hl=>hq _ _ _ _ (Kp.new hl _) (hc.over hl) (J8 Be (Ao.kp (Kp.new hl _) _ _ (rs.dats ed))) h⟩⟩
   ·rw [ht]at ht2;cases ht2
def Vo:AC:=λxs μ R=>match xs with
 | [y]=>opt (items μ y) λys=>∀p,μ p=none->R (.R p) (Ar μ p (.lst ys))
 | _=>False
theorem Rm:VCall X (.type "list") Vo:=by
 intro aa s σ H xs us Q I r zz29
 refine B4 zz29 λas μ R ra hc h hq=>?_
 unfold Vo at h
 split at h
 ·cases ra with
  | cons r1 r2 =>
   cases r2
   obtain⟨ys,ey,h⟩:=A9 h
   obtain⟨p,vs,rfl,hp,rs⟩:=Ge hc r1 ey
   exact Jw aa s σ H _ us Q I r ⟨p,vs,rfl,hp,λl hl=>hq _ _ _ _ (Kp.new hl _) (hc.new hl (Dn (rs))) Eh (h l (hc.none hl))⟩
 ·exact h.elim
def bools:List AV->Option (List Bool)
 | []=>some []
 | .D (.bool b) :: r=>match bools r with
  | some bs=>some (b :: bs)
  | none=>none
 | _ :: _=>none
theorem Jh:∀(bs:List Bool),bools (bs.map λb=>.D (.bool b))=some bs
 | []=>rfl
 | b :: bs=>by simp only [List.map_cons,bools,Jh bs]
theorem Av.bools{K:PySem.W.Frag}{H:Hp}{xs:List AV}{vs:List V}{bs:List Bool}(h:Av K H xs vs)(e:L2.bools xs=some bs):vs=bs.map V.bl:=by
 induction h generalizing bs with
 | nil=>cases e;rfl
 | @cons x v xs vs r t ih =>
  cases x with
  | D d =>
   cases d with
   | bool b =>
    simp only [L2.bools]at e
    cases q:L2.bools xs with
    | none=>rw [q]at e;cases e
    | some cs=>rw [q]at e;cases e;cases RelA.bl r;rw [ih q];rfl
   | _=>simp [L2.bools]at e
  | _=>simp [L2.bools]at e
def Xt:AC:=λxs μ R=>match xs with
 | [.R a]=>opt (μ a) λm=>match m with
  | .lst ys=>opt (bools ys) λbs=>R (.D (.bool (bs.all id))) μ
  | _=>False
 | _=>False
theorem Qax(jb:X.calm=true):VCall X (.builtin "all") Xt:=by
 intro aa s σ H xs us Q I r zz30
 refine B4 zz30 λas μ R ra hc h hq=>?_
 unfold Xt at h
 split at h
 ·cases ra with
  | cons r1 r2 =>
   cases r2
   obtain⟨m,em,h⟩:=A9 h
   split at h
   ·obtain⟨bs,eb,h⟩:=A9 h
    obtain⟨o,ho,vs,rfl,rs⟩:=hc _ _ em
    cases (show _=V.ref _ from r1)
    exact Qw jb aa s σ H _ us Q I r ⟨_,bs,rfl,Dq.of (by rw [ho,rs.bools eb]),hq _ _ _ _ Kp.refl hc C7 h⟩
   ·exact h.elim
 ·exact h.elim
def Nt:AC:=λxs μ R=>match xs with
 | [.D (.int i),.D (.int j)]=>R (.D (.int (if j > i then j else i))) μ
 | _=>False
theorem Gf(jb:X.calm=true):VCall X (.builtin "max") Nt:=by
 intro aa s σ H xs us Q I r zz31
 refine B4 zz31 λas μ R ra hc h hq=>?_
 unfold Nt at h
 split at h
 ·cases ra with
  | cons r1 r2 =>
   cases r2 with
   | cons r2 r3 =>
    cases r3
    cases RelA.int r1;cases RelA.int r2
    exact Ot jb aa s σ H _ us Q I r ⟨_,_,rfl,hq _ _ _ _ Kp.refl hc Co h⟩
 ·exact h.elim
variable {o:Expr}{to:AE}{name:Str}{bf au:Pos}{m:AV->AC}
def Lg(μ:M):AV->Prop
 | .R a=>opt (μ a) λm=>match m with
  | .lst _=>True
  | _=>False
 | .D (.list _)=>True
 | _=>False
def Vp:AV->Prop
 | .D (.str _)=>True
 | _=>False
theorem Lg.ty{H:Hp}{μ:M}{x:AV}{v:V}(hc:Cn X.K μ H)(rx:RelA X.K H x v)(h:Lg μ x):tyV X.K "list" v H:=by
 unfold Lg at h
 split at h
 ·obtain⟨m,e,h⟩:=A9 h
  split at h
  ·obtain⟨o,ho,vs,rfl,_⟩:=hc _ _ e
   cases (show v=.ref _ from rx)
   exact .inl ⟨rfl,vs,Dq.of ho⟩
  ·exact h.elim
 ·obtain⟨a,xs,rfl,q,_⟩:=RelA.lst rx
  exact .inl ⟨rfl,xs,q.sq⟩
 ·exact h.elim
def Qeq(m:AV->AC)(to:AE):AE:=fun τ μ R=>to τ μ λx μ1=>Lg μ1 x/\m x [] μ1 R
def vBL(m:AV->AC)(to:AE)(t:AA):AE:=fun τ μ R=>to τ μ λx μ1=>Lg μ1 x/\t τ μ1 λxs μ2=>m x xs μ2 R
def vBS(m:AV->AC)(to:AE)(t:AA):AE:=fun τ μ R=>to τ μ λx μ1=>Vp x/\t τ μ1 λxs μ2=>m x xs μ2 R
theorem Xu(slot:Slot "list" name gj) (gu:typeOf (.builtin gj)=pure (.type "method_descriptor")) (hm:VMt X gj m) (ho:VE X o to)
  (bp:attributeBase o name X.env (eval o X.env)=eval o X.env:=by rfl) (bo:(bf.endLine==au.line)=true:=by rfl):VE X (.Call (.Attribute o name bf) [] [] au) (Qeq m to) :=
 (Xf PySem.F.plainAttrs_list slot gu hm ho bp bo).imp fun σ H Q zz33=>B4 zz33 fun τ μ R hs hc h hq=>⟨τ,μ,_,hs,hc,h,λx μ1 v H1 S1 c1 rx hx=>⟨hx.1.ty c1 rx,x,[],μ1,R,rx,.nil,c1,hx.2,hq.kp S1⟩⟩
theorem E5(slot:Slot "list" name gj) (gu:typeOf (.builtin gj)=pure (.type "method_descriptor")) (hm:VMt X gj m) (ho:VE X o to) (ha:VA X (e :: es) t)
  (bp:attributeBase o name X.env (eval o X.env)=eval o X.env:=by rfl)
  (d8:((backTo au (starEach (e :: es) X.env)).all (λx=>!x.1) && (backToKw au (keywordEach [] X.env)).all (λx=>x.1.isSome)
   && decide ((e :: es).length+([]:List Keyword).length+(if([]:List Keyword).isEmpty then 0 else 1) < 30))=true:=by rfl)
  (bo:(bf.endLine==au.line)=true:=by rfl) (hs:starEach (e :: es) X.env=(false,eval e X.env) :: starEach es X.env:=by rfl) (bq:(backTo au (starEach es X.env)).any (·.1)=false:=by rfl) :
  VE X (.Call (.Attribute o name bf) (e :: es) [] au) (vBL m to t) :=
 (Ql PySem.F.plainAttrs_list slot gu hm ho ha bp d8 bo hs bq).imp fun σ H Q zz34=>B4 zz34 fun τ μ R hs hc h hq=>⟨τ,μ,_,hs,hc,h,λx μ1 v H1 S1 c1 rx hx=>⟨hx.1.ty c1 rx,τ,μ1,_,hs.kp S1,c1,hx.2,λxs μ2 vs H2 S2 c2 rs hl ff =>
  ⟨x,xs,μ2,R,rx.kp S2,rs,c2,ff,hq.kp (S1.trans S2)⟩⟩⟩
theorem Qay(slot:Slot "str" name gj) (gu:typeOf (.builtin gj)=pure (.type "method_descriptor")) (hm:VMt X gj m) (ho:VE X o to) (ha:VA X (e :: es) t)
  (bp:attributeBase o name X.env (eval o X.env)=eval o X.env:=by rfl)
  (d8:((backTo au (starEach (e :: es) X.env)).all (λx=>!x.1) && (backToKw au (keywordEach [] X.env)).all (λx=>x.1.isSome)
   && decide ((e :: es).length+([]:List Keyword).length+(if([]:List Keyword).isEmpty then 0 else 1) < 30))=true:=by rfl)
  (bo:(bf.endLine==au.line)=true:=by rfl) (hs:starEach (e :: es) X.env=(false,eval e X.env) :: starEach es X.env:=by rfl) (bq:(backTo au (starEach es X.env)).any (·.1)=false:=by rfl) :
  VE X (.Call (.Attribute o name bf) (e :: es) [] au) (vBS m to t) :=
 (Ql PySem.F.plainAttrs_str slot gu hm ho ha bp d8 bo hs bq).imp fun σ H Q zz35=>B4 zz35 fun τ μ R hs hc h hq=>⟨τ,μ,_,hs,hc,h,λx μ1 v H1 S1 c1 rx hx=>⟨by
   obtain⟨hx,_⟩:=hx
   unfold Vp at hx
   split at hx
   ·cases RelA.str rx;rfl
   ·exact hx.elim,τ,μ1,_,hs.kp S1,c1,hx.2,λxs μ2 vs H2 S2 c2 rs hl ff =>
  ⟨x,xs,μ2,R,rx.kp S2,rs,c2,ff,hq.kp (S1.trans S2)⟩⟩⟩
def Kb:AV->AC:=λx xs μ R=>match x,xs with
 | .R a,[y]=>opt (μ a) λm=>match m with
  | .lst ys=>ys.length < sizeLine/\R (.D .none) (Ar μ a (.lst (ys++[y])))
  | _=>False
 | _,_=>False
theorem Da:VMt X "list.append" Kb:=by
 intro aa s σ H x xs v us Q I rx r zz36
 refine Df zz36 λa as μ R ra rs hc h hq=>?_
 unfold Kb at h
 split at h
 ·rename_i a y
  obtain⟨m,ey,h⟩:=A9 h
  split at h
  ·cases rs with
   | cons r1 r2 =>
    cases r2
    obtain⟨o,ho,vs,rfl,rl⟩:=hc _ _ ey
    cases (show x=.ref a from ra)
    exact Ja aa s σ H _ _ v us Q I rx r ⟨a,vs,_,rfl,rfl,ho,by rw [<- rl.length];exact h.1,hq _ _ _ _ (Kp.put ho trivial _) (hc.put ho trivial (Dn (rl.append (.cons r1 .nil)))) J7 h.2⟩
  ·exact h.elim
 ·exact h.elim
def Qaz:AV->AC:=λx xs μ R=>match x,xs with
 | .R a,[]=>opt (μ a) λm=>match m with
  | .lst ys=>opt ys[ys.length - 1]? λy=>R y (Ar μ a (.lst ys.dropLast))
  | _=>False
 | _,_=>False
theorem Qa0:VMt X "list.pop" Qaz:=by
 intro aa s σ H x xs v us Q I rx r zz38
 refine Df zz38 λa as μ R ra rs hc h hq=>?_
 unfold Qaz at h
 split at h
 ·rename_i a
  obtain⟨m,ey,h⟩:=A9 h
  split at h
  ·obtain⟨y,e1,h⟩:=A9 h
   ·cases rs
    obtain⟨o,ho,vs,rfl,rl⟩:=hc _ _ ey
    cases (show x=.ref a from ra)
    obtain⟨z,ez,rz⟩:=rl.get e1
    exact Xg aa s σ H _ _ v us Q I rx r ⟨a,vs,z,rfl,rfl,ho,by rw [<- rl.length];exact ez,hq _ _ _ _ (Kp.put ho trivial _) (hc.put ho trivial (Dn (rl.dropLast))) (rz.kp (Kp.put ho trivial _)) h⟩
  ·exact h.elim
 ·exact h.elim
end
section
variable {X:Cx}{a b c:Expr}{ta tb tc:AE}{pos:Pos}
def kit(S T:String):Bool:=S==T || (S == "bool" && T == "int")
def tyA(μ:M):AV->Option String
 | .D .none=>some "NoneType"
 | .D (.bool _)=>some "bool"
 | .D (.int _)=>some "int"
 | .D (.str _)=>some "str"
 | .D (.list _)=>some "list"
 | .D (.tuple _)=>some "tuple"
 | .D (.dict _)=>none
 | .C _=>some "tuple"
 | .X _ _=>none
 | .R a=>match μ a with
  | some (.lst _)=>some "list"
  | some (.dk _)=>some "dict"
  | some (.dt _)=>some "dict"
  | some (.dd _)=>some "dict"
  | none=>none
def Qes(T:String)(te:AE):AE:=fun τ μ R=>te τ μ λx μ1=>opt (tyA μ1 x) λS=>R (.D (.bool (kit S T))) μ1
def Kits(K:PySem.W.Frag)(T:String):Prop:=∀S∈["NoneType","bool","int","str","list","tuple","dict"],PySem.W.kitOne K (.type S) (.type T)=some (kit S T)
theorem Xv{aa:List (Addr×Obj)}{σ:St}{H:Hp}{s:Shared}{E:Value->Shared->Prop}{Q:Value->Shared->Prop}{μ:M}{x:AV}{v:V}{u:Value}{S T:String}(I:Inv X aa σ H s)(hc:Cn X.K μ H)(rx:RelA X.K H x v)(r:Bi v u)(e:tyA μ x=some S)(hk:Kits X.K T)
  (h:∀tk,Q (.bool (kit S T)) { s with toks:=tk }):wpAny (model X.prog X.w) X.A (call (.builtin "isinstance") [u,.type T]) Q E s:=by
 unfold tyA at e
 split at e
 ·cases e;cases RelA.non rx;cases r;exact Yba PySem.W.kitx_none I.kIn True.intro (hk _ (by decide)) (λz=>nomatch z) h
 ·cases e;cases RelA.bl rx;cases r;exact Yba PySem.W.kitx_bool I.kIn True.intro (hk _ (by decide)) (λz=>nomatch z) h
 ·cases e;cases RelA.int rx;obtain⟨t,rfl⟩:=r;exact Yba PySem.W.kitx_int I.kIn True.intro (hk _ (by decide)) (λz=>nomatch z) h
 ·cases e;cases RelA.str rx;obtain⟨t,rfl⟩:=r;exact Yba PySem.W.kitx_str I.kIn True.intro (hk _ (by decide)) (λz=>nomatch z) h
 ·cases e
  obtain⟨a,vs,rfl,q,_⟩:=RelA.lst rx
  cases r
  obtain⟨_,_,⟨o,n,e1,e2,_⟩,_⟩:=I.list q.sq
  exact Yba PySem.W.kitx_list I.kIn ⟨o,e1,e2⟩ (hk _ (by decide)) (λz=>nomatch z) h
 ·cases e
  obtain⟨a,vs,rfl,q,_⟩:=RelA.tup rx
  cases r
  obtain⟨_,_,⟨o,e1,e2,_⟩,_⟩:=I.tuple q.sq
  exact Yba PySem.W.kitx_tuple I.kIn ⟨o,e1,e2⟩ (hk _ (by decide)) (λz=>nomatch z) h
 ·cases e
 ·cases e
  obtain⟨a,vs,rfl,q,_⟩:=rx
  cases r
  obtain⟨_,_,⟨o,e1,e2,_⟩,_⟩:=I.tuple (q H)
  exact Yba PySem.W.kitx_tuple I.kIn ⟨o,e1,e2⟩ (hk _ (by decide)) (λz=>nomatch z) h
 ·cases e
 ·rename_i a
  cases (show v=.ref a from rx)
  cases r
  split at e
  ·rename_i xs ex
   cases e
   obtain⟨o,ho,vs,rfl,_⟩:=hc _ _ ex
   obtain⟨_,_,⟨o,n,e1,e2,_⟩,_⟩:=I.list (Dq.of ho)
   exact Yba PySem.W.kitx_list I.kIn ⟨o,e1,e2⟩ (hk _ (by decide)) (λz=>nomatch z) h
  ·rename_i xs ex
   cases e
   obtain⟨o,ho,vs,rfl,_⟩:=hc _ _ ex
   obtain⟨_,_,ws,_,p⟩:=(show Bj X.prog X.w H s.heap a (.dK vs) from I.hok a _ ho)
   obtain⟨o,es,ep,h1,h2,_⟩:=p
   exact Yba PySem.W.kitx_dict I.kIn ⟨o,h1,h2.1⟩ (hk _ (by decide)) (λz=>nomatch z) h
  ·rename_i xs ex
   cases e
   obtain⟨o,ho,vs,rfl,_⟩:=hc _ _ ex
   obtain⟨_,_,xs,_,o,es,ep,h1,h2,_⟩:=(show Bj X.prog X.w H s.heap a (.dT vs) from I.hok a _ ho)
   exact Yba PySem.W.kitx_dict I.kIn ⟨o,h1,h2.1⟩ (hk _ (by decide)) (λz=>nomatch z) h
  ·rename_i xs ex
   cases e
   obtain⟨o,ho,vs,rfl,_⟩:=hc _ _ ex
   obtain⟨o,es,ep,h1,h2,_⟩:=(show Bj X.prog X.w H s.heap a (.dd vs) from I.hok a _ ho)
   exact Yba PySem.W.kitx_dict I.kIn ⟨o,h1,h2.1⟩ (hk _ (by decide)) (λz=>nomatch z) h
  ·cases e
theorem Kc{T:String}{x:Str}{p p2:Pos}(hg:Gl X "isinstance") (hm:X.mg "isinstance" = none) (d7:Gl X x) (fi:X.mg x=none) (nj:bootBuiltins x=some (.type T)) (hk:Kits X.K T) (he:VE X a ta)
  (fy:x ≠ "__name__" := by decide) (b0:(x==("__debug__" : Str))=false:=by decide)
  (hs:starEach [a,.Name x p2] X.env=(false,eval a X.env) :: starEach [.Name x p2] X.env:=by rfl) (cr:starEach [.Name x p2] X.env=[(false,eval (.Name x p2) X.env)]:=by rfl) (hpl:(backTo pos (starEach [.Name x p2] X.env)).any (·.1)=false:=by rfl) :
  VE X (.Call (.Name "isinstance" p) [a,.Name x p2] [] pos) (Qes T ta):=by
 intro aa s σ H Q I zz40
 refine B4 zz40 fun τ μ R bg hc h hq=>?_
 refine Ya6 (C4 I hg hm Ydr ?_)
 refine Ybi ?_ hs hpl
 rw [hs]
 refine Ya3 (thn (he aa s σ H (λv H1=>∃x μ1 S,Kp H H1/\Cn X.K μ1 H1/\RelA X.K H1 x v/\tyA μ1 x=some S/\R (.D (.bool (kit S T))) μ1) I ⟨τ,μ,_,bg,hc,h,λx μ1 v H1 S1 c1 rx hx=>?_⟩) λu s1 oo=>?_)
 ·obtain⟨S,e,hx⟩:=A9 hx
  exact⟨x,μ1,S,S1,c1,rx,e,hx⟩
 obtain⟨v,H1,I1,r1,x,μ1,S,S1,c1,rx,ty,q1⟩:=oo
 rw [cr]
 refine Ya3 (C4 I1 d7 fi nj (Ybq ?_) fy b0)
 exact Xv I1 c1 rx r1 ty hk λtk=>⟨.bl _,H1,I1.tok _,rfl,hq _ _ _ _ S1 c1 C7 q1⟩
abbrev ASp:=List AV->M->(AV->M->Prop)->Prop
def Ih(K:PySem.W.Frag)(n:Nat)(sp:ASp):Sp:=λvs H Q _=>∃xs μ R,xs.length=n/\Av K H xs vs/\Cn K μ H/\sp xs μ R/\LV K H R Q
def VCal(P:Program)(w:World)(K:PySem.W.Frag)(mg:Str->Option Value)(base:Heap)(k:Nat)(x:Str)(ps:List Str)(sp:ASp):Prop:=Cal P w K mg base k x ps (Ih K ps.length sp)
def Lh(n:Nat)(sp:ASp)(t:AA):AE:=fun τ μ R=>t τ μ λxs μ1=>sp xs μ1 R
variable {x:Str}{p:Pos}{e:Expr}{es:List Expr}{t:AA}{k:Nat}{ps:List Str}{sp:ASp}
theorem Ak(F:VCal X.prog X.w X.K X.mg X.base k x ps sp)(hr:Room k X.A)(hg:Gl X x)(ha:VA X (e :: es) t)(hl:(e :: es).length=ps.length:=by rfl)(hdb:(x==("__debug__" : Str))=false:=by decide)
  (bg:starEach (e :: es) X.env=(false,eval e X.env) :: starEach es X.env:=by rfl) (hpl:(backTo pos (starEach es X.env)).any (·.1)=false:=by rfl):VE X (.Call (.Name x p) (e :: es) [] pos) (Lh ps.length sp t):=by
 obtain⟨g,gd,G,gb,gk,gm⟩:=F
 refine PE.imp (Nf (E:=E0) G hr hg gm gk gb .nil Vk ha (hdb:=hdb) (he:=bg) (hpl:=hpl)) fun σ H Q zz41=>B4 zz41 fun τ μ R hs hc h hq=>?_
 exact⟨τ,μ,_,hs,hc,h,λxs μ1 vs H1 S1 c1 rs hn hx=>⟨xs,μ1,R,hn.trans hl,by rw [Ybs];exact rs,c1,hx,hq.kp S1⟩⟩
def Qa2:AS:=λk _ _ _ τ μ=>k τ μ
def Pb(t u:AS):AS:=λk r b c τ μ=>t (u k r b c) r b c τ μ
variable {st:Stmt}{rest:List Stmt}{s1 s2:AS}
theorem A0:VSs X [] Qa2:=Ta.imp λD σ H zz43=>Eu zz43 fun τ μ nk nr nb nc hs hc h hq=>hq.nx _ _ _ _ Kp.refl hs hc h
theorem Ae(h1:VS X st s1)(h2:VSs X rest s2):VSs X (st :: rest) (Pb s1 s2):=(Ha h1 h2).imp λD σ H zz44=>Eu zz44 fun τ μ nk nr nb nc hs hc h hq =>
 ⟨τ,μ,_,_,_,_,hs,hc,h,⟨fun τ' μ' σ' H' S' cv cj h'=>⟨τ',μ',nk,nr,nb,nc,cv,cj,h',hq.kp S'⟩,hq.rt,hq.bk,hq.ct⟩⟩
theorem Ai(h1:VS X st s1):VSs X [st] s1:=Jr h1
def Vq(te:AE):AS:=λk _ _ _ τ μ=>te τ μ λ_ μ1=>k τ μ1
theorem Cj(he:VE X a ta)(hs:swapsWith a none pos.line X.env=pure false:=by rfl):VS X (.Expr a pos) (Vq ta):=(Tb he hs).imp λD σ H zz48=>Eu zz48 fun τ μ nk nr nb nc hs hc h hq =>
 ⟨τ,μ,_,hs,hc,h,λx μ1 v H1 S1 c1 rx hx=>hq.nx _ _ _ _ S1 (hs.kp S1) c1 hx⟩
def Qa3(te:AE):AS:=λ_ r _ _ τ μ=>te τ μ r
theorem Bd(he:VE X a ta):VS X (.Return (some a) pos) (Qa3 ta):=(Wt he).imp λD σ H zz49=>Eu zz49 fun τ μ nk nr nb nc hs hc h hq=>⟨τ,μ,_,hs,hc,h,hq.rt⟩
def Qet(ct:AT)(t u:AS):AS:=λk r b c τ μ=>ct τ μ λx μ1=>brP x (t k r b c τ μ1) (u k r b c τ μ1)
theorem Bn{c:Expr}{a b:List Stmt}{tc:AT}(hc:VT X c tc)(ha:VSs X a s1)(hb:VSs X b s2):VS X (.If c a b pos) (Qet tc s1 s2):=(Zq hc ha hb).imp λD σ H zz51=>Eu zz51 fun τ μ nk nr nb nc hs hc h hq =>
 ⟨τ,μ,_,hs,hc,h,λk μ1 H1 S1 c1 hk=>by
  rcases br_e hk with⟨rfl,hk'⟩ | ⟨rfl,hk'⟩
  ·exact⟨τ,μ1,nk,nr,nb,nc,hs.kp S1,c1,hk',hq.kp S1⟩
  ·exact⟨τ,μ1,nk,nr,nb,nc,hs.kp S1,c1,hk',hq.kp S1⟩⟩
def Ch(i:Nat):AG:=λv τ μ R=>R (τ.set i (some v)) μ
theorem Am{i:Nat}{x:Str}(hN:X.N.Nodup)(hi:X.N[i]?=some x)(hx:Loc X.env.scope x)(hf:X.fn x=true\/X.env.scope.names.lookup x=some .local:=by first | exact .inl rfl | exact .inr rfl | assumption):VG X (.Name x pos) (Ch i) :=
 (Tc hN hi hx hf).imp λv σ H Q zz54=>Df zz54 λx τ μ R rx hs hc h hq=>hq _ _ _ _ Kp.refl (hs.set rx i) hc h
def Qeu:AGs:=λvs τ μ R=>match vs with
 | []=>R τ μ
 | _ :: _=>False
def Qa4(t:AG)(u:AGs):AGs:=λvs τ μ R=>match vs with
 | []=>False
 | v :: r=>t v τ μ fun τ' μ'=>u r τ' μ' R
theorem Ck:VGs X [] Qeu:=Td.imp λvs σ H Q zz55=>Df zz55 λxs τ μ R rx hs hc h hq=>by
 cases rx with
 | nil=>exact⟨rfl,hq _ _ _ _ Kp.refl hs hc h⟩
 | cons=>exact h.elim
theorem Ay{e:Expr}{es:List Expr}{t:AG}{u:AGs}(h1:VG X e t)(h2:VGs X es u)
  (hs:(assignEach (e :: es) X.env).map (·.2)=assign e X.env :: (assignEach es X.env).map (·.2):=by rfl):VGs X (e :: es) (Qa4 t u):=(Pz h1 h2 hs).imp λvs σ H Q zz56=>Df zz56 λxs τ μ R rx hs hc h hq=>by
 cases rx with
 | nil=>exact h.elim
 | cons r1 r2=>exact⟨_,_,rfl,_,τ,μ,_,r1,hs,hc,h,fun τ' μ' σ' H' S' cv cj h'=>⟨_,τ',μ',R,Av.kp S' r2,cv,cj,h',hq.kp S'⟩⟩
def Qa5(n:Nat)(t:AGs):AG:=λv τ μ R=>match v with
 | .D (.tuple ds)=>ds.length=n/\t (ds.map .D) τ μ R
 | _=>False
theorem C5{es:List Expr}{k:Nat}{t:AGs}{n:Nat}(jb:X.calm=true)(h:VGs X es t)
  (hn:(assignEach es X.env).length=n:=by rfl) (bg:(assignEach es X.env).findIdx? (·.1)=none:=by rfl):VG X (.Tuple es k pos) (Qa5 n t):=(Wu jb h hn bg).imp λv σ H Q zz57=>Df zz57 λx τ μ R rx hs hc h hq=>by
 unfold Qa5 at h
 split at h
 ·obtain⟨a,vs,rfl,q,r⟩:=RelA.tup rx
  exact⟨a,vs,rfl,q.sq,by rw [r.length];exact h.1,_,τ,μ,R,r.rel,hs,hc,h.2,hq⟩
 ·exact h.elim
def Qgk(o i v:AV)(μ:M)(R:M->Prop):Prop:=match o,i with
 | .R a,.D (.int k)=>opt (μ a) λm=>match m with
  | .lst xs=>opt (To xs.length k) λj=>R (Ar μ a (.lst (xs.set j v)))
  | _=>False
 | _,_=>False
def Kd(te:AE)(g:AG):AS:=λk _ _ _ τ μ=>te τ μ λx μ1=>g x τ μ1 k
theorem Rn{K:PySem.W.Frag}{te:AE}{g:AG}{D:Ends}{σ:St}{H:Hp}(h:cS K (Kd te g) D σ H):Te (cE K te) (cG K g) D σ H:=by
 obtain⟨τ,μ,nk,nr,nb,nc,hs,hc,h,hq⟩:=h
 exact⟨τ,μ,_,hs,hc,h,λx μ1 v H1 S1 c1 rx hx=>⟨x,τ,μ1,_,rx,hs.kp S1,c1,hx,hq.nx.kp S1⟩⟩
theorem Fb{tg:Expr}{g:AG}(he:VE X a ta)(hg:VG X tg g)(hs:swapsWithSole [tg] a pos.line X.env=pure false:=by rfl)(hw:swappedStores [tg] a X.env=pure none:=by rfl)
  (h1:(assignEach [tg] X.env).map (·.2)=[assign tg X.env]:=by rfl):VS X (.Assign [tg] a pos) (Kd ta g):=(Wv he hg hs hw h1).imp λ_ _ _ h=>Rn h
theorem An{i:Nat}{x:Str}{be:Pos}(hN:X.N.Nodup)(hi:X.N[i]?=some x)(hx:Loc X.env.scope x)(he:VE X a ta)(hs:swapsWith a (some (.Name x be)) pos.line X.env=pure false:=by rfl)(hf:X.fn x=true\/X.env.scope.names.lookup x=some .local:=by first | exact .inl rfl | exact .inr rfl | assumption) :
  VS X (.Assign [.Name x be] a pos) (Kd ta (Ch i)):=(Ww hN hi hx he hs hf).imp λD σ H zz59=>Eu zz59 fun τ μ nk nr nb nc hs hc h hq =>
 ⟨τ,μ,_,hs,hc,h,λx μ1 v H1 S1 c1 rx hx=>hq.nx _ _ _ _ S1 ((hs.kp S1).set rx i) c1 hx⟩
def Qa6(i j:Nat)(t:AA):AS:=λk _ _ _ τ μ=>t τ μ λxs μ1=>match xs with
 | [v,w]=>k ((τ.set i (some v)).set j (some w)) μ1
 | _=>False
theorem Xw{i j:Nat}{x y:Str}{t:AA}{px py pt:Pos}{kt k2 pt2}(hc:X.calm=true)(hN:X.N.Nodup)(hi:X.N[i]?=some x)(hj:X.N[j]?=some y)(gw:i≠j)(hx:X.env.scope.names.lookup x=some .local)(hy:X.env.scope.names.lookup y=some .local)(ha:VA X [a,b] t)
  (hw:swappedStores [.Tuple [.Name x px,.Name y py] kt pt] (.Tuple [a,b] k2 pt2) X.env=pure (some [x,y])) (hs:swapsWithSole [.Tuple [.Name x px,.Name y py] kt pt] (.Tuple [a,b] k2 pt2) pos.line X.env=pure false:=by rfl) :
  VS X (.Assign [.Tuple [.Name x px,.Name y py] kt pt] (.Tuple [a,b] k2 pt2) pos) (Qa6 i j t):=(Wx hc hN hi hj gw hx hy ha hw hs).imp λD σ H zz60=>Eu zz60 fun τ μ nk nr nb nc hs hc h hq =>
 ⟨τ,μ,_,hs,hc,h,λxs μ1 vs H1 S1 c1 rs hl hx=>by
  split at hx
  ·cases rs with
   | cons r1 r2 =>
    cases r2 with
    | cons r2 r3 =>
     cases r3
     exact⟨_,_,rfl,hq.nx _ _ _ _ S1 (((hs.kp S1).set r1 i).set r2 j) c1 hx⟩
  ·exact hx.elim⟩
def Qa7(i j l:Nat)(t:AA):AS:=λk _ _ _ τ μ=>t τ μ λxs μ1=>match xs with
 | [u,v,w]=>k (((τ.set i (some u)).set j (some v)).set l (some w)) μ1
 | _=>False
theorem Ug{i j l:Nat}{x y z:Str}{t:AA}{px py pz pt:Pos}{kt k2 pt2}(hc:X.calm=true)(hN:X.N.Nodup)(hi:X.N[i]?=some x)(hj:X.N[j]?=some y)(hl:X.N[l]?=some z)(gw:i≠j)(yg:i≠l)(yl:j≠l)
  (hx:X.env.scope.names.lookup x=some .local) (hy:X.env.scope.names.lookup y=some .local) (hz:X.env.scope.names.lookup z=some .local) (ha:VA X [a,b,c] t)
  (hw:swappedStores [.Tuple [.Name x px,.Name y py,.Name z pz] kt pt] (.Tuple [a,b,c] k2 pt2) X.env=pure (some [x,y,z]))
  (hs:swapsWithSole [.Tuple [.Name x px,.Name y py,.Name z pz] kt pt] (.Tuple [a,b,c] k2 pt2) pos.line X.env=pure false:=by rfl) :
  VS X (.Assign [.Tuple [.Name x px,.Name y py,.Name z pz] kt pt] (.Tuple [a,b,c] k2 pt2) pos) (Qa7 i j l t):=(T5 hc hN hi hj hl gw yg yl hx hy hz ha hw hs).imp λD σ H zz61=>Eu zz61 fun τ μ nk nr nb nc hs hc h hq =>
 ⟨τ,μ,_,hs,hc,h,λxs μ1 vs H1 S1 c1 rs hl hx=>by
  split at hx
  ·cases rs with
   | cons r1 r2 =>
    cases r2 with
    | cons r2 r3 =>
     cases r3 with
     | cons r3 r4 =>
      cases r4
      exact⟨_,_,_,rfl,hq.nx _ _ _ _ S1 ((((hs.kp S1).set r1 i).set r2 j).set r3 l) c1 hx⟩
  ·exact hx.elim⟩
def wl(c:AT)(tb:AS)(k:ASt->M->Prop)(r:AV->M->Prop):Nat->ASt->M->Prop
 | 0=>λ_ _=>False
 | n+1=>fun τ μ=>c τ μ λx μ1=>brP x (tb (wl c tb k r n) r k (wl c tb k r n) τ μ1) (k τ μ1)
def Xx(c:AT)(tb:AS):AS:=λk r _ _ τ μ=>∃n,wl c tb k r n τ μ
theorem Ro{c:Expr}{body:List Stmt}{tc:AT}{tb:AS}(hp:PassesOwn (model X.prog X.w) X.A X.env X.xe)(hc:VT X c tc)(hb:VSs X body tb):VS X (.While c body [] pos) (Xx tc tb):=(P0 hp hc hb).imp λD σ H zw=>Eu zw fun τ μ nk nr nb nc hs hc zh hq=>by
 obtain⟨n,h⟩:=zh
 refine⟨λm σ1 H1=>∃ τ1 μ1,Kp H H1/\Cy X.K H1 τ1 σ1/\Cn X.K μ1 H1/\wl tc tb nk nr m τ1 μ1,⟨n,τ,μ,Kp.refl,hs,hc,h⟩,?_⟩
 rintro m σ1 H1 ⟨τ1,μ1,S1,cm,hc1,h1⟩
 cases m with
 | zero=>exact h1.elim
 | succ m =>
  refine⟨τ1,μ1,_,cm,hc1,h1,λk μ2 H2 S2 c2 hk=>?_⟩
  rcases br_e hk with⟨rfl,hk'⟩ | ⟨rfl,hk'⟩
  ·rw [Yaq rfl]
   refine⟨fun σ' H'=>∃ τ' μ',Kp H H'/\Cy X.K H' τ' σ'/\Cn X.K μ' H'/\wl tc tb nk nr m τ' μ',fun σ' H' ⟨τ',μ',q⟩=>⟨m,Ydi _,τ',μ',q⟩,τ1,μ2,_,_,_,_,cm.kp S2,c2,hk',?_⟩
   have S:=S1.trans S2
   exact⟨fun τ' μ' σ' H' S' cv cj h'=>⟨τ',μ',S.trans S',cv,cj,h'⟩,hq.rt.kp S,hq.nx.kp S,fun τ' μ' σ' H' S' cv cj h'=>⟨τ',μ',S.trans S',cv,cj,h'⟩⟩
  ·rw [Yan Yas]
   exact hq.nx _ _ _ _ (S1.trans S2) (cm.kp S2) c2 hk'
structure ItOk(K:PySem.W.Frag)(H0:Hp)(J:It)(xs:List AV)(kp:M->Prop):Prop where
 go:∀i H μ,Kp H0 H->Cn K μ H->kp μ->i < xs.length->J.go i H
 yld:∀i H μ v H' x,Kp H0 H->Cn K μ H->kp μ->xs[i]?=some x->J.yld i H v H'->Kp H H'/\Cn K μ H'/\RelA K H' x v
 stop:∀H μ,Kp H0 H->Cn K μ H->kp μ->J.stop xs.length H
abbrev AI:=ASt->M->(List AV->(M->Prop)->M->Prop)->Prop
def cI(K:PySem.W.Frag)(wi:AI):TI:=fun σ H R=>∃ τ μ R',Cy K H τ σ/\Cn K μ H/\wi τ μ R'/\∀xs kp μ' J H',Kp H H'->Cn K μ' H'->ItOk K H' J xs kp->R' xs kp μ'->R J H'
def VI(X:Cx)(tg ap:Expr)(wi:AI):Prop:=PI X tg ap (cI X.K wi)
theorem PI.imp{tg e:Expr}{t u:TI}(h:PI X tg e t)(i:∀ σ H Q,u σ H Q->t σ H Q):PI X tg e u:=λaa s σ H Q I q=>h aa s σ H Q I (i σ H Q q)
theorem Pc{K:PySem.W.Frag}{H0:Hp}{a:Addr}{xs:List AV}{kp:M->Prop}(h:∀H μ,Kp H0 H->Cn K μ H->kp μ->∃vs,Dq K H a vs/\Av K H xs vs):ItOk K H0 (Itl K a) xs kp:=by
 refine⟨λi H μ S c k hi=>?_,λi H μ v H' x S c k e y=>?_,λH μ S c k=>?_⟩
 ·obtain⟨vs,q,r⟩:=h H μ S c k
  exact⟨vs,vs[i]'(by rw [<- r.length];exact hi),q,List.getElem?_eq_getElem _⟩
 ·obtain⟨vs,q,r⟩:=h H μ S c k
  obtain⟨rfl,y⟩:=y
  obtain⟨u,eu,ru⟩:=r.get e
  rw [y vs q]at eu
  cases eu
  exact⟨Kp.refl,c,ru⟩
 ·obtain⟨vs,q,r⟩:=h H μ S c k
  exact⟨vs,q,by rw [r.length];exact Yaf _⟩
theorem Lj{K:PySem.W.Frag}{H0:Hp}{a:Addr}{xs:List AV}{kp:M->Prop}(h:∀H μ,Kp H0 H->Cn K μ H->kp μ->∃vs,Fw K H a vs/\Av K H xs vs):ItOk K H0 (Itt K a) xs kp:=by
 refine⟨λi H μ S c k hi=>?_,λi H μ v H' x S c k e y=>?_,λH μ S c k=>?_⟩
 ·obtain⟨vs,q,r⟩:=h H μ S c k
  exact⟨vs,vs[i]'(by rw [<- r.length];exact hi),q,List.getElem?_eq_getElem _⟩
 ·obtain⟨vs,q,r⟩:=h H μ S c k
  obtain⟨rfl,y⟩:=y
  obtain⟨u,eu,ru⟩:=r.get e
  rw [y vs q]at eu
  cases eu
  exact⟨Kp.refl,c,ru⟩
 ·obtain⟨vs,q,r⟩:=h H μ S c k
  exact⟨vs,q,by rw [r.length];exact Yaf _⟩
variable {tg:Expr}
def Db(lo:Int):Nat->List AV
 | 0=>[]
 | n+1=>.D (.int lo) :: Db (lo+1) n
theorem Bo:∀(n:Nat) (lo:Int),(Db lo n).length=n
 | 0,_=>rfl
 | n+1,lo=>by rw [Db,Ya9,Bo n]
theorem Dd:∀(n:Nat) (lo:Int) (i:Nat) {x:AV},(Db lo n)[i]?=some x->x=.D (.int (lo+i))
 | 0,_,_,_,h=>by simp [Db]at h
 | n+1,lo,0,_,h=>by simp [Db]at h;rw [<- h];simp
 | n+1,lo,i+1,_,h=>by
  rw [Db,List.getElem?_cons_succ]at h
  rw [Dd n (lo+1) i h]
  congr 2
  omega
theorem Rp{K:PySem.W.Frag}{H0:Hp}{lo:Int}{n:Nat}:ItOk K H0 (Itr lo n) (Db lo n) (λ_=>True):=by
 refine⟨λi H μ S c k hi=>?_,λi H μ v H' x S c k e y=>?_,λH μ S c k=>?_⟩
 ·show i < n
  rw [Bo]at hi;exact hi
 ·obtain⟨rfl,rfl⟩:=y
  rw [Dd n lo i e]
  exact⟨Kp.refl,c,Co⟩
 ·show n<=_
  rw [Bo];exact Yaf _
def Vr(t:AA):AI:=fun τ μ R=>t τ μ λxs μ1=>match xs with
 | [.D (.int j)]=>-(2 ^ 62)<=j/\j < 2 ^ 62/\R (Db 0 j.toNat) (λ_=>True) μ1
 | _=>False
theorem Bt{t:AA}{p:Pos}(hg:Gl X "range") (hm:X.mg "range" = none) (ha:VA X [a] t) (hs:starEach [a] X.env=[(false,eval a X.env)]:=by rfl):VI X tg (.Call (.Name "range" p) [a] [] pos) (Vr t) :=
 (Op hg hm ha hs).imp fun σ H Q zz62=>B4 zz62 fun τ μ R hs hc h hq=>⟨τ,μ,_,hs,hc,h,λxs μ1 vs H1 S1 c1 rs hl hx=>by
  split at hx
  ·cases rs with
   | cons r1 r2 =>
    cases r2
    cases RelA.int r1
    exact⟨_,rfl,hx.1,hx.2.1,hq _ _ _ _ _ S1 c1 Rp hx.2.2⟩
  ·exact hx.elim⟩
def fl(g:AG)(tb:AS)(k:ASt->M->Prop)(r:AV->M->Prop)(kp:M->Prop):List AV->ASt->M->Prop
 | []=>fun τ μ=>kp μ/\k τ μ
 | x :: xs=>fun τ μ=>kp μ/\g x τ μ fun τ2 μ2=>tb (fl g tb k r kp xs) r k (fl g tb k r kp xs) τ2 μ2
def Qev(wi:AI)(g:AG)(tb:AS):AS:=λk r _ _ τ μ=>wi τ μ λxs kp μ1=>fl g tb k r kp xs τ μ1
theorem Qa8{g:AG}{tb:AS}{k:ASt->M->Prop}{r:AV->M->Prop}{kp:M->Prop}{xs:List AV}{τ:ASt}{μ:M}(h:fl g tb k r kp xs τ μ):kp μ:=by
 cases xs with
 | nil=>exact h.1
 | cons x xs=>exact h.1
theorem C6{ap:Expr}{body:List Stmt}{wi:AI}{g:AG}{tb:AS}(hp:PassesOwn (model X.prog X.w) X.A X.env X.xe)(jb:X.calm=true)(hi:VI X tg ap wi)(hg:VG X tg g)(hb:VSs X body tb)(hfs:∀x,foldedSetIterable ap X.env x=pure x:=by intro _;rfl) :
  VS X (.For tg ap body [] pos) (Qev wi g tb):=(Wz hp jb hi hg hb hfs).imp λD σ H zz64=>Eu zz64 fun τ μ nk nr nb nc hs hc h hq=>by
 refine⟨τ,μ,_,hs,hc,h,λxs kp μ0 J H0 S0 c0 it h0=>?_⟩
 refine Xl xs.length (λi σ1 H1=>∃ τ1 μ1,Kp H0 H1/\Cy X.K H1 τ1 σ1/\Cn X.K μ1 H1/\fl g tb nk nr kp (xs.drop i) τ1 μ1) ⟨τ,μ0,Kp.refl,hs.kp S0,c0,h0⟩ ?_ ?_ ?_
 ·rintro i σ1 H1 hi ⟨τ1,μ1,S1,cm,hc1,h1⟩
  exact it.go i H1 μ1 S1 hc1 (Qa8 h1) hi
 ·rintro σ1 H1 ⟨τ1,μ1,S1,cm,hc1,h1⟩
  rw [Ycp]at h1
  exact⟨it.stop H1 μ1 S1 hc1 h1.1,hq.nx _ _ _ _ (S0.trans S1) cm hc1 h1.2⟩
 ·rintro i v σ1 H1 H2 hi ⟨τ1,μ1,S1,cm,hc1,h1⟩ y
  rw [Yb3 hi]at h1
  obtain⟨hk,h1⟩:=h1
  obtain⟨S2,c2,rx⟩:=it.yld i H1 μ1 v H2 _ S1 hc1 hk (List.getElem?_eq_getElem hi) y
  refine⟨_,τ1,μ1,_,rx,cm.kp S2,c2,h1,fun τ3 μ3 σ3 H3 S3 hs3 hc3 h3=>⟨τ3,μ3,_,_,_,_,hs3,hc3,h3,?_⟩⟩
  have S:Kp H0 H3:=S1.trans (S2.trans S3)
  exact⟨fun τ' μ' σ' H' S' cv cj h'=>⟨τ',μ',S.trans S',cv,cj,h'⟩,hq.rt.kp (S0.trans S),hq.nx.kp (S0.trans S),fun τ' μ' σ' H' S' cv cj h'=>⟨τ',μ',S.trans S',cv,cj,h'⟩⟩
def VIfs(X:Cx)(cp:List Expr)(t:AT):Prop:=PIfs X cp (cT X.K t)
def Xy:AT:=λ_ μ R=>R true μ
theorem Bx:VIfs X [] Xy:=λaa s σ H Q I zz65=>B4 zz65 fun τ μ R hs hc h hq=>Qs aa s σ H Q I (hq _ _ _ Kp.refl hc h)
theorem C3{t:AT}(h:VT X a t):VIfs X [a] t:=Qt h
def cl(p:Addr)(g:AG)(tst:AT)(te:AE)(kp:M->Prop)(R:M->Prop):List AV->List AV->ASt->M->Prop
 | []=>λ_ _ μ=>kp μ/\R μ
 | x :: xs=>λah τ μ=>kp μ/\g x τ μ fun τ1 μ1=>tst τ1 μ1 λk μ2 =>
  brP k (te τ1 μ2 λv μ3=>μ3 p=some (.lst ah)/\ah.length < sizeLine/\cl p g tst te kp R xs (ah++[v]) τ1 (Ar μ3 p (.lst (ah++[v])))) (cl p g tst te kp R xs ah τ1 μ2)
def Nu(mp:List (Option Nat))(wi:AI)(g:AG)(tst:AT)(te:AE):AE:=fun τ μ R=>wi τ μ λxs kp μ1=>∀p,μ1 p=none->cl p g tst te kp (fun μ2=>R (.R p) μ2) xs [] (Qar mp τ) (Ar μ1 p (.lst []))
theorem Qa9{p:Addr}{g:AG}{tst:AT}{te:AE}{kp:M->Prop}{R:M->Prop}{xs ah:List AV}{τ:ASt}{μ:M}(h:cl p g tst te kp R xs ah τ μ):kp μ:=by
 cases xs with
 | nil=>exact h.1
 | cons x xs=>exact h.1
theorem Ji{K:PySem.W.Frag}{mp:List (Option Nat)}{wi:AI}{g:AG}{tst:AT}{te:AE}{σ:St}{H:Hp}{Q:VK}(h:cE K (Nu mp wi g tst te) σ H Q):Qv mp (cI K wi) (cG K g) (cT K tst) (cE K te) σ H Q:=by
 obtain⟨τ,μ,R,hs,hc,h,hq⟩:=h
 refine⟨τ,μ,_,hs,hc,h,λxs kp μ0 J H0 S0 c0 it h0=>?_⟩
 intro p hp
 have h0:=h0 p (c0.none hp)
 have c0':Cn K (Ar μ0 p (.lst [])) (upd H0 p (.lst [])):=c0.new hp (Dn (.nil))
 have S0':Kp H0 (upd H0 p (.lst [])):=Kp.new hp _
 refine T2 xs.length (λi ah σ1 H1=>∃ τ1 μ1 as,Kp H0 H1/\Cy K H1 τ1 σ1/\Cn K μ1 H1/\Av K H1 as ah/\cl p g tst te kp (fun μ2=>R (.R p) μ2) (xs.drop i) as τ1 μ1) ⟨_,_,[],S0',((hs.kp S0).kp S0').sub mp,c0',.nil,h0⟩ ?_ ?_ ?_
 ·rintro i ah σ1 H1 hi ⟨τ1,μ1,as,S1,cm,hc1,ra,h1⟩
  exact it.go i H1 μ1 S1 hc1 (Qa9 h1) hi
 ·rintro ah σ1 H1 ⟨τ1,μ1,as,S1,cm,hc1,ra,h1⟩
  rw [Ycp]at h1
  exact⟨it.stop H1 μ1 S1 hc1 h1.1,hq _ _ _ _ (S0.trans S1) hc1 Eh h1.2⟩
 ·rintro i v ah σ1 H1 H2 hi ⟨τ1,μ1,as,S1,cm,hc1,ra,h1⟩ y
  rw [Yb3 hi]at h1
  obtain⟨hk,h1⟩:=h1
  obtain⟨S2,c2,rx⟩:=it.yld i H1 μ1 v H2 _ S1 hc1 hk (List.getElem?_eq_getElem hi) y
  refine⟨_,τ1,μ1,_,rx,cm.kp S2,c2,h1,fun τ3 μ3 σ3 H3 S3 hs3 hc3 h3=>⟨τ3,μ3,_,hs3,hc3,h3,λk μ4 H4 S4 c4 h4=>?_⟩⟩
  rcases br_e h4 with⟨rfl,h4'⟩ | ⟨rfl,h4'⟩
  ·rw [Yaq rfl]
   refine⟨τ3,μ4,_,hs3.kp S4,c4,h4',λw μ5 u H5 S5 c5 rw h5=>?_⟩
   obtain⟨e5,hl,h5⟩:=h5
   obtain⟨o,ho,vs,rfl,rs⟩:=c5 _ _ e5
   have S:Kp H1 H5:=S2.trans (S3.trans (S4.trans S5))
   exact⟨vs,ho,by rw [<- rs.length];exact hl,τ3,_,_,(S1.trans S).trans (Kp.put ho trivial _),(hs3.kp (S4.trans S5)).kp (Kp.put ho trivial _),c5.put ho trivial (Dn (rs.append (.cons rw .nil))),(rs.append (.cons rw .nil)).kp (Kp.put ho trivial _),h5⟩
  ·rw [Yan Yas]
   have S:Kp H1 H4:=S2.trans (S3.trans S4)
   exact⟨τ3,μ4,as,S1.trans S,hs3.kp S4,c4,ra.kp S,h4'⟩
variable {N':List Str}{mp:List (Option Nat)}{de ap:Expr}{cp:List Expr}{scope:Scope}{wi:AI}{g:AG}{tst:AT}{te:AE}
theorem Bz(hc:X.calm=true)(hi:VI X tg ap wi)(hg:∀C s H fp,VG (Bu X N' scope C s H fp) tg g)(ht:∀C s H fp,VIfs (Bu X N' scope C s H fp) cp tst)(he:∀C s H fp,VE (Bu X N' scope C s H fp) de te)
  (ok:CompOk X.N X.env.scope.names scope.names N' mp) (hk:scope.kind=.function:=by rfl) (hs:∀x,foldedSetIterable ap X.env x=pure x:=by intro _;rfl) :
  VE X (.ListComp de [⟨tg,ap,cp,0⟩] scope pos) (Nu mp wi g tst te):=(T0 (g:=cG X.K g) (tst:=cT X.K tst) (te:=cE X.K te) hc hi (λC s H fp=>hg C s H fp) (λC s H fp=>ht C s H fp) (λC s H fp=>he C s H fp) ok hk hs).imp λ_ _ _ h=>Ji h
theorem Fm{i:Nat}{y:Str}{py fx:Pos}(hc:X.calm=true)(hN:X.N.Nodup)(zy:X.N[i]?=some y)(hy:X.env.scope.names.lookup y=some .local)
  (hi:VI X tg ap wi) (hg:∀C s H fp,VG (Bu X N' scope C s H fp) tg g) (ht:∀C s H fp,VIfs (Bu X N' scope C s H fp) cp tst) (he:∀C s H fp,VE (Bu X N' scope C s H fp) de te)
  (ok:CompOk X.N X.env.scope.names scope.names N' mp) (uf:swapsWith (.ListComp de [⟨tg,ap,cp,0⟩] scope pos) (some (.Name y py)) fx.line X.env=pure true:=by rfl)
  (hk:scope.kind=.function:=by rfl) (hs:∀x,foldedSetIterable ap X.env x=pure x:=by intro _;rfl) :
  VS X (.Assign [.Name y py] (.ListComp de [⟨tg,ap,cp,0⟩] scope pos) fx) (Kd (Nu mp wi g tst te) (Ch i)):=(T1 (g:=cG X.K g) (tst:=cT X.K tst) (te:=cE X.K te) hc hN zy hy hi (λC s H fp=>hg C s H fp) (λC s H fp=>ht C s H fp) (λC s H fp=>he C s H fp) ok uf hk hs).imp λD σ H zz66=>Eu zz66 fun τ μ nk nr nb nc hs hc h hq =>
 Ji (K:=X.K) ⟨τ,μ,_,hs,hc,h,λx μ1 v H1 S1 c1 rx hx=>hq.nx _ _ _ _ S1 ((hs.kp S1).set rx i) c1 hx⟩
end
section
variable {P:Program}{w:World}{K:PySem.W.Frag}{mg:Str->Option Value}{base:Heap}
def aNx(R:AV->M->Prop):ASt->M->Prop:=λ_ μ'=>∃ ν,Sub ν μ'/\R (.D .none) ν
def Uh(R:AV->M->Prop):AV->M->Prop:=λv μ'=>∃ ν,Sub ν μ'/\R v ν
def Nv:ASt->M->Prop:=λ_ _=>False
theorem Fun.vok{x qual:Str}{st:Stmt}{f:Addr}{fd:FuncData}{N ps:List Str}{k:Nat}{sp:ASp}(F:Fun K x qual st f fd)(S:FnScope N ps (Ag st))
  (bw:∀(aq:Value) (A:Around) (outer:List Env) (s:Shared) (H:Hp) (E:XK),Room k (A.deeper (envOfC qual (Ag st) s.heap.objs.size f aq)) ->
   ∃t,VSs (Fz En P w K mg base N qual (Ag st) f aq A outer s H E).nox (A5 st) t/\∀xs μ R,xs.length=ps.length->sp xs μ R->t (aNx R) (Uh R) Nv Nv (C0 N xs) μ):FnOk P w K mg base En (k+1) f fd ps (Ih K ps.length sp):=by
 refine F.ok S (λvs H Q E h=>?_) (λaq A outer s H vs Q E hr h=>?_)
 ·obtain⟨xs,μ,R,hl,rs,_⟩:=h
  rw [<- rs.length];exact hl
 ·obtain⟨xs,μ,R,hl,rs,hc,eh,hq⟩:=h
  obtain⟨t,ht,h⟩:=bw aq A outer s H E hr
  refine⟨_,ht,C0 N xs,μ,_,_,_,_,Cy.begin rs,hc,h xs μ R hl eh,⟨fun τ μ' σ H' S' _ c zz67=>Oj zz67 fun ν hν r=>?_,λv μ' u H' S' c rv zz68=>Oj zz68 fun ν hν r=>?_,λ_ _ _ _ _ _ _ h=>h.elim,λ_ _ _ _ _ _ _ h=>h.elim⟩⟩
  ·exact hq _ _ _ _ S' (c.sub hν) J7 r
  ·exact hq _ _ _ _ S' (c.sub hν) rv r
end
section
variable {X:Cx}{a b c:Expr}{ta tb tc:AE}{pos:Pos}{tg:Expr}
def Qex(t:AE):AI:=fun τ μ R=>t τ μ λx μ1=>opt (items μ1 x) λxs=>R xs (fun μ=>items μ x=some xs) μ1
theorem B9(hl:VE X a ta):VI X tg a (Qex ta):=by
 intro aa s σ H R I zz69
 refine B4 zz69 fun τ μ R' hs hc h hq=>?_
 refine thn (hl aa s σ H (λv H1=>∃x μ1 xs,Kp H H1/\Cn X.K μ1 H1/\RelA X.K H1 x v/\items μ1 x=some xs/\R' xs (fun μ=>items μ x=some xs) μ1) I ⟨τ,μ,_,hs,hc,h,λx μ1 v H1 S1 c1 rx hx=>?_⟩) λv s1 ls=>?_
 ·obtain⟨xs,e,hx⟩:=A9 hx
  exact⟨x,μ1,xs,S1,c1,rx,e,hx⟩
 obtain⟨xv,H1,I1,r1,x,μ1,xs,S1,c1,rx,e,hx⟩:=ls
 obtain⟨p,vs,rfl,hp,rs⟩:=Cb c1 rx e
 cases r1
 rcases hp with⟨k,hp⟩ | ⟨k,hp⟩
 ·obtain⟨af,rv,pl,hz⟩:=I1.list hp
  refine wpAny_pyIter_list pl.isList ?_
  refine⟨s1.heap.objs.size,[s1.heap.objs.size],_,_,H1,rfl,I1.kept (t':=s1.toks) λb o e=>Heap.get?_push_of_some _ e,Oo p _,⟨_,Heap.get?_push_size _ rfl,rfl,rfl⟩,λb hb=>?_,hq _ _ _ _ _ S1 c1 (Pc λH μ S c k2=>?_) hx⟩
  ·have e:b=s1.heap.objs.size:=by simpa using hb
   subst e
   exact I1.fpOk (Yaf _) (I1.hok.fresh (Yaf _))
  ·obtain⟨q,ws,e,hw,rw⟩:=Cb c (rx.kp S) k2
   cases e
   rcases hw with⟨_,hw⟩ | ⟨k3,_⟩
   ·exact⟨ws,hw,rw⟩
   ·rw [k]at k3;cases k3
 ·obtain⟨af,rv,pl,hz⟩:=I1.tuple hp
  refine Yci (show s1.heap.IsTuple p af.toArray from pl) ?_
  refine⟨s1.heap.objs.size,[s1.heap.objs.size],_,_,H1,rfl,I1.kept (t':=s1.toks) λb o e=>Heap.get?_push_of_some _ e,Hb p _,⟨_,Heap.get?_push_size _ rfl,rfl,rfl⟩,λb hb=>?_,hq _ _ _ _ _ S1 c1 (Lj λH μ S c k2=>?_) hx⟩
  ·have e:b=s1.heap.objs.size:=by simpa using hb
   subst e
   exact I1.fpOk (Yaf _) (I1.hok.fresh (Yaf _))
  ·obtain⟨q,ws,e,hw,rw⟩:=Cb c (rx.kp S) k2
   cases e
   rcases hw with⟨k3,_⟩ | ⟨_,hw⟩
   ·rw [k]at k3;cases k3
   ·exact⟨ws,hw,rw⟩
def Qey(t:AE):AE:=fun τ μ R=>t τ μ λx μ1=>match x with
 | .D (.int i)=>R (.D (.int (-i))) μ1
 | _=>False
theorem Xz(h:VE X a ta):VE X (.UnaryOp .USub a pos) (Qey ta):=(Zv W8 h).imp fun σ H Q zz70=>B4 zz70 fun τ μ R hs hc h hq=>⟨τ,μ,_,hs,hc,h,λx μ1 v H1 S1 c1 rx hx=>by
 cases x with
 | D d =>
  cases d with
  | int i =>
   cases RelA.int rx
   exact⟨_,rfl,hq _ _ _ _ S1 c1 Co hx⟩
  | _=>exact False.elim hx
 | _=>exact False.elim hx⟩
end
section
variable {c:AT}{g:AG}{tb:AS}{k:ASt->M->Prop}{r:AV->M->Prop}{bb cc:ASt->M->Prop}{tst:AT}{te:AE}
theorem Ui{τ:ASt}{μ:M}(I:Nat->ASt->M->Prop)(m:Nat)(h0:I m τ μ)
  (step:∀m τ μ (W:ASt->M->Prop),I m τ μ->(∀m' τ' μ',m' < m->I m' τ' μ'->W τ' μ')->c τ μ λx μ1=>brP x (tb W r k W τ μ1) (k τ μ1)):∃n,wl c tb k r n τ μ:=by
 have ij:∀n m τ μ,m < n->I m τ μ->wl c tb k r n τ μ:=by
  intro n
  induction n with
  | zero=>intro m τ μ h _;omega
  | succ n ih=>intro m τ μ h hI;exact step m τ μ (wl c tb k r n) hI λm' τ' μ' hm hI'=>ih m' τ' μ' (by omega) hI'
 exact⟨m+1,ij (m+1) m τ μ (Ydi _) h0⟩
theorem Ap{t u:AS}{τ:ASt}{μ:M}(J:ASt->M->Prop)(h1:∀W:ASt->M->Prop,(∀ τ' μ',J τ' μ'->W τ' μ')->t W r bb cc τ μ)(h2:∀ τ' μ',J τ' μ'->u k r bb cc τ' μ'):Pb t u k r bb cc τ μ:=h1 (u k r bb cc) h2
theorem Bv{t u:AS}{τ:ASt}{μ:M}(h:t (u k r bb cc) r bb cc τ μ):Pb t u k r bb cc τ μ:=h
theorem Qba{x:AV}{i:Nat}{τ:ASt}{μ:M}(h:k (τ.set i (some x)) μ):Kd (vC x) (Ch i) k r bb cc τ μ:=h
theorem El{kp:M->Prop}{xs:List AV}{τ:ASt}{μ:M}(I:Nat->ASt->M->Prop)(h0:I 0 τ μ)(hk:∀i τ μ,I i τ μ->kp μ)
  (step:∀i x τ μ (W:ASt->M->Prop),xs[i]?=some x->I i τ μ->(∀ τ' μ',I (i+1) τ' μ'->W τ' μ')->g x τ μ fun τ2 μ2=>tb W r k W τ2 μ2)
  (done:∀ τ μ,I xs.length τ μ->k τ μ):fl g tb k r kp xs τ μ:=by
 have ij:∀n i τ μ,n+i=xs.length->I i τ μ->fl g tb k r kp (xs.drop i) τ μ:=by
  intro n
  induction n with
  | zero =>
   intro i τ μ h hI
   have e:i=xs.length:=by omega
   subst e
   rw [Ycp]
   exact⟨hk _ _ _ hI,done τ μ hI⟩
  | succ n ih =>
   intro i τ μ h hI
   have hi:i < xs.length:=by omega
   rw [Yb3 hi]
   exact⟨hk _ _ _ hI,step i _ τ μ _ (List.getElem?_eq_getElem hi) hI fun τ' μ' q=>ih (i+1) τ' μ' (by omega) q⟩
 exact ij xs.length 0 τ μ rfl h0
theorem Ho{p:Addr}{kp:M->Prop}{R:M->Prop}{xs:List AV}{τ:ASt}{μ:M}(I:Nat->List AV->ASt->M->Prop)(h0:I 0 [] τ μ)(hk:∀i ah τ μ,I i ah τ μ->kp μ)
  (step:∀i x ah τ μ (W:List AV->ASt->M->Prop),xs[i]?=some x->I i ah τ μ->(∀aw τ' μ',I (i+1) aw τ' μ'->W aw τ' μ')->g x τ μ fun τ1 μ1=>tst τ1 μ1 λk μ2 =>
   brP k (te τ1 μ2 λv μ3=>μ3 p=some (.lst ah)/\ah.length < sizeLine/\W (ah++[v]) τ1 (Ar μ3 p (.lst (ah++[v])))) (W ah τ1 μ2))
  (done:∀ah τ μ,I xs.length ah τ μ->R μ):cl p g tst te kp R xs [] τ μ:=by
 have ij:∀n i ah τ μ,n+i=xs.length->I i ah τ μ->cl p g tst te kp R (xs.drop i) ah τ μ:=by
  intro n
  induction n with
  | zero =>
   intro i ah τ μ h hI
   have e:i=xs.length:=by omega
   subst e
   rw [Ycp]
   exact⟨hk _ _ _ _ hI,done ah τ μ hI⟩
  | succ n ih =>
   intro i ah τ μ h hI
   have hi:i < xs.length:=by omega
   rw [Yb3 hi]
   exact⟨hk _ _ _ _ hI,step i _ ah τ μ (λaw τ' μ'=>cl p g tst te kp R (xs.drop (i+1)) aw τ' μ') (List.getElem?_eq_getElem hi) hI λaw τ' μ' q=>ih (i+1) aw τ' μ' (by omega) q⟩
 exact ij xs.length 0 [] τ μ rfl h0
end
theorem Rq{z:Str}(h:PyData.canLay0 (.str z)=true):Bq (.str z):=⟨h,by simp [PyData.depth]⟩
theorem Cu(i:Int):Bq (.int i):=⟨rfl,by simp [PyData.depth]⟩
theorem Pd(i:Bool):Bq (.bool i):=⟨rfl,by simp [PyData.depth]⟩
theorem Fo(i j:Int):PyData.eqv (.int i) (.int j)=decide (i=j):=by
 rw [PyData.eqv];exact Ycj.mpr (by simp)
theorem Nw(i j:Str):PyData.eqv (.str i) (.str j)=decide (i=j):=by
 rw [PyData.eqv];exact Ycj.mpr (by simp)
theorem ieq{i j:Int}{T F:Prop}(h1:i=j->T)(h2:i≠j->F):Bq (.int i)/\Bq (.int j)/\brP (PyData.eqv (.int i) (.int j)) T F:=by
 refine⟨Cu _,Cu _,?_⟩
 rw [Fo]
 exact dif h1 h2
theorem A8{μ:M}{p:Addr}{xs:List AV}(h:μ p=some (.lst xs)):items μ (.R p)=some xs:=by
 show(match μ p with | some (.lst xs)=>some xs | _=>none)=_
 rw [h]
def Ke{κ:Type} [DecidableEq κ](ag:List (κ×AV))(k:κ):Option AV:=(ag.find? λkv=>decide (kv.1=k)).map (·.2)
def Pe{κ:Type} [DecidableEq κ](ag:List (κ×AV))(k:κ)(v:AV):List (κ×AV) :=
 if(ag.any λkv=>decide (kv.1=k))=true then ag.map λkv=>if kv.1=k then(kv.1,v) else kv else ag++[(k,v)]
def Hq:List PyData->Option (List Key)
 | []=>some []
 | d :: ds=>match Le d,Hq ds with
  | some k,some ks=>some (k :: ks)
  | _,_=>none
def Nx(ds:List PyData):Option (List Key):=match Lit ds with
 | true=>none
 | false=>Hq ds
theorem Ny{ds:List PyData}{ks:List Key}(h:Nx ds=some ks):Lit ds=false/\Hq ds=some ks:=by
 unfold Nx at h
 cases c:Lit ds with
 | true=>rw [c]at h;cases h
 | false=>rw [c]at h;exact⟨rfl,h⟩
theorem Sv.heap{K:PySem.W.Frag}{H:Hp}{a:Addr}{ds:List PyData}{xs:List V}(h:Sv K H a ds xs)(hl:Lit ds=false):H a=some (.tup xs):=by
 rcases h with h | h
 ·exact h
 ·rw [hl]at h;cases h.1
def dget(m:MO)(d:PyData):Option (Option AV):=match m with
 | .dk ag=>(Le d).map (Ke ag)
 | .dt ag=>match d with
  | .tuple ds=>(Nx ds).map (Ke ag)
  | _=>none
 | .lst _=>none
 | .dd _=>none
def dput(m:MO)(d:PyData)(v:AV):Option MO:=match m with
 | .dk ag=>(Le d).map λk=>.dk (Pe ag k v)
 | .dt ag=>match d with
  | .tuple ds=>(Nx ds).map λk=>.dt (Pe ag k v)
  | _=>none
 | .lst _=>none
 | .dd _=>none
def dsize:MO->Nat
 | .dk ag=>ag.length
 | .dt ag=>ag.length
 | .lst xs=>xs.length
 | .dd ag=>ag.length
section
variable {X:Cx}{K:PySem.W.Frag}{H:Hp}
def Vs(K:PySem.W.Frag)(H:Hp):Option AV->Option V->Prop
 | some x,some v=>RelA K H x v
 | none,none=>True
 | _,_=>False
theorem Ea.val{κ:Type} [DecidableEq κ]{ag:List (κ×AV)}{vs:List (κ×V)}(h:Ea K H ag vs)(k:κ):Vs K H (Ke ag k) (Fh vs k):=by
 unfold Ea at h
 induction h with
 | nil=>exact trivial
 | @cons p q l₁ l₂ r t ih =>
  obtain⟨p1,p2⟩:=p
  obtain⟨q1,q2⟩:=q
  obtain⟨e,r⟩:=r
  dsimp only at e
  subst e
  unfold Ke Fh at ih ⊢
  by_cases hk:p1=k
  ·simp only [List.find?_cons,decide_eq_true hk];exact r
  ·simp only [List.find?_cons,decide_eq_false hk];exact ih
theorem Ea.put{κ:Type} [DecidableEq κ]{ag:List (κ×AV)}{vs:List (κ×V)}(h:Ea K H ag vs)(k:κ){x:AV}{v:V}(r:RelA K H x v):Ea K H (Pe ag k x) (Dm vs k v):=by
 have hn:(ag.any λkv=>decide (kv.1=k))=(vs.any λkv=>decide (kv.1=k)):=by
  unfold Ea at h
  induction h with
  | nil=>rfl
  | @cons p q l₁ l₂ rr t ih=>rw [Yb0,Yb0,ih,rr.1]
 have hm:Ea K H (ag.map λkv=>if kv.1=k then(kv.1,x) else kv) (vs.map λkv=>if kv.1=k then(kv.1,v) else kv):=by
  clear hn
  unfold Ea at h ⊢
  induction h with
  | nil=>exact .nil
  | @cons p q l₁ l₂ rr t ih =>
   refine .cons ?_ ih
   obtain⟨e,rr⟩:=rr
   dsimp only
   by_cases hk:p.1=k
   ·rw [Yaq hk,Yaq (e ▸ hk)];exact⟨e,r⟩
   ·rw [Yan hk,Yan (e ▸ hk)];exact⟨e,rr⟩
 have ha:Ea K H (ag++[(k,x)]) (vs++[(k,v)]):=by
  clear hn hm
  unfold Ea at h ⊢
  exact Paired.snoc h ⟨rfl,r⟩
 unfold Pe Dm
 rw [hn]
 split
 ·exact hm
 ·exact ha
theorem Kf{d:PyData}{k:Key}{v:V}(h:Dk K H d v)(e:Le d=some k):v=kV k:=by
 unfold Le at e
 split at e
 ·cases e;exact h.int
 ·cases e;exact h.str
 ·cases e
theorem Hr:∀{ds:List PyData} {ks:List Key} {vs:List V},Ao K H ds vs->Hq ds=some ks->vs=ks.map kV
 | [],ks,vs,h,e=>by cases e;exact h.nil
 | d :: ds,ks,vs,h,e=>by
  obtain⟨x,r,rfl,h1,h2⟩:=h.cons
  simp only [Hq]at e
  split at e
  ·rename_i k ks' e1 e2
   cases e
   rw [Kf h1 e1,Hr h2 e2];rfl
  ·cases e
theorem Uj{μ:M}{a:Addr}{m:MO}{d:PyData}{v:V}{o:Option AV}(hc:Cn K μ H)(hm:μ a=some m)(hd:Dk K H d v)(e:dget m d=some o):∃r,DGet H a v r/\Vs K H o r:=by
 obtain⟨ob,ho,rm⟩:=hc a m hm
 unfold dget at e
 split at e
 ·obtain⟨k,ek,rfl⟩:=Yav.mp e
  obtain⟨vs,rfl,rs⟩:=rm
  rw [Kf hd ek]
  exact⟨_,DGet.k ho,rs.val k⟩
 ·split at e
  ·obtain⟨ks,ek,rfl⟩:=Yav.mp e
   obtain⟨vs,rfl,rs⟩:=rm
   obtain⟨b,xs,rfl,hb,hx⟩:=hd.tup
   obtain⟨e0,ek⟩:=Ny ek
   have hb:=hb.heap e0
   rw [Hr hx ek]at hb
   exact⟨_,DGet.t ho hb,rs.val ks⟩
  ·cases e
 ·cases e
 ·cases e
theorem Uk{μ:M}{a:Addr}{m m':MO}{d:PyData}{v w:V}{x:AV}(hc:Cn K μ H)(hm:μ a=some m)(hd:Dk K H d v)(hx:RelA K H x w)(e:dput m d x=some m')(hs:dsize m < sizeLine):∃H',DPut H a v w H'/\Kp H H'/\Cn K (Ar μ a m') H':=by
 obtain⟨ob,ho,rm⟩:=hc a m hm
 unfold dput at e
 split at e
 ·obtain⟨k,ek,rfl⟩:=Yav.mp e
  obtain⟨vs,rfl,rs⟩:=rm
  rw [Kf hd ek]
  exact⟨_,DPut.k ho (by rw [<- Yck rs];exact hs),Kp.put ho trivial _,hc.put ho trivial ⟨_,rfl,rs.put k hx⟩⟩
 ·split at e
  ·obtain⟨ks,ek,rfl⟩:=Yav.mp e
   obtain⟨vs,rfl,rs⟩:=rm
   obtain⟨b,xs,rfl,hb,ff⟩:=hd.tup
   obtain⟨e0,ek⟩:=Ny ek
   have hb:=hb.heap e0
   rw [Hr ff ek]at hb
   exact⟨_,DPut.t ho hb (by rw [<- Yck rs];exact hs),Kp.put ho trivial _,hc.put ho trivial ⟨_,rfl,rs.put ks hx⟩⟩
  ·cases e
 ·cases e
 ·cases e
variable {o i e value:Expr}{pos be:Pos}{td ty tv tx:AE}
def Qbb(td ty:AE):AE:=fun τ μ R=>td τ μ λx μ1=>ty τ μ1 λy μ2=>match x,y with
 | .R a,.D d=>opt (μ2 a) λm=>opt (dget m d) λr=>opt r λv=>R v μ2
 | _,_=>False
theorem D5(hu:X.A.units+1 < cLine)(ho:VE X o td)(hi:VE X i ty)(hs:Xj i:=by intro _ _;rfl):VE X (.Subscript o i pos) (Qbb td ty):=(Tv hu ho hi hs).imp fun σ H Q zz71=>B4 zz71 fun τ μ R hs hc h hq =>
 ⟨τ,μ,_,hs,hc,h,λx μ1 v H1 S1 c1 rx hx=>⟨τ,μ1,_,hs.kp S1,c1,hx,λy μ2 u H2 S2 c2 ry hy=>by
  split at hy
  ·obtain⟨m,em,hy⟩:=A9 hy
   obtain⟨r,er,hy⟩:=A9 hy
   obtain⟨w,rfl,hy2⟩:=A9 hy
   obtain⟨r',g,ro⟩:=Uj c2 em ry er
   cases r' with
   | none=>exact ro.elim
   | some z=>exact⟨_,z,(rx.kp S2).ref,g,hq _ _ _ _ (S1.trans S2) c2 ro hy2⟩
  ·exact hy.elim⟩⟩
def Qbc(td ty tv:AE):AS:=λk _ _ _ τ μ=>tv τ μ λv μ1=>td τ μ1 λx μ2=>ty τ μ2 λy μ3=>match x,y with
 | .R a,.D d=>opt (μ3 a) λm=>opt (dput m d v) λm'=>dsize m < sizeLine/\k τ (Ar μ3 a m')
 | _,_=>False
theorem Kg(hu:X.A.units+1 < cLine)(ho:VE X o td)(hi:VE X i ty)(hv:VE X value tv)(hs:swapsWith value (some (.Subscript o i be)) pos.line X.env=pure false:=by rfl):VS X (.Assign [.Subscript o i be] value pos) (Qbc td ty tv):=(Tw hu ho hi hv hs).imp λD σ H zz72=>Eu zz72 fun τ μ nk nr nb nc hs hc h hq =>
 ⟨τ,μ,_,hs,hc,h,λv μ1 vv H1 S1 c1 rv h1=>⟨τ,μ1,_,hs.kp S1,c1,h1,λx μ2 xv H2 S2 c2 rx h2=>⟨τ,μ2,_,hs.kp (S1.trans S2),c2,h2,λy μ3 yv H3 S3 c3 ry h3=>by
  split at h3
  ·obtain⟨m,em,h3⟩:=A9 h3
   obtain⟨m',em',h3⟩:=A9 h3
   obtain⟨H4,g,S4,c4⟩:=Uk c3 em ry (rv.kp (S2.trans S3)) em' h3.1
   have S:=S1.trans (S2.trans (S3.trans S4))
   exact⟨_,H4,(rx.kp S3).ref,g,hq.nx _ _ _ _ S (hs.kp S) c4 h3.2⟩
  ·exact h3.elim⟩⟩⟩
theorem Vt{ag:List (Key×AV)}{vs:List (Key×V)}(h:Ea K H ag vs):Im K H (.dk ag) (.dK vs):=⟨vs,rfl,h⟩
end
end L2
namespace L2
theorem Dt{α:Type}{us:List α}{n:Nat}(h:us.length=n+1):∃a t,us=a :: t/\t.length=n:=match us,h with | a :: t,h=>⟨a,t,rfl,Nat.succ.inj h⟩
theorem Ul{α:Type}{us:List α}(h:us.length=1):∃a,us=[a]:=by
 obtain⟨a,t,rfl,h2⟩:=Dt h
 rw [List.eq_nil_of_length_eq_zero h2];exact⟨a,rfl⟩
theorem Um{α:Type}{us:List α}(h:us.length=2):∃a b,us=[a,b]:=by
 obtain⟨a,t,rfl,h2⟩:=Dt h
 obtain⟨b,rfl⟩:=Ul h2
 exact⟨a,b,rfl⟩
open PySem PySem.Spec PySem.Calls PyProof.Rows
abbrev AX:=Addr->List (Str×PyData)->M->Prop
def XFx(K:PySem.W.Frag)(H:Hp)(d:Option Addr)(fs:List (Str×PyData)):Prop:=match d with
 | none=>fs=[]
 | some d=>∃ag,H d=some (XD d ag)/\Gx K H fs ag
def EK(K:PySem.W.Frag)(EX:AX):XK:=λc oa H=>∃a C fs μ d,c=.ref C/\oa=some a/\H a=some (XR a C d)/\XFx K H d fs/\Cn K μ H/\EX C fs μ
def XA(X:Cx)(EX:AX):Prop:=O6 X (EK X.K EX)
section
variable {K:PySem.W.Frag}{H H':Hp}
theorem Kp.ext{p:Addr}{φ:Heap->Prop}(h:H p=some (.ext φ))(o:HO):Kp H (upd H p o) :=
 ⟨λb xs e=>by rw [Aw (Ky e h (by intro z;cases z))];exact e,λb o' u e=>by rw [Aw (Ky e h (by intro z;cases z))];exact e⟩
theorem Cn.ext{μ:M}{p:Addr}{φ:Heap->Prop}(c:Cn K μ H)(h:H p=some (.ext φ))(o:HO):Cn K μ (upd H p o):=λb m e=>by
 obtain⟨o',q,r⟩:=c b m e
 refine⟨o',?_,r.kp (Kp.ext h o)⟩
 rw [Aw]
 ·exact q
 ·rintro rfl
  rw [h]at q;cases q
  exact r.mt
theorem Kp.same(k:∀b o,H b=some o->H' b=some o):Kp H H':=⟨λb _ e=>k b _ e,λb _ _ e=>k b _ e⟩
theorem Cn.same{μ:M}(c:Cn K μ H)(k:∀b o,H b=some o->H' b=some o):Cn K μ H':=λb m e=>by
 obtain⟨o',q,r⟩:=c b m e
 exact⟨o',k b o' q,r.kp (Kp.same k)⟩
theorem Gx.zip:∀(c8:List Str) {ds:List PyData} {vs:List V},Ao K H ds vs->Gx K H (c8.zip ds) (c8.zip vs)
 | [],_,_,_=>.nil
 | _ :: _,[],_,h=>by rw [h.nil];exact .nil
 | f :: c8,_ :: ds,_,h=>by
  obtain⟨x,r,rfl,h1,h2⟩:=h.cons
  exact .cons ⟨rfl,h1⟩ (Gx.zip c8 h2)
theorem Gx.lookup{f:Str}{d:PyData}{fs:List (Str×PyData)}{vs:List (Str×V)}(h:Gx K H fs vs)(e:fs.lookup f=some d):∃v,vs.lookup f=some v/\Dk K H d v:=by
 unfold Gx at h
 induction h with
 | nil=>cases e
 | @cons p q l1 l2 r t ih =>
  obtain⟨g,d'⟩:=p
  obtain⟨g',v'⟩:=q
  obtain⟨r1,r2⟩:=r
  dsimp only at r1 r2
  subst r1
  rw [Ydh]at e ⊢
  split at e
  ·cases e
   exact⟨v',rfl,r2⟩
  ·exact ih e
end
section
variable {X:Cx}{aa:List (Addr×Obj)}{σ:St}{H:Hp}{s:Shared}
theorem Inv.freeze{a C:Addr}{d:Option Addr}{fs:List (Str×PyData)}{μ:M}(I:Inv X aa σ H s)(q:H a=some (XR a C d))(f:XFx X.K H d fs)(c:Cn X.K μ H) :
  ∃H',Inv X aa σ H' s/\RelA X.K H' (.X C fs) (.ref a)/\Cn X.K μ H':=by
 obtain⟨vs,hg,h6⟩:=Q6 I.hok q
 have I1:Inv X aa σ (upd H a (.frz _ (XR a C d))) s:=I.retype q ⟨hg,Q5 hg h6⟩
 have c1:=c.ext q (.frz ⟨.ref C,d,.fields vs,#[]⟩ (XR a C d))
 have S1:=Kp.ext q (.frz ⟨.ref C,d,.fields vs,#[]⟩ (XR a C d))
 cases d with
 | none=>exact⟨_,I1,⟨a,_,none,rfl,Be,f⟩,c1⟩
 | some dx =>
  obtain⟨ag,qd,r⟩:=f
  obtain⟨mA,N,hr,wi⟩:=Q0 I.hok qd
  obtain⟨od,hod,_⟩:=Fx N
  have ne:dx≠a:=by
   rintro rfl
   obtain⟨o,es,ep,g,hd,_⟩:=N
   rw [hg]at g
   cases g
   cases hd
  have se:upd H a (.frz ⟨.ref C,some dx,.fields vs,#[]⟩ (XR a C (some dx))) dx=some (XD dx ag):=by rw [Aw ne];exact qd
  refine⟨_,I1.retype (o:=.frz od (XD dx ag)) se ⟨hod,Nn N hr wi⟩,⟨a,⟨.ref C,some dx,.fields vs,#[]⟩,some dx,rfl,?_,od,ag,Be,(r.kp S1).kp (Kp.ext se _)⟩,c1.ext se _⟩
  rw [Aw (Ycl ne)]
  exact Be
theorem xinst{a C:Addr}{fs:List (Str×PyData)}(I:Inv X aa σ H s)(r:RelA X.K H (.X C fs) (.ref a)) :
  ∃ox od,PySem.W.InstAt s.heap a ox C od/\∀f d,fs.lookup f=some d->∃jq u v,od=some jq/\PySem.W.lookIn f jq=some (some u)/\Bi v u/\Dk X.K H d v:=by
 obtain⟨a',o,d,e,q,f⟩:=r
 cases e
 obtain⟨g1,⟨vs,hg,h6⟩,_⟩:=(show Bj X.prog X.w H s.heap a (.frz o (XR a C d)) from I.hok a _ q)
 cases d with
 | none =>
  refine⟨_,none,⟨hg,rfl,rfl,trivial⟩,λf' d' e=>?_⟩
  rw [show fs=[] from f]at e
  cases e
 | some dx =>
  obtain⟨od,ag,qd,rf⟩:=f
  obtain⟨_,⟨mA,N,hr,wi⟩,_⟩:=(show Bj X.prog X.w H s.heap dx (.frz od (XD dx ag)) from I.hok dx _ qd)
  obtain⟨jq,ho,hl⟩:=Fx N
  refine⟨_,some jq,⟨hg,rfl,rfl,ho⟩,λf' d' e=>?_⟩
  obtain⟨v,ev,rv⟩:=rf.lookup e
  obtain⟨u,hu,ru⟩:=Eb.some_of (v:=v) (o:=mA f') (by rw [<- ev];exact hr f')
  exact⟨jq,u,v,rfl,by rw [hl,hu],ru,rv⟩
end
def spI(C:Addr)(c8:List Str):Sp:=λvs H Q _=>∃(e t:Addr) (ys:List V),vs=.ref e :: ys/\ys.length=c8.length/\H e=some (XO e C t none) /\
 ∀H2 t' dx,(∀b o,b≠e->H b=some o->H2 b=some o)->H2 e=some (XO e C t' (some dx))->H2 dx=some (XD dx (c8.zip ys))->dx≠e->Q .non H2
def XCal(P:Program)(w:World)(K:PySem.W.Frag)(mg:Str->Option Value)(base:Heap)(k:Nat)(x:Str)(C:Addr)(c8:List Str):Prop :=
 ∃f fd ps,FnOk P w K mg base En k f fd ps (spI C c8)/\Binds K fd ps []/\XMk K C f/\mg x=some (.ref C)/\PySem.W.mroIn K C (.type "BaseException")=some true
def X0(EX:AX)(C:Addr)(c8:List Str)(t:AA):AS:=λ_ _ _ _ τ μ=>t τ μ λxs μ1=>opt (dats xs) λds=>ds.length=c8.length/\EX C (c8.zip ds) μ1
section
variable {X:Cx}{x:Str}{p pos be:Pos}{e:Expr}{es:List Expr}{t:AA}{k:Nat}{C:Addr}{c8:List Str}{EX:AX}
theorem Du(F:XCal X.prog X.w X.K X.mg X.base k x C c8)(hr:Room (k+1) X.A)(hc:X.calm=true)(hx:XA X EX)(hg:Gl X x)(ha:VA X (e :: es) t)(hn:(e :: es).length<=1000:=by decide)(hdb:(x==("__debug__" : Str))=false:=by decide)
  (bg:starEach (e :: es) X.env=(false,eval e X.env) :: starEach es X.env:=by rfl) (hpl:(backTo pos (starEach es X.env)).any (·.1)=false:=by rfl):VS X (.Raise (some (.Call (.Name x p) (e :: es) [] pos)) none be) (X0 EX C c8 t):=by
 obtain⟨f,fd,ps,G,gb,mk,gm,mr⟩:=F
 refine PS.imp (Q8 hc hx (Q2 (E:=E0) mk G hr hg gm gb Vk ha hdb bg hpl)) λD σ H zz75=>Eu zz75 fun τ μ nk nr nb nc hs hc h hq=>?_
 refine⟨τ,μ,_,hs,hc,h,λxs μ1 vs H1 S1 c1 rs hl hx=>⟨by rw [<- rs.length,hl];exact hn,λa tp ha=>?_⟩⟩
 obtain⟨ds,ed,el,hE⟩:=A9 hx
 have dk:=rs.dats ed
 refine⟨a,tp,vs,rfl,by rw [dk.length];exact el,Be,λH2 t' dx keep q1 q2 ne=>⟨rfl,a,C,t',some dx,rfl,q1,mk.xc,mr,?_⟩⟩
 have kk:∀b o,H1 b=some o->upd H2 a (XR a C (some dx)) b=some o:=λb o q=>by
  have hb:b≠a:=by rintro rfl;rw [ha]at q;cases q
  rw [Aw hb]
  exact keep b o hb (by rw [Aw hb];exact q)
 exact⟨a,C,c8.zip ds,μ1,some dx,rfl,rfl,Be,⟨_,by rw [Aw ne];exact q2,(Gx.zip c8 dk).kp (Kp.same kk)⟩,c1.same kk,hE⟩
end
abbrev Io:=List AV->M->(AV->M->Prop)->AX->Prop
def Pf(K:PySem.W.Frag)(n:Nat)(sp:Io):Sp:=λvs H Q E=>∃xs μ R EX,xs.length=n/\Av K H xs vs/\Cn K μ H/\sp xs μ R EX/\LV K H R Q/\∀c a H',EK K EX c a H'->E c a H'
def Dh(P:Program)(w:World)(K:PySem.W.Frag)(mg:Str->Option Value)(base:Heap)(k:Nat)(x:Str)(ps:List Str)(sp:Io):Prop :=
 ∃g gd,FnOk P w K mg base (Q7 P w) k g gd ps (Pf K ps.length sp)/\Binds K gd ps []/\PySem.W.keepIn K (.ref g)=true/\mg x=some (.ref g)
theorem Dh.mono{P:Program}{w:World}{K:PySem.W.Frag}{mg:Str->Option Value}{base:Heap}{n m:Nat}{x:Str}{ps:List Str}{sp:Io}(c:Dh P w K mg base n x ps sp)(h:n<=m):Dh P w K mg base m x ps sp :=
 let⟨g,gd,G,r⟩:=c;⟨g,gd,G.mono h,r⟩
def X1(sp:Io)(EX:AX)(t:AA):AE:=fun τ μ R=>t τ μ λxs μ1=>sp xs μ1 R EX
section
variable {X:Cx}{x:Str}{p pos:Pos}{e:Expr}{es:List Expr}{t:AA}{k:Nat}{ps:List Str}{sp:Io}{EX:AX}
theorem De(F:Dh X.prog X.w X.K X.mg X.base k x ps sp)(hr:Room k X.A)(hx:XA X EX)(hg:Gl X x)(ha:VA X (e :: es) t)(hl:(e :: es).length=ps.length:=by rfl)(hdb:(x==("__debug__" : Str))=false:=by decide)
  (bg:starEach (e :: es) X.env=(false,eval e X.env) :: starEach es X.env:=by rfl) (hpl:(backTo pos (starEach es X.env)).any (·.1)=false:=by rfl):VE X (.Call (.Name x p) (e :: es) [] pos) (X1 sp EX t):=by
 obtain⟨g,gd,G,gb,gk,gm⟩:=F
 refine PE.imp (Nf (E:=EK X.K EX) G hr hg gm gk gb .nil (O6.passes hx λ_ _ _ q=>q) ha (hdb:=hdb) (he:=bg) (hpl:=hpl)) fun σ H Q zz76=>B4 zz76 fun τ μ R hs hc h hq=>?_
 exact⟨τ,μ,_,hs,hc,h,λxs μ1 vs H1 S1 c1 rs hn hx=>⟨xs,μ1,R,EX,hn.trans hl,by rw [Ybs];exact rs,c1,hx,hq.kp S1,λ_ _ _ q=>q⟩⟩
end
def upX(EX:AX):AX:=λC fs μ=>∃ ν,Sub ν μ/\EX C fs ν
theorem XA.up{X:Cx}{EX:AX}(h:XA X EX):XA X (upX EX):=by
 intro aa σ H s a C d vs I q R z
 refine h aa σ H s a C d vs I q R ?_
 obtain⟨a',C',fs,_,d',e1,e2,e3,e4,e5,ν,hν,e6⟩:=z
 exact⟨a',C',fs,ν,d',e1,e2,e3,e4,e5.sub hν,e6⟩
section
variable {P:Program}{w:World}{K:PySem.W.Frag}{mg:Str->Option Value}{base:Heap}
theorem Fun.vokX{x qual:Str}{st:Stmt}{f:Addr}{fd:FuncData}{N ps:List Str}{k:Nat}{sp:Io}(F:Fun K x qual st f fd)(S:FnScope N ps (Ag st))
  (bw:∀(aq:Value) (A:Around) (outer:List Env) (s:Shared) (H:Hp) (E:XK) (EX:AX),Room k (A.deeper (envOfC qual (Ag st) s.heap.objs.size f aq))->XA (Fz (Q7 P w) P w K mg base N qual (Ag st) f aq A outer s H E) (upX EX) ->
   ∃t,VSs (Fz (Q7 P w) P w K mg base N qual (Ag st) f aq A outer s H E) (A5 st) t/\∀xs μ R,xs.length=ps.length->sp xs μ R EX->t (aNx R) (Uh R) Nv Nv (C0 N xs) μ):FnOk P w K mg base (Q7 P w) (k+1) f fd ps (Pf K ps.length sp):=by
 obtain⟨oc,od,kV,db,pm,an,aq,ct,gx,rfl,lk,d2⟩:=F.ex
 refine Vh lk d2 S (λvs H Q E h=>?_) λA outer s H vs Q E hr h=>?_
 ·obtain⟨xs,μ,R,EX,hl,rs,_⟩:=h
  rw [<- rs.length];exact hl
 ·obtain⟨xs,μ,R,EX,hl,rs,hc,eh,hq,hE⟩:=h
  have zm:XA (Fz (Q7 P w) P w K mg base N qual (Ag st) f aq A outer s H E) EX:=λaa σ H1 s1 a C d vs I q R h=>T8 aa σ H1 s1 a C d vs I q R (hE _ _ _ h)
  obtain⟨t,ht,h⟩:=bw aq A outer s H E EX hr zm.up
  refine⟨_,ht,C0 N xs,μ,_,_,_,_,Cy.begin rs,hc,h xs μ R hl eh,⟨fun τ μ' σ H' S' _ c zz77=>Oj zz77 fun ν hν r=>?_,λv μ' u H' S' c rv zz78=>Oj zz78 fun ν hν r=>?_,λ_ _ _ _ _ _ _ h=>h.elim,λ_ _ _ _ _ _ _ h=>h.elim⟩⟩
  ·exact hq _ _ _ _ S' (c.sub hν) J7 r
  ·exact hq _ _ _ _ S' (c.sub hν) rv r
end
def cS0(K:PySem.W.Frag)(H0:Hp)(t:AS):TS:=λD σ H=>∃ τ μ k r b c,Cy K H τ σ/\Cn K μ H/\t k r b c τ μ/\LE' K H0 k r b c D
def VS0(X:Cx)(st:Stmt)(t:AS):Prop:=PS X st (cS0 X.K X.H₀ t)
def Uo(X:Cx)(st:List Stmt)(t:AS):Prop:=PSs X st (cS0 X.K X.H₀ t)
section
variable {X:Cx}{aa:List (Addr×Obj)}{σ:St}{H:Hp}{s:Shared}{st:Stmt}{rest:List Stmt}{t s1 s2:AS}
theorem Inv.kp0(I:Inv X aa σ H s):Kp X.H₀ H:=⟨I.base.tups,I.base.frzs⟩
theorem VS.z(h:VS X st t):VS0 X st t:=λaa s σ H D I zz79=>Eu zz79 fun τ μ k r b c hs hc h' hq=>h aa s σ H D I ⟨τ,μ,k,r,b,c,hs,hc,h',hq.kp I.kp0⟩
theorem Jj(h1:VS0 X st s1)(h2:Uo X rest s2):Uo X (st :: rest) (Pb s1 s2):=(Ha h1 h2).imp λD σ H zz81=>Eu zz81 fun τ μ nk nr nb nc hs hc h hq =>
 ⟨τ,μ,_,_,_,_,hs,hc,h,⟨fun τ' μ' σ' H' S' cv cj h'=>⟨τ',μ',nk,nr,nb,nc,cv,cj,h',hq⟩,hq.rt,hq.bk,hq.ct⟩⟩
theorem Rr(h1:VS0 X st s1):Uo X [st] s1:=Jr h1
def Qe0(K:PySem.W.Frag)(m i:Nat)(Dc:Addr)(tb:AX->AS)(th:AS):AS:=λk r b c τ μ =>
 tb (λC fs μ'=>PySem.W.mroIn K C (.ref Dc)=some true/\th (fun τ1 μ1=>k (τ1.set i none) μ1) r (fun τ1 μ1=>b (τ1.set i none) μ1) (fun τ1 μ1=>c (τ1.set i none) μ1) ((List.replicate m none).set i (some (.X C fs))) μ') k r b c τ μ
theorem Cy.blank:∀(σ:St),Cy X.K H (List.replicate σ.length none) σ
 | []=>.nil
 | _ :: σ=>.cons D1 (Cy.blank σ)
theorem Cy.unset2{K:PySem.W.Frag}:∀{τ:ASt} {σ:St} (i:Nat),Cy K H τ σ->Cy K H (τ.set i none) (σ.set i none)
 | _,_,_,.nil=>.nil
 | _,_,0,.cons _ t=>.cons D1 t
 | _,_,i+1,.cons q t=>.cons q (Cy.unset2 i t)
theorem Up{body suite:List Stmt}{b₀:Stmt}{x n:Str}{p p2 pos:Pos}{i:Nat}{Dc:Addr}{tb:AX->AS}{th:AS}(hb:∀xe pn EX,XA (X.taking xe pn) EX->VSs (X.taking xe pn) body (tb EX))(hh:∀e,VSs (X.suite e) (b₀ :: suite) th)
  (hg:Gl X x) (hm:X.mg x=some (.ref Dc)) (hD:Fa X.K Dc=true) (hB:PySem.W.mroIn X.K Dc (.type "BaseException")=some true) (bg:X.stack=X.env :: X.outer) (gq:X.env.frame=some X.env.locals)
  (hN:X.N.Nodup) (hi:X.N[i]?=some n) (hk:X.env.scope.names.lookup n=some .local) (hdb:(x==("__debug__" : Str))=false:=by decide) :
  VS0 X (.Try body [.ExceptHandler (some (.Name x p)) (some n) (b₀ :: suite) p2] [] [] pos) (Qe0 X.K X.N.length i Dc tb th):=by
 intro aa s σ H D I zz82
 refine Eu zz82 fun τ μ nk nr nb nc hs hc h hq=>?_
 refine wpAny_Try_except ?_
 have ok:=I.ok
 generalize hxe:(λ(e:Value) (s₁:Shared)=>wpAny (model X.prog X.w) X.A (noteFrame e X.env) (λ_ s₂=>wpAny (model X.prog X.w) X.A (setFlight e none) (λ_ s₃ =>
  wpAny (model X.prog X.w) X.A (handleBy e X.env [.ExceptHandler (some (.Name x p)) (some n) (b₀ :: suite) p2]) (SP X aa D) X.xe s₃) X.xe s₂) X.xe s₁)=xe
 have zm:XA (X.taking xe (X.pn++aa)) (λC fs μ'=>PySem.W.mroIn X.K C (.ref Dc)=some true/\th (fun τ1 μ1=>nk (τ1.set i none) μ1) nr (fun τ1 μ1=>nb (τ1.set i none) μ1) (fun τ1 μ1=>nc (τ1.set i none) μ1) ((List.replicate X.N.length none).set i (some (.X C fs))) μ'):=by
  rintro dj σ' H' s' a C d vs I1 hx R ⟨a',C',fs,μ',d',ec,ea,_,hf,cj,hmro,hth⟩
  cases ec;cases ea
  show xe (.ref a) s'
  rw [<- hxe]
  have J0:Inv X aa σ' H' s':=I1.untake ok
  rename_i fj
  have dd:d'=d:=by
   obtain⟨d3,g1,_⟩:=Q6 J0.hok fj
   have:=R.at_.symm.trans g1
   cases this
   rfl
  subst dd
  refine O7 (base:=X.base) (outer:=X.outer) (L:=X.env.locals) (by rw [<- bg];exact ok.frames) (by rw [<- bg];exact J0.stack) gq R λh' L=>?_
  have J:=J0.left hx (by rw [bg];exact L)
  obtain⟨d3,R',_⟩:=L.rc
  refine wpAny_handleBy_cons (codeAny_handlers_test ?_) (by intro q;cases q)
  refine Fe (X:=X.suite a) J.suite hg hm ?_ hdb
  refine La (K:=X.K) J.kIn hD R'.at_ hB hmro ?_
  refine codeAny_handlers_suite_as ?_
  refine O8 R' λh2 k2=>?_
  have J2:Inv X aa σ' H' { s' with heap:=h2 }:=J.kept (t':=s'.toks) k2
  obtain⟨H3,J3,rX,c3⟩:=J2.freeze hx hf cj
  refine C1 (X:=X.suite a) J3.suite hN hi (.inl hk) (v:=.ref a) (u:=.ref a) rfl (λs4 J4=>?_) (.inr hk)
  have am:X.N.length=σ'.length:=J3.len.symm
  refine Ybe (hh a aa s4 _ H3 { nx:=fun σ H=>D.nx (σ.set i none) H,rt:=D.rt,bk:=fun σ H=>D.bk (σ.set i none) H,ct:=fun σ H=>D.ct (σ.set i none) H } J4 ⟨_,_,_,_,_,_,?_,c3,hth,?_⟩) (λfl s5 ni=>?_) (λ_ _ z=>z.elim)
  ·rw [am]
   exact(Cy.blank (X:=X) σ').set rX i
  ·have S:=J3.kp0
   exact⟨fun τ1 μ1 σ1 H1 S1 cm hc1 h1=>hq.nx _ _ _ _ (S.trans S1) (cm.unset2 i) hc1 h1,hq.rt.kp S,fun τ1 μ1 σ1 H1 S1 cm hc1 h1=>hq.bk _ _ _ _ (S.trans S1) (cm.unset2 i) hc1 h1,fun τ1 μ1 σ1 H1 S1 cm hc1 h1=>hq.ct _ _ _ _ (S.trans S1) (cm.unset2 i) hc1 h1⟩
  ·cases fl with
   | next =>
    obtain⟨σ6,H6,I6,q6⟩:=ni
    exact G0 (I6.unsuite ok) hN hi hk λs7 I7=>⟨_,H6,I7,q6⟩
   | brk =>
    obtain⟨σ6,H6,I6,q6⟩:=ni
    exact G0 (I6.unsuite ok) hN hi hk λs7 I7=>⟨_,H6,I7,q6⟩
   | cont =>
    obtain⟨σ6,H6,I6,q6⟩:=ni
    exact G0 (I6.unsuite ok) hN hi hk λs7 I7=>⟨_,H6,I7,q6⟩
   | ret u =>
    obtain⟨v,σ6,H6,I6,rv,q6⟩:=ni
    exact G0 (I6.unsuite ok) hN hi hk λs7 I7=>⟨v,_,H6,I7,rv,q6⟩
 refine Ybe (hb xe (X.pn++aa) _ zm [] s σ H D I.take ⟨τ,μ,_,_,_,_,hs,hc,h,hq.kp I.kp0⟩) (λfl s1 hf=>?_) (λe s1 he=>?_)
 ·cases fl with
  | next =>
   obtain⟨σ',H',I1,q⟩:=hf
   exact Ycu ⟨σ',H',I1.untake ok,q⟩
  | brk =>
   obtain⟨σ',H',I1,q⟩:=hf
   exact⟨σ',H',I1.untake ok,q⟩
  | cont =>
   obtain⟨σ',H',I1,q⟩:=hf
   exact⟨σ',H',I1.untake ok,q⟩
  | ret u =>
   obtain⟨v,σ',H',I1,rv,q⟩:=hf
   exact⟨v,σ',H',I1.untake ok,rv,q⟩
 ·exact he
end
theorem Fun.vok0{P:Program}{w:World}{K:PySem.W.Frag}{mg:Str->Option Value}{base:Heap}{x qual:Str}{st:Stmt}{f:Addr}{fd:FuncData}{N ps:List Str}{k:Nat}{sp:ASp}(F:Fun K x qual st f fd)(S:FnScope N ps (Ag st))
  (bw:∀(aq:Value) (A:Around) (outer:List Env) (s:Shared) (H:Hp) (E:XK),Room k (A.deeper (envOfC qual (Ag st) s.heap.objs.size f aq)) ->
   ∃t,Uo (Fz En P w K mg base N qual (Ag st) f aq A outer s H E).nox (A5 st) t/\∀xs μ R,xs.length=ps.length->sp xs μ R->t (aNx R) (Uh R) Nv Nv (C0 N xs) μ):FnOk P w K mg base En (k+1) f fd ps (Ih K ps.length sp):=by
 refine F.ok S (λvs H Q E h=>?_) (λaq A outer s H vs Q E hr h=>?_)
 ·obtain⟨xs,μ,R,hl,rs,_⟩:=h
  rw [<- rs.length];exact hl
 ·obtain⟨xs,μ,R,hl,rs,hc,eh,hq⟩:=h
  obtain⟨t,ht,h⟩:=bw aq A outer s H E hr
  refine⟨_,ht,C0 N xs,μ,_,_,_,_,Cy.begin rs,hc,h xs μ R hl eh,⟨fun τ μ' σ H' S' _ c zz83=>Oj zz83 fun ν hν r=>?_,λv μ' u H' S' c rv zz84=>Oj zz84 fun ν hν r=>?_,λ_ _ _ _ _ _ _ h=>h.elim,λ_ _ _ _ _ _ _ h=>h.elim⟩⟩
  ·exact hq _ _ _ _ S' (c.sub hν) J7 r
  ·exact hq _ _ _ _ S' (c.sub hν) rv r
section
variable {X:Cx}{a:Expr}{ta:AE}{pos p p2:Pos}{x:Str}
def Rs(K:PySem.W.Frag)(c:Value)(te:AE):AE:=fun τ μ R=>te τ μ λx μ1=>match x with
 | .X C _=>XIs K C/\opt (PySem.W.kitOne K (.ref C) c) λb=>R (.D (.bool b)) μ1
 | _=>False
theorem Nz{c:Value}{τ:ASt}{σ:St}{H:Hp}{μ:M}{R:AV->M->Prop}{Q:VK}{s:Shared}{aa:List (Addr×Obj)}{W:Value->Shared->Prop}(he:VE X a ta)(I:Inv X aa σ H s)(hs:Cy X.K H τ σ)(hc:Cn X.K μ H)(h:Rs X.K c ta τ μ R)(hq:LV X.K H R Q)
  (k:∀e C fs H1 s1 b,Inv X aa σ H1 s1->RelA X.K H1 (.X C fs) (.ref e)->XIs X.K C->PySem.W.kitOne X.K (.ref C) c=some b->Q (.bl b) H1->W (.ref e) s1):wpAny (model X.prog X.w) X.A (eval a X.env) W X.xe s:=by
 refine thn (he aa s σ H (λv H1=>∃C fs μ1 b,Kp H H1/\Cn X.K μ1 H1/\RelA X.K H1 (.X C fs) v/\XIs X.K C/\PySem.W.kitOne X.K (.ref C) c=some b/\R (.D (.bool b)) μ1) I ⟨τ,μ,_,hs,hc,h,λx μ1 v H1 S1 c1 rx hx=>?_⟩) λu s1 pg=>?_
 ·split at hx
  ·obtain⟨xi,hx⟩:=hx
   obtain⟨b,kb,hx⟩:=A9 hx
   exact⟨_,_,μ1,b,S1,c1,rx,xi,kb,hx⟩
  ·exact hx.elim
 ·obtain⟨v,H1,I1,r1,C,fs,μ1,b,S1,c1,rx,xi,kb,q1⟩:=pg
  obtain⟨e,o,d,ev,q⟩:=id rx
  subst ev
  obtain rfl:u=Value.ref e:=r1
  exact k e C fs H1 s1 b I1 rx xi kb (hq _ _ _ _ S1 c1 C7 q1)
theorem Uq{D:Addr}(hg:Gl X "isinstance") (hm:X.mg "isinstance" = none) (d7:Gl X x) (fi:X.mg x=some (.ref D)) (he:VE X a ta) (b0:(x==("__debug__" : Str))=false:=by decide)
  (hs:starEach [a,.Name x p2] X.env=(false,eval a X.env) :: starEach [.Name x p2] X.env:=by rfl) (cr:starEach [.Name x p2] X.env=[(false,eval (.Name x p2) X.env)]:=by rfl) (hpl:(backTo pos (starEach [.Name x p2] X.env)).any (·.1)=false:=by rfl) :
  VE X (.Call (.Name "isinstance" p) [a,.Name x p2] [] pos) (Rs X.K (.ref D) ta):=by
 intro aa s σ H Q I zz85
 refine B4 zz85 fun τ μ R bg hc h hq=>?_
 refine Ya6 (C4 I hg hm Ydr ?_)
 refine Ybi ?_ hs hpl
 rw [hs]
 refine Ya3 (Nz he I bg hc h hq λe C fs H1 s1 b I1 rx xi kb q=>?_)
 rw [cr]
 refine Ya3 (Fe I1 d7 fi (Ybq ?_) b0)
 obtain⟨ox,od,J,_⟩:=xinst I1 rx
 exact Yba (Hj xi) I1.kIn ⟨ox,od,J⟩ kb (λz=>nomatch z) λtk=>⟨.bl b,H1,I1.tok _,rfl,q⟩
theorem Rt{T:String}(hg:Gl X "isinstance") (hm:X.mg "isinstance" = none) (d7:Gl X x) (fi:X.mg x=none) (nj:bootBuiltins x=some (.type T)) (he:VE X a ta) (fy:x ≠ "__name__" := by decide) (b0:(x==("__debug__" : Str))=false:=by decide)
  (hs:starEach [a,.Name x p2] X.env=(false,eval a X.env) :: starEach [.Name x p2] X.env:=by rfl) (cr:starEach [.Name x p2] X.env=[(false,eval (.Name x p2) X.env)]:=by rfl) (hpl:(backTo pos (starEach [.Name x p2] X.env)).any (·.1)=false:=by rfl) :
  VE X (.Call (.Name "isinstance" p) [a,.Name x p2] [] pos) (Rs X.K (.type T) ta):=by
 intro aa s σ H Q I zz86
 refine B4 zz86 fun τ μ R bg hc h hq=>?_
 refine Ya6 (C4 I hg hm Ydr ?_)
 refine Ybi ?_ hs hpl
 rw [hs]
 refine Ya3 (Nz he I bg hc h hq λe C fs H1 s1 b I1 rx xi kb q=>?_)
 rw [cr]
 refine Ya3 (C4 I1 d7 fi nj (Ybq ?_) fy b0)
 obtain⟨ox,od,J,_⟩:=xinst I1 rx
 exact Yba (Hj xi) I1.kIn ⟨ox,od,J⟩ kb (λz=>nomatch z) λtk=>⟨.bl b,H1,I1.tok _,rfl,q⟩
def Vu(K:PySem.W.Frag)(f:Str)(te:AE):AE:=fun τ μ R=>te τ μ λx μ1=>match x with
 | .X C fs=>XCls K C/\Dl K C f/\opt (fs.lookup f) λd=>R (.D d) μ1
 | _=>False
theorem Ur{f:Str}(he:VE X a ta)(hb:attributeBase a f X.env (eval a X.env)=eval a X.env):VE X (.Attribute a f pos) (Vu X.K f ta):=by
 intro aa s σ H Q I zz87
 refine B4 zz87 fun τ μ R bg hc h hq=>?_
 refine Tk hb (thn (he aa s σ H (λv H1=>∃C fs μ1 d,Kp H H1/\Cn X.K μ1 H1/\RelA X.K H1 (.X C fs) v/\XCls X.K C/\Dl X.K C f/\fs.lookup f=some d/\R (.D d) μ1) I ⟨τ,μ,_,bg,hc,h,λx μ1 v H1 S1 c1 rx hx=>?_⟩) λu s1 lz=>?_)
 ·split at hx
  ·obtain⟨z1,z2,z3⟩:=hx
   obtain⟨d,e,z⟩:=A9 z3
   exact⟨_,_,μ1,d,S1,c1,rx,z1,z2,e,z⟩
  ·exact hx.elim
 ·obtain⟨v,H1,I1,r1,C,fs,μ1,d,S1,c1,rx,xc,na,el,q1⟩:=lz
  obtain⟨e,o,d',ev,q⟩:=id rx
  subst ev
  obtain rfl:u=Value.ref e:=r1
  obtain⟨ox,od,J,hl⟩:=xinst I1 rx
  obtain⟨jq,u,v,rfl,hu,ru,dk⟩:=hl f d el
  exact Ml I1.kIn J xc.mb xc.ga xc.gn (PySem.W.findObj_own xc.hd na rfl hu) (Ou ru) ⟨v,H1,I1.tok _,ru,hq _ _ _ _ S1 c1 (Mr dk) q1⟩
def tGl(cs:List Addr):TA:=λ_ H Q=>Q (cs.map V.ref) H
theorem X2:PA X [] (tGl []):=Qg
theorem Hs{D:Addr}{cs:List Addr}{es:List Expr}(hg:Gl X x)(hm:X.mg x=some (.ref D))(h:PA X es (tGl cs))(hd:(x==("__debug__" : Str))=false:=by decide) (hs:starEach (.Name x p :: es) X.env=(false,eval (.Name x p) X.env) :: starEach es X.env:=by rfl):PA X (.Name x p :: es) (tGl (D :: cs)) :=
 Nd (Nc (v:=.ref D) hg hm rfl hd) h hs
def Vv(K:PySem.W.Frag)(cs:List Addr)(te:AE):AE:=fun τ μ R=>te τ μ λx μ1=>match x with
 | .X C _=>XIs K C/\opt (PySem.W.kitAny K (.ref C) (cs.map Value.ref)) λb=>R (.D (.bool b)) μ1
 | _=>False
theorem Jk:∀{cs:List Addr} {us:List Value},Vals (cs.map V.ref) us->us=cs.map Value.ref
 | [],_,h=>by cases h;rfl
 | c :: cs,_,h=>by
  rw [Yaz]at h
  cases h with
  | cons r t=>rw [Jk t];cases r;rfl
theorem Pg{es:List Expr}{cs:List Addr}{k:Nat}(hg:Gl X "isinstance") (hm:X.mg "isinstance" = none) (hT:PA X es (tGl cs)) (he:VE X a ta) (hl:cs.length<=sizeLine:=by decide)
  (hs:starEach [a,.Tuple es k p2] X.env=(false,eval a X.env) :: starEach [.Tuple es k p2] X.env:=by rfl) (cr:starEach [.Tuple es k p2] X.env=[(false,eval (.Tuple es k p2) X.env)]:=by rfl) (hpl:(backTo pos (starEach [.Tuple es k p2] X.env)).any (·.1)=false:=by rfl) :
  VE X (.Call (.Name "isinstance" p) [a,.Tuple es k p2] [] pos) (Vv X.K cs ta):=by
 intro aa s σ H Q I zz88
 refine B4 zz88 fun τ μ R bg hc h hq=>?_
 refine Ya6 (C4 I hg hm Ydr ?_)
 refine Ybi ?_ hs hpl
 rw [hs]
 refine Ya3 (thn (he aa s σ H (λv H1=>∃C fs μ1 b,Kp H H1/\Cn X.K μ1 H1/\RelA X.K H1 (.X C fs) v/\XIs X.K C/\PySem.W.kitAny X.K (.ref C) (cs.map Value.ref)=some b/\R (.D (.bool b)) μ1) I ⟨τ,μ,_,bg,hc,h,λx μ1 v H1 S1 c1 rx hx=>?_⟩) λu s1 md=>?_)
 ·split at hx
  ·obtain⟨xi,hx⟩:=hx
   obtain⟨b,kb,hx⟩:=A9 hx
   exact⟨_,_,μ1,b,S1,c1,rx,xi,kb,hx⟩
  ·exact hx.elim
 obtain⟨v,H1,I1,r1,C,fs,μ1,b,S1,c1,rx,xi,kb,q1⟩:=md
 obtain⟨e,o,d,ev,q⟩:=id rx
 subst ev
 obtain rfl:u=Value.ref e:=r1
 rw [cr]
 refine Ya3 (thn (Md (pos:=p2) (x1:=k) hT aa s1 σ H1 (λv H2=>∃p,v=.ref p/\H1 p=none/\H2=upd H1 p (.tup (cs.map V.ref))) I1 ⟨by rw [Yaa];exact hl,λp hp=>⟨p,rfl,hp,rfl⟩⟩) λu s2 nu=>Ybq ?_)
 obtain⟨v,H2,I2,r2,p,ev,hp,eH⟩:=nu
 subst ev eH
 obtain rfl:u=Value.ref p:=r2
 obtain⟨af,rv,⟨⟨cl,dd,da,sl⟩,ht,bz,n,jd⟩,_⟩:=I2.tuple (Fw.of (Be (H:=H1) (a:=p) (o:=.tup (cs.map V.ref))))
 dsimp only at bz jd
 subst bz jd
 rw [Jk rv]at ht
 have S2:Kp H1 (upd H1 p (.tup (cs.map V.ref))):=Kp.new hp _
 obtain⟨ox,od,J,_⟩:=xinst I2 (rx.kp S2)
 exact PySem.W.kia_tup (Hj xi) I2.kIn ⟨ox,od,J⟩ ht kb (λz=>nomatch z) λtk=>⟨.bl b,_,I2.tok _,rfl,hq _ _ _ _ (S1.trans S2) (c1.over hp) C7 q1⟩
def Qbe:A2:=λx y μ R=>match x,y with
 | .D (.bool i),.D (.bool j)=>R (.D (.bool (i==j))) μ
 | _,_=>False
def Vw:A2:=λx y μ R=>match x,y with
 | .D (.bool i),.D (.bool j)=>R (.D (.bool (!(i==j)))) μ
 | _,_=>False
theorem Qbf:VOp X (compareOp .Is) Qbe:=by
 intro aa s σ H x y v u Q I rx ry zz89
 refine Df zz89 λa b μ R ra rb hc h hq=>?_
 unfold Qbe at h
 split at h
 ·cases RelA.bl ra;cases RelA.bl rb
  cases rx;cases ry
  exact is_bool (L8 I (hq _ _ _ _ Kp.refl hc C7 h) rfl)
 ·exact h.elim
theorem X3:VOp X (compareOp .IsNot) Vw:=by
 intro aa s σ H x y v u Q I rx ry zz90
 refine Df zz90 λa b μ R ra rb hc h hq=>?_
 unfold Vw at h
 split at h
 ·cases RelA.bl ra;cases RelA.bl rb
  cases rx;cases ry
  exact isnot_bool (L8 I (hq _ _ _ _ Kp.refl hc C7 h) rfl)
 ·exact h.elim
end
end L2
namespace L2
open PySem PySem.Spec PyProof.Rows
def Di:Nat->List PyData->List AV
 | _,[]=>[]
 | i,d :: ds=>.D (.tuple [.int i,d]) :: Di (i+1) ds
theorem Cf:∀(ds:List PyData) (k:Nat),(Di k ds).length=ds.length
 | [],_=>rfl
 | _ :: ds,k=>by rw [Di,Ya9,Cf ds,Ya9]
theorem Er:∀{ds:List PyData} {k i:Nat} {x:AV},(Di k ds)[i]?=some x->∃d,ds[i]?=some d/\x=.D (.tuple [.int ((k+i:Nat):Int),d])
 | [],_,_,_,h=>by simp [Di]at h
 | d :: ds,k,0,_,h=>by simp [Di]at h;exact⟨d,rfl,by rw [<- h];simp⟩
 | _ :: ds,k,i+1,_,h=>by
  rw [Di,List.getElem?_cons_succ]at h
  obtain⟨d,e,q⟩:=Er h
  refine⟨d,by simpa using e,?_⟩
  rw [q]
  have e2:k+1+i=k+(i+1):=by omega
  rw [e2]
theorem My{K:PySem.W.Frag}{H0:Hp}{a:Addr}{ys:List AV}{ds:List PyData}{kp:M->Prop}(hd:dats ys=some ds)(h:∀H μ,Kp H0 H->Cn K μ H->kp μ->∃vs,Fw K H a vs/\Av K H ys vs):ItOk K H0 (Ien K a) (Di 0 ds) kp:=by
 have hn:ds.length=ys.length:=by rw [G1 hd,Yaa]
 refine⟨λi H μ S c k hi=>?_,λi H μ v H' x S c k e y=>?_,λH μ S c k=>?_⟩
 ·obtain⟨vs,q,r⟩:=h H μ S c k
  rw [Cf,hn]at hi
  exact⟨vs,vs[i]'(by rw [<- r.length];exact hi),q,List.getElem?_eq_getElem _⟩
 ·obtain⟨vs,q,r⟩:=h H μ S c k
  obtain⟨T,z,hT,rfl,rfl,y⟩:=y
  obtain⟨d,e1,rfl⟩:=Er e
  obtain⟨u,eu,ru⟩:=(r.dats hd).get e1
  rw [y vs q]at eu
  cases eu
  refine⟨Kp.new hT _,c.over hT,J8 Be ?_⟩
  rw [Nat.zero_add]
  exact C2 Cm (C2 (Dk.kp (Kp.new hT _) _ _ ru) Dz)
 ·obtain⟨vs,q,r⟩:=h H μ S c k
  exact⟨vs,q,by rw [Cf,hn,r.length]⟩
theorem Mz{K:PySem.W.Frag}{H0:Hp}{a:Addr}{ys:List AV}{ds:List PyData}{kp:M->Prop}(hd:dats ys=some ds)(h:∀H μ,Kp H0 H->Cn K μ H->kp μ->∃vs,Dq K H a vs/\Av K H ys vs):ItOk K H0 (Iel K a) (Di 0 ds) kp:=by
 have hn:ds.length=ys.length:=by rw [G1 hd,Yaa]
 refine⟨λi H μ S c k hi=>?_,λi H μ v H' x S c k e y=>?_,λH μ S c k=>?_⟩
 ·obtain⟨vs,q,r⟩:=h H μ S c k
  rw [Cf,hn]at hi
  exact⟨vs,vs[i]'(by rw [<- r.length];exact hi),q,List.getElem?_eq_getElem _⟩
 ·obtain⟨vs,q,r⟩:=h H μ S c k
  obtain⟨T,z,hT,rfl,rfl,y⟩:=y
  obtain⟨d,e1,rfl⟩:=Er e
  obtain⟨u,eu,ru⟩:=(r.dats hd).get e1
  rw [y vs q]at eu
  cases eu
  refine⟨Kp.new hT _,c.over hT,J8 Be ?_⟩
  rw [Nat.zero_add]
  exact C2 Cm (C2 (Dk.kp (Kp.new hT _) _ _ ru) Dz)
 ·obtain⟨vs,q,r⟩:=h H μ S c k
  exact⟨vs,q,by rw [Cf,hn,r.length]⟩
def Qbg(t:AE):AI:=fun τ μ R=>t τ μ λx μ1=>opt (items μ1 x) λys=>opt (dats ys) λds=>R (Di 0 ds) (fun μ=>items μ x=some ys) μ1
section
variable {X:Cx}{a:Expr}{ta:AE}{pos p:Pos}
theorem N0{dw:List Expr}{k:Nat}{jm:Pos}(hg:Gl X "enumerate") (hm:X.mg "enumerate" = none) (hl:VE X a ta) (hs:starEach [a] X.env=[(false,eval a X.env)]:=by rfl):VI X (.Tuple dw k jm) (.Call (.Name "enumerate" p) [a] [] pos) (Qbg ta):=by
 intro aa s σ H R I zz91
 refine B4 zz91 fun τ μ R' bg hc h hq=>?_
 refine Ya6 (C4 I hg hm boot_enumerate ?_)
 refine Ybm ?_ hs rfl
 rw [hs]
 refine Ya3 (thn (hl aa s σ H (λv H1=>∃x μ1 ys ds,Kp H H1/\Cn X.K μ1 H1/\RelA X.K H1 x v/\items μ1 x=some ys/\dats ys=some ds/\R' (Di 0 ds) (fun μ=>items μ x=some ys) μ1) I ⟨τ,μ,_,bg,hc,h,λx μ1 v H1 S1 c1 rx hx=>?_⟩) λu s1 m9=>Ybq ?_)
 ·obtain⟨ys,e,hx⟩:=A9 hx
  obtain⟨ds,ed,hx⟩:=A9 hx
  exact⟨x,μ1,ys,ds,S1,c1,rx,e,ed,hx⟩
 obtain⟨xv,H1,I1,r1,x,μ1,ys,ds,S1,c1,rx,e,ed,hx⟩:=m9
 obtain⟨p,vs,rfl,hp,rs⟩:=Cb c1 rx e
 cases r1
 have fin:∀b∈[s1.heap.objs.size+1,s1.heap.objs.size],Ff X aa H1 b:=λb hb=>by
  have jn:s1.heap.objs.size<=b:=by
   rcases Ya8.mp hb with rfl | hb
   ·exact Yc7 _
   ·have e:b=s1.heap.objs.size:=by simpa using hb
    exact Nat.le_of_eq e.symm
  exact I1.fpOk jn (I1.hok.fresh jn)
 rcases hp with⟨k,hp⟩ | ⟨k,hp⟩
 ·obtain⟨af,rv,pl,hz⟩:=I1.list hp
  refine call_enumerate_list pl.isList λh' he cf hsz kk=>?_
  refine Yc9 he ?_
  refine⟨s1.heap.objs.size+1,[s1.heap.objs.size+1,s1.heap.objs.size],_,_,H1,rfl,I1.kept (t':=s1.toks) kk,Mk p _ _ (Nat.succ_ne_self _),⟨⟨_,he⟩,cf⟩,fin,hq _ _ _ _ _ S1 c1 (Mz ed λH μ S c k2=>?_) hx⟩
  obtain⟨q,ws,e,hw,rw⟩:=Cb c (rx.kp S) k2
  cases e
  rcases hw with⟨_,hw⟩ | ⟨k3,_⟩
  ·exact⟨ws,hw,rw⟩
  ·rw [k]at k3;cases k3
 ·obtain⟨af,rv,pl,hz⟩:=I1.tuple hp
  refine E9 pl λh' he cf hsz kk=>?_
  refine Yc9 he ?_
  refine⟨s1.heap.objs.size+1,[s1.heap.objs.size+1,s1.heap.objs.size],_,_,H1,rfl,I1.kept (t':=s1.toks) kk,O2 p _ _ (Nat.succ_ne_self _),⟨⟨_,he⟩,cf⟩,fin,hq _ _ _ _ _ S1 c1 (My ed λH μ S c k2=>?_) hx⟩
  obtain⟨q,ws,e,hw,rw⟩:=Cb c (rx.kp S) k2
  cases e
  rcases hw with⟨k3,_⟩ | ⟨_,hw⟩
  ·rw [k]at k3;cases k3
  ·exact⟨ws,hw,rw⟩
end
theorem M0{ag:List (Key×V)}{k:Key}{v:V}(h:k∉ag.map (·.1)):Dm ag k v=ag++[(k,v)]:=by
 unfold Dm
 rw [Yan]
 intro q
 rw [Ydk]at q
 obtain⟨x,hx,e⟩:=q
 exact h (Ybj.mpr ⟨x,hx,Yam e⟩)
theorem Fp:∀(more ag:List (Key×V)),((ag++more).map (·.1)).Nodup->E7 ag more=ag++more
 | [],ag,_=>by rw [Ybs];rfl
 | (k,v) :: more,ag,h=>by
  show E7 (Dm ag k v) more=_
  have hk:k∉ag.map (·.1):=λz=>by
   rw [Yak,List.nodup_append]at h
   exact h.2.2 k z k (by simp) rfl
  rw [M0 hk,Fp more,List.append_assoc]
  ·rfl
  ·rw [List.append_assoc];exact h
def vPs:List AE->ASt->M->(List AV->M->Prop)->Prop
 | [],_,μ,R=>R [] μ
 | t :: ts,τ,μ,R=>t τ μ λx μ1=>vPs ts τ μ1 λxs μ2=>R (x :: xs) μ2
def Vx(K:PySem.W.Frag)(ks:List Key)(ts:List AE):List (TE×TE):=(ks.zip ts).map λp=>(tC (kV p.1),cE K p.2)
theorem Lk{K:PySem.W.Frag}:∀{ks:List Key} {ts:List AE} {τ:ASt} {μ:M} {R:List AV->M->Prop} {σ:St} {H:Hp} {Q:List (V×V)->Hp->Prop},ks.length=ts.length->Cy K H τ σ->Cn K μ H->vPs ts τ μ R ->
  (∀xs μ' vs H',Kp H H'->Cn K μ' H'->Av K H' xs vs->xs.length=ts.length->R xs μ'->Q ((ks.zip vs).map λkv=>(kV kv.1,kv.2)) H')->Jy (Vx K ks ts) σ H Q
 | [],[],τ,μ,R,σ,H,Q,_,hs,hc,h,q=>q [] μ [] H Kp.refl hc .nil rfl h
 | k :: ks,t :: ts,τ,μ,R,σ,H,Q,hl,hs,hc,h,q =>
  ⟨τ,μ,_,hs,hc,h,λx μ1 v H1 S1 c1 rx hx=>Lk (ks:=ks) (ts:=ts) (by simpa using hl) (hs.kp S1) c1 hx λxs μ2 vs H2 S2 c2 rs hn hr=>q (x :: xs) μ2 (v :: vs) H2 (S1.trans S2) c2 (.cons (rx.kp S2) rs) (by simp [hn]) hr⟩
def VPs(X:Cx)(pos:Pos)(bi:List (Option Expr))(ax:List Expr)(ks:List Key)(ts:List AE):Prop:=PPs X pos bi ax (Vx X.K ks ts)
def Qbh(ks:List Key)(ts:List AE):AE:=fun τ μ R=>∀p,μ p=none->vPs ts τ (Ar μ p (.dk [])) λxs μ1=>μ1 p=some (.dk [])/\R (.R p) (Ar μ1 p (.dk (ks.zip xs)))
section
variable {X:Cx}{pos:Pos}{bi:List (Option Expr)}{ax:List Expr}{ks:List Key}{ts:List AE}
theorem Us:VPs X pos [] [] [] []:=Tx
theorem Kh{z:Str}{j}{p:Pos}{v:Expr}{t:AE}(hv:VE X v t)(hr:VPs X pos bi ax ks ts):VPs X pos (some (.Constant (.str z) j p) :: bi) (v :: ax) (.inr z :: ks) (t :: ts):=Qp (tk:=tC (kV (.inr z))) Px hv hr
theorem Av.zipK{K:PySem.W.Frag}{H:Hp}:∀(ks:List Key) {xs:List AV} {vs:List V},Av K H xs vs->Ea K H (ks.zip xs) (ks.zip vs)
 | [],_,_,_=>.nil
 | _ :: _,_,_,.nil=>.nil
 | _ :: ks,_,_,.cons r t=>.cons ⟨rfl,r⟩ (Av.zipK ks t)
theorem Ut(h:VPs X pos bi ax ks ts)(hk:ks.Nodup)(hkl:ks.length=ts.length:=by rfl)(zaa:ks.length<=15:=by decide)(gi:bi.all (·.isSome)=true:=by rfl)(hl:bi.length=ax.length:=by rfl)(h0:bi≠[]:=by intro z;cases z)(vf:bi.length<=15:=by decide):VE X (.Dict bi ax pos) (Qbh ks ts) :=
 (Ty h gi hl h0 vf).imp fun σ H Q zz92=>B4 zz92 fun τ μ R hs hc h hq=>by
  intro p hp
  refine Lk hkl (hs.kp (Kp.new hp _)) (hc.new hp (Vt .nil)) (h p (hc.none hp)) λxs μ1 vs H1 S1 c1 rs hn hx=>?_
  obtain⟨o,ho,ws,rfl,rk⟩:=c1 _ _ hx.1
  cases rk
  have fy:ks.length=vs.length:=by rw [<- rs.length,hn];exact hkl
  refine⟨ho,ks.zip vs,rfl,by rw [List.length_zip];omega,?_⟩
  rw [Fp _ _ (by rw [List.nil_append,List.map_fst_zip (by omega)];exact hk),List.nil_append]
  exact hq _ _ _ _ ((Kp.new hp _).trans (S1.trans (Kp.put ho trivial _))) (c1.put ho trivial (Vt (rs.zipK ks))) Eh hx.2
end
theorem Ki{κ:Type} [DecidableEq κ]{k:κ}{v:AV}{r:List (κ×AV)}:Ke ((k,v) :: r) k=some v:=by
 unfold Ke
 simp only [List.find?_cons,decide_eq_true (rfl:k=k)];rfl
theorem Kj{κ:Type} [DecidableEq κ]{k k':κ}{v:AV}{r:List (κ×AV)}(h:k'≠k):Ke ((k',v) :: r) k=Ke r k:=by
 unfold Ke
 simp only [List.find?_cons,decide_eq_false h]
theorem Ru{α:Type}(g:α->Bool)(xs:List α):bools (xs.map λx=>.D (.bool (g x)))=some (xs.map g):=by
 rw [show(xs.map λx=>AV.D (.bool (g x)))=(xs.map g).map λb=>.D (.bool b) by rw [Yat];rfl]
 exact Jh _
theorem Ph{μ:M}{p:Addr}{m:MO}(h:μ p=some m):Ar μ p m=μ:=by
 funext b
 unfold Ar
 split
 ·rename_i e;rw [e,h]
 ·rfl
theorem cmapf{α:Type}{p:Addr}{g:AG}{tst:AT}{te:AE}{kp:M->Prop}{R:M->Prop}{τ:ASt}{μ:M}(as:List α)(g0:α->AV)(b:α->Bool)(f:α->AV)(Sh:ASt->Prop)(h0:Sh τ)(hp:μ p=some (.lst []))(hn:as.length<=sizeLine)(hk:∀ah,kp (Ar μ p (.lst ah)))
  (step:∀(i:Nat) (x:α) (τ':ASt) (ah:List AV) (W:ASt->AV->M->Prop) (W2:ASt->M->Prop),as[i]?=some x->Sh τ'->(b x=true->∀ τ1,Sh τ1->W τ1 (f x) (Ar μ p (.lst ah)))->(b x=false->∀ τ1,Sh τ1->W2 τ1 (Ar μ p (.lst ah))) ->
   g (g0 x) τ' (Ar μ p (.lst ah)) fun τ1 μ1=>tst τ1 μ1 λk μ2=>brP k (te τ1 μ2 (W τ1)) (W2 τ1 μ2))
  (done:R (Ar μ p (.lst ((as.filter b).map f)))):cl p g tst te kp R (as.map g0) [] τ μ:=by
 refine Ho (λi ah τ' μ'=>Sh τ'/\ah=((as.take i).filter b).map f/\μ'=Ar μ p (.lst ah)) ⟨h0,by simp,(Ph hp).symm⟩ (λi ah τ μ' ⟨_,_,e⟩=>by rw [e];exact hk _) ?_ ?_
 ·rintro i y ah τ' μ' W hy ⟨sh,rfl,rfl⟩ hW
  rw [List.getElem?_map]at hy
  obtain⟨x,hx,rfl⟩:=Yav.mp hy
  have hi:i < as.length:=(List.getElem?_eq_some_iff.mp hx).1
  have ht:as.take (i+1)=as.take i++[x]:=by rw [List.take_succ,hx];rfl
  refine step i x τ' _ (fun τ1 v μ3=>μ3 p=some (.lst (((as.take i).filter b).map f))/\(((as.take i).filter b).map f).length < sizeLine/\W ((((as.take i).filter b).map f)++[v]) τ1 (Ar μ3 p (.lst ((((as.take i).filter b).map f)++[v])))) (fun τ1 μ2=>W (((as.take i).filter b).map f) τ1 μ2) hx sh (λhb τ1 s1=>⟨Ad,?_,hW _ _ _ ⟨s1,?_,Ds⟩⟩) (λhb τ1 s1=>hW _ _ _ ⟨s1,?_,rfl⟩)
  ·rw [Yaa]
   have h1:=Ydf b (as.take i)
   rw [Ya0]at h1
   omega
  ·rw [ht,Ycz,Yak,List.filter_cons,Yaq hb];rfl
  ·rw [ht,Ycz,Yak,List.filter_cons,Yan (by rw [hb];exact Yas)];simp
 ·rintro ah τ' μ' ⟨_,rfl,rfl⟩
  rw [Yaa,Yce]
  exact done
theorem cmap{α:Type}{p:Addr}{g:AG}{te:AE}{kp:M->Prop}{R:M->Prop}{τ:ASt}{μ:M}(as:List α)(g0 f:α->AV)(Sh:ASt->Prop)(h0:Sh τ)(hp:μ p=some (.lst []))(hn:as.length<=sizeLine)(hk:∀ah,kp (Ar μ p (.lst ah)))
  (step:∀(i:Nat) (x:α) (τ':ASt) (ah:List AV) (W:ASt->AV->M->Prop),as[i]?=some x->Sh τ'->(∀ τ1,Sh τ1->W τ1 (f x) (Ar μ p (.lst ah)))->g (g0 x) τ' (Ar μ p (.lst ah)) fun τ1 μ1=>te τ1 μ1 (W τ1))
  (done:R (Ar μ p (.lst (as.map f)))):cl p g Xy te kp R (as.map g0) [] τ μ:=by
 refine cmapf as g0 (λ_=>true) f Sh h0 hp hn hk (λi x τ' ah W W2 hx sh h1 _=>?_) (by rw [List.filter_eq_self.mpr (λ_ _=>rfl)];exact done)
 have:=step i x τ' ah W hx sh (h1 rfl)
 simp only [Xy,Rb]
 exact this
theorem Qbi{α:Type}{g:α->Bool}{as:List α}{μ:M}{p:Addr}{R:AV->M->Prop}(h:μ p=some (.lst (as.map λx=>.D (.bool (g x)))))(q:R (.D (.bool (as.all g))) μ):Xt [.R p] μ R:=by
 refine Ac h (Ac (Ru g as) ?_)
 rw [List.all_map]
 exact q
theorem X4{K:PySem.W.Frag}:Kits K "tuple" := by
 intro S hS
 simp only [List.mem_cons,List.not_mem_nil,or_false]at hS
 rcases hS with rfl | rfl | rfl | rfl | rfl | rfl | rfl <;> rfl
theorem Pi{K:PySem.W.Frag}:Kits K "list" := by
 intro S hS
 simp only [List.mem_cons,List.not_mem_nil,or_false]at hS
 rcases hS with rfl | rfl | rfl | rfl | rfl | rfl | rfl <;> rfl
theorem Rv{K:PySem.W.Frag}:Kits K "int" := by
 intro S hS
 simp only [List.mem_cons,List.not_mem_nil,or_false]at hS
 rcases hS with rfl | rfl | rfl | rfl | rfl | rfl | rfl <;> rfl
theorem Jl{K:PySem.W.Frag}:Kits K "bool" := by
 intro S hS
 simp only [List.mem_cons,List.not_mem_nil,or_false]at hS
 rcases hS with rfl | rfl | rfl | rfl | rfl | rfl | rfl <;> rfl
def Rw(K:PySem.W.Frag)(C:Addr):Bool :=
 PySem.W.findIn K (.ref C) "__getattribute__" == some (some (.builtin "BaseException.__getattribute__")) && PySem.W.findIn K (.ref C) "__getattr__" == some none && PySem.W.findIn K (.ref C) "__setattr__" == some (some (.builtin "object.__setattr__")) && PySem.W.hasDictIn K C &&
 PySem.W.mroIn K C (.type "BaseException")==some true && PySem.W.mroIn K C (.type "object")==some true && Mn K C && PySem.W.findIn K (.ref C) "__class__" == some (some (.builtin "object.__class__")) &&
 PySem.W.specialIn K (.builtin "object.__class__") "__get__" == some (some (.builtin "getset_descriptor.__get__")) && PySem.W.takesIn K (.builtin "object.__class__")==some true && Fa K C && PySem.W.keepIn K (.ref C)
theorem X5{K:PySem.W.Frag}{C:Addr}(h:Rw K C=true):XIs K C/\Fa K C=true/\PySem.W.keepIn K (.ref C)=true:=by
 unfold Rw at h
 simp only [Bool.and_eq_true,beq_iff_eq]at h
 obtain⟨⟨⟨⟨⟨⟨⟨⟨⟨⟨⟨h1,h2⟩,h3⟩,h4⟩,h5⟩,h6⟩,h7⟩,h8⟩,h9⟩,h10⟩,h11⟩,h12⟩:=h
 exact⟨⟨⟨h1,h2,h3,h4,h5,h6,h7⟩,h8,h9,h10⟩,h11,h12⟩
def Rx(K:PySem.W.Frag)(C D:Addr)(cs:List Addr):Bool :=
 Rw K C && PySem.W.mroIn K C (.ref D)==some true && PySem.W.kitOne K (.ref C) (.ref D)==some true && PySem.W.kitOne K (.ref C) (.type "ValueError")==some true && PySem.W.kitAny K (.ref C) (cs.map Value.ref)==some false && Fa K D && PySem.W.mroIn K D (.type "BaseException")==some true && PySem.W.mroIn K C (.ref C)==some true
structure Err(K:PySem.W.Frag)(C D:Addr)(cs:List Addr):Prop where
 xi:XIs K C
 xc:Fa K C=true
 kp:PySem.W.keepIn K (.ref C)=true
 un:PySem.W.mroIn K C (.ref D)=some true
 iD:PySem.W.kitOne K (.ref C) (.ref D)=some true
 iV:PySem.W.kitOne K (.ref C) (.type "ValueError")=some true
 no:PySem.W.kitAny K (.ref C) (cs.map Value.ref)=some false
 xD:Fa K D=true
 mD:PySem.W.mroIn K D (.type "BaseException")=some true
 me:PySem.W.mroIn K C (.ref C)=some true
theorem X6{K:PySem.W.Frag}{C D:Addr}{cs:List Addr}(h:Rx K C D cs=true):Err K C D cs:=by
 unfold Rx at h
 simp only [Bool.and_eq_true,beq_iff_eq]at h
 obtain⟨⟨⟨⟨⟨⟨⟨h1,h2⟩,h3⟩,h4⟩,h5⟩,h6⟩,h7⟩,h8⟩:=h
 obtain⟨a,b,c⟩:=X5 h1
 exact⟨a,b,c,h2,h3,h4,h5,h6,h7,h8⟩
def cdef:Stmt->Stmt
 | .ClassDef _ _ _ (b :: _) _ _ _ _ _ _ _=>b
 | s=>s
section
variable {X:Cx}{K:PySem.W.Frag}{a:Expr}{ta:AE}{pos p p2:Pos}{x:Str}
theorem Uu{D:Addr}(hK:X.K=K)(hg:Gl X "isinstance") (hm:X.mg "isinstance" = none) (d7:Gl X x) (fi:X.mg x=some (.ref D)) (he:VE X a ta) (b0:(x==("__debug__" : Str))=false:=by decide)
  (hs:starEach [a,.Name x p2] X.env=(false,eval a X.env) :: starEach [.Name x p2] X.env:=by rfl) (cr:starEach [.Name x p2] X.env=[(false,eval (.Name x p2) X.env)]:=by rfl) (hpl:(backTo pos (starEach [.Name x p2] X.env)).any (·.1)=false:=by rfl) :
  VE X (.Call (.Name "isinstance" p) [a,.Name x p2] [] pos) (Rs K (.ref D) ta):=by subst hK;exact Uq hg hm d7 fi he b0 hs cr hpl
theorem Ry{T:String}(hK:X.K=K)(hg:Gl X "isinstance") (hm:X.mg "isinstance" = none) (d7:Gl X x) (fi:X.mg x=none) (nj:bootBuiltins x=some (.type T)) (he:VE X a ta) (fy:x ≠ "__name__" := by decide) (b0:(x==("__debug__" : Str))=false:=by decide)
  (hs:starEach [a,.Name x p2] X.env=(false,eval a X.env) :: starEach [.Name x p2] X.env:=by rfl) (cr:starEach [.Name x p2] X.env=[(false,eval (.Name x p2) X.env)]:=by rfl) (hpl:(backTo pos (starEach [.Name x p2] X.env)).any (·.1)=false:=by rfl) :
  VE X (.Call (.Name "isinstance" p) [a,.Name x p2] [] pos) (Rs K (.type T) ta):=by subst hK;exact Rt hg hm d7 fi nj he fy b0 hs cr hpl
theorem G4{f:Str}(hK:X.K=K)(he:VE X a ta)(hb:attributeBase a f X.env (eval a X.env)=eval a X.env):VE X (.Attribute a f pos) (Vu K f ta):=by subst hK;exact Ur he hb
theorem Pj{es:List Expr}{cs:List Addr}{k:Nat}(hK:X.K=K)(hg:Gl X "isinstance") (hm:X.mg "isinstance" = none) (hT:PA X es (tGl cs)) (he:VE X a ta) (hl:cs.length<=sizeLine:=by decide)
  (hs:starEach [a,.Tuple es k p2] X.env=(false,eval a X.env) :: starEach [.Tuple es k p2] X.env:=by rfl) (cr:starEach [.Tuple es k p2] X.env=[(false,eval (.Tuple es k p2) X.env)]:=by rfl) (hpl:(backTo pos (starEach [.Tuple es k p2] X.env)).any (·.1)=false:=by rfl) :
  VE X (.Call (.Name "isinstance" p) [a,.Tuple es k p2] [] pos) (Vv K cs ta):=by subst hK;exact Pg hg hm hT he hl hs cr hpl
end
def rk:PyData->Nat
 | .none=>0 | .bool _=>1 | .int _=>2 | .str _=>3 | .list _=>4 | .tuple _=>5 | .dict _=>6
mutual
theorem M1:∀(x y:PyData),Cano x=true->Cano y=true->PyData.eqv x y=true->x=y
 | .int a,.int b,_,_,h=>by simp [PyData.eqv]at h;rw [h]
 | .str a,.str b,_,_,h=>by simp [PyData.eqv]at h;rw [h]
 | .tuple xs,.tuple ys,h1,h2,h=>by
  simp only [Cano]at h1 h2
  rw [PyData.eqv]at h
  rw [N1 xs ys h1 h2 h]
 | .int _,.str _,_,_,h=>by simp [PyData.eqv]at h
 | .int _,.tuple _,_,_,h=>by simp [PyData.eqv]at h
 | .str _,.int _,_,_,h=>by simp [PyData.eqv]at h
 | .str _,.tuple _,_,_,h=>by simp [PyData.eqv]at h
 | .tuple _,.int _,_,_,h=>by simp [PyData.eqv]at h
 | .tuple _,.str _,_,_,h=>by simp [PyData.eqv]at h
 | .none,_,h,_,_=>by simp [Cano]at h
 | .bool _,_,h,_,_=>by simp [Cano]at h
 | .list _,_,h,_,_=>by simp [Cano]at h
 | .dict _,_,h,_,_=>by simp [Cano]at h
 | .int _,.none,_,h,_=>by simp [Cano]at h
 | .int _,.bool _,_,h,_=>by simp [Cano]at h
 | .int _,.list _,_,h,_=>by simp [Cano]at h
 | .int _,.dict _,_,h,_=>by simp [Cano]at h
 | .str _,.none,_,h,_=>by simp [Cano]at h
 | .str _,.bool _,_,h,_=>by simp [Cano]at h
 | .str _,.list _,_,h,_=>by simp [Cano]at h
 | .str _,.dict _,_,h,_=>by simp [Cano]at h
 | .tuple _,.none,_,h,_=>by simp [Cano]at h
 | .tuple _,.bool _,_,h,_=>by simp [Cano]at h
 | .tuple _,.list _,_,h,_=>by simp [Cano]at h
 | .tuple _,.dict _,_,h,_=>by simp [Cano]at h
theorem N1:∀(xs ys:List PyData),Ci xs=true->Ci ys=true->PyData.eqvAll xs ys=true->xs=ys
 | [],[],_,_,_=>rfl
 | [],_ :: _,_,_,h=>by simp [PyData.eqvAll]at h
 | _ :: _,[],_,_,h=>by simp [PyData.eqvAll]at h
 | x :: xs,y :: ys,h1,h2,h=>by
  simp only [Ci,Bool.and_eq_true]at h1 h2
  rw [PyData.eqvAll,Yar]at h
  rw [M1 x y h1.1 h2.1 h.1,N1 xs ys h1.2 h2.2 h.2]
end
mutual
theorem Ht:∀(x:PyData),Cano x=true->PyData.eqv x x=true
 | .int a,_=>by simp [PyData.eqv]
 | .str a,_=>by simp [PyData.eqv]
 | .tuple xs,h=>by rw [PyData.eqv];exact Jm xs (by simpa only [Cano] using h)
 | .none,h=>by simp [Cano]at h
 | .bool _,h=>by simp [Cano]at h
 | .list _,h=>by simp [Cano]at h
 | .dict _,h=>by simp [Cano]at h
theorem Jm:∀(xs:List PyData),Ci xs=true->PyData.eqvAll xs xs=true
 | [],_=>rfl
 | x :: xs,h=>by
  simp only [Ci,Bool.and_eq_true]at h
  rw [PyData.eqvAll,Ht x h.1,Jm xs h.2];rfl
end
end L2
namespace L2
open PySem PySem.W PyProof.Rows
section
variable {n:Nat}{lt:Nat->Nat->Bool}
variable {p:Array Nat}{s:Shared}
end
section
variable {n:Nat}{lt:Nat->Nat->Bool}
variable {p:Array Nat}{s:Shared}
end
section
variable {prog:Program}{w:World}{A:Around}{E:Value->Shared->Prop}{s:Shared}{κ:SortKind}{it:Array Keyed}{n:Nat}{lt:Nat->Nat->Bool}
end
section
variable {prog:Program}{w:World}{A:Around}{E:Value->Shared->Prop}{s:Shared}{κ:SortKind}{it:Array Keyed}{n:Nat}{lt:Nat->Nat->Bool}
abbrev at0(p:Array Nat)(i:Nat):Nat:=p.getD i 0
def In(n:Nat)(p:Array Nat):Prop:=∀i,i < p.size->at0 p i < n
abbrev LoS:=Option (Array Keyed)×Array Keyed×Nat×Nat×Nat×Nat×Nat
section
variable {a b:Array Nat}{st:SortSt}{Qd Qy:LoS->SortSt->Prop}{out:Array Nat}{ia ib mg ac bc:Nat}
end
end
section
variable {prog:Program}{w:World}{A:Around}{E:Value->Shared->Prop}{s:Shared}{κ:SortKind}{it:Array Keyed}{n:Nat}{lt:Nat->Nat->Bool}
section
variable {a b out:Array Nat}{na nb:Nat}
end
abbrev HiS:=Option (Array Keyed)×Nat×Nat×Array Keyed×Nat×Nat×Nat
section
variable {a b:Array Nat}{st:SortSt}{Qd Qy:HiS->SortSt->Prop}{out:Array Nat}{na nb mg ac bc:Nat}
end
end
section
variable {prog:Program}{w:World}{A:Around}{E:Value->Shared->Prop}{s:Shared}{κ:SortKind}{it:Array Keyed}{n:Nat}{lt:Nat->Nat->Bool}
def wr{α:Type}(off:Nat):List α->Nat->Array α->Array α
 | [],_,p=>p
 | x :: xs,k,p=>wr off xs (k+1) (p.setIfInBounds (off+k) x)
end
section
variable {prog:Program}{w:World}{A:Around}{E:Value->Shared->Prop}{s:Shared}{κ:SortKind}{it:Array Keyed}{n:Nat}{lt:Nat->Nat->Bool}{p:Array Nat}{pd:Array (Nat×Nat×Nat)}{g:Nat}
end
section
variable {prog:Program}{w:World}{A:Around}{E:Value->Shared->Prop}{s:Shared}{κ:SortKind}{it:Array Keyed}{n:Nat}{lt:Nat->Nat->Bool}{p:Array Nat}{pd:Array (Nat×Nat×Nat)}{g:Nat}
end
section
variable {prog:Program}{w:World}{A:Around}{E:Value->Shared->Prop}{s:Shared}{κ:SortKind}{it:Array Keyed}{n:Nat}{lt:Nat->Nat->Bool}{p:Array Nat}{pd:Array (Nat×Nat×Nat)}{g:Nat}
end
end L2
namespace L2
open PySem
section
variable {prog:Program}{w:World}{A:Around}{E:Value->Shared->Prop}{s:Shared}
end
end L2
namespace L2
open PySem PySem.W PyProof.Rows
section
variable {prog:Program}{w:World}{A:Around}{E:Value->Shared->Prop}{s:Shared}
end
end L2
namespace L2
open PySem PySem.Spec PyProof.Rows
section
variable {X:Cx}{k:Nat}
end
section
variable {prog:Program}{w:World}{A:Around}{E:Value->Shared->Prop}{s:Shared}
end
section
variable {X:Cx}{tg a:Expr}{ta:AE}{pos p:Pos}
end
def Qe2:MO->Prop
 | .dk _=>True
 | .dt _=>True
 | _=>False
section
variable {X:Cx}{o e f:Expr}{bf au:Pos}{td ty tx:AE}
def Qe3(td ty tx:AE):AE:=fun τ μ R=>td τ μ λx μ1=>match x with
 | .R a=>(∃m,μ1 a=some m/\Qe2 m)/\ty τ μ1 λy μ2=>tx τ μ2 λz μ3=>match y with
  | .D d=>opt (μ3 a) λm=>opt (dget m d) λr=>R (r.getD z) μ3
  | _=>False
 | _=>False
end
section
variable {X:Cx}{e:Expr}{te:AE}{p p2 pos d6:Pos}
def Qbj(te:AE):AE:=fun τ μ R=>te τ μ λx μ1=>match x with
 | .R a=>opt (μ1 a) λm=>match m with
  | .lst xs=>∀l,μ1 l=none->R (.R l) (Ar μ1 l (.lst xs.reverse))
  | _=>False
 | _=>False
theorem Uv(hc:X.calm=true)(hg:Gl X "list") (hm:X.mg "list" = none) (d7:Gl X "reversed") (fi:X.mg "reversed" = none) (he:VE X e te)
  (hs:starEach [.Call (.Name "reversed" p2) [e] [] d6] X.env=[(false,eval (.Call (.Name "reversed" p2) [e] [] d6) X.env)]:=by rfl) (cr:starEach [e] X.env=[(false,eval e X.env)]:=by rfl) :
  VE X (.Call (.Name "list" p) [.Call (.Name "reversed" p2) [e] [] d6] [] pos) (Qbj te):=(T4 hc hg hm d7 fi he hs cr).imp fun σ H Q zz95=>B4 zz95 fun τ μ R hs hc h hq =>
 ⟨τ,μ,_,hs,hc,h,λx μ1 v H1 S1 c1 rx hx=>by
  split at hx
  ·rename_i a
   obtain⟨m,em,hx⟩:=A9 hx
   split at hx
   ·obtain⟨ob,ho,ws,rfl,rs⟩:=c1 _ _ em
    cases rx
    exact⟨a,ws,rfl,Dq.of ho,λl hl=>hq _ _ _ _ (S1.trans (Kp.new hl _)) (c1.new hl (Dn rs.rev)) Eh (hx l (c1.none hl))⟩
   ·exact hx.elim
  ·exact hx.elim⟩
end
end L2
namespace L2
open PySem
section
variable {prog:Program}{w:World}{Kt:Type} [DecidableEq Kt]{knd:KeyKind prog w Kt}{A:Around}{E:Value->Shared->Prop}{s:Shared}{a:Addr}{led:Bool}
end
section
variable {prog:Program}{w:World}{Kt:Type} [DecidableEq Kt]{knd:KeyKind prog w Kt}{A:Around}{R:Result->Shared->Prop}{sa it t:Addr}{led:Bool}
end
section
variable {prog:Program}{w:World}{A:Around}{E:Value->Shared->Prop}{s:Shared}
end
section
end
section
variable {prog:Program}{w:World}{Kt:Type} [DecidableEq Kt]{knd:KeyKind prog w Kt}{A:Around}{E:Value->Shared->Prop}{s:Shared}{sa t:Addr}{led:Bool}
end
section
variable {prog:Program}{w:World}{A:Around}{E:Value->Shared->Prop}{s:Shared}
end
end L2
namespace L2
open PySem PySem.Spec PyProof.Rows PySem.W
section
variable {prog:Program}{w:World}{A:Around}{E:Value->Shared->Prop}{s:Shared}
end
end L2
namespace L2
open PySem PySem.Spec PyProof.Rows
section
variable {X:Cx}{aa:List (Addr×Obj)}{σ:St}{H:Hp}{s:Shared}
end
noncomputable instance decPD:DecidableEq PyData:=λa b=>Classical.propDecidable (a=b)
section
variable {prog:Program}{w:World}
variable(prog w) in
end
section
variable {X:Cx}{aa:List (Addr×Obj)}{σ:St}{H:Hp}{s:Shared}{a:Addr}{e:Expr}{te:AE}{τ:ASt}{μ:M}
variable {o i value:Expr}{pos be:Pos}{td ty tv:AE}
end
section
variable {prog:Program}{w:World}{A:Around}{E:Value->Shared->Prop}{s:Shared}
end
section
variable {X:Cx}{aa:List (Addr×Obj)}{σ:St}{s:Shared}
def Qfx(ta tb:AE):AE:=fun τ μ R=>ta τ μ λx μ1=>tb τ μ1 λy μ2=>match x,y with
 | .R a,.R b=>opt (μ2 a) λm=>opt (μ2 b) λn=>match m,n with
  | .lst us,.lst vs=>opt (dats us) λds=>opt (dats vs) λes=>(ds.length=es.length/\ds.length<=1000)/\R (.D (.tuple (List.zipWith (λd e=>PyData.tuple [d,e]) ds es))) μ2
  | _,_=>False
 | _,_=>False
def Qe4:AC:=λxs μ R=>match xs with
 | [.D (.bool b)]=>R (.D (.int (if b then 1 else 0))) μ
 | [.D (.int i)]=>R (.D (.int i)) μ
 | _=>False
theorem N2:VCall X (.type "int") Qe4:=by
 intro aa s σ H xs us Q I r zz202
 refine B4 zz202 λas μ R ra hc h hq=>?_
 cases ra with
 | nil=>exact False.elim h
 | @cons x v xs' d3 r1 r2 =>
  cases r2 with
  | nil =>
   cases x with
   | D d =>
    cases d with
    | bool b =>
     cases RelA.bl r1
     exact Iu aa s σ H _ us Q I r (.inr ⟨_,rfl,hq _ _ _ _ Kp.refl hc Co h⟩)
    | int i =>
     cases RelA.int r1
     exact Iu aa s σ H _ us Q I r (.inl ⟨_,rfl,hq _ _ _ _ Kp.refl hc Co h⟩)
    | _=>exact False.elim h
   | _=>exact False.elim h
  | cons _ _ =>
   refine False.elim ?_
   cases x with
   | D d=>cases d <;> exact h
   | _=>exact h
def txts:List AV->Option (List Str)
 | []=>some []
 | .D (.str z) :: xs=>(txts xs).map (z :: ·)
 | _ :: _=>none
theorem Ll{K:PySem.W.Frag}{H:Hp}:∀{xs:List AV} {vs:List V} {zs:List Str},Av K H xs vs->txts xs=some zs->vs=zs.map V.str
 | [],_,zs,r,e=>by cases r;cases e;rfl
 | x :: xs,_,zs,r,e=>by
  cases r with
  | cons r1 r2 =>
   unfold txts at e
   split at e
   ·rename_i h;cases h
   ·rename_i z xs' h
    cases h
    obtain⟨ys,ey,rfl⟩:=Yav.mp e
    cases RelA.str r1
    rw [Ll r2 ey];rfl
   ·cases e
def Vy:AV->AC:=λx xs μ R=>match x,xs with
 | .D (.str z),[.R p]=>opt (μ p) λm=>match m with
  | .lst ys=>opt (txts ys) λzs=>(zs.map (·.length)).sum+zs.length * z.length<=16777216/\R (.D (.str (Txt.join z zs))) μ
  | _=>False
 | _,_=>False
theorem X7:VMt X "str.join" Vy:=by
 intro aa s σ H x xs v us Q I rx r zz203
 refine Df zz203 λa as μ R ra rs hc h hq=>?_
 unfold Vy at h
 split at h
 ·obtain⟨m,em,h⟩:=A9 h
  split at h
  ·obtain⟨zs,ez,h⟩:=A9 h
   obtain⟨o,ho,ws,rfl,rr⟩:=hc _ _ em
   cases RelA.str ra
   cases rs with
   | cons r1 r2 =>
    cases r2
    cases r1
    rw [Ll rr ez]at ho
    exact O3 aa s σ H _ _ v us Q I rx r ⟨_,_,zs,rfl,rfl,ho,h.1,hq _ _ _ _ Kp.refl hc Hk h.2⟩
  ·exact h.elim
 ·exact h.elim
end
section
variable {prog:Program}{w:World}{A:Around}{E:Value->Shared->Prop}{s:Shared}
end
section
variable {X:Cx}{e st:Expr}{te ts:AE}{p2 pos:Pos}
end
section
variable {X:Cx}{tg:Expr}
end
def lets(z:Str):Prop:=∀c∈z.cps.toList,97<=c/\c<=122
abbrev Vz:List Str:=["place","letter","rule","own","arrow","ends","one","other"]
abbrev Gg:List Str:=["place","rule","own","arrow","ends","one","other"]
structure NameOk(z:Str):Prop where
 l:lets z
 a:1<=z.length
 b:z.length<=6
 k:z∉Vz
theorem C8(a b:Str):(a++b).cps.toList=a.cps.toList++b.cps.toList:=by
 show(a.cps++b.cps).toList=_
 simp
theorem B0(z:Str):z.length=z.cps.toList.length:=by simp [Str.length]
theorem Hu{a b:Str}(ha:lets a)(hb:lets b):lets (a++b):=λc hc=>by
 rw [C8]at hc
 rcases Yaw.mp hc with h | h
 ·exact ha c h
 ·exact hb c h
theorem Hv{x:Str}{j:Int}(h0:0<=j)(h1:j<=(x.length:Int)):(Txt.slice x none (some j)).cps.toList=x.cps.toList.take j.toNat:=by
 have:=StrLaws.sliceText_to (x:=x) (j:=j) ⟨h0,by rw [<- B0];exact h1⟩
 show(StrLaws.sliceText x none (some j)).cps.toList=_
 rw [this]
 simp
theorem Hw{x:Str}{j:Int}(h0:0<=j)(h1:j<=(x.length:Int)):(Txt.slice x (some j) none).cps.toList=x.cps.toList.drop j.toNat:=by
 have h1':j<=(x.cps.toList.length:Int):=by rw [<- B0];exact h1
 have:=StrLaws.sliceText_from (x:=x) (i:=j) ⟨h0,h1'⟩
 show(StrLaws.sliceText x (some j) none).cps.toList=_
 rw [this]
 show(((x.cps.toList.drop j.toNat).take ((x.cps.toList.length:Int) - j).toNat).toArray).toList=_
 rw [List.toList_toArray,Ybw (by rw [Ycb];omega)]
theorem X8:("" : Str).cps.toList=[]:=by decide +kernel
theorem Pk:∀{zs:List Str},(∀z∈zs,lets z)->lets (Txt.join "" zs):=λ{zs} h=>by
 show lets (PySem.Builtin.Str.glued "" zs)
 rw [StrLaws.glued_eq_join]
 induction zs with
 | nil=>exact λc hc=>by simp [Str.join,Str.empty]at hc
 | cons x zs ih =>
  cases zs with
  | nil=>exact h x Yau
  | cons y zs =>
   show lets (x ++ "" ++ Str.join "" (y :: zs))
   exact Hu (Hu (h x Yau) (λc hc=>by rw [X8]at hc;simp at hc)) (ih λz hz=>h z (Yao _ hz))
def B2(ak:Str)(al turn:Int)(lg:Str)(k:Nat):Str:=Txt.slice ak none (some al)++⟨#[97+((turn+7 * (0+(k:Int))) % 26).toNat]⟩++Txt.slice ak (some al) none++lg
def Kk(ak:Str)(al turn:Int)(lg:Str)(k:Nat):Str:=if B2 ak al turn lg k∈Gg then B2 ak al turn lg k ++ "q" else B2 ak al turn lg k
section
variable {ak lg:Str}{al turn:Int}
theorem D6(h0:0<=al)(h1:al<=(ak.length:Int))(k:Nat):(B2 ak al turn lg k).cps.toList=ak.cps.toList.take al.toNat++[97+((turn+7 * (0+(k:Int))) % 26).toNat]++ak.cps.toList.drop al.toNat++lg.cps.toList:=by
 unfold B2
 rw [C8,C8,C8,Hv h0 h1,Hw h0 h1]
theorem D7(h0:0<=al)(h1:al<=(ak.length:Int))(k:Nat):(B2 ak al turn lg k).length=ak.length+1+lg.length:=by
 rw [B0,D6 h0 h1,B0 ak,B0 lg]
 rw [B0]at h1
 simp only [List.length_append,List.length_take,List.length_drop,List.length_singleton]
 omega
theorem Go(h0:0<=al)(h1:al<=(ak.length:Int))(hc:lets ak)(hl:lets lg)(k:Nat):lets (B2 ak al turn lg k):=λc hm=>by
 rw [D6 h0 h1]at hm
 simp only [List.mem_append,List.mem_singleton]at hm
 rcases hm with((h | h) | h) | h
 ·exact hc c (Ybo h)
 ·have:=Yds (turn+7 * (0+(k:Int))) (show(26:Int)≠0 by decide)
  have:=Yc0 (turn+7 * (0+(k:Int))) (show(0:Int) < 26 by decide)
  omega
 ·exact hc c (List.mem_of_mem_drop h)
 ·exact hl c h
theorem M2(h0:0<=al)(h1:al<=(ak.length:Int)){i j:Nat}(hi:i < 26)(hj:j < 26)(e:B2 ak al turn lg i=B2 ak al turn lg j):i=j:=by
 have e:=Ybb (λs:Str=>s.cps.toList) e
 simp only [D6 h0 h1]at e
 have e:=Yct (Yct e)
 have e:=List.append_cancel_left e
 injection e with e
 omega
theorem X9:∀z∈Gg,z.length<=5:=by decide +kernel
theorem Ya:∀z∈Vz,z.cps.toList.getLast?≠some 113:=by decide +kernel
theorem N3:("q" : Str).cps.toList=[113]:=by decide +kernel
theorem z_cps:("z" : Str).cps.toList=[122]:=by decide +kernel
theorem M3:("letter" : Str).cps.toList=[108,101,116,116,101,114]:=by decide +kernel
theorem Qbk(h0:0<=al)(h1:al<=(ak.length:Int))(hc:lets ak)(uz:ak.length<=4)(hl:lg=Str.empty\/lg = "z") (k:Nat):NameOk (Kk ak al turn lg k):=by
 have lm:lg.length<=1:=by rcases hl with rfl | rfl <;> decide +kernel
 have t7:lets lg:=by
  rcases hl with rfl | rfl
  ·exact λc h=>by simp [Str.empty]at h
  ·exact λc h=>by rw [z_cps,Yax]at h;omega
 have hb:=D7 (lg:=lg) (turn:=turn) h0 h1 k
 have p6:=Go (turn:=turn) h0 h1 hc t7 k
 unfold Kk
 split
 ·rename_i hm
  have h5:=X9 _ hm
  have eq:(B2 ak al turn lg k ++ "q").length=(B2 ak al turn lg k).length+1:=by rw [B0,C8,N3,Yae,<- B0];rfl
  refine⟨Hu p6 (λc h=>by rw [N3,Yax]at h;omega),by omega,by omega,λhk=>?_⟩
  refine Ya _ hk ?_
  rw [C8,N3,List.getLast?_append]
  rfl
 ·rename_i hm
  refine⟨p6,by omega,by omega,λhk=>?_⟩
  have jx:B2 ak al turn lg k = "letter" := by
   simp only [List.mem_cons,List.not_mem_nil,or_false]at hk hm
   rcases hk with h | h | h | h | h | h | h | h
   ·exact absurd (Or.inl h) hm
   ·exact h
   ·exact absurd (Or.inr (Or.inl h)) hm
   ·exact absurd (Or.inr (Or.inr (Or.inl h))) hm
   ·exact absurd (Or.inr (Or.inr (Or.inr (Or.inl h)))) hm
   ·exact absurd (Or.inr (Or.inr (Or.inr (Or.inr (Or.inl h))))) hm
   ·exact absurd (Or.inr (Or.inr (Or.inr (Or.inr (Or.inr (Or.inl h)))))) hm
   ·exact absurd (Or.inr (Or.inr (Or.inr (Or.inr (Or.inr (Or.inr h)))))) hm
  have e6:("letter" : Str).length=6:=by decide +kernel
  rw [jx,e6]at hb
  rcases hl with rfl | rfl
  ·have:Str.empty.length=0:=rfl
   omega
  ·have e:=Ybb (λs:Str=>s.cps.toList.getLast?) jx
   simp only [D6 h0 h1,z_cps,M3,List.getLast?_append]at e
   simp at e
theorem R0(h0:0<=al)(h1:al<=(ak.length:Int)){n:Nat}(hn:n<=26):((List.range n).map (Kk ak al turn lg)).Nodup:=by
 unfold List.Nodup
 rw [List.pairwise_map]
 refine List.Pairwise.imp_of_mem (λ{a b} ha hb bu e=>?_) List.pairwise_lt_range
 have ha:=Yb2.mp ha
 have hb:=Yb2.mp hb
 have la:=D7 (lg:=lg) (turn:=turn) h0 h1 a
 have lb:=D7 (lg:=lg) (turn:=turn) h0 h1 b
 have lq:∀z:Str,(z ++ "q").length=z.length+1:=λz=>by rw [B0,C8,N3,Yae,<- B0];rfl
 have ij:B2 ak al turn lg a=B2 ak al turn lg b:=by
  unfold Kk at e
  split at e <;> split at e
  ·have e:=Ybb (λs:Str=>s.cps.toList) e
   simp only [C8]at e
   exact T6 (Yct e)
  ·have:=Ybb Str.length e
   rw [lq]at this;omega
  ·have:=Ybb Str.length e
   rw [lq]at this;omega
  ·exact e
 have:=M2 h0 h1 (by omega) (by omega) ij
 omega
end
end L2
namespace L2
open PySem PySem.SetTable
def Qe5(mask:Nat)(p:Probe):Probe :=
 if p.more > 0 then { p with j:=p.j+1,more:=p.more - 1 } else
 { p with j:=(leap mask p.i p.perturb).1,more:=runEnd mask (leap mask p.i p.perturb).1 - (leap mask p.i p.perturb).1,i:=(leap mask p.i p.perturb).1,perturb:=(leap mask p.i p.perturb).2 }
def Qe6(mask i perturb l:Nat):Probe:={ j:=i+l,more:=runEnd mask i - i - l,i:=i,perturb:=perturb,dummy:=none }
def pAt(mask:Nat)(h:Int):Nat->Probe
 | 0=>Qe6 mask (bits h % (mask+1)) (bits h) 0
 | n+1=>Qe5 mask (pAt mask h n)
def sq(mask:Nat)(h:Int)(n:Nat):Nat:=(pAt mask h n).j
def rn(mask:Nat)(h:Int):Nat->Nat×Nat
 | 0=>(bits h % (mask+1),bits h)
 | r+1=>leap mask (rn mask h r).1 (rn mask h r).2
def nr(mask:Nat)(h:Int):Nat->Nat
 | 0=>0
 | r+1=>nr mask h r+(runEnd mask (rn mask h r).1 - (rn mask h r).1)+1
end L2
namespace L2
open PySem
section
variable {prog:Program}{w:World}
variable {A:Around}{E:Value->Shared->Prop}{s:Shared}
end
end L2
namespace L2
open PySem PySem.Spec PyProof.Rows
section
variable {prog:Program}{w:World}{A:Around}{R:Result->Shared->Prop}{sa it t:Addr}{led:Bool}
end
section
variable {X:Cx}{aa:List (Addr×Obj)}{σ:St}{H:Hp}{s:Shared}{k:Nat}
end
section
variable {X:Cx}{tg:Expr}
end
section
variable {prog:Program}{w:World}{A:Around}{E:Value->Shared->Prop}
end
section
variable {X:Cx}{pos:Pos}
end
section
variable {prog:Program}{w:World}{Kt:Type} [DecidableEq Kt]{knd:KeyKind prog w Kt}{A:Around}{R:Result->Shared->Prop}{sa it t:Addr}{led:Bool}
variable {E:Value->Shared->Prop}{s:Shared}
end
section
variable {X:Cx}{aa:List (Addr×Obj)}{σ:St}{H:Hp}{s:Shared}{k:Nat}
end
section
variable {X:Cx}{k:Nat}
end
end L2
namespace L2
open PySem PySem.Spec PySem.Calls PyProof.Rows
section
variable {prog:Program}{w:World}{A:Around}{E:Value->Shared->Prop}{s:Shared}{K:PySem.W.Frag}{env:Env}
end
section
variable {M:Model}{A A1:Around}{E E1:Value->Shared->Prop}{s:Shared}{base:Heap}{env:Env}{outer:List Env}{L e:Addr}{cls:Value}{d:Option Addr}{vs:Array Value}
end
section
variable {X:Cx}{y:Str}{p pos be:Pos}{C:Addr}{EX:AX}
end
section
variable {P:Program}{w:World}{K:PySem.W.Frag}{mg:Str->Option Value}{base:Heap}
end
section
variable {X:Cx}{k:Nat}
end
section
variable {X:Cx}{x:Str}{p pos:Pos}{e:Expr}{es:List Expr}{t:AA}{k:Nat}{ps:List Str}{sp:ASp}
end
theorem M4{h:Heap}{e:PyData}:∀{ds:List PyData} {us:List Value} {as:List Addr},ReadsAll h us ds as->PyData.canLayAll0 ds=true->us.length=ds.length/\∀(m:Nat) (h1:m < us.length) (h2:m < ds.length),Gw h e us[m]=PyData.eqv ds[m] e
 | [],_,_,r,_=>by
  cases r
  exact⟨rfl,λm h1 _=>nomatch h1⟩
 | d :: ds,_,_,r,c=>by
  cases r with
  | cons r1 r2 =>
   simp only [PyData.canLayAll0,Bool.and_eq_true]at c
   obtain⟨i1,i2⟩:=M4 (e:=e) r2 c.2
   refine⟨by simp only [List.length_cons,i1],λm h1 h2=>?_⟩
   cases m with
   | zero=>exact Mj r1 c.1
   | succ m=>exact i2 m (Nat.lt_of_succ_lt_succ h1) (Nat.lt_of_succ_lt_succ h2)
def R1:AV->AC:=λx xs μ R=>match x,xs with
 | .R a,[y]=>opt (see μ y) λd=>opt (μ a) λm=>match m with
  | .lst ys=>opt (dats ys) λds=>Bq d/\Bq (.tuple ds)/\opt (ds.findIdx? λe=>PyData.eqv e d) λj=>R (.D (.int (j:Nat))) μ
  | _=>False
 | _,_=>False
section
variable {X:Cx}{k:Nat}
theorem Uw(hr:Room k X.A):VMt X "list.index" R1:=by
 intro aa s σ H x xs v us Q I rx r zq
 refine Df zq λa as μ R ra rs hc h hq=>?_
 cases a with
 | R a =>
  cases rs with
  | nil=>exact False.elim h
  | cons r1 r2 =>
   cases r2 with
   | cons _ _=>exact False.elim h
   | nil =>
    obtain⟨d,ed,h⟩:=A9 h
    obtain⟨m,em,h⟩:=A9 h
    cases m with
    | lst ys =>
     obtain⟨ds,eds,ok1,ok2,h⟩:=A9 h
     obtain⟨j,ej,h⟩:=A9 h
     obtain⟨o,ho,vs,rfl,rl⟩:=hc _ _ em
     cases (show x=.ref a from ra)
     obtain⟨u,rfl,ru⟩:=D9 r
     cases rx
     obtain⟨bs,rd⟩:=Cd I hc r1 ru ed
     obtain⟨af,r',pl,hz⟩:=I.list (Dq.of ho)
     obtain⟨c1,c2⟩:=Ek ok2
     obtain⟨cs,rb⟩:=Ao.reads I ds vs af (rl.dats eds) r'
     obtain⟨el,ea⟩:=M4 (e:=d) rb c1
     obtain⟨hj,e1,e2⟩:=List.findIdx?_eq_some_iff_getElem.mp ej
     have hl:=r'.length
     have hsl:sizeLine < 2 ^ 63 - 1:=by decide
     have hu:=hr.un
     obtain⟨⟨cls,dd,data,sl⟩,ho2,hc2,n,b0⟩:=id pl.isList
     simp only at hc2 b0
     subst hc2 b0
     refine Yc6 PySem.F.slot_list_index ⟨_,ho2,rfl⟩ PySem.F.entry_list_index (PySem.F.args_list_index_2 _ _)
      (SeqAt.list_indexAt a af.toArray n dd sl u (Gw s.heap d) j (by rw [Yah];omega) (by omega) ?_ ?_) ⟨ho2,λy hy=>(Cp (A:=X.A.in1) rd ok1.1 (by show X.A.units+1+64 < _;omega) rb c1 c2).1 y (by simpa using hy),?_⟩
     ·show Gw s.heap d af[j]=true
      rw [ea j (by omega) hj];exact e1
     ·intro m hm bu
      show Gw s.heap d af[m]=false
      rw [ea m (by simpa using hm) (by omega)]
      have:=e2 m bu
      simpa using this
     ·exact⟨.int j,H,I.tok _,⟨_,rfl⟩,hq _ _ _ _ Kp.refl hc Co h⟩
    | _=>exact False.elim h
 | _=>exact False.elim h
def Qgo:A2:=λx y μ R=>match x,y with
 | .D (.str i),.D (.str j)=>R (.D (.bool (!decide (i=j)))) μ
 | _,_=>False
def Ux(xs:List AV)(n:Nat):List AV:=(List.replicate n xs).flatten
def Qbl:A2:=λx y μ R=>match x,y with
 | .R a,.D (.int n)=>opt (μ a) λm=>match m with
  | .lst xs=>(0<=n/\n<=1000/\xs.length<=1000)/\∀p,μ p=none->R (.R p) (Ar μ p (.lst (Ux xs n.toNat)))
  | _=>False
 | _,_=>False
theorem Av.rep{K:PySem.W.Frag}{H:Hp}{xs:List AV}{vs:List V}(h:Av K H xs vs):∀n,Av K H (Ux xs n) (List.replicate n vs).flatten
 | 0=>.nil
 | n+1=>by
  unfold Ux
  rw [Ybr,Ybr,Yb6,Yb6]
  exact h.append (Av.rep h n)
theorem R3:VOp X (binaryOp .Mult) Qbl:=by
 intro aa s σ H x y v u Q I rx ry zq
 refine Df zq λa b μ R ra rb hc h hq=>?_
 cases a with
 | R a =>
  cases b with
  | D e =>
   cases e with
   | int n =>
    obtain⟨m,em,h⟩:=A9 h
    cases m with
    | lst xs =>
     obtain⟨⟨h0,h1,h2⟩,h⟩:=h
     obtain⟨o,ho,vs,rfl,rs⟩:=hc _ _ em
     cases (show x=.ref a from ra)
     cases RelA.int rb
     have hl:=rs.length
     have hz:vs.length * n.toNat<=sizeLine:=Yai (Nat.mul_le_mul (show vs.length<=1000 by omega) (show n.toNat<=1000 by omega)) (by decide)
     exact Xi aa s σ H _ _ v u Q I rx ry ⟨a,n,vs,rfl,rfl,ho,by omega,by omega,hz,λp hp=>hq _ _ _ _ (Kp.new hp _) (hc.new hp (Dn (rs.rep _))) Eh (h p (hc.none hp))⟩
    | _=>exact False.elim h
   | _=>exact False.elim h
  | _=>exact False.elim h
 | _=>exact False.elim h
end
end L2
namespace L2
open PySem PySem.Spec PySem.Calls PyProof.Rows PySem.W
section
variable {prog:Program}{w:World}{A:Around}{E:Value->Shared->Prop}{s:Shared}
end
end L2
namespace L2
open PySem PySem.Spec PySem.Calls PyProof.Rows
section
variable {X:Cx}{k:Nat}
end
end L2
namespace L2
open PySem PySem.Spec PySem.Calls PyProof.Rows PySem.W
section
variable {prog:Program}{w:World}{A:Around}{E:Value->Shared->Prop}{s:Shared}{R:Result->Shared->Prop}
variable {I:Addr}{fp wr:List Addr}{G:Array GenState->Array GenState->Prop}{n:Nat}{P:Nat->Value->Prop}{St:Nat->Shared->Prop}
end
section
variable {X:Cx}
end
end L2
namespace L2
open PySem
section
variable {prog:Program}{w:World}{A:Around}{E:Value->Shared->Prop}{s:Shared}
end
end L2
namespace L2
open PySem PySem.Spec PySem.Calls PyProof.Rows
section
variable {X:Cx}{k:Nat}
end
theorem Jn{h:Heap}{e:PyData}:∀{ds:List PyData} {us:List Value} {as:List Addr},ReadsAll h us ds as->PyData.canLayAll0 ds=true->us.countP (Gw h e)=ds.countP λd=>PyData.eqv d e
 | [],_,_,r,_=>by
  cases r
  rfl
 | d :: ds,_,_,r,c=>by
  cases r with
  | cons r1 r2 =>
   simp only [PyData.canLayAll0,Bool.and_eq_true]at c
   rw [List.countP_cons,List.countP_cons,Jn r2 c.2,Mj r1 c.1]
def Yb:AV->AC:=λx xs μ R=>match x,xs with
 | .R a,[y]=>opt (see μ y) λd=>opt (μ a) λm=>match m with
  | .lst ys=>opt (dats ys) λds=>Bq d/\Bq (.tuple ds)/\R (.D (.int ((ds.countP λe=>PyData.eqv e d:Nat):Int))) μ
  | _=>False
 | _,_=>False
section
variable {X:Cx}{k:Nat}
theorem N4(hr:Room k X.A):VMt X "list.count" Yb:=by
 intro aa s σ H x xs v us Q I rx r zq
 refine Df zq λa as μ R ra rs hc h hq=>?_
 cases a with
 | R a =>
  cases rs with
  | nil=>exact False.elim h
  | cons r1 r2 =>
   cases r2 with
   | cons _ _=>exact False.elim h
   | nil =>
    obtain⟨d,ed,h⟩:=A9 h
    obtain⟨m,em,h⟩:=A9 h
    cases m with
    | lst ys =>
     obtain⟨ds,eds,ok1,ok2,h⟩:=A9 h
     obtain⟨o,ho,vs,rfl,rl⟩:=hc _ _ em
     cases (show x=.ref a from ra)
     obtain⟨u,rfl,ru⟩:=D9 r
     cases rx
     obtain⟨bs,rd⟩:=Cd I hc r1 ru ed
     obtain⟨af,r',pl,hz⟩:=I.list (Dq.of ho)
     obtain⟨c1,c2⟩:=Ek ok2
     obtain⟨cs,rb⟩:=Ao.reads I ds vs af (rl.dats eds) r'
     have hu:=hr.un
     obtain⟨⟨cls,dd,data,sl⟩,ho2,hc2,n,b0⟩:=id pl.isList
     simp only at hc2 b0
     subst hc2 b0
     refine Yc6 Yc1 ⟨_,ho2,rfl⟩ PySem.F.entry_list_count (PySem.F.args_list_count_2 _ _)
      (SeqAt.list_countAt a af.toArray n dd sl u (Gw s.heap d)) ⟨ho2,λy hy=>(Cp (A:=X.A.in1) rd ok1.1 (by show X.A.units+1+64 < _;omega) rb c1 c2).1 y (by simpa using hy),?_⟩
     refine⟨.int ((ds.countP λe=>PyData.eqv e d:Nat):Int),H,I.tok _,⟨s.toks,?_⟩,hq _ _ _ _ Kp.refl hc Co h⟩
     rw [<- Jn rb c1]
    | _=>exact False.elim h
 | _=>exact False.elim h
end
theorem Pl{M:Model}{A:Around}{E:Value->Shared->Prop}{s:Shared}{β:Type}(f:Nat->β->Sem (ForInStep β))(k:Nat)(I:Nat->β->Shared->Prop)(Q:β->Shared->Prop)
  (turn:∀i b s',i < k->I i b s'->wpAny M A (f i b) (λr s2=>match r with | .done c=>Q c s2 | .yield c=>I (i+1) c s2) E s') (fin:∀b s',I k b s'->Q b s') (b:β) (h:I 0 b s):wpAny M A (forIn [:k] b f) Q E s:=by
 rw [Std.Legacy.Range.forIn_eq_forIn_range']
 simp only [Std.Legacy.Range.size,Nat.sub_zero,Nat.add_sub_cancel,Nat.div_one]
 refine wpAny_forIn_list _ (λrest q s'=>∃i,rest=List.range' i (k - i)/\i<=k/\I i q s') _ ?_ ?_ _ _ ⟨0,by simp,Ycq _,h⟩
 ·rintro x rest q s' ⟨i,hr,hi,hI⟩
  rcases Nat.lt_or_ge i k with bu | hge
  ·rw [show k - i=(k - (i+1))+1 by omega,List.range'_succ]at hr
   obtain⟨rfl,rfl⟩:=List.cons.inj hr
   refine Ybe (turn x q s' bu hI) (λr s2 qj=>?_) λ_ _ z=>z
   cases r with
   | done c=>exact qj
   | yield c=>exact⟨x+1,rfl,bu,qj⟩
  ·rw [Nat.sub_eq_zero_of_le hge]at hr
   cases hr
 ·rintro q s' ⟨i,hr,hi,hI⟩
  have:i=k:=by
   have:=Ybb List.length hr
   rw [List.length_range']at this
   simp at this
   omega
  subst this
  exact fin q s' hI
theorem Lm(l:Addr)(af:Array Value)(n:Nat)(dd:Option Addr)(sl:Array (Option Value))(x:Value)(e:Value->Bool)(j:Nat)(hj:j < af.size)(cf:e af[j]=true)(u5:∀m (hm:m < af.size),m < j->e af[m]=false) :
  Meets (Builtin.«tuple.index» ⟨[.ref l,x],[]⟩) (λA R s=>s.heap.get? l=some { cls:=.type "tuple",dict:=dd,data:=.seq af n,slots:=sl }/\(∀y,y∈af->SeqAt.EqAt A.in1 s y x (e y))/\R (.ok (.ret (.int j s.toks))) { s with toks:=s.toks+1 }) :=
 .of_wp λprog w A R s hh=>by
  obtain⟨hp,g,dl,tk,os⟩:=s
  obtain⟨hl,he,hR⟩:=hh
  wp_walk using Ycy hl,Pl _ _ (λi b s'=>s'=⟨hp,g,dl,tk,os⟩/\b=(none,())/\i<=j) _
  case turn =>
   rintro i b s' hi ⟨rfl,rfl,gw⟩
   have bu:i < af.size:=by omega
   rw [Array.getElem?_eq_getElem bu]
   refine Yab (he _ (Array.getElem_mem bu) prog w _ _ ?_)
   by_cases c:i=j
   ·subst c
    rw [cf]
    wp_walk
    exact⟨_,rfl,hR⟩
   ·rw [u5 i bu (by omega)]
    wp_walk
    exact⟨rfl,rfl,by omega⟩
  case fin =>
   rintro b s' ⟨rfl,rfl,gw⟩
   exfalso
   omega
  case h=>exact⟨rfl,rfl,Ycq _⟩
def Kl:AV->AC:=λx xs μ R=>match x,xs with
 | .D (.tuple ds),[y]=>opt (see μ y) λd=>Bq d/\Bq (.tuple ds)/\opt (ds.findIdx? λe=>PyData.eqv e d) λj=>R (.D (.int (j:Nat))) μ
 | _,_=>False
section
variable {X:Cx}{k:Nat}
theorem R4(hr:Room k X.A):VMt X "tuple.index" Kl:=by
 intro aa s σ H x xs v us Q I rx r zq
 refine Df zq λa as μ R ra rs hc h hq=>?_
 unfold Kl at h
 split at h
 ·rename_i ds y
  cases rs with
  | cons r1 r2 =>
   cases r2 with
   | nil =>
    obtain⟨d,ed,ok1,ok2,h⟩:=A9 h
    obtain⟨j,ej,h⟩:=A9 h
    obtain⟨a,vs,rfl,ha,hd⟩:=Dk.tup (K:=X.K) (H:=H) ra
    obtain⟨u,rfl,ru⟩:=D9 r
    cases rx
    obtain⟨bs,rd⟩:=Cd I hc r1 ru ed
    obtain⟨af,r',pl,hz⟩:=I.tuple ha.sq
    obtain⟨c1,c2⟩:=Ek ok2
    obtain⟨cs,rb⟩:=Ao.reads I ds vs af hd r'
    obtain⟨el,ea⟩:=M4 (e:=d) rb c1
    obtain⟨hj,e1,e2⟩:=List.findIdx?_eq_some_iff_getElem.mp ej
    have hu:=hr.un
    obtain⟨⟨cls,dd,data,sl⟩,ho2,hc2,n,b0⟩:=id pl
    simp only at hc2 b0
    subst hc2 b0
    refine Yc6 PySem.F.slot_tuple_index ⟨_,ho2,rfl⟩ PySem.F.entry_tuple_index (PySem.F.args_tuple_index_2 _ _)
     (Lm a af.toArray n dd sl u (Gw s.heap d) j (by rw [Yah];omega) ?_ ?_) ⟨ho2,λy hy=>(Cp (A:=X.A.in1) rd ok1.1 (by show X.A.units+1+64 < _;omega) rb c1 c2).1 y (by simpa using hy),?_⟩
    ·show Gw s.heap d af[j]=true
     rw [ea j (by omega) hj];exact e1
    ·intro m hm bu
     show Gw s.heap d af[m]=false
     rw [ea m (by simpa using hm) (by omega)]
     have:=e2 m bu
     simpa using this
    ·exact⟨.int j,H,I.tok _,⟨_,rfl⟩,hq _ _ _ _ Kp.refl hc Co h⟩
 ·exact h.elim
end
section
variable {X:Cx}{k:Nat}
end
section
variable {X:Cx}
end
def R5:AV->Prop
 | .D (.tuple (.tuple _ :: _))=>True
 | _=>False
section
variable {X:Cx}{k:Nat}
theorem R5.ty{H:Hp}{x:AV}{v:V}(rx:RelA X.K H x v)(h:R5 x):tyV X.K "tuple" v H:=by
 unfold R5 at h
 split at h
 ·rename_i ys ds
  obtain⟨a,xs,rfl,q,r⟩:=RelA.tup rx
  refine .inr (.inl ⟨rfl,?_⟩)
  rcases q with q | ⟨_,⟨o,h1,h2⟩,o',af,n,h3,h4,_⟩
  ·refine .inr ⟨xs,q,?_⟩
   obtain⟨x,r',rfl,d1,_⟩:=r.cons
   obtain⟨b,zs,rfl,_⟩:=d1.tup
   rintro(⟨i,y,e⟩ | ⟨z,y,e⟩) <;> cases e
  ·rw [h1]at h3
   cases h3
   exact .inl ⟨o,h1,h4,h2⟩
 ·exact h.elim
def Qe7(to:AE)(t:AA):AE:=fun τ μ R=>to τ μ λx μ1=>R5 x/\t τ μ1 λxs μ2=>Kl x xs μ2 R
theorem Uy{o e:Expr}{es:List Expr}{to:AE}{t:AA}{bf au:Pos}(hr:Room k X.A)(ho:VE X o to)(ha:VA X (e :: es) t)
  (bp:attributeBase o "index" X.env (eval o X.env)=eval o X.env:=by rfl)
  (d8:((backTo au (starEach (e :: es) X.env)).all (λx=>!x.1) && (backToKw au (keywordEach [] X.env)).all (λx=>x.1.isSome)
   && decide ((e :: es).length+([]:List Keyword).length+(if([]:List Keyword).isEmpty then 0 else 1) < 30))=true:=by rfl)
  (bo:(bf.endLine==au.line)=true:=by rfl) (hs:starEach (e :: es) X.env=(false,eval e X.env) :: starEach es X.env:=by rfl) (bq:(backTo au (starEach es X.env)).any (·.1)=false:=by rfl) :
  VE X (.Call (.Attribute o "index" bf) (e :: es) [] au) (Qe7 to t) :=
 (Ql PySem.F.plainAttrs_tuple PySem.F.slot_tuple_index PySem.F.type_tuple_index (R4 hr) ho ha bp d8 bo hs bq).imp fun σ H Q zz34=>B4 zz34 fun τ μ R hs hc h hq=>⟨τ,μ,_,hs,hc,h,λx μ1 v H1 S1 c1 rx hx=>⟨hx.1.ty rx,τ,μ1,_,hs.kp S1,c1,hx.2,λxs μ2 vs H2 S2 c2 rs hl ff =>
  ⟨x,xs,μ2,R,rx.kp S2,rs,c2,ff,hq.kp (S1.trans S2)⟩⟩⟩
def Qe8(t:AA):AI:=fun τ μ R=>t τ μ λxs μ1=>R xs (λ_=>True) μ1
theorem Yc{es:List Expr}{t:AA}{kt:Nat}{pos:Pos}{tg:Expr}(h:VA X es t)(hn:es.length<=sizeLine:=by decide):VI X tg (.Tuple es kt pos) (Qe8 t):=by
 intro aa s σ H R I zz
 refine B4 zz fun τ μ R' hs hc h' hq=>?_
 refine thn (Md h aa s σ H (λv H1=>∃p vs μ1 xs,v=.ref p/\Kp H H1/\Cn X.K μ1 H1/\H1 p=some (.tup vs)/\Av X.K H1 xs vs/\R' xs (λ_=>True) μ1) I ⟨τ,μ,_,hs,hc,h',λxs μ1 vs H1 S1 c1 rs hl hx=>⟨by rw [<- rs.length,hl];exact hn,λp hp=>⟨p,vs,μ1,xs,rfl,S1.trans (Kp.new hp _),c1.over hp,Be,rs.kp (Kp.new hp _),hx⟩⟩⟩) λv s1 zz2=>?_
 obtain⟨xv,H1,I1,r1,p,vs,μ1,xs,rfl,S1,c1,hp,rs,hx⟩:=zz2
 cases r1
 obtain⟨af,rv,pl,hz⟩:=I1.tuple (Fw.of hp)
 refine Yci (show s1.heap.IsTuple p af.toArray from pl) ?_
 refine⟨s1.heap.objs.size,[s1.heap.objs.size],_,_,H1,rfl,I1.kept (t':=s1.toks) λb o e=>Heap.get?_push_of_some _ e,Hb p _,⟨_,Heap.get?_push_size _ rfl,rfl,rfl⟩,λb hb=>?_,hq _ _ _ _ _ S1 c1 (Lj λH μ S c k2=>⟨vs,Fw.of (S.t _ _ hp),rs.kp S⟩) hx⟩
 have e:b=s1.heap.objs.size:=by simpa using hb
 subst e
 exact I1.fpOk (Yaf _) (I1.hok.fresh (Yaf _))
end
end L2
namespace K12
open PySem L2
def top(i:Nat):Stmt:=PySem.Challenge.pw_pileduel_k12_games_looked_at.main.body.getD i (.Pass ⟨0,0,0,0⟩)
abbrev Y8:Stmt:=top 17
abbrev Yd:Stmt:=top 18
abbrev Ye:Stmt:=top 19
abbrev Y9:Stmt:=top 20
abbrev Za:Stmt:=top 21
abbrev V0:Stmt:=top 22
abbrev Yf:Stmt:=top 23
abbrev Zb:Stmt:=top 24
abbrev V1:Stmt:=top 26
abbrev Zc:Stmt:=top 27
abbrev Yg:Stmt:=top 28
abbrev Yh:Stmt:=top 29
abbrev Zd:Stmt:=top 30
abbrev Uz:Stmt:=top 31
abbrev V2:Stmt:=top 32
abbrev Ze:Stmt:=top 33
abbrev Zf:Stmt:=top 34
abbrev Zg:Stmt:=top 35
abbrev Sw:Stmt:=top 36
abbrev U0:Stmt:=top 37
abbrev Zh:Stmt:=top 38
abbrev Yi:Stmt:=top 39
abbrev Hx:Stmt:=top 40
section
variable {P:Program}{w:World}{K:PySem.W.Frag}{mg:Str->Option Value}{base:Heap}{f:Addr}{fd:FuncData}
abbrev Pm:Stmt:=cdef (top 3)
abbrev Qe9:List Str:=["self","word","at"]
theorem Qbm:FnScope Qe9 ["self","word","at"] (Ag Pm):=⟨rfl,rfl,rfl,by decide +kernel,rfl,by decide +kernel,by decide +kernel⟩
theorem Yj{n:Nat}{C:Addr}(F:Fun K "__init__" "NoGame.__init__" Pm f fd) (c:XCls K C) (na0:Dl K C "word") (na1:Dl K C "at"):FnOk P w K mg base En (n+1) f fd ["self","word","at"] (spI C ["word","at"]):=by
 refine F.ok Qbm (λvs H Q E h=>?_) (λaq A outer s H vs Q E hr h=>?_)
 ·obtain⟨e,t,ys,rfl,hl,_⟩:=h
  rw [Ya9,hl];rfl
 obtain⟨e,t,ys,rfl,hl,he,q⟩:=h
 obtain⟨y0,y1,rfl⟩:=Um hl
 refine⟨_,Ha (Qap (pv 0) (pv 1) rfl) (Jr (Qaq (pv 0) (pv 2) rfl)),?_⟩
 refine⟨_,rfl,_,rfl,e,C,t,rfl,he,c,na0,λdx qa ay=>?_⟩
 refine⟨_,rfl,_,rfl,e,C,t,dx,_,rfl,by rw [Aw (Ycl ay),Be],Be,(show 1 < 1000 by decide),c,na1,?_⟩
 refine q _ t dx (λb o hb e'=>?_) (by rw [Aw (Ycl ay),Aw (Ycl ay),Be]) (by rw [Be];rfl) ay
 rw [Aw (B1 e' qa),Aw (B1 e' qa),Aw hb]
 exact e'
end
section
variable {P:Program}{w:World}{K:PySem.W.Frag}{mg:Str->Option Value}{base:Heap}{f:Addr}{fd:FuncData}
def Ex(i:Int):AV:=.D (.int i)
def E6(sd nm:Int)(l:Addr):MO:=.dk [(.inr "seed",.D (.int sd)),(.inr "number",.D (.int nm)),(.inr "left",.R l)]
structure PotAt(μ:M)(a l:Addr)(sd nm:Int)(ns:List Int):Prop where
 ha:μ a=some (E6 sd nm l)
 hl:μ l=some (.lst (ns.map Ex))
 s0:0<=sd
 s1:sd < 2147483648
 n0:0<=nm
 p0:∀n∈ns,0<=n
 ne:a≠l
def Pot(μ:M)(a l:Addr):Prop:=∃sd nm ns,PotAt μ a l sd nm ns
theorem Qfa:(.inr "seed" : Key)≠.inr "number" := by decide +kernel
theorem Qfb:(.inr "seed" : Key)≠.inr "left" := by decide +kernel
theorem Qfc:(.inr "number" : Key)≠.inr "left" := by decide +kernel
theorem Qbn:("seed" : Str) ≠ "number" := by decide +kernel
theorem Qfd:("seed" : Str) ≠ "left" := by decide +kernel
theorem Qfe:("number" : Str) ≠ "left" := by decide +kernel
theorem M5{sd nm:Int}{l:Addr}:dget (E6 sd nm l) (.str "seed")=some (some (.D (.int sd))):=Ybb some Ki
theorem V3{sd nm:Int}{l:Addr}:dget (E6 sd nm l) (.str "number")=some (some (.D (.int nm))):=Ybb some ((Kj Qfa).trans Ki)
theorem R6{sd nm:Int}{l:Addr}:dget (E6 sd nm l) (.str "left")=some (some (.R l)):=Ybb some ((Kj Qfb).trans ((Kj Qfc).trans Ki))
theorem Yk{sd nm v:Int}{l:Addr}:dput (E6 sd nm l) (.str "seed") (.D (.int v))=some (E6 v nm l):=by
 refine Ybb some (Ybb MO.dk ?_)
 simp [Pe,Qbn.symm,Qfd.symm]
theorem V4{sd nm v:Int}{l:Addr}:dput (E6 sd nm l) (.str "number") (.D (.int v))=some (E6 sd v l):=by
 refine Ybb some (Ybb MO.dk ?_)
 simp [Pe,Qbn,Qfe.symm]
theorem Km{sd nm:Int}{l:Addr}:dsize (E6 sd nm l) < sizeLine:=Bs (n:=3) (by decide)
def Bg(a l:Addr)(μ μ':M):Prop:=∀b m,b≠a->b≠l->μ b=some m->μ' b=some m
theorem Bg.refl{a l:Addr}{μ:M}:Bg a l μ μ:=λ_ _ _ _ h=>h
theorem Bg.trans{a l:Addr}{μ ν ρ:M}(h:Bg a l μ ν)(k:Bg a l ν ρ):Bg a l μ ρ:=λb m h1 h2 e=>k b m h1 h2 (h b m h1 h2 e)
theorem Bg.new{a l p:Addr}{μ ν:M}{o:MO}(h:Bg a l μ ν)(e:ν p=none):Bg a l μ (Ar ν p o):=λb m h1 h2 q=>by
 have:=h b m h1 h2 q
 rw [Aj (by intro z;subst z;rw [e]at this;cases this)];exact this
theorem Bg.put{a l p:Addr}{μ ν:M}{o:MO}(h:Bg a l μ ν)(e:μ p=none):Bg a l μ (Ar ν p o):=λb m h1 h2 q=>by
 rw [Aj (by intro z;subst z;rw [e]at q;cases q)];exact h b m h1 h2 q
theorem Bg.a{a l:Addr}{μ ν:M}{o:MO}(h:Bg a l μ ν):Bg a l μ (Ar ν a o):=λb m h1 h2 q=>by rw [Aj h1];exact h b m h1 h2 q
theorem Bg.l{a l:Addr}{μ ν:M}{o:MO}(h:Bg a l μ ν):Bg a l μ (Ar ν l o):=λb m h1 h2 q=>by rw [Aj h2];exact h b m h1 h2 q
theorem Bg.none{a l p:Addr}{μ ν:M}(h:Bg a l μ ν)(h1:a≠p)(h2:l≠p)(e:ν p=none):μ p=none:=by
 cases q:μ p with
 | none=>rfl
 | some m=>rw [h p m h1.symm h2.symm q]at e;cases e
theorem PotAt.other{μ:M}{a l p:Addr}{sd nm:Int}{ns:List Int}{o:MO}(h:PotAt μ a l sd nm ns)(h1:a≠p)(h2:l≠p):PotAt (Ar μ p o) a l sd nm ns :=
 ⟨by rw [Aj h1];exact h.ha,by rw [Aj h2];exact h.hl,h.s0,h.s1,h.n0,h.p0,h.ne⟩
theorem Pot.other{μ:M}{a l p:Addr}{o:MO}(h:Pot μ a l)(h1:a≠p)(h2:l≠p):Pot (Ar μ p o) a l:=let⟨sd,nm,ns,h⟩:=h;⟨sd,nm,ns,h.other h1 h2⟩
theorem Pot.ne{μ:M}{a l p:Addr}(h:Pot μ a l)(e:μ p=none):a≠p/\l≠p:=by
 obtain⟨sd,nm,ns,h⟩:=h
 exact⟨λz=>by(subst z;rw [h.ha]at e;cases e),λz=>by(subst z;rw [h.hl]at e;cases e)⟩
theorem Pot.new{μ:M}{a l p:Addr}{o:MO}(h:Pot μ a l)(e:μ p=none):Pot (Ar μ p o) a l:=h.other (h.ne e).1 (h.ne e).2
abbrev nDr:List Str:=["_law_deal_here","_law_many","_law_number","_law_one","_law_other"]
theorem U1:FnScope nDr ["_law_deal_here","_law_many"] (Ag Zc):=⟨rfl,rfl,rfl,by decide +kernel,rfl,by decide +kernel,by decide +kernel⟩
def Fq:ASp:=λxs μ R=>∃(a l:Addr) (many:Nat),xs=[.R a,.D (.int many)]/\Pot μ a l/\0 < many/\many<=1000000/\∀(v:Nat) (μ':M),v < many->Pot μ' a l->Bg a l μ μ'->R (.D (.int v)) μ'
theorem R7{v:Int}{many:Nat}(h0:0<=v)(h1:v < many):∃n:Nat,v=n/\n < many:=⟨v.toNat,by omega,by omega⟩
theorem R8(x:Int){m:Int}(h:0 < m):0<=x % m:=Yds x (by omega)
theorem R9(x:Int){m:Int}(h:0 < m)(h2:m<=2147483648):x % m < 2147483648:=Int.lt_of_lt_of_le (Yc0 x h) h2
theorem V5{x:Int}{many:Nat}{Q:Int->Prop}(h0:0 < many)(h:∀v:Nat,v < many->Q v):Q (x % many):=by
 obtain⟨v,ev,hv⟩:=R7 (Yds x (show(many:Int)≠0 by omega)) (Yc0 x (show 0 < (many:Int) by omega))
 rw [ev];exact h v hv
theorem Qbo{n:Nat}(F:Fun K "_law_draw" "_law_draw" Zc f fd) (ae:mg "len" = none):FnOk P w K mg base En (n+1) f fd ["_law_deal_here","_law_many"] (Ih K 2 Fq):=by
 refine F.vok U1 λaq A outer s H E hr=>⟨_,(Ae (Ro Ybk (VW.pt (Ct (Aq (Ce hr) (D5 (E2 hr) (vv 0) A4) Af (nomark _)) (Cs (Aq Lf (Ah Ba rfl ae Yad (Aa (D5 (E2 hr) (vv 0) A4) Ab)) Af (nomark _))))) (Ai (Kg (E2 hr) (vv 0) A4 (Xu PySem.F.slot_list_pop PySem.F.type_list_pop Qa0 (D5 (E2 hr) (vv 0) A4)))))
   (Ae (An (i:=2) U1.nd rfl (Or.inl rfl) (D5 (E2 hr) (vv 0) A4))
   (Ae (Bn (Aq Lf (vv 2) Af (nomark _)) (Ae (Kg (E2 hr) (vv 0) A4 (Au Xs (vv 2) (vv 1)))
   (Ai (Bd (Au Fk (vv 2) (vv 1))))) A0)
   (Ae (An (i:=3) U1.nd rfl (Or.inl rfl) (Au Fk (Au Bh (Au Fl (D5 (E2 hr) (vv 0) A4) Af) Af) Af))
   (Ae (Kg (E2 hr) (vv 0) A4 (Au Fk (Au Bh (Au Fl (vv 3) Af) Af) Af))
   (Ae (An (i:=4) U1.nd rfl (Or.inl rfl) (Au Fk (Au Fl (D5 (E2 hr) (vv 0) A4) (D5 (E2 hr) (vv 0) A4)) Af))
   (Ai (Bd (Au Fk (Au Bh (Au Fl (Au Fk (Au Fl (vv 3) (vv 3)) Af) Af) (vv 4)) (vv 1)))))))))),?_⟩
 rintro xs μ R _ ⟨a,l,many,rfl,⟨sd,nm,ns,D0⟩,h0,h1,q⟩
 refine Ap (fun τ μ'=>∃sd nm ns,τ=[some (.R a),some (.D (.int many)),none,none,none]/\PotAt μ' a l sd nm ns/\Bg a l μ μ') (λW' hW'=>?_) ?_
 ·refine Ui (λm τ μ'=>∃sd nm ns,τ=[some (.R a),some (.D (.int many)),none,none,none]/\m=ns.length/\PotAt μ' a l sd nm ns/\Bg a l μ μ') ns.length ⟨sd,nm,ns,rfl,rfl,D0,Bg.refl⟩ ?_
  rintro m τ μ' W ⟨sd,nm,ns,rfl,rfl,D,S⟩ hW
  refine Ac D.ha (Ac V3 (Ac rfl (ieq (λc=>?_) (λc=>Jg rfl (hW' _ _ ⟨sd,nm,ns,rfl,D,S⟩)))))
  refine Ac D.ha (Ac R6 (Ac rfl (Ac D.hl (dif (λc2=>?_) (λc2=>hW' _ _ ⟨sd,nm,ns,rfl,D,S⟩)))))
  have ay:ns≠[]:=by rintro rfl;exact absurd c2 (by decide)
  have hgl:(ns.map Ex)[(ns.map Ex).length - 1]?=some (Ex (ns.getLast ay)):=by rw [<- List.getLast?_eq_getElem?,List.getLast?_map,List.getLast?_eq_some_getLast ay];rfl
  have m6:(ns.map Ex).dropLast=ns.dropLast.map Ex:=by rw [List.map_dropLast]
  have ha2:Ar μ' l (.lst (ns.map Ex).dropLast) a=some (E6 sd nm l):=by rw [Aj D.ne];exact D.ha
  have zaf:0 < ns.length:=List.length_pos_iff.mpr ay
  refine Ac D.ha (Ac R6 (Ac rfl ⟨Ac D.hl trivial,Ac D.hl (Ac hgl (Ac ha2 (Ac V4 ⟨Km,hW ns.dropLast.length _ _ (by rw [List.length_dropLast];omega) ⟨sd,ns.getLast ay,ns.dropLast,rfl,rfl,?_,S.l.a⟩⟩)))⟩))
  exact⟨Ad,by rw [Aj D.ne.symm,Ad,m6],D.s0,D.s1,D.p0 _ (List.getLast_mem ay),λz hz=>D.p0 z ((List.dropLast_sublist ns).subset hz),D.ne⟩
 ·rintro τ μ' ⟨sd,nm,ns,rfl,D,S⟩
  refine Bv (Ac D.ha (Ac V3 (Ac rfl (Bv (dif (λc=>?_) (λc=>?_))))))
  ·refine Bv ⟨⟨by omega,by omega⟩,Ac D.ha (Ac V4 ⟨Km,(by show(0:Int) < _;omega),_,Sub.refl,?_⟩)⟩
   refine V5 (Q:=λi=>R (.D (.int i)) _) h0 λv hv=>?_
   exact q v _ hv ⟨sd,nm / many,ns,Ad,by rw [Aj D.ne.symm];exact D.hl,D.s0,D.s1,Int.ediv_nonneg D.n0 (by omega),D.p0,D.ne⟩ S.a
  ·refine Ap (fun τ μ1=>∃one:Int,τ=[some (.R a),some (.D (.int many)),some (.D (.int nm)),some (.D (.int one)),none]/\μ'=μ1/\0<=one/\one < 2147483648) (λW hW=>?_) ?_
   ·exact Ac D.ha (Ac M5 (Ac rfl ⟨.inr ⟨by decide,by decide⟩,(by show(0:Int) < _;decide),hW _ _ ⟨_,rfl,rfl,R8 _ (by decide),R9 _ (by decide) (by decide)⟩⟩))
   rintro τ μ1 ⟨one,rfl,rfl,o0,o1⟩
   refine Ap (fun τ μ1=>∃wv:Int,τ=[some (.R a),some (.D (.int many)),some (.D (.int nm)),some (.D (.int one)),none]/\PotAt μ1 a l wv nm ns/\Bg a l μ μ1) (λW hW=>?_) ?_
   ·exact⟨.inr ⟨by decide,by decide⟩,(by show(0:Int) < _;decide),Ac D.ha (Ac Yk ⟨Km,hW _ _ ⟨_,rfl,⟨Ad,by rw [Aj D.ne.symm];exact D.hl,R8 _ (by decide),R9 _ (by decide) (by decide),D.n0,D.p0,D.ne⟩,S.a⟩⟩)⟩
   rintro τ μ2 ⟨wv,rfl,D2,S2⟩
   have w0:=D2.s0
   have w1:=D2.s1
   refine Bv (Ac D2.ha (Ac M5 (Ac rfl (Ac D2.ha (Ac M5 (Ac rfl ⟨.inl ⟨by omega,by omega⟩,(by show(0:Int) < _;decide),?_⟩))))))
   refine⟨.inl ⟨by omega,by omega⟩,(by show(0:Int) < _;decide),.inr ⟨by decide,by decide⟩,(by show(0:Int) < _;omega),_,Sub.refl,?_⟩
   exact V5 (Q:=λi=>R (.D (.int i)) _) h0 λv hv=>q v _ hv ⟨wv,nm,ns,D2⟩ S2
abbrev nDe:List Str:=["_law_script","_law_base","_law_cell","_law_cells","_law_number"]
theorem Sa:FnScope nDe ["_law_script","_law_base"] (Ag V1):=⟨rfl,rfl,rfl,by decide +kernel,rfl,by decide +kernel,by decide +kernel⟩
theorem Qbp:(["_law_cell"]:List Str).Nodup:=by decide +kernel
theorem Qbq:(["_law_cell"]:List Str).Nodup:=by decide +kernel
def Fc(ns:List Int):PyData:=.list (ns.map .int)
theorem Jo(μ:M)(ns:List Int):items μ (.D (Fc ns))=some (ns.map Ex):=by
 show some ((ns.map PyData.int).map AV.D)=_
 rw [Yat];rfl
theorem Ln{α:Type}(g:α->AV)(xs:List α)(lo hi:Option Int):∃ys:List α,Ms (xs.map g) lo hi=ys.map g/\ys.length<=xs.length:=by
 refine⟨(xs.drop (HT.sIx (xs.map g).length 0 lo)).take (HT.sIx (xs.map g).length (xs.map g).length hi - HT.sIx (xs.map g).length 0 lo),?_,?_⟩
 ·unfold Ms
  rw [<- List.map_drop,<- List.map_take]
 ·rw [Ya0,Ycb];omega
def Yl:ASp:=λxs μ R=>∃(ns:List Int) (b:Nat),xs=[.D (Fc ns),.D (.int b)]/\b < 1000/\ns.length<=63/\∀(a l:Addr) (μ':M),μ a=none->μ l=none->Pot μ' a l->Sub μ μ'->R (.R a) μ'
def M6(i:Int):Int:=if 0 - i > i then 0 - i else i
theorem Ym(i:Int):0<=M6 i:=by unfold M6;split <;> omega
theorem Qbr{n:Nat}(F:Fun K "_law_deal" "_law_deal" V1 f fd) (bj:mg "max" = none) (az:mg "list" = none) (bt:mg "reversed" = none):FnOk P w K mg base En (n+1) f fd ["_law_script","_law_base"] (Ih K 2 Yl):=by
 refine F.vok Sa λaq A outer s H E hr=>⟨_,(Ae (Fm (i:=3) (N':=["_law_cell"]) (mp:=[none]) rfl Sa.nd rfl rfl (B9 (Ax (vv 0) (A6 (vv 1)) (A6 Af))) (λ_ _ _ _=>(Am (i:=0) Qbp rfl (Or.inl rfl) (Or.inr rfl))) (λ_ _ _ _=>Bx) (λ_ _ _ _=>(Ah (Gf rfl) rfl bj Ybt (Aa (vv 0) (Aa (Au Qav Af (vv 0)) Ab)))) (Bb (N:=nDe) (pn:=(Ag V1).names) (by decide +kernel)))
   (Ae (An (i:=4) Sa.nd rfl (Or.inl rfl) (Au Bh Af (vv 1)))
   (Ae (C6 Ybk rfl (B9 (vv 3)) (Am (i:=2) Sa.nd rfl (Or.inl rfl)) (Ai (An (i:=4) Sa.nd rfl (Or.inl rfl) (Au Fk (Au Bh (Au Fl (vv 4) Af) (Au Fk (vv 2) Af)) Af))))
   (Ai (Bd (Ut (Kh (vv 4) (Kh Af (Kh (Uv rfl rfl az rfl bt (Bz (N':=["_law_cell"]) (mp:=[none]) rfl (B9 (vv 3)) (λ_ _ _ _=>(Am (i:=0) Qbq rfl (Or.inl rfl) (Or.inr rfl))) (λ_ _ _ _=>(C3 (Aq Qel (vv 0) (Au Vm Af Af) (nomark _)))) (λ_ _ _ _=>(vv 0)) (Bb (N:=nDe) (pn:=(Ag V1).names) (by decide +kernel)))) Us))) (by decide +kernel))))))),?_⟩
 rintro xs μ R _ ⟨ns,b,rfl,hb,hn,q⟩
 obtain⟨cs,ecs,bz⟩:=Ln Ex ns (some (b:Int)) (some 63)
 refine Ap (fun τ μ'=>∃pc,τ=[some (.D (Fc ns)),some (.D (.int b)),none,some (.R pc),none]/\μ pc=none/\μ' pc=some (.lst ((cs.map M6).map Ex))/\Sub μ μ') (λW hW=>?_) ?_
 ·refine Ac (Jo _ ns) λp hp=>?_
  rw [ecs]
  refine Ac (A8 Ad) λpc ao=>?_
  have ay:p≠pc:=by intro z;subst z;rw [Ad]at ao;cases ao
  have xa:μ pc=none:=by rw [Aj ay.symm]at ao;exact ao
  refine cmap cs Ex (λi=>Ex (M6 i)) (fun τ=>∃o,τ=[o]) ⟨_,rfl⟩ Ad (seven (by omega)) (λah=>A8 (by rw [Aj ay,Aj ay,Ad])) ?_ ?_
  ·rintro i x τ' ah W2 hi ⟨o,rfl⟩ ef
   exact ef _ ⟨_,rfl⟩
  ·refine hW _ _ ⟨pc,rfl,xa,?_,((Sub.refl.new hp).new xa).new xa⟩
   rw [Ad,Yat];rfl
 rintro τ μ1 ⟨pc,rfl,hpn,ao,S1⟩
 refine Ap (fun τ μ2=>∃sd:Int,τ=[some (.D (Fc ns)),some (.D (.int b)),none,some (.R pc),some (.D (.int sd))]/\μ1=μ2/\0<=sd/\sd < 2147483648) (λW hW=>id (hW _ _ ⟨_,rfl,rfl,by omega,by omega⟩)) ?_
 rintro τ μ2 ⟨sd0,rfl,rfl,z0,z1⟩
 refine Ap (fun τ μ2=>∃(o2:Option AV) (sd:Int),τ=[some (.D (Fc ns)),some (.D (.int b)),o2,some (.R pc),some (.D (.int sd))]/\μ1=μ2/\0<=sd/\sd < 2147483648) (λW hW=>?_) ?_
 ·refine Ac (A8 ao) ?_
  refine El (λi τ μ2=>∃(o2:Option AV) (sd:Int),τ=[some (.D (Fc ns)),some (.D (.int b)),o2,some (.R pc),some (.D (.int sd))]/\μ1=μ2/\0<=sd/\sd < 2147483648) ⟨none,sd0,rfl,rfl,z0,z1⟩ ?_ ?_ ?_
  ·rintro i τ μ2 ⟨o2,sd,rfl,rfl,_⟩
   exact A8 ao
  ·rintro i y τ μ2 W2 hy ⟨o2,sd,rfl,rfl,h0,h1⟩ ef
   rw [List.getElem?_map]at hy
   obtain⟨c,hc,rfl⟩:=Yav.mp hy
   exact⟨.inr ⟨by decide,by decide⟩,(by show(0:Int) < _;decide),(by show(0:Int) < _;decide),ef _ _ ⟨_,_,rfl,rfl,R8 _ (by decide),R9 _ (by decide) (by decide)⟩⟩
  ·rintro τ μ2 ⟨o2,sd,rfl,rfl,h0,h1⟩
   exact hW _ _ ⟨_,_,rfl,rfl,h0,h1⟩
 rintro τ μ2 ⟨o2,sd,rfl,rfl,h0,h1⟩
 intro a ha
 have hac:a≠pc:=by intro z;subst z;rw [ao]at ha;cases ha
 have i8:Ar μ1 a (.dk []) pc=some (.lst ((cs.map M6).map Ex)):=by rw [Aj hac.symm];exact ao
 refine Ac (A8 i8) λpl hpl=>?_
 have p5:a≠pl:=by intro z;subst z;rw [Ad]at hpl;cases hpl
 have ko:pc≠pl:=by intro z;subst z;rw [i8]at hpl;cases hpl
 have ke:μ1 pl=none:=by rw [Aj p5.symm]at hpl;exact hpl
 refine cmapf (cs.map M6) Ex (λx=>decide ((10:Int) ^ (18:Int).toNat<=x)) Ex (fun τ=>∃o,τ=[o]) ⟨none,rfl⟩ Ad (seven (by rw [Yaa];omega)) (λah=>A8 (by rw [Aj ko,Aj ko];exact i8)) ?_ ?_
 ·rintro i x τ' ah W2 W3 hi ⟨o,rfl⟩ h2 h3
  exact⟨⟨by decide,by decide,by decide⟩,br (λc=>h2 c _ ⟨_,rfl⟩) (λc=>h3 c _ ⟨_,rfl⟩)⟩
 generalize ff:(cs.map M6).filter (λx=>decide ((10:Int) ^ (18:Int).toNat<=x))=xs
 have hx0:∀x∈xs,0<=x:=λx hx=>by
  rw [<- ff]at hx
  obtain⟨z,_,rfl⟩:=Ybj.mp (List.mem_filter.mp hx).1
  exact Ym z
 refine Ac Ad λl hl=>?_
 have cz:pl≠l:=by intro z;subst z;rw [Ad]at hl;cases hl
 have fm:a≠l:=by
  intro z;subst z
  rw [Aj p5,Aj p5,Ad]at hl;cases hl
 have hl4:μ1 l=none:=by rw [Aj cz.symm,Aj cz.symm,Aj fm.symm]at hl;exact hl
 refine⟨by rw [Aj fm,Aj p5,Aj p5,Ad],_,Sub.refl,q a l _ (S1.none ha) (S1.none hl4) ⟨sd,0,xs.reverse,Ad,?_,h0,h1,Int.le_refl 0,λz hz=>hx0 z (List.mem_reverse.mp hz),fm⟩ ?_⟩
 ·rw [Aj fm.symm,Ad,List.map_reverse]
 ·exact((((S1.new (S1.none ha)).new (S1.none ke)).new (S1.none ke)).new (S1.none hl4)).new (S1.none ha)
end
section
variable {P:Program}{w:World}{K:PySem.W.Frag}{mg:Str->Option Value}{base:Heap}{f:Addr}{fd:FuncData}
def Sb(ns:List Nat):PyData:=.tuple (ns.map λ(n:Nat)=>.int n)
theorem N5{ns:List Nat}:PyData.canLayAll0 (ns.map λ(n:Nat)=>.int n)=true/\PyData.depthAll (ns.map λ(n:Nat)=>.int n)<=1:=by
 induction ns with
 | nil=>exact⟨rfl,by simp [PyData.depthAll]⟩
 | cons n ns ih =>
  simp only [List.map_cons,PyData.canLayAll0,PyData.depthAll,ih.1,Bool.and_true]
  refine⟨rfl,?_⟩
  have:=ih.2
  simp only [PyData.depth];omega
def Gh(n:Nat):AV:=.D (.int n)
theorem Lo(ns:List Nat):dats (ns.map Gh)=some (ns.map λ(n:Nat)=>.int n):=by
 rw [show ns.map Gh=(ns.map λ(n:Nat)=>PyData.int n).map .D by rw [Yat];rfl];exact B7 _
end
section
variable {P:Program}{w:World}{K:PySem.W.Frag}{mg:Str->Option Value}{base:Heap}{f:Addr}{fd:FuncData}
def A7(z:Str):AV:=.D (.str z)
theorem Dv(zs:List Str):dats (zs.map A7)=some (zs.map PyData.str):=by
 rw [show zs.map A7=(zs.map PyData.str).map .D by rw [Yat];rfl];exact B7 _
theorem U3(zs:List Str)(z:Str):((zs.map PyData.str).any λe=>PyData.eqv e (.str z))=decide (z∈zs):=by
 induction zs with
 | nil=>simp
 | cons x zs ih =>
  rw [Yaz,Yb0,ih,Nw,<- Bool.decide_or]
  refine Ycf.mpr ?_
  rw [Ya8]
  exact⟨λh=>h.elim (λe=>.inl e.symm) .inr,λh=>h.elim (λe=>.inl e.symm) .inr⟩
def B3(p:Str×Nat):PyData:=.tuple [.str p.1,.int (p.2:Nat)]
def prA(p:Str×Nat):AV:=.D (B3 p)
theorem Lp(P:List (Str×Nat)):dats (P.map prA)=some (P.map B3):=by
 rw [show P.map prA=(P.map B3).map .D by rw [Yat];rfl];exact B7 _
theorem Dj{μ:M}{l:Addr}{xs:List AV}{ds:List PyData}(e:μ l=some (.lst xs))(hd:dats xs=some ds):see μ (.R l)=some (.list ds):=by
 show(match μ l with | some (.lst xs)=>(match dats xs with | some ds=>some (PyData.list ds) | none=>none) | _=>none)=some (PyData.list ds)
 rw [e]
 dsimp only
 rw [hd]
theorem N6(ds:List PyData):PyData.eqv (.list ds) (.list [])=ds.isEmpty:=by
 cases ds <;> simp [PyData.eqv,PyData.eqvAll]
def Fv{α:Type}(f:Nat->Option α)(n:Nat):Option α:=(List.range n).findSome? f
theorem Fr{α:Type}{f:Nat->Option α}{n:Nat}(h:∀j < n,f j=none):Fv f n=none:=by
 unfold Fv
 rw [List.findSome?_eq_none_iff]
 exact λj hj=>h j (Yb2.mp hj)
theorem M7{α:Type}{f:Nat->Option α}{x:α}{i:Nat}:∀{n:Nat},i < n->(∀j < i,f j=none)->f i=some x->Fv f n=some x
 | 0,h,_,_=>absurd h (by omega)
 | n+1,h,hb,e=>by
  unfold Fv
  rw [List.range_succ,List.findSome?_append]
  rcases(show i < n\/i=n by omega) with h | rfl
  ·have:=M7 h hb e
   unfold Fv at this
   rw [this];rfl
  ·have:=Fr hb
   unfold Fv at this
   rw [this]
   simp [e]
theorem N7{α:Type}(p:Nat->Bool)(g:Nat->α):∀l:List Nat,((l.filter p).map g).head?=l.findSome? λi=>if p i=true then some (g i) else none
 | []=>rfl
 | i :: l=>by
  have:=N7 p g l
  cases h:p i <;> simp [h,this]
def Fd(w:Str)(n:Nat):Option (Str×Nat):=if 1<=n/\n<=3 then none else some (w,n)
def Jp(zs:List Str)(i:Nat):Option (Str×Nat):=match zs[i]? with
 | some z=>if z∈zs.take i then some ("twice",i) else none
 | none=>none
theorem Sc{α:Type} [DecidableEq α]{g:α->PyData}{xs:List α}{x:α}{i:Nat}(hg:∀a∈xs,PyData.eqv (g a) (g x)=decide (a=x))(hi:xs[i]?=some x):∃j:Nat,((xs.map g).findIdx? λe=>PyData.eqv e (g x))=some j/\(j < i↔x∈xs.take i):=by
 have hx:=Ybg hi
 have hs:((xs.map g).findIdx? λe=>PyData.eqv e (g x)).isSome=true:=by
  rw [List.findIdx?_isSome,Ydk]
  exact⟨g x,Ybj.mpr ⟨x,hx,rfl⟩,by rw [hg x hx,Ybl rfl]⟩
 obtain⟨j,ej⟩:=Ycr.mp hs
 refine⟨j,ej,?_⟩
 obtain⟨hj,e1,e2⟩:=List.findIdx?_eq_some_iff_getElem.mp ej
 have hj':j < xs.length:=by simpa using hj
 rw [List.getElem_map,hg _ (Ybu hj')]at e1
 have e1:=Yam e1
 constructor
 ·intro h
  rw [Ycn]
  exact⟨j,by omega,e1⟩
 ·intro h
  obtain⟨m,hm,em⟩:=Ycn.mp h
  rcases Nat.lt_or_ge m j with h1 | h1
  ·have:=e2 m h1
   rw [List.getElem_map,hg _ (Ybu (by omega)),em,Ybl rfl]at this
   simp at this
  ·omega
end
section
variable {P:Program}{w:World}{K:PySem.W.Frag}{mg:Str->Option Value}{base:Heap}{f:Addr}{fd:FuncData}
theorem G5{z:Str}(h:lets z):PyData.canLay0 (.str z)=true:=by
 show PyData.strOk z=true
 unfold PyData.strOk
 rw [Array.all_eq_true]
 intro i hi
 have:=h z.cps[i] (by simp)
 simp
 omega
theorem Es{z:Str}(h:lets z):Bq (.str z):=Rq (G5 h)
theorem Lq:∀(zs:List Str),txts (zs.map A7)=some zs
 | []=>rfl
 | z :: zs=>by simp only [List.map_cons,A7,txts,Option.map_eq_some_iff];exact⟨zs,Lq zs,rfl⟩
theorem U4:∀i:Fin 26,∃c,("abcdefghijklmnopqrstuvwxyz" : Str).cps.toList[i.val]?=some c/\97<=c/\c<=122:=by decide +kernel
theorem Sd{v:Nat}(h:v < 26):∃c,atI ("abcdefghijklmnopqrstuvwxyz" : Str).cps.toList (v:Int)=some c/\97<=c/\c<=122:=by
 obtain⟨c,e,h1⟩:=U4 ⟨v,h⟩
 exact⟨c,Al e,h1⟩
theorem Se{c:Nat}(h:97<=c/\c<=122):lets ⟨#[c]⟩:=λd hd=>by
 have:d=c:=by simpa using hd
 rw [this];exact h
theorem Sf:("abcdefghijklmnopqrstuvwxyz" : Str).length<=sizeLine:=by decide +kernel
theorem Sg:("" : Str).length=0:=by decide +kernel
theorem G6(x y:Str):(x++y).length=x.length+y.length:=by rw [B0,B0,B0,C8,Yae]
theorem Lr:∀{zs:List Str},(∀z∈zs,z.length=1)->(zs.map (·.length)).sum=zs.length
 | [],_=>rfl
 | z :: zs,h=>by
  simp only [List.map_cons,List.sum_cons,List.length_cons]
  rw [h z Yau,Lr λy hy=>h y (Yao _ hy)];omega
theorem Pn(zs:List Str):(Txt.join "" zs).length=(zs.map (·.length)).sum:=by
 show(PySem.Builtin.Str.glued "" zs).length=_
 rw [StrLaws.glued_eq_join]
 induction zs with
 | nil=>rfl
 | cons x zs ih =>
  cases zs with
  | nil=>simp [Str.join]
  | cons y zs =>
   have e:Str.join "" (x :: y :: zs)=x ++ "" ++ Str.join "" (y :: zs):=rfl
   rw [e,G6,G6,Sg,ih]
   simp
theorem Qdf{x:Str}{j:Nat}(h:lets x)(hj:j<=x.length):lets (Txt.slice x none (some (j:Int))):=λc hc=>by
 rw [Hv (by omega) (by omega)]at hc
 exact h c (Ybo hc)
theorem Yn{x:Str}{j:Nat}(hj:j<=x.length):(Txt.slice x none (some (j:Int))).length=j:=by
 rw [B0,Hv (by omega) (by omega),Ya0,<- B0];omega
theorem Si{x:Str}{j:Nat}(hj:j<=x.length):(Txt.slice x (some (j:Int)) none).length=x.length - j:=by
 rw [B0,Hw (by omega) (by omega),Ycb,<- B0];omega
theorem Qfg{x:AV}{i:Nat}{u:AS}{k:ASt->M->Prop}{r:AV->M->Prop}{b c:ASt->M->Prop}{τ:ASt}{μ:M}(h:u k r b c (τ.set i (some x)) μ):Pb (Kd (vC x) (Ch i)) u k r b c τ μ:=h
theorem Yo:∀i:Fin 26,("abcdefghijklmnopqrstuvwxyz" : Str).cps.toList[i.val]?=some (97+i.val):=by decide +kernel
theorem Yp:Bq (.tuple (Gg.map PyData.str)):=⟨by decide +kernel,by decide +kernel⟩
theorem Po{α:Type}(f:Nat->α)(i:Nat):(List.range (i+1)).map f=(List.range i).map f++[f i]:=by rw [List.range_succ,Yak];rfl
abbrev nNa:List Str:=["_law_deal_here","_law_many","_law_letters","_law_k","_law_core","_law_at","_law_turn","_law_longer","_law_found","_law_sign","_law_name"]
theorem Hy:FnScope nNa ["_law_deal_here","_law_many"] (Ag Yg):=⟨rfl,rfl,rfl,by decide +kernel,rfl,by decide +kernel,by decide +kernel⟩
theorem Qbs:(["_law_k","_law_letters","_law_deal_here"]:List Str).Nodup:=by decide +kernel
def Qbt:ASp:=λxs μ R=>∃(a l:Addr) (many:Nat),xs=[.R a,.D (.int many)]/\many<=5/\Pot μ a l/\∀(zs:List Str) (p:Addr) μ',zs.length=many->(∀z∈zs,NameOk z)->zs.Nodup->μ p=none->μ' p=some (.lst (zs.map A7))->Pot μ' a l->Bg a l μ μ'->R (.R p) μ'
theorem Qbu{n:Nat}(F:Fun K "_law_names" "_law_names" Yg f fd) (bd:VCal P w K mg base n "_law_draw" ["_law_deal_here","_law_many"] Fq) (ai:mg "range" = none) (ae:mg "len" = none):FnOk P w K mg base En (n+1) f fd ["_law_deal_here","_law_many"] (Ih K 2 Qbt):=by
 refine F.vok Hy λaq A outer s H E hr=>⟨_,(Ae (An (i:=2) Hy.nd rfl (Or.inr rfl) A4)
   (Ae (An (i:=4) Hy.nd rfl (Or.inl rfl) (Qay PySem.F.slot_str_join PySem.F.type_str_join X7 A4 (Aa (Bz (N':=["_law_k","_law_letters","_law_deal_here"]) (mp:=[none,some 2,some 0]) rfl (Bt rfl ai (Aa (Ak bd hr rfl (Aa (vv 0) (Aa Af Ab))) Ab)) (λ_ _ _ _=>(Am (i:=0) Qbs rfl (Or.inl rfl) (Or.inr rfl))) (λ_ _ _ _=>Bx) (λ_ _ _ _=>(A3 Bk (vv 1) (Ak bd hr rfl (Aa (vv 2) (Aa Af Ab))))) (Bb (N:=nNa) (pn:=(Ag Yg).names) (by decide +kernel))) Ab)))
   (Ae (An (i:=5) Hy.nd rfl (Or.inl rfl) (Ak bd hr rfl (Aa (vv 0) (Aa (Au Bh (Ah Ba rfl ae Yad (Aa (vv 4) Ab)) Af) Ab))))
   (Ae (An (i:=6) Hy.nd rfl (Or.inl rfl) (Ak bd hr rfl (Aa (vv 0) (Aa Af Ab))))
   (Ae (An (i:=7) Hy.nd rfl (Or.inl rfl) (Au Fl A4 (Ak bd hr rfl (Aa (vv 0) (Aa Af Ab)))))
   (Ae (An (i:=8) Hy.nd rfl (Or.inl rfl) (Cg Ab))
   (Ae (C6 Ybk rfl (Bt rfl ai (Aa (vv 1) Ab)) (Am (i:=3) Hy.nd rfl (Or.inl rfl)) (Ae (An (i:=9) Hy.nd rfl (Or.inl rfl) (A3 Bk (vv 2) (Au Fk (Au Bh (vv 6) (Au Fl Af (vv 3))) Af)))
   (Ae (An (i:=10) Hy.nd rfl (Or.inl rfl) (Au Bh (Au Bh (Au Bh (Ax (vv 4) Bc (A6 (vv 5))) (vv 9)) (Ax (vv 4) (A6 (vv 5)) Bc)) (vv 7)))
   (Ae (Bn (Aq (Ud hr) (vv 10) (Az (Aa A4 (Aa A4 (Aa A4 (Aa A4 (Aa A4 (Aa A4 (Aa A4 Ab)))))))) (by with_unfolding_all rfl)) (Ai (An (i:=10) Hy.nd rfl (Or.inl rfl) (Au Bh (vv 10) A4))) A0)
   (Ai (Cj (E5 Ybc Ybd Da (vv 8) (Aa (vv 10) Ab))))))))
   (Ai (Bd (vv 8)))))))))),?_⟩
 rintro xs μ R _ ⟨a,l,many,rfl,hm,hP,q⟩
 refine Qfg (Ap (fun τ μ'=>∃ak:Str,τ=[some (.R a),some (.D (.int many)),some (A7 "abcdefghijklmnopqrstuvwxyz"),none,some (A7 ak),none,none,none,none,none,none]/\lets ak/\ak.length<=4/\Pot μ' a l/\Bg a l μ μ') (λZ hZ=>?_) ?_)
 ·refine⟨trivial,a,l,5,rfl,hP,by decide,by decide,λc μ1 hc P1 S1=>⟨by omega,by omega,λpl hpl=>?_⟩⟩
  have ay:=P1.ne hpl
  have am:(Db 0 (c:Int).toNat).length=c:=by rw [Bo];omega
  refine Ho (λj ah τ μ'=>∃(o:Option AV) (zs:List Str),τ=[o,some (A7 "abcdefghijklmnopqrstuvwxyz"),some (.R a)]/\ah=zs.map A7/\zs.length=j/\(∀z∈zs,lets z/\z.length=1)/\μ' pl=some (.lst ah)/\Pot μ' a l/\Bg a l μ1 μ') ⟨none,[],rfl,rfl,rfl,(λ_ z=>nomatch z),Ad,P1.new hpl,Bg.refl.new hpl⟩ (λ_ _ _ _ _=>trivial) ?_ ?_
  ·rintro j x ah τ μ2 Z2 hx ⟨o,zs,rfl,rfl,hn,hb,e2,P2,S2⟩ ck
   refine Lb rfl ⟨a,l,26,rfl,P2,by decide,by decide,λv μ3 hv P3 S3=>?_⟩
   have e3:=S3 pl _ ay.1.symm ay.2.symm e2
   obtain⟨ch,ec,dy⟩:=Sd hv
   have hj:j < c:=by rw [<- am];exact(List.getElem?_eq_some_iff.mp hx).1
   refine⟨Sf,Ac ec ⟨e3,Bs (by rw [Yaa];omega),ck _ _ _ ⟨_,zs++[⟨#[ch]⟩],rfl,by rw [Yak];rfl,by rw [Yae,hn];rfl,λz hz=>?_,Ad,P3.other ay.1 ay.2,(S2.trans S3).put hpl⟩⟩⟩
   rcases Yaw.mp hz with h | h
   ·exact hb z h
   ·rw [Yax.mp h];exact⟨Se dy,rfl⟩
  ·rintro ah τ μ2 ⟨o,zs,rfl,rfl,hn,hb,e2,P2,S2⟩
   rw [am]at hn
   have oj:=Lr λz hz=>(hb z hz).2
   refine Ac e2 (Ac (Lq zs) ⟨?_,hZ _ _ ⟨Txt.join "" zs,rfl,Pk λz hz=>(hb z hz).1,?_,P2,S1.trans S2⟩⟩)
   ·rw [oj,Sg];omega
   ·rw [Pn,oj];omega
 rintro τ μ1 ⟨ak,rfl,lc,uz,P1,S1⟩
 have ix:ak.length<=sizeLine:=Yai uz (by decide)
 refine Ap (fun τ μ'=>∃al:Nat,τ=[some (.R a),some (.D (.int many)),some (A7 "abcdefghijklmnopqrstuvwxyz"),none,some (A7 ak),some (.D (.int al)),none,none,none,none,none]/\al<=ak.length/\Pot μ' a l/\Bg a l μ μ') (λZ hZ=>?_) ?_
 ·exact⟨ix,a,l,ak.length+1,rfl,P1,by omega,by omega,λv μ2 hv P2 S2=>hZ _ _ ⟨v,rfl,by omega,P2,S1.trans S2⟩⟩
 rintro τ μ2 ⟨al,rfl,ft,P2,S2⟩
 refine Ap (fun τ μ'=>∃tn:Nat,τ=[some (.R a),some (.D (.int many)),some (A7 "abcdefghijklmnopqrstuvwxyz"),none,some (A7 ak),some (.D (.int al)),some (.D (.int tn)),none,none,none,none]/\Pot μ' a l/\Bg a l μ μ') (λZ hZ=>?_) ?_
 ·exact⟨a,l,26,rfl,P2,by decide,by decide,λv μ3 hv P3 S3=>hZ _ _ ⟨v,rfl,P3,S2.trans S3⟩⟩
 rintro τ μ3 ⟨tn,rfl,P3,S3⟩
 refine Ap (fun τ μ'=>∃lg:Str,τ=[some (.R a),some (.D (.int many)),some (A7 "abcdefghijklmnopqrstuvwxyz"),none,some (A7 ak),some (.D (.int al)),some (.D (.int tn)),some (A7 lg),none,none,none]/\(lg=Str.empty\/lg = "z")/\Pot μ' a l/\Bg a l μ μ') (λZ hZ=>?_) ?_
 ·refine⟨a,l,2,rfl,P3,by decide,by decide,λv μ4 hv P4 S4=>⟨by omega,hZ _ _ ⟨_,rfl,?_,P4,S3.trans S4⟩⟩⟩
  split
  ·exact .inl rfl
  ·exact .inr rfl
 rintro τ μ4 ⟨lg,rfl,lm,P4,S4⟩
 have z4:lg.length<=1:=by rcases lm with rfl | rfl <;> decide +kernel
 have h0:(0:Int)<=(al:Int):=by omega
 have h1:(al:Int)<=(ak.length:Int):=by omega
 intro pf io
 have ay:=P4.ne io
 have dn:μ pf=none:=S4.none ay.1 ay.2 io
 refine Ap (fun τ μ'=>∃o3 o9 dc,τ=[some (.R a),some (.D (.int many)),some (A7 "abcdefghijklmnopqrstuvwxyz"),o3,some (A7 ak),some (.D (.int al)),some (.D (.int tn)),some (A7 lg),some (.R pf),o9,dc]/\μ' pf=some (.lst (((List.range many).map (Kk ak al tn lg)).map A7))/\Pot μ' a l/\Bg a l μ μ') (λZ hZ=>?_) ?_
 ·refine⟨by omega,by omega,?_⟩
  have am:(Db 0 (many:Int).toNat).length=many:=by rw [Bo];omega
  refine El (λi τ μ'=>∃o3 o9 dc,τ=[some (.R a),some (.D (.int many)),some (A7 "abcdefghijklmnopqrstuvwxyz"),o3,some (A7 ak),some (.D (.int al)),some (.D (.int tn)),some (A7 lg),some (.R pf),o9,dc]/\μ' pf=some (.lst (((List.range i).map (Kk ak al tn lg)).map A7))/\Pot μ' a l/\Bg a l μ μ') ⟨none,none,none,rfl,Ad,P4.new io,S4.new io⟩ (λ_ _ _ _=>trivial) ?_ ?_
  ·rintro i y τ μ5 Z2 hy ⟨o3,o9,dc,rfl,e5,P5,S5⟩ ck
   have hi:i < many:=by rw [<- am];exact(List.getElem?_eq_some_iff.mp hy).1
   have ey:=Dd _ _ _ hy
   subst ey
   obtain⟨v,ev,hv⟩:=R7 (many:=26) (v:=((tn:Int)+7 * (0+(i:Int))) % 26) (Yds _ (by decide)) (Yc0 _ (by decide))
   obtain⟨ch,ec,dy⟩:=Sd hv
   have hcv:ch=97+v:=by
    have:=Al (Yo ⟨v,hv⟩)
    exact(Ya1 (ec.symm.trans this))
   rw [<- ev]at ec
   have hnb:Txt.slice ak none (some (al:Int))++(⟨#[ch]⟩:Str)++Txt.slice ak (some (al:Int)) none++lg=B2 ak al tn lg i:=by
    unfold B2;rw [ev,Int.toNat_natCast,hcv]
   have p6:=D7 (lg:=lg) (turn:=(tn:Int)) h0 h1 i
   have ln1:=Yn ft
   have ln2:=Si ft
   refine Ap (fun τ μ'=>τ=[some (.R a),some (.D (.int many)),some (A7 "abcdefghijklmnopqrstuvwxyz"),some (.D (.int (0+(i:Int)))),some (A7 ak),some (.D (.int al)),some (.D (.int tn)),some (A7 lg),some (.R pf),some (A7 ⟨#[ch]⟩),dc]/\μ5=μ') (λZ3 df=>?_) ?_
   ·exact⟨.inl (by decide),(show(0:Int) < 26 by decide),Sf,Ac ec (df _ _ ⟨rfl,rfl⟩)⟩
   rintro τ _ ⟨rfl,rfl⟩
   refine Ap (fun τ μ'=>τ=[some (.R a),some (.D (.int many)),some (A7 "abcdefghijklmnopqrstuvwxyz"),some (.D (.int (0+(i:Int)))),some (A7 ak),some (.D (.int al)),some (.D (.int tn)),some (A7 lg),some (.R pf),some (A7 ⟨#[ch]⟩),some (A7 (B2 ak al tn lg i))]/\μ5=μ') (λZ3 df=>?_) ?_
   ·have l1:(Txt.slice ak none (some (al:Int))++(⟨#[ch]⟩:Str)).length=al+1:=by rw [G6,ln1];rfl
    refine⟨ix,?_,ix,?_,?_,?_⟩
    ·rw [ln1];show _+1<=sizeLine
     exact seven (by omega)
    ·rw [l1,ln2];exact seven (by omega)
    ·rw [G6,l1,ln2];exact seven (by omega)
    ·rw [hnb];exact df _ _ ⟨rfl,rfl⟩
   rintro τ _ ⟨rfl,rfl⟩
   refine Ap (fun τ μ'=>τ=[some (.R a),some (.D (.int many)),some (A7 "abcdefghijklmnopqrstuvwxyz"),some (.D (.int (0+(i:Int)))),some (A7 ak),some (.D (.int al)),some (.D (.int tn)),some (A7 lg),some (.R pf),some (A7 ⟨#[ch]⟩),some (A7 (Kk ak al tn lg i))]/\μ5=μ') (λZ3 df=>?_) ?_
   ·have lnm:=Go (turn:=(tn:Int)) h0 h1 lc (show lets lg by
     rcases lm with rfl | rfl
     ·exact λc h=>by simp [Str.empty]at h
     ·exact λc h=>by rw [L2.z_cps,Yax]at h;omega) i
    refine Ac rfl ⟨Es lnm,Yp,?_⟩
    have ea:=U3 Gg (B2 ak al tn lg i)
    refine br (λc=>?_) (λc=>df _ _ ⟨?_,rfl⟩)
    ·have c:decide (B2 ak al tn lg i∈Gg)=true:=by rw [<- ea];exact c
     refine⟨?_,df _ _ ⟨?_,rfl⟩⟩
     ·rw [p6];exact seven (show ak.length+1+lg.length+1<=1000 by omega)
     ·unfold Kk
      rw [Yaq (Yam c)];rfl
    ·have c:decide (B2 ak al tn lg i∈Gg)=false:=by rw [<- ea];exact c
     unfold Kk
     rw [Yan (of_decide_eq_false c)]
   rintro τ _ ⟨rfl,rfl⟩
   refine⟨Ac e5 trivial,Ac e5 ⟨Bs (by rw [Yaa,Yaa,Yda];omega),ck _ _ ⟨_,_,_,rfl,?_,P5.other ay.1 ay.2,S5.put dn⟩⟩⟩
   rw [Ad,Po,Yak];rfl
  ·rintro τ μ5 ⟨o3,o9,dc,rfl,e5,P5,S5⟩
   rw [am]at e5
   exact hZ _ _ ⟨_,_,_,rfl,e5,P5,S5⟩
 rintro τ μ5 ⟨o3,o9,dc,rfl,e5,P5,S5⟩
 refine⟨_,Sub.refl,q _ pf _ (by rw [Yaa,Yda]) (λz hz=>?_) (R0 h0 h1 (by omega)) dn e5 P5 S5⟩
 obtain⟨k,_,rfl⟩:=Ybj.mp hz
 exact Qbk h0 h1 lc uz lm k
abbrev nPt:List Str:=["_law_deal_here","_law_many"]
theorem Qfh:FnScope nPt ["_law_deal_here","_law_many"] (Ag Yh):=⟨rfl,rfl,rfl,by decide +kernel,rfl,by decide +kernel,by decide +kernel⟩
theorem Qbv:(["_law_k","_law_deal_here","_law_many"]:List Str).Nodup:=by decide +kernel
def Qbw:ASp:=λxs μ R=>∃(a l:Addr) (many:Nat),xs=[.R a,.D (.int many)]/\(1<=many/\many<=20)/\Pot μ a l/\∀(ws:List Nat) μ',ws.length<=2->(∀w∈ws,w < many)->Pot μ' a l->Bg a l μ μ'->R (.D (Sb ws)) μ'
theorem Qbx{n:Nat}(F:Fun K "_law_put" "_law_put" Yh f fd) (bd:VCal P w K mg base n "_law_draw" ["_law_deal_here","_law_many"] Fq) (ai:mg "range" = none) (ar:mg "tuple" = none):FnOk P w K mg base En (n+1) f fd ["_law_deal_here","_law_many"] (Ih K 2 Qbw):=by
 refine F.vok Qfh λaq A outer s H E hr=>⟨_,(Ai (Bd (Bw Ep rfl ar Ybn (Aa (Bz (N':=["_law_k","_law_deal_here","_law_many"]) (mp:=[none,some 0,some 1]) rfl (Bt rfl ai (Aa (A3 Bk (Cg (Aa Af (Aa Af (Aa Af (Aa Af (Aa Af Ab)))))) (Ak bd hr rfl (Aa (vv 0) (Aa Af Ab)))) Ab)) (λ_ _ _ _=>(Am (i:=0) Qbv rfl (Or.inl rfl) (Or.inr rfl))) (λ_ _ _ _=>Bx) (λ_ _ _ _=>(Ak bd hr rfl (Aa (vv 1) (Aa (vv 2) Ab)))) (Bb (N:=nPt) (pn:=(Ag Yh).names) (by decide +kernel))) Ab)))),?_⟩
 rintro xs μ R _ ⟨a,l,many,rfl,hm,hP,q⟩
 refine λpz dh=>⟨a,l,5,rfl,hP.new dh,by decide,by decide,λv μ1 hv P1 S1=>?_⟩
 have cy:=hP.ne dh
 have hk:∃k:Nat,([0,1,2,2,1]:List Int)[v]?=some (k:Int)/\k<=2:=by
  match v,hv with
  | 0,_=>exact⟨0,rfl,by omega⟩
  | 1,_=>exact⟨1,rfl,by omega⟩
  | 2,_=>exact⟨2,rfl,by omega⟩
  | 3,_=>exact⟨2,rfl,by omega⟩
  | 4,_=>exact⟨1,rfl,by omega⟩
 obtain⟨k,ek,hk2⟩:=hk
 have eA:atI [AV.D (.int 0),.D (.int 1),.D (.int 2),.D (.int 2),.D (.int 1)] (v:Int)=some (.D (.int (k:Nat))):=by
  refine Al ?_
  show(([0,1,2,2,1]:List Int).map λi=>AV.D (.int i))[v]?=_
  rw [List.getElem?_map,ek];rfl
 refine Ac (S1 pz _ cy.1.symm cy.2.symm Ad) (Ac eA ⟨by omega,by omega,λpl hpl=>?_⟩)
 have S1':=(Bg.refl (a:=a) (l:=l) (μ:=μ)).new dh (o:=.lst (([0,1,2,2,1]:List Int).map λi=>AV.D (.int i))) |>.trans S1
 have ay:=P1.ne hpl
 have am:(Db 0 (k:Int).toNat).length=k:=by rw [Bo];omega
 refine Ho (λj ah τ μ'=>∃(o:Option AV) (ws:List Nat),τ=[o,some (.R a),some (.D (.int many))]/\ah=ws.map Gh/\ws.length=j/\(∀w∈ws,w < many)/\μ' pl=some (.lst ah)/\Pot μ' a l/\Bg a l μ1 μ') ⟨none,[],rfl,rfl,rfl,(λ_ z=>nomatch z),Ad,P1.new hpl,Bg.refl.new hpl⟩ (λ_ _ _ _ _=>trivial) ?_ ?_
 ·rintro j x ah τ μ2 Z2 hx ⟨o,ws,rfl,rfl,hn,hb,e2,P2,S2⟩ ck
  refine Lb rfl ⟨a,l,many,rfl,P2,by omega,by omega,λv μ3 hv P3 S3=>?_⟩
  have e3:=S3 pl _ ay.1.symm ay.2.symm e2
  have hj:j < k:=by rw [<- am];exact(List.getElem?_eq_some_iff.mp hx).1
  refine⟨e3,Bs (by rw [Yaa];omega),ck _ _ _ ⟨_,ws++[v],rfl,by rw [Yak];rfl,by rw [Yae,hn];rfl,λz hz=>?_,Ad,P3.other ay.1 ay.2,(S2.trans S3).put hpl⟩⟩
  rcases Yaw.mp hz with h | h
  ·exact hb z h
  ·rw [Yax.mp h];exact hv
 ·rintro ah τ μ2 ⟨o,ws,rfl,rfl,hn,hb,e2,P2,S2⟩
  rw [am]at hn
  exact Ac (A8 e2) (Ac (Lo ws) ⟨_,Sub.refl,q ws μ2 (by omega) hb P2 (S1'.trans S2)⟩)
end
section
variable {P:Program}{w:World}{K:PySem.W.Frag}{mg:Str->Option Value}{base:Heap}{f:Addr}{fd:FuncData}
structure Rz where
 p:Int
 x:Int
 q:Int
 w:List Int
deriving DecidableEq
def Bl(r:Rz):PyData:=.tuple [.int r.p,.int r.x,.int r.q,.tuple (r.w.map .int)]
def Cc(r:Rz):AV:=.D (Bl r)
structure Gz where
 pl:List (Str×Nat)
 le:List Str
 rs:List Rz
def B6(g:Gz):PyData:=.tuple [.tuple (g.pl.map B3),.tuple (g.le.map PyData.str),.tuple (g.rs.map Bl)]
def thr(z n:Int):Bool:=decide (0<=z/\z < n)
def parts(np nl:Nat)(r:Rz):Bool:=thr r.p np && thr r.q np && (r.x :: r.w).all λz=>thr z nl
def Cv(r:Rz):Bool:=decide (r.w.length=2)
def Bm(B:List Rz):Nat:=(B.filter Cv).length
def Sj(v r:Rz):Bool:=decide (r.p=v.p/\r.x=v.x)
def Cq(E:List Rz)(v:Rz):Nat:=(E.filter (Sj v)).length
theorem Kn:∀(ns:List Int),PyData.canLayAll0 (ns.map .int)=true/\PyData.depthAll (ns.map .int)<=0/\Ci (ns.map .int)=true
 | []=>⟨rfl,Yaf _,rfl⟩
 | n :: ns=>by
  obtain⟨h1,h2,h3⟩:=Kn ns
  simp only [List.map_cons,PyData.canLayAll0,PyData.depthAll,Ci,Cano,PyData.depth,h1,h3,Bool.and_true]
  exact⟨rfl,by omega,trivial⟩
theorem Fs(r:Rz):(Bl r).canLay0=true/\(Bl r).depth<=2/\Cano (Bl r)=true:=by
 obtain⟨h1,h2,h3⟩:=Kn r.w
 refine⟨?_,?_,?_⟩
 ·simp only [Bl,PyData.canLay0,PyData.canLayAll0,h1,Bool.and_true]
 ·simp only [Bl,PyData.depth,PyData.depthAll];omega
 ·simp only [Bl,Cano,Ci,h3,Bool.and_true,Bool.true_and]
theorem M8:∀(B:List Rz),PyData.canLayAll0 (B.map Bl)=true/\PyData.depthAll (B.map Bl)<=2/\Ci (B.map Bl)=true
 | []=>⟨rfl,by simp [PyData.depthAll],rfl⟩
 | a :: B=>by
  obtain⟨h1,h2,h3⟩:=Fs a
  obtain⟨k1,k2,k3⟩:=M8 B
  simp only [List.map_cons,PyData.canLayAll0,PyData.depthAll,Ci,h1,h3,k1,k3,Bool.and_self,true_and,and_true]
  omega
theorem Ko(a:Rz):Bq (Bl a):=⟨(Fs a).1,Yai (Fs a).2.1 (by decide)⟩
theorem Hz(B:List Rz):Bq (.tuple (B.map Bl)):=⟨by simp only [PyData.canLay0];exact(M8 B).1,by have:=(M8 B).2.1;simp only [PyData.depth];omega⟩
theorem Lu:∀{a b:List Int},a.map PyData.int=b.map PyData.int->a=b
 | [],[],_=>rfl
 | [],_ :: _,h=>by cases h
 | _ :: _,[],h=>by cases h
 | x :: a,y :: b,h=>by
  simp only [List.map_cons,List.cons.injEq,PyData.int.injEq]at h
  rw [h.1,Lu h.2]
theorem N8{a b:Rz}(h:Bl a=Bl b):a=b:=by
 obtain⟨p,x,q,w⟩:=a
 obtain⟨p',x',q',w'⟩:=b
 simp only [Bl,PyData.tuple.injEq,List.cons.injEq,PyData.int.injEq,and_true]at h
 obtain⟨rfl,rfl,rfl,h⟩:=h
 rw [Lu h]
theorem Sk(B:List Rz)(v:Rz):((B.map Bl).any λe=>PyData.eqv e (Bl v))=decide (v∈B):=by
 rw [Ycj,Ydk,decide_eq_true_iff]
 constructor
 ·rintro⟨d,hd,e⟩
  obtain⟨r,hr,rfl⟩:=Ybj.mp hd
  rw [<- N8 (M1 _ _ (Fs r).2.2 (Fs v).2.2 e)];exact hr
 ·intro h
  exact⟨_,Ybj.mpr ⟨v,h,rfl⟩,Ht _ (Fs v).2.2⟩
theorem N9(B:List Rz):dats (B.map Cc)=some (B.map Bl):=by
 rw [show(B.map Cc)=(B.map Bl).map .D by rw [Yat];rfl];exact B7 _
theorem Dw{μ:M}{B:List Rz}:items μ (.D (.tuple (B.map Bl)))=some (B.map Cc):=by
 show some ((B.map Bl).map AV.D)=_
 rw [Yat];rfl
theorem Oa{μ:M}{as:List Int}:items μ (.D (.tuple (as.map .int)))=some (as.map λa=>.D (.int a)):=by
 show some ((as.map PyData.int).map AV.D)=_
 rw [Yat];rfl
theorem B8{α:Type}(g:α->PyData)(xs:List α)(n:Nat):Cl (xs.map g) none (some (n:Int))=(xs.take n).map g:=by
 unfold Cl
 rw [HT.sIx_none,HT.sIx_nat,List.drop_zero,Nat.sub_zero,<- List.map_take,Yaa]
 by_cases h:n<=xs.length
 ·rw [Nat.min_eq_left h]
 ·rw [Nat.min_eq_right (by omega),Yce,Ybw (by omega)]
theorem C9{α:Type}(g:α->PyData)(xs:List α)(n:Nat):Cl (xs.map g) (some (n:Int)) none=(xs.drop n).map g:=by
 unfold Cl
 rw [HT.sIx_none,HT.sIx_nat,<- List.map_drop,Yaa]
 by_cases h:n<=xs.length
 ·rw [Nat.min_eq_left h,Ybw (by rw [Yaa,Ycb];exact Yaf _)]
 ·rw [Nat.min_eq_right (by omega),Ycp,List.drop_of_length_le (by omega)];simp
theorem Et{α:Type}(g:α->AV)(xs:List α)(n:Nat):Ms (xs.map g) none (some (n:Int))=(xs.take n).map g:=by
 unfold Ms
 rw [HT.sIx_none,HT.sIx_nat,List.drop_zero,Nat.sub_zero,<- List.map_take,Yaa]
 by_cases h:n<=xs.length
 ·rw [Nat.min_eq_left h]
 ·rw [Nat.min_eq_right (by omega),Yce,Ybw (by omega)]
theorem Qfi:(!kit "int" "bool")=true:=by decide
abbrev nIt:List Str:=["number","many"]
theorem Qfj:FnScope nIt ["number","many"] (Ag Y8):=⟨rfl,rfl,rfl,by decide +kernel,rfl,by decide +kernel,by decide +kernel⟩
def Qby:ASp:=λxs μ R=>∃(n m:Int),xs=[.D (.int n),.D (.int m)]/\R (.D (.bool (thr n m))) μ
theorem Qbz{n:Nat}(F:Fun K "is_there" "is_there" Y8 f fd) (aj:mg "isinstance" = none) (cb:mg "bool" = none):FnOk P w K mg base En (n+1) f fd ["number","many"] (Ih K 2 Qby):=by
 refine F.vok Qfj λaq A outer s H E hr=>⟨_,(Ai (Bd (J9 (Xq (Kc rfl aj rfl cb PyProof.Rows.boot_bool Jl (vv 0))) (Mv (Rg Ue Mw Af (vv 0) (vv 1)))))),?_⟩
 rintro xs μ R _ ⟨i,m,rfl,q⟩
 unfold thr at q
 refine Ac rfl (Lb Qfi (dif (λc=>⟨μ,Sub.refl,?_⟩) (λc=>⟨μ,Sub.refl,?_⟩)))
 ·have e:decide (0<=i/\i < m)=decide (i < m):=by simp [c]
  rw [e]at q;exact q
 ·have e:decide (0<=i/\i < m)=false:=by simp [c]
  rw [e]at q;exact q
abbrev nIp:List Str:=["rule"]
theorem Qfk:FnScope nIp ["rule"] (Ag Zb):=⟨rfl,rfl,rfl,by decide +kernel,rfl,by decide +kernel,by decide +kernel⟩
def Qb0:ASp:=λxs μ R=>∃(r:Rz),xs=[Cc r]/\R (.D (.bool (Cv r))) μ
theorem Qb1{n:Nat}(F:Fun K "is_push" "is_push" Zb f fd) (ae:mg "len" = none):FnOk P w K mg base En (n+1) f fd ["rule"] (Ih K 1 Qb0):=by
 refine F.vok Qfk λaq A outer s H E hr=>⟨_,(Ai (Bd (Gc (Ce hr) (Ah Ba rfl ae Yad (Aa (A3 Bk (vv 0) Af) Ab)) Af (nomark _)))),?_⟩
 rintro xs μ R _ ⟨r,rfl,q⟩
 refine Ac (Al (j:=3) rfl) ⟨Cu _,Cu _,μ,Sub.refl,?_⟩
 rw [Fo,Yaa,show decide ((r.w.length:Int)=2)=Cv r from Ycf.mpr ⟨λh=>by omega,λh=>by omega⟩]
 exact q
abbrev nHp:List Str:=["game","rule","places","letters"]
theorem Yq:FnScope nHp ["game","rule"] (Ag Yf):=⟨rfl,rfl,rfl,by decide +kernel,rfl,by decide +kernel,by decide +kernel⟩
theorem Qb2:(["letter","letters"]:List Str).Nodup:=by decide +kernel
def Qb3:ASp:=λxs μ R=>∃(g:Gz) (r:Rz),xs=[.D (B6 g),Cc r]/\r.w.length<=20/\R (.D (.bool (parts g.pl.length g.le.length r))) μ
theorem Qb4{n:Nat}(F:Fun K "has_its_parts" "has_its_parts" Yf f fd) (t0:VCal P w K mg base n "is_there" ["number","many"] Qby) (ae:mg "len" = none) (fw:mg "all" = none):FnOk P w K mg base En (n+1) f fd ["game","rule"] (Ih K 2 Qb3):=by
 refine F.vok Yq λaq A outer s H E hr=>⟨_,(Ae (An (i:=2) Yq.nd rfl (Or.inl rfl) (Ah Ba rfl ae Yad (Aa (A3 Bk (vv 0) Af) Ab)))
   (Ae (An (i:=3) Yq.nd rfl (Or.inr rfl) (Ah Ba rfl ae Yad (Aa (A3 Bk (vv 0) Af) Ab)))
   (Ae (Bn (VW.pt (Fj (Ej (Dp (Ak t0 hr rfl (Aa (A3 Bk (vv 1) Af) (Aa (vv 2) Ab))))) (D3 (Ej (Dp (Ak t0 hr rfl (Aa (A3 Bk (vv 1) Af) (Aa (vv 2) Ab)))))))) (Ai (Bd E4)) A0)
   (Ai (Bd (Ah (Qax rfl) rfl fw PyProof.Rows.boot_all (Aa (Bz (N':=["letter","letters"]) (mp:=[none,some 3]) rfl (B9 (Au Bh (Az (Aa (A3 Bk (vv 1) Af) Ab)) (A3 Bk (vv 1) Af))) (λ_ _ _ _=>(Am (i:=0) Qb2 rfl (Or.inl rfl) (Or.inr rfl))) (λ_ _ _ _=>Bx) (λ_ _ _ _=>(Ak t0 hr rfl (Aa (vv 0) (Aa (vv 1) Ab)))) (Bb (N:=nHp) (pn:=(Ag Yf).names) (by decide +kernel))) Ab))))))),?_⟩
 rintro xs μ R _ ⟨g,r,rfl,hw,q⟩
 refine Ap (fun τ μ'=>τ=[some (.D (B6 g)),some (Cc r),some (.D (.int g.pl.length)),none]/\μ=μ') (λZ hZ=>?_) ?_
 ·refine Ac (Al (j:=0) rfl) (hZ _ _ ⟨?_,rfl⟩)
  rw [Yaa];rfl
 rintro τ _ ⟨rfl,rfl⟩
 refine Ap (fun τ μ'=>τ=[some (.D (B6 g)),some (Cc r),some (.D (.int g.pl.length)),some (.D (.int g.le.length))]/\μ=μ') (λZ hZ=>?_) ?_
 ·refine Ac (Al (j:=1) rfl) (hZ _ _ ⟨?_,rfl⟩)
  rw [Yaa];rfl
 rintro τ _ ⟨rfl,rfl⟩
 have q0:parts g.pl.length g.le.length r=false->Uh R (.D (.bool false)) μ:=λe=>⟨μ,Sub.refl,by rw [e]at q;exact q⟩
 refine Ap (fun τ μ'=>τ=[some (.D (B6 g)),some (Cc r),some (.D (.int g.pl.length)),some (.D (.int g.le.length))]/\μ=μ'/\thr r.p g.pl.length=true/\thr r.q g.pl.length=true) (λZ hZ=>?_) ?_
 ·refine Ac (Al (j:=0) rfl) ⟨r.p,g.pl.length,rfl,br (λc1=>Lb rfl (q0 ?_)) (λc1=>?_)⟩
  ·rw [Ydb]at c1;unfold parts;rw [c1];rfl
  rw [Yc2]at c1
  refine Ac (Al (j:=2) rfl) ⟨r.q,g.pl.length,rfl,br (λc2=>q0 ?_) (λc2=>?_)⟩
  ·rw [Ydb]at c2;unfold parts;rw [c2,Ydd];rfl
  rw [Yc2]at c2
  exact hZ _ _ ⟨rfl,rfl,c1,c2⟩
 rintro τ _ ⟨rfl,rfl,c1,c2⟩
 have e:parts g.pl.length g.le.length r=(r.x :: r.w).all λz=>thr z g.le.length:=by unfold parts;rw [c1,c2];rfl
 refine Ac (Al (j:=1) rfl) (Ac (Al (j:=3) rfl) ⟨?_,Ac (Oa (as:=r.x :: r.w)) λp hp=>?_⟩)
 ·rw [Yaa];exact Yai (show _<=30 by simp only [List.length_cons,List.length_nil];omega) (by decide)
 refine cmap (r.x :: r.w) _ (λz=>.D (.bool (thr z g.le.length))) (fun τ=>∃o,τ=[o,some (.D (.int g.le.length))]) ⟨none,rfl⟩ Ad (seven (by simp only [List.length_cons];omega)) (λ_=>Oa (as:=r.x :: r.w)) ?_ ?_
 ·rintro i z τ' ah W hi ⟨o,rfl⟩ hW
  exact⟨z,g.le.length,rfl,hW _ ⟨_,rfl⟩⟩
 ·refine Qbi Ad ⟨μ,(Sub.refl.new hp).new hp,?_⟩
  rw [e]at q;exact q
abbrev nLs:List Str:=["word","many","most"]
theorem Qfl:FnScope nLs ["word","many","most"] (Ag Y9):=⟨rfl,rfl,rfl,by decide +kernel,rfl,by decide +kernel,by decide +kernel⟩
def Qb5(C:Addr):Io:=λxs μ R EX=>∃(z:Str) (n:Nat),xs=[.D (.str z),.D (.int n),.D (.int 3)]/\(Fd z n=none->R (.D .none) μ)/\∀o,Fd z n=some o->EX C [("word",.str o.1),("at",.int (o.2:Nat))] μ
theorem Qb6{n:Nat}{C:Addr}(F:Fun K "look_size" "look_size" Y9 f fd) (ba:XCal P w K mg base n "NoGame" C ["word","at"]):FnOk P w K mg base (Q7 P w) (n+1+1) f fd ["word","many","most"] (Pf K 3 (Qb5 C)):=by
 refine F.vokX Qfl λaq A outer s H E EX hr hX=>⟨_,(Ai (Bn (Ej (Rh Ue Ue Af (vv 1) (vv 2))) (Ai (Du ba hr rfl hX rfl (Aa (vv 0) (Aa (vv 1) Ab)))) A0)),?_⟩
 rintro xs μ R _ ⟨z,i,rfl,q1,q2⟩
 unfold Fd at q1 q2
 refine dif (λc=>br (λc2=>?_) (λc2=>?_)) (λc=>Lb rfl ?_)
 ·rw [Ydb]at c2
  have c2:=of_decide_eq_false c2
  exact Ac rfl ⟨rfl,μ,Sub.refl,q2 (z,i) (Yan (by omega))⟩
 ·rw [Yc2]at c2
  have c2:=Yam c2
  exact⟨μ,Sub.refl,q1 (Yaq (by omega))⟩
 ·exact Ac rfl ⟨rfl,μ,Sub.refl,q2 (z,i) (Yan (by omega))⟩
abbrev nLu:List Str:=["names","number","name"]
theorem Yr:FnScope nLu ["names"] (Ag Za):=⟨rfl,rfl,rfl,by decide +kernel,rfl,by decide +kernel,by decide +kernel⟩
def Qb7(C:Addr):Io:=λxs μ R EX=>∃(x:AV) (zs:List Str),xs=[x]/\(x=.D (.tuple (zs.map .str))\/∃p,x=.R p/\μ p=some (.lst (zs.map A7)))/\(∀z∈zs,lets z)/\zs.length<=20/\(Fv (Jp zs) zs.length=none->R (.D .none) μ)/\∀o,Fv (Jp zs) zs.length=some o->EX C [("word",.str o.1),("at",.int (o.2:Nat))] μ
theorem Ft:∀{zs:List Str},(∀z∈zs,lets z)->PyData.canLayAll0 (zs.map .str)=true/\PyData.depthAll (zs.map .str)<=0
 | [],_=>⟨rfl,Yaf _⟩
 | z :: zs,h=>by
  obtain⟨h1,h2⟩:=Ft (zs:=zs) λy hy=>h y (Yao _ hy)
  simp only [List.map_cons,PyData.canLayAll0,PyData.depthAll,PyData.depth,h1,G5 (h z List.mem_cons_self),Bool.and_true]
  exact⟨trivial,by omega⟩
theorem Gi{zs:List Str}(h:∀z∈zs,lets z):Bq (.tuple (zs.map .str)):=⟨by simp only [PyData.canLay0];exact(Ft h).1,by have:=(Ft h).2;simp only [PyData.depth];omega⟩
theorem Lv(zs:List Str)(z:Str):((zs.map PyData.str).any λe=>PyData.eqv e (.str z))=decide (z∈zs):=by
 rw [Ycj,Ydk,decide_eq_true_iff]
 constructor
 ·rintro⟨d,hd,e⟩
  obtain⟨y,hy,rfl⟩:=Ybj.mp hd
  have e2:y=z:=by simpa [PyData.eqv] using e
  rw [<- e2];exact hy
 ·intro h
  exact⟨_,Ybj.mpr ⟨z,h,rfl⟩,by simp [PyData.eqv]⟩
theorem Lw{α:Type}{rs:List α}{i:Nat}{r:α}(h:rs[i]?=some r):rs.take (i+1)=rs.take i++[r]:=by rw [List.take_succ,h];rfl
theorem Ys{zs:List Str}{i:Nat}{x:AV}(h:(Di 0 (zs.map PyData.str))[i]?=some x):∃z,zs[i]?=some z/\x=.D (.tuple [.int i,.str z]):=by
 obtain⟨d,hd,rfl⟩:=Er h
 rw [List.getElem?_map]at hd
 obtain⟨p,hp,rfl⟩:=Yav.mp hd
 exact⟨p,hp,by rw [Nat.zero_add]⟩
theorem V6{μ:M}{zs:List Str}:items μ (.D (.tuple (zs.map .str)))=some (zs.map A7):=by
 show some ((zs.map PyData.str).map AV.D)=_
 rw [Yat];rfl
theorem Qb8{n:Nat}{C:Addr}(F:Fun K "look_unlike" "look_unlike" Za f fd) (av:mg "enumerate" = none) (ba:XCal P w K mg base n "NoGame" C ["word","at"]):FnOk P w K mg base (Q7 P w) (n+1+1) f fd ["names"] (Pf K 1 (Qb7 C)):=by
 refine F.vokX Yr λaq A outer s H E EX hr hX=>⟨_,(Ai (C6 PassesOwn.leaving rfl (N0 rfl av (vv 0)) (C5 (n:=2) rfl (Ay (Am (i:=1) Yr.nd rfl (Or.inl rfl)) (Ay (Am (i:=2) Yr.nd rfl (Or.inl rfl)) Ck))) (Ai (Bn (Aq (Ud hr) (vv 2) (Ax (vv 0) Bc (A6 (vv 1))) (by with_unfolding_all rfl)) (Ai (Du ba hr rfl hX rfl (Aa A4 (Aa (vv 1) Ab)))) A0)))),?_⟩
 rintro xs μ R _ ⟨x,zs,rfl,hx,hN,hl,q,q2⟩
 have it:∀ μ',Sub μ μ'->items μ' x=some (zs.map A7):=fun μ' S=>by
  rcases hx with rfl | ⟨p,rfl,e⟩
  ·exact V6
  ·exact A8 (S p _ e)
 refine Ac (it μ Sub.refl) (Ac (Dv zs) ?_)
 refine El (λi τ μ1=>∃o1 o2,τ=[some x,o1,o2]/\Sub μ μ1/\∀j < i,Jp zs j=none) ⟨none,none,rfl,Sub.refl,λj h=>absurd h (by omega)⟩ (λ_ _ _ ⟨_,_,_,S,_⟩=>it _ S) ?_ ?_
 ·rintro i y τ μ1 W hy ⟨o1,o2,rfl,S1,hd⟩ hW
  obtain⟨z,hz,rfl⟩:=Ys hy
  have hzm:=Ybg hz
  have hiz:=(List.getElem?_eq_some_iff.mp hz).1
  have bu:∀y∈zs.take i,lets y:=λy hy=>hN y (Ybo hy)
  have fe:z∈zs.take i->Fv (Jp zs) zs.length=some (("twice" : Str),i):=λc=>M7 hiz hd (by unfold Jp;rw [hz];exact Yaq c)
  have no:z∉zs.take i->∀j < i+1,Jp zs j=none:=λc j hj=>by
   rcases(show j < i\/j=i by omega) with h | rfl
   ·exact hd j h
   ·unfold Jp;rw [hz];exact Yan c
  refine⟨rfl,?_⟩
  rcases hx with rfl | ⟨p,rfl,e⟩
  ·refine Ac rfl ?_
   rw [B8]
   refine⟨Es (hN z hzm),Gi bu,?_⟩
   rw [Lv]
   exact dif (λc=>Ac rfl ⟨rfl,μ,S1,q2 _ (fe c)⟩) (λc=>hW _ _ ⟨_,_,rfl,S1,no c⟩)
  ·refine Ac (A8 (S1 p _ e)) λpc ao=>?_
   rw [Et]
   refine Ac rfl (Ac (A8 Ad) (Ac (Dv _) ⟨Es (hN z hzm),Gi bu,?_⟩))
   rw [Lv]
   exact dif (λc=>Ac rfl ⟨rfl,μ,S1.new (S1.none ao),q2 _ (fe c)⟩) (λc=>hW _ _ ⟨_,_,rfl,S1.new (S1.none ao),no c⟩)
 ·rintro τ μ1 ⟨o1,o2,rfl,S1,hd⟩
  rw [Cf,Yaa]at hd
  exact⟨μ,S1,q (Fr hd)⟩
end
section
variable {P:Program}{w:World}{K:PySem.W.Frag}{mg:Str->Option Value}{base:Heap}{f:Addr}{fd:FuncData}
abbrev Gz.H(g:Gz):List Nat:=g.pl.map (·.2)
structure GzB(n:Nat)(g:Gz):Prop where
 p:g.pl.length<=3+4 * n
 l:g.le.length<=3+4 * n
 r:g.rs.length<=8+9 * n
 pn:∀p∈g.pl,lets p.1/\p.1.length<=10/\p.2 < 2
 ln:∀z∈g.le,lets z/\z.length<=10
 rw:∀r∈g.rs,r.w.length<=2
theorem Lx(B:List Rz)(r:Rz):Bm (B++[r])=Bm B+if Cv r then 1 else 0:=by
 unfold Bm
 rw [Ycz,Yae]
 cases h:Cv r <;> simp [h]
theorem Pp(B:List Rz)(v r:Rz):Cq (B++[r]) v=Cq B v+if Sj v r then 1 else 0:=by
 unfold Cq
 rw [Ycz,Yae]
 cases h:Sj v r <;> simp [h]
theorem Qfm{B:List Rz}{v r:Rz}(h:Sj v r=true):Cq B v=Cq B r:=by
 obtain⟨h1,h2⟩:=Yam h
 unfold Cq Sj
 rw [h1,h2]
theorem Ia(a b:Int):Bq (.tuple [.int a,.int b]):=⟨rfl,by simp [PyData.depth,PyData.depthAll]⟩
abbrev nLr:List Str:=["game","number","rule","ahead"]
theorem Yt:FnScope nLr ["game","number"] (Ag V0):=⟨rfl,rfl,rfl,by decide +kernel,rfl,by decide +kernel,by decide +kernel⟩
theorem Qb9:(["one"]:List Str).Nodup:=by decide +kernel
theorem Qca:(["one","rule"]:List Str).Nodup:=by decide +kernel
def L5(g:Gz)(i:Nat)(r:Rz):Option Str :=
 if parts g.pl.length g.le.length r=false\/r∈g.rs.take i then some "rule"
 else if Cv r=true/\3<=Bm (g.rs.take i) then some "pushes"
 else if g.H.getD r.p.toNat 0=1/\2<=Cq (g.rs.take i) r then some "many" else none
structure Pre(g:Gz)(i:Nat):Prop where
 pu:Bm (g.rs.take i)<=3
 sa:∀v:Rz,g.H.getD v.p.toNat 0=1->Cq (g.rs.take i) v<=2
def Qcb(C:Addr):Io:=λxs μ R EX=>∃(g:Gz) (i:Nat) (r:Rz),xs=[.D (B6 g),.D (.int i)]/\GzB 3 g/\g.rs[i]?=some r/\Pre g i/\(L5 g i r=none->R (.D .none) μ)/\∀z,L5 g i r=some z->EX C [("word",.str z),("at",.int i)] μ
theorem Qcc{n:Nat}{C:Addr}(F:Fun K "look_rule" "look_rule" V0 f fd) (cHp:VCal P w K mg base (n+1) "has_its_parts" ["game","rule"] Qb3) (cIp:VCal P w K mg base (n+1) "is_push" ["rule"] Qb0) (ae:mg "len" = none) {t1 t2 t3:Tok} (ue:mg "MOST_PUSHES" = some (.int 3 t1)) (zo:mg "MOST_ANSWERS" = some (.int 2 t2)) (xl:mg "OTHER_HAND" = some (.int 1 t3)) (ba:XCal P w K mg base n "NoGame" C ["word","at"]) :
  FnOk P w K mg base (Q7 P w) (n+1+1) f fd ["game","number"] (Pf K 2 (Qcb C)):=by
 refine F.vokX Yt λaq A outer s H E EX hr hX=>⟨_,(Ae (An (i:=2) Yt.nd rfl (Or.inr rfl) (A3 Bk (A3 Bk (vv 0) Af) (vv 1)))
   (Ae (An (i:=3) Yt.nd rfl (Or.inl rfl) (Ax (A3 Bk (vv 0) Af) Bc (A6 (vv 1))))
   (Ae (Bn (VW.pt (Fj (Ej (Dp (Ak cHp hr rfl (Aa (vv 0) (Aa (vv 2) Ab))))) (D3 (Aq (Ud hr) (vv 2) (vv 3) (by with_unfolding_all rfl))))) (Ai (Du ba hr rfl hX rfl (Aa A4 (Aa (vv 1) Ab)))) A0)
   (Ae (Bn (VW.pt (Ct (Dp (Ak cIp hr rfl (Aa (vv 2) Ab))) (Cs (Aq (Ce hr) (Ah Ba rfl ae Yad (Aa (Bz (N':=["one"]) (mp:=[none]) rfl (B9 (vv 3)) (λ_ _ _ _=>(Am (i:=0) Qb9 rfl (Or.inl rfl) (Or.inr rfl))) (λ_ _ _ _=>(C3 (Dp (Ak cIp hr rfl (Aa (vv 0) Ab))))) (λ_ _ _ _=>(vv 0)) (Bb (N:=nLr) (pn:=(Ag V0).names) (by decide +kernel))) Ab)) (Eo rfl ue (v:=.int 3) ⟨_,rfl⟩ (λ_=>Cm)) (nomark _))))) (Ai (Du ba hr rfl hX rfl (Aa A4 (Aa (vv 1) Ab)))) A0)
   (Ai (Bn (VW.pt (Ct (Aq (Ce hr) (A3 Bk (A3 Bk (A3 Bk (vv 0) Af) (A3 Bk (vv 2) Af)) Af) (Eo rfl xl (v:=.int 1) ⟨_,rfl⟩ (λ_=>Cm)) (nomark _)) (Cs (Aq (Ce hr) (Ah Ba rfl ae Yad (Aa (Bz (N':=["one","rule"]) (mp:=[none,some 2]) rfl (B9 (vv 3)) (λ_ _ _ _=>(Am (i:=0) Qca rfl (Or.inl rfl) (Or.inr rfl))) (λ_ _ _ _=>(C3 (Aq (Ce hr) (Ax (vv 0) Bc (A6 Af)) (Ax (vv 1) Bc (A6 Af)) (nomark _)))) (λ_ _ _ _=>(vv 0)) (Bb (N:=nLr) (pn:=(Ag V0).names) (by decide +kernel))) Ab)) (Eo rfl zo (v:=.int 2) ⟨_,rfl⟩ (λ_=>Cm)) (nomark _))))) (Ai (Du ba hr rfl hX rfl (Aa A4 (Aa (vv 1) Ab)))) A0)))))),?_⟩
 rintro xs μ R _ ⟨g,i,r,rfl,hG,hi,hP,q1,q2⟩
 have zac:i < 40:=by have:=(List.getElem?_eq_some_iff.mp hi).1;have:=hG.r;omega
 have qg:=hG.rw r (Ybg hi)
 refine Ap (fun τ μ'=>τ=[some (.D (B6 g)),some (.D (.int i)),some (Cc r),none]/\μ=μ') (λZ hZ=>?_) ?_
 ·exact Ac (Al (j:=2) rfl) (Ac (Al (v:=Bl r) (by rw [List.getElem?_map,hi];rfl)) (hZ _ _ ⟨rfl,rfl⟩))
 rintro τ _ ⟨rfl,rfl⟩
 refine Ap (fun τ μ'=>τ=[some (.D (B6 g)),some (.D (.int i)),some (Cc r),some (.D (.tuple ((g.rs.take i).map Bl)))]/\μ=μ') (λZ hZ=>?_) ?_
 ·refine Ac (Al (j:=2) rfl) (hZ _ _ ⟨?_,rfl⟩)
  rw [B8];rfl
 rintro τ _ ⟨rfl,rfl⟩
 refine Ap (fun τ μ'=>τ=[some (.D (B6 g)),some (.D (.int i)),some (Cc r),some (.D (.tuple ((g.rs.take i).map Bl)))]/\μ=μ'/\parts g.pl.length g.le.length r=true/\r∉g.rs.take i) (λZ hZ=>?_) ?_
 ·refine⟨g,r,rfl,by omega,br (λc1=>Lb rfl (Ac rfl ⟨rfl,μ,Sub.refl,q2 "rule" ?_⟩)) (λc1=>?_)⟩
  ·rw [Ydb]at c1;exact Yaq (.inl c1)
  rw [Yc2]at c1
  refine Ac rfl ⟨Ko r,Hz _,?_⟩
  rw [Sk]
  exact dif (λc2=>Ac rfl ⟨rfl,μ,Sub.refl,q2 "rule" (Yaq (.inr c2))⟩) (λc2=>hZ _ _ ⟨rfl,rfl,c1,c2⟩)
 rintro τ _ ⟨rfl,rfl,fo,hni⟩
 have hp:thr r.p g.pl.length=true:=by unfold parts at fo;rw [Yar,Yar]at fo;exact fo.1.1
 obtain⟨hp0,jp⟩:=Yam hp
 have ic:L5 g i r=if Cv r=true/\3<=Bm (g.rs.take i) then some ("pushes" : Str) else if g.H.getD r.p.toNat 0=1/\2<=Cq (g.rs.take i) r then some ("many" : Str) else none:=Yan (λz=>by
  rcases z with z | z
  ·rw [fo]at z;cases z
  ·exact hni z)
 have yz:=hP.pu
 have am:(g.rs.take i).length<=40:=by rw [Ya0];omega
 refine Ap (fun τ μ'=>τ=[some (.D (B6 g)),some (.D (.int i)),some (Cc r),some (.D (.tuple ((g.rs.take i).map Bl)))]/\Sub μ μ'/\¬(Cv r=true/\3<=Bm (g.rs.take i))) (λZ hZ=>?_) ?_
 ·refine⟨r,rfl,br (λc1=>?_) (λc1=>Jg rfl (hZ _ _ ⟨rfl,Sub.refl,λz=>by rw [c1]at z;cases z.1⟩))⟩
  refine Ac Dw λpc ao=>?_
  refine cmapf (g.rs.take i) Cc Cv Cc (fun τ=>∃o,τ=[o]) ⟨none,rfl⟩ Ad (seven (by omega)) (λ_=>Dw) ?_ ?_
  ·rintro j v τ' ah W W2 hj ⟨o,rfl⟩ h1 h2
   exact⟨v,rfl,br (λc=>h1 c _ ⟨_,rfl⟩) (λc=>h2 c _ ⟨_,rfl⟩)⟩
  ·refine Ac Ad (ieq (λc2=>Ac rfl ⟨rfl,μ,(Sub.refl.new ao).new ao,q2 "pushes" (ic.trans (Yaq ⟨c1,?_⟩))⟩) (λc2=>hZ _ _ ⟨rfl,(Sub.refl.new ao).new ao,λz=>c2 ?_⟩))
   ·have:=z.2;unfold Bm at this yz;rw [Yaa];omega
   ·rw [Yaa]at c2;unfold Bm;omega
 rintro τ μ1 ⟨rfl,S1,hpu⟩
 rw [Yan hpu]at ic
 have iw:(g.pl.map B3)[r.p.toNat]?=some (B3 (g.pl[r.p.toNat]'(by omega))):=by rw [List.getElem?_map,List.getElem?_eq_getElem (by omega)];rfl
 have hH:g.H.getD r.p.toNat 0=(g.pl[r.p.toNat]'(by omega)).2:=by
  rw [List.getD_eq_getElem?_getD,List.getElem?_map,List.getElem?_eq_getElem (by omega)];rfl
 generalize g.pl[r.p.toNat]'(by omega)=pp at iw hH
 have ft:atI (g.pl.map B3) r.p=some (B3 pp):=by
  have:=Al iw
  rw [Int.toNat_of_nonneg hp0]at this;exact this
 refine Ac (Al (j:=0) rfl) (Ac (Al (j:=0) rfl) (Ac ft (Ac (Al (j:=1) rfl) (ieq (λc1=>?_) (λc1=>Jg rfl ⟨μ,S1,q1 ?_⟩)))))
 ·refine Ac Dw λpc ao=>?_
  refine cmapf (g.rs.take i) Cc (Sj r) Cc (fun τ=>∃o,τ=[o,some (Cc r)]) ⟨none,rfl⟩ Ad (seven (by omega)) (λ_=>Dw) ?_ ?_
  ·rintro j v τ' ah W W2 hj ⟨o,rfl⟩ h1 h2
   have e:PyData.eqv (.tuple [.int v.p,.int v.x]) (.tuple [.int r.p,.int r.x])=Sj r v:=by
    show(decide (v.p=r.p) && (decide (v.x=r.x) && true))=_
    rw [Bool.and_true,<- Bool.decide_and];rfl
   refine⟨Ia v.p v.x,Ia r.p r.x,br (λc=>h1 (e.symm.trans c) _ ⟨_,rfl⟩) (λc=>h2 (e.symm.trans c) _ ⟨_,rfl⟩)⟩
  ·have hsa:=hP.sa r (by rw [hH];omega)
   refine Ac Ad (ieq (λc2=>Ac rfl ⟨rfl,μ,(S1.new (S1.none ao)).new (S1.none ao),q2 "many" ?_⟩) (λc2=>⟨μ,(S1.new (S1.none ao)).new (S1.none ao),q1 ?_⟩))
   all_goals rw [Yaa]at c2
   ·rw [ic];exact Yaq ⟨by rw [hH];omega,by unfold Cq;omega⟩
   ·rw [ic];exact Yan (λz=>by have:=z.2;unfold Cq at hsa this;omega)
 ·rw [ic];exact Yan (λz=>by have:=z.1;rw [hH]at this;omega)
abbrev nLk:List Str:=["game","places","letters","number"]
theorem U5:FnScope nLk ["game"] (Ag Ye):=⟨rfl,rfl,rfl,by decide +kernel,rfl,by decide +kernel,by decide +kernel⟩
theorem V7:(["name","hand"]:List Str).Nodup:=by decide +kernel
def Pq(g:Gz)(i:Nat):Option (Str×Nat):=match g.rs[i]? with
 | some r=>(L5 g i r).map λz=>(z,i)
 | none=>none
def Zi(g:Gz):Option (Str×Nat):=if 8 < g.rs.length then some ("rules",g.rs.length) else none
def flt(g:Gz):Option (Str×Nat):=(Fd "places" g.pl.length).or ((Fd "letters" g.le.length).or ((Fv (Jp (g.pl.map (·.1))) g.pl.length).or ((Fv (Jp g.le) g.le.length).or ((Fv (Pq g) g.rs.length).or (Zi g)))))
theorem Pre.zero{g:Gz}:Pre g 0:=⟨by simp [Bm],λv _=>by simp [Cq]⟩
theorem U6{g:Gz}{i:Nat}{r:Rz}(h:L5 g i r=none):parts g.pl.length g.le.length r=true/\r∉g.rs.take i/\¬(Cv r=true/\3<=Bm (g.rs.take i))/\¬(g.H.getD r.p.toNat 0=1/\2<=Cq (g.rs.take i) r):=by
 unfold L5 at h
 split at h
 ·cases h
 ·rename_i h1
  split at h
  ·cases h
  ·rename_i h2
   split at h
   ·cases h
   ·rename_i h3
    exact⟨(Bool.not_eq_false _).mp λz=>h1 (.inl z),λz=>h1 (.inr z),h2,h3⟩
theorem Pre.step{g:Gz}{i:Nat}{r:Rz}(h:Pre g i)(hi:g.rs[i]?=some r)(hg:L5 g i r=none):Pre g (i+1):=by
 obtain⟨_,_,g3,g4⟩:=U6 hg
 refine⟨?_,λv hv=>?_⟩
 ·rw [Lw hi,Lx]
  have:=h.pu
  cases c:Cv r with
  | true =>
   have:¬ 3<=Bm (g.rs.take i):=λz=>g3 ⟨c,z⟩
   simp;omega
  | false=>simp;omega
 ·rw [Lw hi,Pp]
  have:=h.sa v hv
  cases c:Sj v r with
  | true =>
   rw [Qfm c]
   have e:=Yam c
   have:¬ 2<=Cq (g.rs.take i) r:=λz=>g4 ⟨by rw [e.1];exact hv,z⟩
   simp;omega
  | false=>simp;omega
def U7(C:Addr):Io:=λxs μ R EX=>∃(g:Gz),xs=[.D (B6 g)]/\GzB 3 g/\(flt g=none->R (.D (.bool true)) μ)/\∀o,flt g=some o->EX C [("word",.str o.1),("at",.int (o.2:Nat))] μ
theorem Qcd{n:Nat}{C:Addr}(F:Fun K "look" "look" Ye f fd) (cLs:Dh P w K mg base (n+1) "look_size" ["word","many","most"] (Qb5 C)) (cLu:Dh P w K mg base (n+1) "look_unlike" ["names"] (Qb7 C)) (cLr:Dh P w K mg base (n+1) "look_rule" ["game","number"] (Qcb C)) (ae:mg "len" = none) (ai:mg "range" = none) {t1 t2 t3:Tok} (xn:mg "MOST_PLACES" = some (.int 3 t1)) (w4:mg "MOST_LETTERS" = some (.int 3 t2)) (zp:mg "MOST_RULES" = some (.int 8 t3)) (ba:XCal P w K mg base n "NoGame" C ["word","at"]) :
  FnOk P w K mg base (Q7 P w) (n+1+1) f fd ["game"] (Pf K 1 (U7 C)):=by
 refine F.vokX U5 λaq A outer s H E EX hr hX=>⟨_,(Ae (Fm (i:=1) (N':=["name","hand"]) (mp:=[none,none]) rfl U5.nd rfl rfl (B9 (A3 Bk (vv 0) Af)) (λ_ _ _ _=>(C5 (n:=2) rfl (Ay (Am (i:=0) V7 rfl (Or.inl rfl) (Or.inr rfl)) (Ay (Am (i:=1) V7 rfl (Or.inl rfl) (Or.inr rfl)) Ck)))) (λ_ _ _ _=>Bx) (λ_ _ _ _=>(vv 0)) (Bb (N:=nLk) (pn:=(Ag Ye).names) (by decide +kernel)))
   (Ae (An (i:=2) U5.nd rfl (Or.inl rfl) (A3 Bk (vv 0) Af))
   (Ae (Cj (De cLs hr hX rfl (Aa A4 (Aa (Ah Ba rfl ae Yad (Aa (vv 1) Ab)) (Aa (Eo rfl xn (v:=.int 3) ⟨_,rfl⟩ (λ_=>Cm)) Ab)))))
   (Ae (Cj (De cLs hr hX rfl (Aa A4 (Aa (Ah Ba rfl ae Yad (Aa (vv 2) Ab)) (Aa (Eo rfl w4 (v:=.int 3) ⟨_,rfl⟩ (λ_=>Cm)) Ab)))))
   (Ae (Cj (De cLu hr hX rfl (Aa (vv 1) Ab)))
   (Ae (Cj (De cLu hr hX rfl (Aa (vv 2) Ab)))
   (Ae (C6 PassesOwn.leaving rfl (Bt rfl ai (Aa (Ah Ba rfl ae Yad (Aa (A3 Bk (vv 0) Af) Ab)) Ab)) (Am (i:=3) U5.nd rfl (Or.inl rfl)) (Ai (Cj (De cLr hr hX rfl (Aa (vv 0) (Aa (vv 3) Ab))))))
   (Ae (Bn (Aq Lf (Ah Ba rfl ae Yad (Aa (A3 Bk (vv 0) Af) Ab)) (Eo rfl zp (v:=.int 8) ⟨_,rfl⟩ (λ_=>Cm)) (nomark _)) (Ai (Du ba hr rfl hX rfl (Aa A4 (Aa (Ah Ba rfl ae Yad (Aa (A3 Bk (vv 0) Af) Ab)) Ab)))) A0)
   (Ai (Bd E4)))))))))),?_⟩
 rintro xs μ R _ ⟨g,rfl,hG,q1,q2⟩
 have jp:=hG.p
 have z4:=hG.l
 have v9:=hG.r
 have jo:∀o ν,Sub μ ν->flt g=some o->upX EX C [("word",.str o.1),("at",.int (o.2:Nat))] ν:=λo ν S e=>⟨μ,S,q2 o e⟩
 refine Ap (fun τ μ'=>∃pp,τ=[some (.D (B6 g)),some (.R pp),none,none]/\Sub μ μ'/\μ' pp=some (.lst ((g.pl.map (·.1)).map A7))) (λZ hZ=>?_) ?_
 ·refine Ac (Al (j:=0) rfl) (Ac (x:=g.pl.map λp=>.D (B3 p)) (by show some ((g.pl.map B3).map AV.D)=_;rw [Yat];rfl) λpc ao=>?_)
  refine cmap g.pl _ (λp=>A7 p.1) (fun τ=>∃o1 o2,τ=[o1,o2]) ⟨none,none,rfl⟩ Ad (seven (by omega)) (λ_=>by show some ((g.pl.map B3).map AV.D)=_;rw [Yat];rfl) ?_ ?_
  ·rintro i p τ' ah W hi ⟨o1,o2,rfl⟩ hW
   exact⟨rfl,hW _ ⟨_,_,rfl⟩⟩
  ·refine hZ _ _ ⟨pc,rfl,(Sub.refl.new ao).new ao,?_⟩
   rw [Ad,Yat];rfl
 rintro τ μ1 ⟨pp,rfl,S1,e1⟩
 refine Ap (fun τ μ'=>τ=[some (.D (B6 g)),some (.R pp),some (.D (.tuple (g.le.map PyData.str))),none]/\μ1=μ') (λZ hZ=>Ac (Al (j:=1) rfl) (hZ _ _ ⟨rfl,rfl⟩)) ?_
 rintro τ _ ⟨rfl,rfl⟩
 refine Bv (Ac e1 ⟨"places",g.pl.length,by rw [Yaa,Yaa],λcm=>?_,λo e=>jo o _ S1 (by unfold flt;rw [e];rfl)⟩)
 refine Bv ⟨"letters",g.le.length,by rw [Yaa],λcr=>?_,λo e=>jo o _ S1 (by unfold flt;rw [cm,e];rfl)⟩
 refine Bv ⟨_,g.pl.map (·.1),rfl,.inr ⟨pp,rfl,e1⟩,λz hz=>by
  obtain⟨p,hp,rfl⟩:=Ybj.mp hz
  exact(hG.pn p hp).1,by rw [Yaa];omega,λqo=>?_,λo e=>jo o _ S1 (by rw [Yaa]at e;unfold flt;rw [cm,cr,e];rfl)⟩
 rw [Yaa]at qo
 refine Bv ⟨_,g.le,rfl,.inl rfl,λz hz=>(hG.ln z hz).1,by omega,λb0=>?_,λo e=>jo o _ S1 (by unfold flt;rw [cm,cr,qo,e];rfl)⟩
 have am:(Db 0 ((g.rs.map Bl).length:Int).toNat).length=g.rs.length:=by rw [Bo,Yaa];omega
 refine Ap (fun τ μ'=>∃o,τ=[some (.D (B6 g)),some (.R pp),some (.D (.tuple (g.le.map PyData.str))),o]/\μ1=μ'/\Fv (Pq g) g.rs.length=none) (λZ hZ=>?_) ?_
 ·refine Ac (Al (j:=2) rfl) ⟨by rw [Yaa];omega,by rw [Yaa];omega,?_⟩
  refine El (λi τ μ'=>∃o,τ=[some (.D (B6 g)),some (.R pp),some (.D (.tuple (g.le.map PyData.str))),o]/\μ1=μ'/\Pre g i/\∀j < i,Pq g j=none) ⟨none,rfl,rfl,Pre.zero,λj hj=>absurd hj (by omega)⟩ (λ_ _ _ _=>trivial) ?_ ?_
  ·rintro i y τ _ W hy ⟨o,rfl,rfl,hP,hok⟩ hW
   have hi:i < g.rs.length:=by rw [<- am];exact(List.getElem?_eq_some_iff.mp hy).1
   have ey:=Dd _ _ _ hy
   subst ey
   have d9:=List.getElem?_eq_getElem hi
   generalize g.rs[i]=r at d9
   refine⟨g,i,r,by rw [Int.zero_add],hG,d9,hP,λhg=>hW _ _ ⟨_,rfl,rfl,hP.step d9 hg,λj hj=>?_⟩,λz hg=>jo (z,i) _ S1 ?_⟩
   ·rcases(show j < i\/j=i by omega) with h | rfl
    ·exact hok j h
    ·unfold Pq;rw [d9];dsimp only;rw [hg];rfl
   ·have:Fv (Pq g) g.rs.length=some (z,i):=M7 hi hok (by unfold Pq;rw [d9];dsimp only;rw [hg];rfl)
    unfold flt;rw [cm,cr,qo,b0,this];rfl
  ·rintro τ _ ⟨o,rfl,rfl,hP,hok⟩
   rw [am]at hok
   exact hZ _ _ ⟨_,rfl,rfl,Fr hok⟩
 rintro τ _ ⟨o,rfl,rfl,hok⟩
 have hf:flt g=Zi g:=by unfold flt;rw [cm,cr,qo,b0,hok];rfl
 unfold Zi at hf
 refine Ac (Al (j:=2) rfl) (dif (λc=>?_) (λc=>⟨μ,S1,q1 ?_⟩))
 ·rw [Yaa]at c
  refine Ac (Al (j:=2) rfl) (Ac rfl ⟨rfl,?_⟩)
  have:=jo ("rules",g.rs.length) _ S1 (by rw [hf];exact Yaq (by omega))
  rw [Yaa]
  exact this
 ·rw [Yaa]at c;rw [hf];exact Yan (by omega)
end
section
variable {P:Program}{w:World}{K:PySem.W.Frag}{mg:Str->Option Value}{base:Heap}{f:Addr}{fd:FuncData}
def U8(p x:Nat)(r:Rz):Bool:=decide (r.p=p) && decide (r.x=x)
def Zj(rs:List Rz)(p x:Nat):List (Rz×Nat):=rs.zipIdx.filter λz=>U8 p x z.1
theorem Ob:∀(rs:List Rz) (k:Nat),Di k (rs.map Bl)=(rs.zipIdx k).map λz=>.D (.tuple [.int ((z.2:Nat):Int),Bl z.1])
 | [],_=>rfl
 | r :: rs,k=>by
  rw [Yaz,Di,Ob rs (k+1),List.zipIdx_cons,Yaz]
theorem U9(rs:List Rz):Db 0 rs.length=rs.zipIdx.map λz=>Gh z.2:=by
 have h:∀(rs:List Rz) (k:Nat),Db (k:Int) rs.length=(rs.zipIdx k).map λz=>Gh z.2:=by
  intro rs
  induction rs with
  | nil=>intro k;rfl
  | cons r rs ih =>
   intro k
   rw [Ya9,Db,List.zipIdx_cons,Yaz,show((k:Int)+1)=((k+1:Nat):Int) by omega,ih (k+1)];rfl
 exact h rs 0
abbrev nAt:List Str:=["game","place","letter"]
theorem Qfo:FnScope nAt ["game","place","letter"] (Ag Yd):=⟨rfl,rfl,rfl,by decide +kernel,rfl,by decide +kernel,by decide +kernel⟩
theorem V8:(["number","rule","place","letter"]:List Str).Nodup:=by decide +kernel
def Qce:ASp:=λxs μ R=>∃(g:Gz) (p x:Nat),xs=[.D (B6 g),.D (.int p),.D (.int x)]/\g.rs.length<=40/\∀(l:Addr) μ',μ l=none->μ' l=some (.lst ((Zj g.rs p x).map λz=>Gh z.2))->Sub μ μ'->R (.R l) μ'
theorem Qcf{n:Nat}(F:Fun K "rules_at" "rules_at" Yd f fd) (av:mg "enumerate" = none):FnOk P w K mg base En (n+1) f fd ["game","place","letter"] (Ih K 3 Qce):=by
 refine F.vok Qfo λaq A outer s H E hr=>⟨_,(Ai (Bd (Bz (N':=["number","rule","place","letter"]) (mp:=[none,none,some 1,some 2]) rfl (N0 rfl av (A3 Bk (vv 0) Af)) (λ_ _ _ _=>(C5 (n:=2) rfl (Ay (Am (i:=0) V8 rfl (Or.inl rfl) (Or.inr rfl)) (Ay (Am (i:=1) V8 rfl (Or.inl rfl) (Or.inr rfl)) Ck)))) (λ_ _ _ _=>(C3 (VW.pt (Ct (Aq (Ce hr) (A3 Bk (vv 1) Af) (vv 2) (nomark _)) (Cs (Aq (Ce hr) (A3 Bk (vv 1) Af) (vv 3) (nomark _))))))) (λ_ _ _ _=>(vv 0)) (Bb (N:=nAt) (pn:=(Ag Yd).names) (by decide +kernel))))),?_⟩
 rintro xs μ R _ ⟨g,p,x,rfl,hg,q⟩
 refine Ac (Al (j:=2) rfl) (Ac rfl (Ac (B7 _) λl hl=>?_))
 rw [Ob]
 refine cmapf g.rs.zipIdx _ (λz=>U8 p x z.1) (λz=>Gh z.2) (fun τ=>∃o1 o2,τ=[o1,o2,some (.D (.int p)),some (.D (.int x))]) ⟨none,none,rfl⟩ Ad (seven (by rw [List.length_zipIdx];omega)) (λ_=>rfl) ?_ ?_
 ·rintro i z τ' ah W W2 hi ⟨o1,o2,rfl⟩ h1 h2
  refine⟨rfl,Ac (Al (j:=0) rfl) (ieq (λc1=>Ac (Al (j:=1) rfl) (ieq (λc2=>h1 ?_ _ ⟨_,_,rfl⟩) (λc2=>h2 ?_ _ ⟨_,_,rfl⟩))) (λc1=>Jg rfl (h2 ?_ _ ⟨_,_,rfl⟩)))⟩
  ·rw [U8,Ybl (show z.1.p=p by omega),Ybl (show z.1.x=x by omega)];rfl
  ·rw [U8,Yay (show ¬z.1.x=x by omega),Ydd]
  ·rw [U8,Yay (show ¬z.1.p=p by omega),Bool.false_and]
 ·exact⟨_,Sub.refl,q l _ hl Ad (by rw [Ds];exact Sub.refl.new hl)⟩
abbrev nRr:List Str:=["_law_game_here","_law_p","_law_x","_law_due_here","_law_found"]
theorem Sl:FnScope nRr ["_law_game_here"] (Ag Yi):=⟨rfl,rfl,rfl,by decide +kernel,rfl,by decide +kernel,by decide +kernel⟩
theorem Qcg:(["_law_k","_law_p","_law_x","_law_game_here"]:List Str).Nodup:=by decide +kernel
def Yu:ASp:=λxs μ R=>∃(g:Gz),xs=[.D (B6 g)]/\GzB 3 g/\∀ μ',Sub μ μ'->R (.D (.bool true)) μ'
theorem Qfp:(!kit "list" "list")=false:=by decide
theorem Sm(ns:List Nat):Bq (.list (ns.map λ(n:Nat)=>.int n)):=⟨by simp only [PyData.canLay0];exact N5.1,by have:=(N5 (ns:=ns)).2;simp only [PyData.depth];omega⟩
theorem Qch{n:Nat}(F:Fun K "_law_rules_right" "_law_rules_right" Yi f fd) (cAt:VCal P w K mg base n "rules_at" ["game","place","letter"] Qce) (ai:mg "range" = none) (ae:mg "len" = none) (aj:mg "isinstance" = none) (az:mg "list" = none):FnOk P w K mg base En (n+1) f fd ["_law_game_here"] (Ih K 1 Yu):=by
 refine F.vok Sl λaq A outer s H E hr=>⟨_,(Ae (C6 Ybk rfl (Bt rfl ai (Aa (Ah Ba rfl ae Yad (Aa (A3 Bk (vv 0) Af) Ab)) Ab)) (Am (i:=1) Sl.nd rfl (Or.inr rfl)) (Ai (C6 Ybk rfl (Bt rfl ai (Aa (Ah Ba rfl ae Yad (Aa (A3 Bk (vv 0) Af) Ab)) Ab)) (Am (i:=2) Sl.nd rfl (Or.inr rfl)) (Ae (Fm (i:=3) (N':=["_law_k","_law_p","_law_x","_law_game_here"]) (mp:=[none,some 1,some 2,some 0]) rfl Sl.nd rfl rfl (Bt rfl ai (Aa (Ah Ba rfl ae Yad (Aa (A3 Bk (vv 0) Af) Ab)) Ab)) (λ_ _ _ _=>(Am (i:=0) Qcg rfl (Or.inl rfl) (Or.inr rfl))) (λ_ _ _ _=>(C3 (VW.pt (Ct (Aq (Ce hr) (A3 Bk (A3 Bk (A3 Bk (vv 3) Af) (vv 0)) Af) (vv 1) (nomark _)) (Cs (Aq (Ce hr) (A3 Bk (A3 Bk (A3 Bk (vv 3) Af) (vv 0)) Af) (vv 2) (nomark _))))))) (λ_ _ _ _=>(vv 0)) (Bb (N:=nRr) (pn:=(Ag Yi).names) (by decide +kernel)))
   (Ae (An (i:=4) Sl.nd rfl (Or.inl rfl) (Ak cAt hr rfl (Aa (vv 0) (Aa (vv 1) (Aa (vv 2) Ab)))))
   (Ae (Bn (VW.pt (Fj (Ej (Dp (Kc rfl aj rfl az Yc4 Pi (vv 4)))) (D3 (Aq (Xr hr) (vv 4) (vv 3) (nomark _))))) (Ai (Bd E4)) A0)
   (Ae (Cj (E5 Ybc Ybd Da (vv 4) (Aa Af Ab)))
   (Ai (Bn (Aq (Xr hr) (Ak cAt hr rfl (Aa (vv 0) (Aa (vv 1) (Aa (vv 2) Ab)))) (vv 3) (nomark _)) (Ai (Bd E4)) A0)))))))))
   (Ai (Bd E4))),?_⟩
 rintro xs μ R _ ⟨g,rfl,hB,q⟩
 have jp:=hB.p
 have z4:=hB.l
 have v9:=hB.r
 have eN:((g.rs.map Bl).length:Int).toNat=g.rs.length:=by rw [Yaa];omega
 refine Ap (fun τ μ'=>Sub μ μ') (λZ hZ=>?_) ?_
 ·refine Ac (Al (j:=0) rfl) ⟨by rw [Yaa];omega,by rw [Yaa];omega,?_⟩
  refine El (λi τ μ'=>∃o1 o2 o3 o4,τ=[some (.D (B6 g)),o1,o2,o3,o4]/\Sub μ μ') ⟨none,none,none,none,rfl,Sub.refl⟩ (λ_ _ _ _=>trivial) ?_ ?_
  ·rintro p y τ μ1 W hy ⟨o1,o2,o3,o4,rfl,S1⟩ hW
   have ey:=Dd _ _ _ hy
   subst ey
   rw [Int.zero_add]
   have G:((g.le.map PyData.str).length:Int).toNat=g.le.length:=by rw [Yaa];omega
   refine Ac (Al (j:=1) rfl) ⟨by rw [Yaa];omega,by rw [Yaa];omega,?_⟩
   refine El (λj τ μ'=>∃o2 o3 o4,τ=[some (.D (B6 g)),some (.D (.int p)),o2,o3,o4]/\Sub μ μ') ⟨o2,o3,o4,rfl,S1⟩ (λ_ _ _ _=>trivial) ?_ ?_
   ·rintro x y τ μ2 W2 hy2 ⟨o2,o3,o4,rfl,S2⟩ ef
    have ey:=Dd _ _ _ hy2
    subst ey
    rw [Int.zero_add]
    refine Ap (fun τ μ'=>∃ld,τ=[some (.D (B6 g)),some (.D (.int p)),some (.D (.int x)),some (.R ld),o4]/\μ' ld=some (.lst ((Zj g.rs p x).map λz=>Gh z.2))/\Sub μ μ') (λZ hZ=>?_) ?_
    ·refine Ac (Al (j:=2) rfl) ⟨by rw [Yaa];omega,by rw [Yaa];omega,λld hld=>?_⟩
     rw [eN,U9]
     refine cmapf g.rs.zipIdx _ (λz=>U8 p x z.1) (λz=>Gh z.2) (fun τ=>∃o1,τ=[o1,some (.D (.int p)),some (.D (.int x)),some (.D (B6 g))]) ⟨none,rfl⟩ Ad (seven (by rw [List.length_zipIdx];omega)) (λ_=>trivial) ?_ ?_
     ·rintro i z τ' ah U U2 hi ⟨o1,rfl⟩ h1 h2
      have hz:g.rs[z.2]?=some z.1:=List.mem_zipIdx_iff_getElem?.mp (Ybg hi)
      have hzD:(g.rs.map Bl)[z.2]?=some (Bl z.1):=by rw [List.getElem?_map,hz];rfl
      refine Ac (Al (j:=2) rfl) (Ac (Al hzD) (Ac (Al (j:=0) rfl) (ieq (λc1=>Ac (Al (j:=2) rfl) (Ac (Al hzD) (Ac (Al (j:=1) rfl) (ieq (λc2=>h1 ?_ _ ⟨_,rfl⟩) (λc2=>h2 ?_ _ ⟨_,rfl⟩))))) (λc1=>Jg rfl (h2 ?_ _ ⟨_,rfl⟩)))))
      ·rw [U8,Ybl (show z.1.p=p by omega),Ybl (show z.1.x=x by omega)];rfl
      ·rw [U8,Yay (show ¬z.1.x=x by omega),Ydd]
      ·rw [U8,Yay (show ¬z.1.p=p by omega),Bool.false_and]
     ·exact hZ _ _ ⟨ld,rfl,Ad,by rw [Ds];exact S2.new (S2.none hld)⟩
    rintro τ μ3 ⟨ld,rfl,e3,S3⟩
    have hok:=Sm ((Zj g.rs p x).map λz=>z.2)
    have hv:=PySem.SeqAt.eqv_refl _ hok.1
    have jd:dats ((Zj g.rs p x).map λz=>Gh z.2)=some (((Zj g.rs p x).map λz=>z.2).map λ(n:Nat)=>.int n):=by
     rw [<- Lo,Yat];rfl
    have hle:(Zj g.rs p x).length<=40:=Yai (Ydf _ _) (by rw [List.length_zipIdx];omega)
    refine Bv ⟨g,p,x,rfl,by omega,λlf μ4 hlf e4 S4=>?_⟩
    have d4:=S4 ld _ e3
    have nlf:lf≠ld:=by rintro rfl;rw [e3]at hlf;cases hlf
    have ut:=S3.none hlf
    refine Bv (Ac (x := "list") (by simp only [tyA,e4]) (Jg Qfp (Ac (Dj e4 jd) (Ac (Dj d4 jd) ⟨hok,hok,Jg (by rw [hv];rfl) ?_⟩))))
    refine Bv ⟨Ac e4 trivial,Ac e4 ⟨Bs (by rw [Yaa];omega),?_⟩⟩
    refine⟨g,p,x,rfl,by omega,λlg μ5 lm e5 S5=>?_⟩
    have d5:=S5 ld _ (by rw [Aj nlf.symm];exact d4)
    refine Ac (Dj e5 jd) (Ac (Dj d5 jd) ⟨hok,hok,Jg (by rw [hv];rfl) (ef _ _ ⟨_,_,_,rfl,?_⟩)⟩)
    exact((S3.trans S4).new ut).trans S5
   ·rintro τ μ2 ⟨o2,o3,o4,rfl,S2⟩
    exact hW _ _ ⟨_,_,_,_,rfl,S2⟩
  ·rintro τ μ1 ⟨o1,o2,o3,o4,rfl,S1⟩
   exact hZ _ _ S1
 rintro τ μ1 S1
 exact⟨μ1,Sub.refl,q _ S1⟩
end
section
variable {P:Program}{w:World}{K:PySem.W.Frag}{mg:Str->Option Value}{base:Heap}{f:Addr}{fd:FuncData}
abbrev nRu:List Str:=["_law_deal_here","_law_places","_law_letters","_law_p","_law_x","_law_q"]
theorem Qci:FnScope nRu ["_law_deal_here","_law_places","_law_letters"] (Ag Zd):=⟨rfl,rfl,rfl,by decide +kernel,rfl,by decide +kernel,by decide +kernel⟩
theorem Yv(ws:List Nat):Sb ws=.tuple ((ws.map λ(n:Nat)=>(n:Int)).map .int):=by unfold Sb;rw [Yat];rfl
def RK(np nl:Nat)(r:Rz):Prop:=parts np nl r=true/\r.w.length<=2
theorem G7{v n:Nat}(h:v < n):thr (v:Int) (n:Int)=true:=Ybl ⟨by omega,by omega⟩
theorem Qcj{np nl p x q:Nat}{ws:List Nat}(h1:p < np)(h2:x < nl)(h3:q < np)(h4:ws.length<=2)(h5:∀w∈ws,w < nl):RK np nl ⟨p,x,q,ws.map λ(n:Nat)=>(n:Int)⟩:=by
 refine⟨?_,by rw [Yaa];exact h4⟩
 unfold parts
 rw [G7 h1,G7 h3,Bool.true_and,Bool.true_and,List.all_cons,G7 h2,Bool.true_and,Ybx]
 intro z hz
 obtain⟨w,hw,rfl⟩:=Ybj.mp hz
 exact G7 (h5 w hw)
def Yw:ASp:=λxs μ R=>∃(a l:Addr) (np nl:Nat),xs=[.R a,.D (.int np),.D (.int nl)]/\(1<=np/\np<=20)/\(1<=nl/\nl<=20)/\Pot μ a l/\∀(r:Rz) μ',RK np nl r->Pot μ' a l->Bg a l μ μ'->R (Cc r) μ'
theorem Qck{n:Nat}(F:Fun K "_law_rule" "_law_rule" Zd f fd) (bd:VCal P w K mg base n "_law_draw" ["_law_deal_here","_law_many"] Fq) (cPt:VCal P w K mg base n "_law_put" ["_law_deal_here","_law_many"] Qbw):FnOk P w K mg base En (n+1) f fd ["_law_deal_here","_law_places","_law_letters"] (Ih K 3 Yw):=by
 refine F.vok Qci λaq A outer s H E hr=>⟨_,(Ae (Ug (i:=3) (j:=4) (l:=5) rfl Qci.nd rfl rfl rfl (by decide) (by decide) (by decide) rfl rfl rfl (Aa (Ak bd hr rfl (Aa (vv 0) (Aa (vv 1) Ab))) (Aa (Ak bd hr rfl (Aa (vv 0) (Aa (vv 2) Ab))) (Aa (Ak bd hr rfl (Aa (vv 0) (Aa (vv 1) Ab))) Ab))) rfl)
   (Ai (Bd (Az (Aa (vv 3) (Aa (vv 4) (Aa (vv 5) (Aa (Ak cPt hr rfl (Aa (vv 0) (Aa (vv 2) Ab))) Ab)))))))),?_⟩
 rintro xs μ R _ ⟨a,l,np,nl,rfl,hp,hl,hP,q⟩
 refine Bv ⟨a,l,np,rfl,hP,by omega,by omega,λp μ1 jp P1 S1=>⟨a,l,nl,rfl,P1,by omega,by omega,λx μ2 hx P2 S2=>⟨a,l,np,rfl,P2,by omega,by omega,λq' μ3 hq P3 S3=>?_⟩⟩⟩
 refine⟨a,l,nl,rfl,hl,P3,λws μ4 h4 h5 P4 S4=>⟨_,Sub.refl,?_⟩⟩
 rw [Yv]
 exact q ⟨p,x,q',ws.map λ(n:Nat)=>(n:Int)⟩ μ4 (Qcj jp hx hq h4 h5) P4 (S1.trans (S2.trans (S3.trans S4)))
structure GR(Q:List (Str×Nat))(L:List Str)(A:List Rz):Prop where
 n:A.length<=8
 w:∀r∈A,r.w.length<=2
 f:∀i r,A[i]?=some r->L5 ⟨Q,L,A⟩ i r=none
theorem GR.nil{Q:List (Str×Nat)}{L:List Str}:GR Q L []:=⟨by simp,λ_ h=>(nomatch h),λi r h=>by simp at h⟩
theorem GR.add{Q:List (Str×Nat)}{L:List Str}{A:List Rz}{r:Rz}(h:GR Q L A)(hn:A.length < 8)(hr:RK Q.length L.length r)(h1:r∉A)(h2:¬(Cv r=true/\3<=Bm A))(h3:¬((Q.map (·.2)).getD r.p.toNat 0=1/\2<=Cq A r)):GR Q L (A++[r]):=by
 refine⟨by rw [Yae];exact hn,λs hs=>?_,λi s hi=>?_⟩
 ·rcases Yaw.mp hs with z | z
  ·exact h.w s z
  ·rw [Yax.mp z];exact hr.2
 ·have bu:=(List.getElem?_eq_some_iff.mp hi).1
  rw [Yae]at bu
  rcases(show i < A.length\/i=A.length by simp at bu;omega) with z | z
  ·rw [List.getElem?_append_left z]at hi
   have:=h.f i s hi
   unfold L5 at this ⊢
   dsimp only [Gz.H]at this ⊢
   rw [List.take_append_of_le_length (by omega)]
   exact this
  ·subst z
   rw [List.getElem?_append_right (Yaf _),Nat.sub_self]at hi
   cases hi
   unfold L5
   dsimp only [Gz.H]
   rw [List.take_append_of_le_length (Yaf _),Yce,Yan (λz=>by
    rcases z with z | z
    ·rw [hr.1]at z;cases z
    ·exact h1 z),Yan h2,Yan h3]
theorem Oc{zs:List Str}(h:zs.Nodup):Fv (Jp zs) zs.length=none:=Fr λj hj=>by
 unfold Jp
 rw [List.getElem?_eq_getElem hj]
 refine Yan λhm=>?_
 obtain⟨m,hm1,em⟩:=Ycn.mp hm
 have hmj:m < j:=by omega
 exact(List.pairwise_iff_getElem.mp h) m j (by omega) hj hmj em
theorem GR.good{Q:List (Str×Nat)}{L:List Str}{A:List Rz}(h:GR Q L A)(hq:1<=Q.length/\Q.length<=3)(hl:1<=L.length/\L.length<=3)(h1:(Q.map (·.1)).Nodup)(h2:L.Nodup):flt ⟨Q,L,A⟩=none:=by
 unfold flt
 have e1:Fd "places" Q.length=none:=Yaq hq
 have e2:Fd "letters" L.length=none:=Yaq hl
 have e3:=Oc h1
 rw [Yaa]at e3
 have e5:Fv (Pq ⟨Q,L,A⟩) A.length=none:=Fr λj hj=>by
  unfold Pq
  dsimp only
  rw [List.getElem?_eq_getElem hj]
  dsimp only
  rw [h.f j _ (List.getElem?_eq_getElem hj)];rfl
 dsimp only
 rw [e1,e2,e3,Oc h2,e5]
 exact Yan (by have:=h.n;dsimp only;omega)
abbrev nGa:List Str:=["_law_deal_here","_law_names_here","_law_places","_law_letters","_law_rules","_law_k","_law_rule_here","_law_pushes","_law_answers"]
theorem Kq:FnScope nGa ["_law_deal_here"] (Ag Uz):=⟨rfl,rfl,rfl,by decide +kernel,rfl,by decide +kernel,by decide +kernel⟩
theorem Qcl:(["_law_name","_law_deal_here"]:List Str).Nodup:=by decide +kernel
theorem Qcm:(["_law_one"]:List Str).Nodup:=by decide +kernel
theorem Qcn:(["_law_one","_law_rule_here"]:List Str).Nodup:=by decide +kernel
def Yx:ASp:=λxs μ R=>∃(a l:Addr),xs=[.R a]/\Pot μ a l/\∀(g:Gz) μ',GzB 0 g->flt g=none->Pot μ' a l->Bg a l μ μ'->R (.D (B6 g)) μ'
theorem Qco{n:Nat}(F:Fun K "_law_game" "_law_game" Uz f fd) (cNa:VCal P w K mg base n "_law_names" ["_law_deal_here","_law_many"] Qbt) (bd:VCal P w K mg base n "_law_draw" ["_law_deal_here","_law_many"] Fq) (su:VCal P w K mg base n "_law_rule" ["_law_deal_here","_law_places","_law_letters"] Yw) (ar:mg "tuple" = none) (ai:mg "range" = none) (ae:mg "len" = none) (bn:mg "int" = none):FnOk P w K mg base En (n+1) f fd ["_law_deal_here"] (Ih K 1 Yx):=by
 refine F.vok Kq λaq A outer s H E hr=>⟨_,(Ae (An (i:=1) Kq.nd rfl (Or.inl rfl) (Ak cNa hr rfl (Aa (vv 0) (Aa Af Ab))))
   (Ae (An (i:=2) Kq.nd rfl (Or.inl rfl) (Bw Ep rfl ar Ybn (Aa (Bz (N':=["_law_name","_law_deal_here"]) (mp:=[none,some 0]) rfl (B9 (Ax (vv 1) Bc (A6 (Au Bh Af (Ak bd hr rfl (Aa (vv 0) (Aa Af Ab))))))) (λ_ _ _ _=>(Am (i:=0) Qcl rfl (Or.inl rfl) (Or.inr rfl))) (λ_ _ _ _=>Bx) (λ_ _ _ _=>(Az (Aa (vv 0) (Aa (Ak bd hr rfl (Aa (vv 1) (Aa Af Ab))) Ab)))) (Bb (N:=nGa) (pn:=(Ag Uz).names) (by decide +kernel))) Ab)))
   (Ae (An (i:=3) Kq.nd rfl (Or.inl rfl) (Bw Ep rfl ar Ybn (Aa (Ax (A3 Bk (Cg (Aa (vv 1) (Aa (Ak cNa hr rfl (Aa (vv 0) (Aa Af Ab))) Ab))) (Ak bd hr rfl (Aa (vv 0) (Aa Af Ab)))) Bc (A6 (Au Bh Af (Ak bd hr rfl (Aa (vv 0) (Aa Af Ab)))))) Ab)))
   (Ae (An (i:=4) Kq.nd rfl (Or.inl rfl) (Cg Ab))
   (Ae (C6 Ybk rfl (Bt rfl ai (Aa (Ak bd hr rfl (Aa (vv 0) (Aa Af Ab))) Ab)) (Am (i:=5) Kq.nd rfl (Or.inl rfl)) (Ae (An (i:=6) Kq.nd rfl (Or.inr rfl) (Ak su hr rfl (Aa (vv 0) (Aa (Ah Ba rfl ae Yad (Aa (vv 2) Ab)) (Aa (Ah Ba rfl ae Yad (Aa (vv 3) Ab)) Ab)))))
   (Ae (An (i:=7) Kq.nd rfl (Or.inl rfl) (Ah Ba rfl ae Yad (Aa (Bz (N':=["_law_one"]) (mp:=[none]) rfl (B9 (vv 4)) (λ_ _ _ _=>(Am (i:=0) Qcm rfl (Or.inl rfl) (Or.inr rfl))) (λ_ _ _ _=>(C3 (Aq (Ce hr) (Ah Ba rfl ae Yad (Aa (A3 Bk (vv 0) Af) Ab)) Af (nomark _)))) (λ_ _ _ _=>(vv 0)) (Bb (N:=nGa) (pn:=(Ag Uz).names) (by decide +kernel))) Ab)))
   (Ae (An (i:=8) Kq.nd rfl (Or.inl rfl) (Au Fl (A3 Bk (A3 Bk (vv 2) (A3 Bk (vv 6) Af)) Af) (Ah Ba rfl ae Yad (Aa (Bz (N':=["_law_one","_law_rule_here"]) (mp:=[none,some 6]) rfl (B9 (vv 4)) (λ_ _ _ _=>(Am (i:=0) Qcn rfl (Or.inl rfl) (Or.inr rfl))) (λ_ _ _ _=>(C3 (Aq (Ce hr) (Ax (vv 0) Bc (A6 Af)) (Ax (vv 1) Bc (A6 Af)) (nomark _)))) (λ_ _ _ _=>(vv 0)) (Bb (N:=nGa) (pn:=(Ag Uz).names) (by decide +kernel))) Ab))))
   (Ai (Bn (VW.pt (Ct (Aq (Ka hr) (vv 6) (vv 4) (by with_unfolding_all rfl)) (Ct (Aq Mw (Ah Ba rfl ae Yad (Aa (vv 4) Ab)) Af (nomark _)) (Ct (Aq Mw (Au Bh (vv 7) (Bw N2 rfl bn Yb1 (Aa (Gc (Ce hr) (Ah Ba rfl ae Yad (Aa (A3 Bk (vv 6) Af) Ab)) Af (nomark _)) Ab))) Af (nomark _)) (Cs (Aq Mw (vv 8) Af (nomark _))))))) (Ai (Cj (E5 Ybc Ybd Da (vv 4) (Aa (vv 6) Ab)))) A0))))))
   (Ai (Bd (Az (Aa (vv 2) (Aa (vv 3) (Aa (Bw Ep rfl ar Ybn (Aa (vv 4) Ab)) Ab))))))))))),?_⟩
 rintro xs μ R _ ⟨a,l,rfl,hP,q⟩
 refine Bv ⟨a,l,3,rfl,by omega,hP,λzs pz μ1 hzn hzo hzd dh e1 P1 S1=>?_⟩
 have cy:=hP.ne dh
 dsimp only [Ch,List.set,C0]
 refine Ap (fun τ μ'=>∃Q:List (Str×Nat),τ=[some (.R a),some (.R pz),some (.D (.tuple (Q.map B3))),none,none,none,none,none,none]/\(1<=Q.length/\Q.length<=3)/\(∀p∈Q,NameOk p.1/\p.2 < 2)/\(Q.map (·.1)).Nodup/\μ' pz=some (.lst (zs.map A7))/\Pot μ' a l/\Bg a l μ μ') (λZ hZ=>?_) ?_
 ·refine⟨a,l,3,rfl,P1,by decide,by decide,λv μ2 hv P2 S2=>?_⟩
  have e2:=S2 pz _ cy.1.symm cy.2.symm e1
  refine Ac (A8 e2) λps fq=>?_
  rw [show(1+(v:Int))=((1+v:Nat):Int) by omega,Et]
  have dg:=P2.ne fq
  have P3:=P2.new (o:=.lst ((zs.take (1+v)).map A7)) fq
  have S3:Bg a l μ2 (Ar μ2 ps (.lst ((zs.take (1+v)).map A7))):=Bg.refl.new fq
  have e3:Ar μ2 ps (.lst ((zs.take (1+v)).map A7)) ps=some (.lst ((zs.take (1+v)).map A7)):=Ad
  have zg:=S3 pz _ cy.1.symm cy.2.symm e2
  generalize Ar μ2 ps (.lst ((zs.take (1+v)).map A7))=μ3 at P3 S3 e3 zg
  have tq:(zs.take (1+v)).length=1+v:=by rw [Ya0,hzn];omega
  have ll:∀z∈zs.take (1+v),NameOk z:=λz hz=>hzo z (Ybo hz)
  have qc:(zs.take (1+v)).Nodup:=hzd.sublist (List.take_sublist _ _)
  generalize zs.take (1+v)=ys at e3 tq ll qc
  refine Ac (A8 e3) λpl hpl=>?_
  have ay:=P3.ne hpl
  have nps:ps≠pl:=by rintro rfl;rw [e3]at hpl;cases hpl
  have npz:pz≠pl:=by rintro rfl;rw [zg]at hpl;cases hpl
  refine Ho (λj ah τ μ'=>∃(o:Option AV) (Q:List (Str×Nat)),τ=[o,some (.R a)]/\ah=Q.map prA/\Q.map (·.1)=ys.take j/\(∀p∈Q,p.2 < 2)/\μ' pl=some (.lst ah)/\μ' ps=some (.lst (ys.map A7))/\μ' pz=some (.lst (zs.map A7))/\Pot μ' a l/\Bg a l μ3 μ') ⟨none,[],rfl,rfl,rfl,(λ_ z=>nomatch z),Ad,by rw [Aj nps];exact e3,by rw [Aj npz];exact zg,P3.new hpl,Bg.refl.new hpl⟩ (λ_ _ _ _ ⟨_,_,_,_,_,_,_,e,_⟩=>A8 e) ?_ ?_
  ·rintro j x ah τ μ4 Z2 hx ⟨o,Q,rfl,rfl,hQ,hb,e4,f4,g4,P4,S4⟩ ck
   rw [List.getElem?_map]at hx
   obtain⟨y,hy,rfl⟩:=Yav.mp hx
   have hj:=(List.getElem?_eq_some_iff.mp hy).1
   have qv:Q.length=j:=by
    have:=Ybb List.length hQ
    rw [Yaa,Ya0]at this;omega
   refine Lb rfl ⟨a,l,2,rfl,P4,by decide,by decide,λh μ5 hh P5 S5=>?_⟩
   have e5:=S5 pl _ ay.1.symm ay.2.symm e4
   refine⟨e5,Bs (by rw [Yaa];omega),ck _ _ _ ⟨_,Q++[(y,h)],rfl,by rw [Yak];rfl,?_,λz hz=>?_,Ad,?_,?_,P5.other ay.1 ay.2,(S4.trans S5).put hpl⟩⟩
   ·rw [Yak,hQ,List.take_succ,hy];rfl
   ·rcases Yaw.mp hz with h | h
    ·exact hb z h
    ·rw [Yax.mp h];exact hh
   ·rw [Aj nps];exact S5 ps _ dg.1.symm dg.2.symm f4
   ·rw [Aj npz];exact S5 pz _ cy.1.symm cy.2.symm g4
  ·rintro ah τ μ4 ⟨o,Q,rfl,rfl,hQ,hb,e4,f4,g4,P4,S4⟩
   rw [Yaa,Yce]at hQ
   have qv:Q.length=ys.length:=by rw [<- hQ,Yaa]
   refine Ac (A8 e4) (Ac (Lp Q) (hZ _ _ ⟨Q,rfl,⟨by omega,by omega⟩,λp hp=>⟨ll _ ?_,hb p hp⟩,by rw [hQ];exact qc,g4,P4,S1.trans (S2.trans (S3.trans S4))⟩))
   rw [<- hQ]
   exact Ybj.mpr ⟨p,hp,rfl⟩
 rintro τ μ2 ⟨Q,rfl,hQ5,hQo,hQd,e2,P2,S2⟩
 refine Ap (fun τ μ'=>∃L:List Str,τ=[some (.R a),some (.R pz),some (.D (.tuple (Q.map B3))),some (.D (.tuple (L.map .str))),none,none,none,none,none]/\(1<=L.length/\L.length<=3)/\(∀z∈L,NameOk z)/\L.Nodup/\Pot μ' a l/\Bg a l μ μ') (λZ hZ=>?_) ?_
 ·refine⟨a,l,3,rfl,by omega,P2,λys py μ3 tq hyo qc hpy f3 P3 S3=>?_⟩
  have e3:=S3 pz _ cy.1.symm cy.2.symm e2
  have js:=P2.ne hpy
  refine λp2 jk=>⟨a,l,2,rfl,P3.new jk,by decide,by decide,λv μ4 hv P4 S4=>?_⟩
  have fy:=P3.ne jk
  have e4:=S4 pz _ cy.1.symm cy.2.symm (Bg.refl.new jk pz _ cy.1.symm cy.2.symm e3)
  have f4:=S4 py _ js.1.symm js.2.symm (Bg.refl.new jk py _ js.1.symm js.2.symm f3)
  have S04:=(S3.new jk).trans S4
  refine Ac (S4 p2 _ fy.1.symm fy.2.symm Ad) ?_
  have fin:∀(q2:Addr) (ws:List Str),μ4 q2=some (.lst (ws.map A7))->q2≠a->q2≠l->ws.length=3->(∀z∈ws,NameOk z)->ws.Nodup->vSl (λ_ μ R=>R (.R q2) μ) G3 (Nq (Rf Rj (vC (.D (.int 1))) (Lh 2 Fq (Bp (Cw 0) (Bp (vC (.D (.int 3))) D4))))) [some (.R a),some (.R pz),some (.D (.tuple (Q.map B3))),none,none,none,none,none,none] μ4 λx μ'=>Hn [x] μ' λy μ''=>Z [some (.R a),some (.R pz),some (.D (.tuple (Q.map B3))),some y,none,none,none,none,none] μ'':=by
   intro q2 ws eq nqa nql hw5 hwo hwd
   refine⟨a,l,3,rfl,P4,by decide,by decide,λu μ5 hu P5 S5=>?_⟩
   refine Ac (A8 (S5 q2 _ nqa nql eq)) λps fq=>?_
   rw [show(1+(u:Int))=((1+u:Nat):Int) by omega,Et]
   refine Ac (A8 Ad) (Ac (Dv _) (hZ _ _ ⟨ws.take (1+u),rfl,?_,λz hz=>hwo z (Ybo hz),hwd.sublist (List.take_sublist _ _),P5.new fq,S2.trans ((S04.trans S5).new fq)⟩))
   rw [Ya0];omega
  rcases(show v=0\/v=1 by omega) with rfl | rfl
  ·exact Ac (Al (j:=0) rfl) (fin pz zs e4 cy.1.symm cy.2.symm hzn hzo hzd)
  ·exact Ac (Al (j:=1) rfl) (fin py ys f4 js.1.symm js.2.symm tq hyo qc)
 rintro τ μ3 ⟨L,rfl,hL5,hLo,hLd,P3,S3⟩
 refine Bv λpr p7=>?_
 have iq:=P3.ne p7
 have yf:=S3.none iq.1 iq.2 p7
 dsimp only [Ch,List.set]
 refine Ap (fun τ μ'=>∃o5 o6 o7 o8,∃A:List Rz,τ=[some (.R a),some (.R pz),some (.D (.tuple (Q.map B3))),some (.D (.tuple (L.map .str))),some (.R pr),o5,o6,o7,o8]/\GR Q L A/\μ' pr=some (.lst (A.map Cc))/\Pot μ' a l/\Bg a l μ μ') (λZ hZ=>?_) ?_
 ·refine⟨a,l,12,rfl,P3.new p7,by decide,by decide,λc μ4 hc P4 S4=>⟨by omega,by omega,?_⟩⟩
  have am:(Db 0 (c:Int).toNat).length=c:=by rw [Bo];omega
  refine El (λi τ μ'=>∃o5 o6 o7 o8,∃A:List Rz,τ=[some (.R a),some (.R pz),some (.D (.tuple (Q.map B3))),some (.D (.tuple (L.map .str))),some (.R pr),o5,o6,o7,o8]/\GR Q L A/\μ' pr=some (.lst (A.map Cc))/\Pot μ' a l/\Bg a l μ μ') ⟨none,none,none,none,[],rfl,GR.nil,S4 pr _ iq.1.symm iq.2.symm Ad,P4,(S3.new p7).trans S4⟩ (λ_ _ _ _=>trivial) ?_ ?_
  ·rintro i y τ μ5 Z2 hy ⟨o5,o6,o7,o8,A,rfl,hA,e5,P5,S5⟩ ck
   have hql:((Q.map B3).length:Int)=(Q.length:Nat):=by rw [Yaa]
   have t7:((L.map PyData.str).length:Int)=(L.length:Nat):=by rw [Yaa]
   have hA8:=hA.n
   refine Bv ⟨a,l,Q.length,L.length,by rw [hql,t7],by omega,by omega,P5,λr μ6 hr P6 S6=>?_⟩
   dsimp only [Ch,List.set]
   have e6:=S6 pr _ iq.1.symm iq.2.symm e5
   have S06:=S5.trans S6
   refine Ap (fun τ μ'=>τ=[some (.R a),some (.R pz),some (.D (.tuple (Q.map B3))),some (.D (.tuple (L.map .str))),some (.R pr),some y,some (Cc r),some (.D (.int (Bm A))),o8]/\μ' pr=some (.lst (A.map Cc))/\Pot μ' a l/\Bg a l μ μ') (λZ3 df=>?_) ?_
   ·refine Ac (A8 e6) λpc ao=>?_
    have jc:pr≠pc:=by rintro rfl;rw [e6]at ao;cases ao
    have dv:=P6.ne ao
    refine cmapf A Cc Cv Cc (fun τ=>∃o,τ=[o]) ⟨none,rfl⟩ Ad (seven (by omega)) (λ_=>A8 (by rw [Aj jc,Aj jc];exact e6)) ?_ ?_
    ·rintro j v τ' ah W W2 hj ⟨o,rfl⟩ h1 h2
     refine Ac (Al (j:=3) rfl) (ieq (λc=>h1 (Ybl ?_) _ ⟨_,rfl⟩) (λc=>h2 (Yay ?_) _ ⟨_,rfl⟩))
     ·rw [Yaa]at c;omega
     ·rw [Yaa]at c;omega
    ·refine Ac Ad (df _ _ ⟨?_,by rw [Ds,Aj jc];exact e6,(P6.new ao).other dv.1 dv.2,(S06.new ao).put (S06.none dv.1 dv.2 ao)⟩)
     rw [Yaa];rfl
   rintro τ μ7 ⟨rfl,e7,P7,S7⟩
   obtain⟨fo,hw2⟩:=id hr
   have hp:thr r.p Q.length=true:=by unfold parts at fo;rw [Yar,Yar]at fo;exact fo.1.1
   obtain⟨hp0,jp⟩:=Yam hp
   have iw:(Q.map B3)[r.p.toNat]?=some (B3 (Q[r.p.toNat]'(by omega))):=by rw [List.getElem?_map,List.getElem?_eq_getElem (by omega)];rfl
   have hH:(Q.map (·.2)).getD r.p.toNat 0=(Q[r.p.toNat]'(by omega)).2:=by
    rw [List.getD_eq_getElem?_getD,List.getElem?_map,List.getElem?_eq_getElem (by omega)];rfl
   have ql:(Q[r.p.toNat]'(by omega)).2 < 2:=(hQo _ (Ybu _)).2
   generalize Q[r.p.toNat]'(by omega)=pp at iw hH ql
   have ft:atI (Q.map B3) r.p=some (B3 pp):=by
    have:=Al iw
    rw [Int.toNat_of_nonneg hp0]at this;exact this
   refine Ap (fun τ μ'=>τ=[some (.R a),some (.R pz),some (.D (.tuple (Q.map B3))),some (.D (.tuple (L.map .str))),some (.R pr),some y,some (Cc r),some (.D (.int (Bm A))),some (.D (.int (pp.2 * Cq A r)))]/\μ' pr=some (.lst (A.map Cc))/\Pot μ' a l/\Bg a l μ μ') (λZ3 df=>?_) ?_
   ·refine Ac (Al (j:=0) rfl) (Ac ft (Ac (Al (j:=1) rfl) (Ac (A8 e7) λpc ao=>?_)))
    have jc:pr≠pc:=by rintro rfl;rw [e7]at ao;cases ao
    have dv:=P7.ne ao
    refine cmapf A Cc (Sj r) Cc (fun τ=>∃o,τ=[o,some (Cc r)]) ⟨none,rfl⟩ Ad (seven (by omega)) (λ_=>A8 (by rw [Aj jc,Aj jc];exact e7)) ?_ ?_
    ·rintro j v τ' ah W W2 hj ⟨o,rfl⟩ h1 h2
     have e:PyData.eqv (.tuple [.int v.p,.int v.x]) (.tuple [.int r.p,.int r.x])=Sj r v:=by
      show(decide (v.p=r.p) && (decide (v.x=r.x) && true))=_
      rw [Bool.and_true,<- Bool.decide_and];rfl
     refine⟨Ia v.p v.x,Ia r.p r.x,br (λc=>h1 (e.symm.trans c) _ ⟨_,rfl⟩) (λc=>h2 (e.symm.trans c) _ ⟨_,rfl⟩)⟩
    ·refine Ac Ad ⟨.inl (by omega),df _ _ ⟨?_,by rw [Ds,Aj jc];exact e7,(P7.new ao).other dv.1 dv.2,(S7.new ao).put (S7.none dv.1 dv.2 ao)⟩⟩
     rw [Yaa];rfl
   rintro τ μ8 ⟨rfl,e8,P8,S8⟩
   have same:Z2 [some (.R a),some (.R pz),some (.D (.tuple (Q.map B3))),some (.D (.tuple (L.map .str))),some (.R pr),some y,some (Cc r),some (.D (.int (Bm A))),some (.D (.int (pp.2 * Cq A r)))] μ8:=ck _ _ ⟨_,_,_,_,A,rfl,hA,e8,P8,S8⟩
   refine Ac rfl (Ac (A8 e8) (Ac (N9 A) ⟨Ko r,Hz A,?_⟩))
   rw [Sk]
   refine br (λc1=>?_) (λc1=>Jg rfl same)
   have c1:r∉A:=by simpa using c1
   refine Ac e8 (dif (λc2=>?_) (λc2=>Jg rfl same))
   refine Ac (Al (j:=3) rfl) ⟨Cu _,Cu _,?_⟩
   rw [Fo,Yaa,show decide ((r.w.length:Int)=2)=Cv r from Ycf.mpr ⟨λh=>by omega,λh=>by omega⟩]
   refine dif (λc3=>dif (λc4=>?_) (λc4=>same)) (λc3=>Jg rfl same)
   rw [Yaa]at c2
   refine⟨Ac e8 trivial,Ac e8 ⟨Bs (by rw [Yaa];omega),ck _ _ ⟨_,_,_,_,A++[r],rfl,hA.add (by omega) hr c1 ?_ ?_,by rw [Ad,Yak];rfl,P8.other iq.1 iq.2,S8.put yf⟩⟩⟩
   ·rintro⟨z1,z2⟩
    rw [Yaq z1]at c3
    omega
   ·rintro⟨z1,z2⟩
    rw [hH]at z1
    rw [z1]at c4
    omega
  ·rintro τ μ5 ⟨o5,o6,o7,o8,A,rfl,hA,e5,P5,S5⟩
   exact hZ _ _ ⟨_,_,_,_,A,rfl,hA,e5,P5,S5⟩
 rintro τ μ4 ⟨o5,o6,o7,o8,A,rfl,hA,e4,P4,S4⟩
 exact Ac (A8 e4) (Ac (N9 A) ⟨_,Sub.refl,q ⟨Q,L,A⟩ μ4 ⟨hQ5.2,hL5.2,hA.n,λp hp=>⟨(hQo p hp).1.l,Yai (hQo p hp).1.b (by decide),(hQo p hp).2⟩,λz hz=>⟨(hLo z hz).l,Yai (hLo z hz).b (by decide)⟩,hA.w⟩ (hA.good ⟨hQ5.1,hQ5.2⟩ ⟨hL5.1,hL5.2⟩ hQd hLd) P4 S4⟩)
end
section
variable {P:Program}{w:World}{K:PySem.W.Frag}{mg:Str->Option Value}{base:Heap}{f:Addr}{fd:FuncData}
abbrev nOn:List Str:=["_law_deal_here","_law_game_here","_law_places","_law_letters","_law_rules","_law_form","_law_more","_law_at","_law_other","_law_left"]
theorem Gy:FnScope nOn ["_law_deal_here","_law_game_here"] (Ag V2):=⟨rfl,rfl,rfl,by decide +kernel,rfl,by decide +kernel,by decide +kernel⟩
theorem Qcp:(["_law_name"]:List Str).Nodup:=by decide +kernel
theorem Qcq:(["_law_name","_law_deal_here"]:List Str).Nodup:=by decide +kernel
def Sn:ASp:=λxs μ R=>∃(a l:Addr) (n:Nat) (g:Gz),xs=[.R a,.D (B6 g)]/\n<=2/\GzB n g/\Pot μ a l/\∀(g':Gz) μ',GzB (n+1) g'->Pot μ' a l->Bg a l μ μ'->R (.D (B6 g')) μ'
theorem GzB.up{n:Nat}{g:Gz}(h:GzB n g):GzB (n+1) g:=⟨by have:=h.p;omega,by have:=h.l;omega,by have:=h.r;omega,h.pn,h.ln,h.rw⟩
theorem GzB.pl'{n:Nat}{g:Gz}(h:GzB n g){Q:List (Str×Nat)}(h1:Q.length<=3+4 * (n+1))(h2:∀p∈Q,lets p.1/\p.1.length<=10/\p.2 < 2):GzB (n+1) ⟨Q,g.le,g.rs⟩:=⟨h1,h.up.l,h.up.r,h2,h.ln,h.rw⟩
theorem GzB.le'{n:Nat}{g:Gz}(h:GzB n g){L:List Str}(h1:L.length<=3+4 * (n+1))(h2:∀z∈L,lets z/\z.length<=10):GzB (n+1) ⟨g.pl,L,g.rs⟩:=⟨h.up.p,h1,h.up.r,h.pn,h2,h.rw⟩
theorem GzB.rs'{n:Nat}{g:Gz}(h:GzB n g){B:List Rz}(h1:B.length<=8+9 * (n+1))(h2:∀r∈B,r.w.length<=2):GzB (n+1) ⟨g.pl,g.le,B⟩:=⟨h.up.p,h.up.l,h1,h.pn,h.ln,h2⟩
abbrev Gp:List Str:=["aa","bb","cc","dd"]
theorem So:∀z∈Gp,z.length<=2:=by decide +kernel
theorem Va:∀z∈Gp.map (λ(z:Str)=>z++("x" : Str)),(∀c∈z.cps.toList,97<=c/\c<=122)/\z.length<=10:=by decide +kernel
theorem Qcr:("x" : Str).length=1:=by decide +kernel
theorem Fu{α:Type}{P:α->Prop}{xs:List α}{y:α}(h:∀x∈xs,P x)(hy:P y)(i j:Nat):∀x∈xs.take i++[y]++xs.drop j,P x:=λx hx=>by
 rcases Yaw.mp hx with h1 | h1
 ·rcases Yaw.mp h1 with h2 | h2
  ·exact h x (Ybo h2)
  ·rw [Yax.mp h2];exact hy
 ·exact h x (List.mem_of_mem_drop h1)
theorem D8{α:Type}{xs:List α}{y:α}{i j:Nat}(h:i<=j):(xs.take i++[y]++xs.drop j).length<=xs.length+1:=by
 simp only [List.length_append,List.length_take,List.length_drop,List.length_singleton];omega
theorem Qcs{n:Nat}(F:Fun K "_law_other_names" "_law_other_names" V2 f fd) (bd:VCal P w K mg base n "_law_draw" ["_law_deal_here","_law_many"] Fq) (ar:mg "tuple" = none) (ae:mg "len" = none):FnOk P w K mg base En (n+1) f fd ["_law_deal_here","_law_game_here"] (Ih K 2 Sn):=by
 refine F.vok Gy λaq A outer s H E hr=>⟨_,(Ae (Fb (vv 1) (C5 (n:=3) rfl (Ay (Am (i:=2) Gy.nd rfl (Or.inl rfl)) (Ay (Am (i:=3) Gy.nd rfl (Or.inl rfl)) (Ay (Am (i:=4) Gy.nd rfl (Or.inl rfl)) Ck)))))
   (Ae (An (i:=5) Gy.nd rfl (Or.inl rfl) (Ak bd hr rfl (Aa (vv 0) (Aa Af Ab))))
   (Ae (An (i:=6) Gy.nd rfl (Or.inl rfl) (Ax (Bz (N':=["_law_name"]) (mp:=[none]) rfl (B9 (Az (Aa A4 (Aa A4 (Aa A4 (Aa A4 Ab)))))) (λ_ _ _ _=>(Am (i:=0) Qcp rfl (Or.inl rfl) (Or.inr rfl))) (λ_ _ _ _=>Bx) (λ_ _ _ _=>(Au Bh (vv 0) A4)) (Bb (N:=nOn) (pn:=(Ag V2).names) (by decide +kernel))) Bc (A6 (Ak bd hr rfl (Aa (vv 0) (Aa Af Ab))))))
   (Ae (Bn (Aq (Ce hr) (vv 5) Af (nomark _)) (Ai (Bd (Az (Aa (Az Ab) (Aa (vv 3) (Aa (vv 4) Ab)))))) A0)
   (Ae (Bn (Aq (Ce hr) (vv 5) Af (nomark _)) (Ai (Bd (Az (Aa (vv 2) (Aa (Az Ab) (Aa (vv 4) Ab)))))) A0)
   (Ae (Bn (Aq (Ce hr) (vv 5) Af (nomark _)) (Ai (Bd (Az (Aa (Au Bh (vv 2) (Bw Ep rfl ar Ybn (Aa (Bz (N':=["_law_name","_law_deal_here"]) (mp:=[none,some 0]) rfl (B9 (vv 6)) (λ_ _ _ _=>(Am (i:=0) Qcq rfl (Or.inl rfl) (Or.inr rfl))) (λ_ _ _ _=>Bx) (λ_ _ _ _=>(Az (Aa (vv 0) (Aa (Ak bd hr rfl (Aa (vv 1) (Aa Af Ab))) Ab)))) (Bb (N:=nOn) (pn:=(Ag V2).names) (by decide +kernel))) Ab))) (Aa (vv 3) (Aa (vv 4) Ab)))))) A0)
   (Ae (Bn (Aq (Ce hr) (vv 5) Af (nomark _)) (Ai (Bd (Az (Aa (vv 2) (Aa (Au Bh (vv 3) (Bw Ep rfl ar Ybn (Aa (vv 6) Ab))) (Aa (vv 4) Ab)))))) A0)
   (Ae (Bn (VW.pt (Ct (Aq (Ce hr) (vv 5) Af (nomark _)) (Cs (Aq Lf (Ah Ba rfl ae Yad (Aa (vv 2) Ab)) Af (nomark _))))) (Ae (An (i:=7) Gy.nd rfl (Or.inl rfl) (Ak bd hr rfl (Aa (vv 0) (Aa (Ah Ba rfl ae Yad (Aa (vv 2) Ab)) Ab))))
   (Ae (An (i:=8) Gy.nd rfl (Or.inl rfl) (Az (Aa (A3 Bk (A3 Bk (vv 2) (Ak bd hr rfl (Aa (vv 0) (Aa (Ah Ba rfl ae Yad (Aa (vv 2) Ab)) Ab)))) Af) (Aa (Ak bd hr rfl (Aa (vv 0) (Aa Af Ab))) Ab))))
   (Ae (An (i:=9) Gy.nd rfl (Or.inl rfl) (Ax (vv 2) (A6 (Au Bh (vv 7) (Ak bd hr rfl (Aa (vv 0) (Aa Af Ab))))) Bc))
   (Ai (Bd (Az (Aa (Au Bh (Au Bh (Ax (vv 2) Bc (A6 (vv 7))) (Az (Aa (vv 8) Ab))) (vv 9)) (Aa (vv 3) (Aa (vv 4) Ab))))))))) A0)
   (Ae (Bn (VW.pt (Ct (Aq (Ce hr) (vv 5) Af (nomark _)) (Cs (Aq Lf (Ah Ba rfl ae Yad (Aa (vv 3) Ab)) Af (nomark _))))) (Ae (An (i:=7) Gy.nd rfl (Or.inl rfl) (Ak bd hr rfl (Aa (vv 0) (Aa (Ah Ba rfl ae Yad (Aa (vv 3) Ab)) Ab))))
   (Ae (An (i:=8) Gy.nd rfl (Or.inl rfl) (A3 Bk (vv 3) (Ak bd hr rfl (Aa (vv 0) (Aa (Ah Ba rfl ae Yad (Aa (vv 3) Ab)) Ab)))))
   (Ae (An (i:=9) Gy.nd rfl (Or.inl rfl) (Ax (vv 3) (A6 (Au Bh (vv 7) (Ak bd hr rfl (Aa (vv 0) (Aa Af Ab))))) Bc))
   (Ai (Bd (Az (Aa (vv 2) (Aa (Au Bh (Au Bh (Ax (vv 3) Bc (A6 (vv 7))) (Az (Aa (vv 8) Ab))) (vv 9)) (Aa (vv 4) Ab))))))))) A0)
   (Ai (Bd (vv 1)))))))))))),?_⟩
 rintro xs μ R _ ⟨a,l,n,g,rfl,hn,hB,hP,q⟩
 have hp:=hB.p
 have hl:=hB.l
 refine Ap (fun τ μ'=>τ=[some (.R a),some (.D (B6 g)),some (.D (.tuple (g.pl.map B3))),some (.D (.tuple (g.le.map .str))),some (.D (.tuple (g.rs.map Bl))),none,none,none,none,none]/\μ=μ') (λZ hZ=>⟨rfl,hZ _ _ ⟨rfl,rfl⟩⟩) ?_
 rintro τ _ ⟨rfl,rfl⟩
 refine Bv ⟨a,l,6,rfl,hP,by decide,by decide,λv μ1 hv P1 S1=>?_⟩
 dsimp only [Ch,List.set,C0]
 refine Ap (fun τ μ'=>∃(pm:Addr) (M:List Str),τ=[some (.R a),some (.D (B6 g)),some (.D (.tuple (g.pl.map B3))),some (.D (.tuple (g.le.map .str))),some (.D (.tuple (g.rs.map Bl))),some (.D (.int v)),some (.R pm),none,none,none]/\M.length<=4/\(∀z∈M,lets z/\z.length<=10)/\μ' pm=some (.lst (M.map A7))/\(pm≠a/\pm≠l)/\Pot μ' a l/\Bg a l μ μ') (λZ hZ=>?_) ?_
 ·refine Ac (x:=Gp.map A7) rfl λpc ao=>?_
  have dv:=P1.ne ao
  refine cmap Gp A7 (λ(z:Str)=>A7 (z++("x" : Str))) (fun τ=>∃o,τ=[o]) ⟨none,rfl⟩ Ad (seven (by decide)) (λ_=>rfl) ?_ ?_
  ·rintro i z τ' ah W hi ⟨o,rfl⟩ hW
   have:=So z (Ybg hi)
   exact⟨by rw [Qcr];exact seven (by omega),hW _ ⟨_,rfl⟩⟩
  ·have P2:Pot (Ar (Ar μ1 pc (.lst [])) pc (.lst (Gp.map λ(z:Str)=>A7 (z++("x" : Str))))) a l:=(P1.new ao).other dv.1 dv.2
   refine⟨a,l,5,rfl,P2,by decide,by decide,λu μ3 hu P3 S3=>?_⟩
   refine Ac (A8 (S3 pc _ dv.1.symm dv.2.symm Ad)) λps fq=>?_
   rw [show(Gp.map λ(z:Str)=>A7 (z++("x" : Str)))=(Gp.map λ(z:Str)=>z++("x" : Str)).map A7 from rfl,Et]
   have dg:=P3.ne fq
   refine hZ _ _ ⟨ps,(Gp.map λ(z:Str)=>z++("x" : Str)).take u,rfl,by rw [Ya0];omega,λz hz=>Va z (Ybo hz),Ad,⟨dg.1.symm,dg.2.symm⟩,P3.new fq,?_⟩
   exact(((S1.new ao).put (S1.none dv.1 dv.2 ao)).trans S3).new fq
 rintro τ μ2 ⟨pm,M,rfl,hM4,hM,e2,nm,P2,S2⟩
 refine Ap (fun τ μ'=>τ=[some (.R a),some (.D (B6 g)),some (.D (.tuple (g.pl.map B3))),some (.D (.tuple (g.le.map .str))),some (.D (.tuple (g.rs.map Bl))),some (.D (.int v)),some (.R pm),none,none,none]/\μ2=μ') (λZ hZ=>ieq (λ_=>⟨_,Sub.refl,q _ _ (hB.pl' (Q:=[]) (by simp) (λ_ h=>nomatch h)) P2 S2⟩) (λ_=>hZ _ _ ⟨rfl,rfl⟩)) ?_
 rintro τ _ ⟨rfl,rfl⟩
 refine Ap (fun τ μ'=>τ=[some (.R a),some (.D (B6 g)),some (.D (.tuple (g.pl.map B3))),some (.D (.tuple (g.le.map .str))),some (.D (.tuple (g.rs.map Bl))),some (.D (.int v)),some (.R pm),none,none,none]/\μ2=μ') (λZ hZ=>ieq (λ_=>⟨_,Sub.refl,q _ _ (hB.le' (L:=[]) (by simp) (λ_ h=>nomatch h)) P2 S2⟩) (λ_=>hZ _ _ ⟨rfl,rfl⟩)) ?_
 rintro τ _ ⟨rfl,rfl⟩
 refine Ap (fun τ μ'=>τ=[some (.R a),some (.D (B6 g)),some (.D (.tuple (g.pl.map B3))),some (.D (.tuple (g.le.map .str))),some (.D (.tuple (g.rs.map Bl))),some (.D (.int v)),some (.R pm),none,none,none]/\μ2=μ') (λZ hZ=>ieq (λ_=>?_) (λ_=>hZ _ _ ⟨rfl,rfl⟩)) ?_
 ·refine Ac (A8 e2) λpl hpl=>?_
  have ay:=P2.ne hpl
  have npm:pm≠pl:=by rintro rfl;rw [e2]at hpl;cases hpl
  refine Ho (λj ah τ μ'=>∃(o:Option AV) (Q:List (Str×Nat)),τ=[o,some (.R a)]/\ah=Q.map prA/\Q.map (·.1)=M.take j/\(∀p∈Q,p.2 < 2)/\μ' pl=some (.lst ah)/\μ' pm=some (.lst (M.map A7))/\Pot μ' a l/\Bg a l μ2 μ') ⟨none,[],rfl,rfl,rfl,(λ_ z=>nomatch z),Ad,by rw [Aj npm];exact e2,P2.new hpl,Bg.refl.new hpl⟩ (λ_ _ _ _ ⟨_,_,_,_,_,_,_,e,_⟩=>A8 e) ?_ ?_
  ·rintro j x ah τ μ4 Z2 hx ⟨o,Q,rfl,rfl,hQ,hb,e4,f4,P4,S4⟩ ck
   rw [List.getElem?_map]at hx
   obtain⟨y,hy,rfl⟩:=Yav.mp hx
   have hj:=(List.getElem?_eq_some_iff.mp hy).1
   have qv:Q.length=j:=by
    have:=Ybb List.length hQ
    rw [Yaa,Ya0]at this;omega
   refine Lb rfl ⟨a,l,2,rfl,P4,by decide,by decide,λh μ5 hh P5 S5=>?_⟩
   have e5:=S5 pl _ ay.1.symm ay.2.symm e4
   refine⟨e5,Bs (by rw [Yaa];omega),ck _ _ _ ⟨_,Q++[(y,h)],rfl,by rw [Yak];rfl,?_,λz hz=>?_,Ad,?_,P5.other ay.1 ay.2,(S4.trans S5).put hpl⟩⟩
   ·rw [Yak,hQ,List.take_succ,hy];rfl
   ·rcases Yaw.mp hz with h | h
    ·exact hb z h
    ·rw [Yax.mp h];exact hh
   ·rw [Aj npm];exact S5 pm _ nm.1 nm.2 f4
  ·rintro ah τ μ4 ⟨o,Q,rfl,rfl,hQ,hb,e4,f4,P4,S4⟩
   rw [Yaa,Yce]at hQ
   have qv:Q.length=M.length:=by rw [<- hQ,Yaa]
   refine Ac (A8 e4) (Ac (Lp Q) ⟨?_,_,Sub.refl,?_⟩)
   ·rw [Yaa,Yaa];exact seven (by omega)
   ·rw [<- Yak]
    refine q _ _ (hB.pl' (Q:=g.pl++Q) (by rw [Yae];omega) (λp hp=>?_)) P4 (S2.trans S4)
    rcases Yaw.mp hp with h | h
    ·exact hB.pn p h
    ·have:=hM p.1 (by rw [<- hQ];exact Ybj.mpr ⟨p,h,rfl⟩)
     exact⟨this.1,this.2,hb p h⟩
 rintro τ _ ⟨rfl,rfl⟩
 refine Ap (fun τ μ'=>τ=[some (.R a),some (.D (B6 g)),some (.D (.tuple (g.pl.map B3))),some (.D (.tuple (g.le.map .str))),some (.D (.tuple (g.rs.map Bl))),some (.D (.int v)),some (.R pm),none,none,none]/\μ2=μ') (λZ hZ=>ieq (λ_=>?_) (λ_=>hZ _ _ ⟨rfl,rfl⟩)) ?_
 ·refine Ac (A8 e2) (Ac (Dv M) ⟨?_,_,Sub.refl,?_⟩)
  ·rw [Yaa,Yaa];exact seven (by omega)
  ·rw [<- Yak]
   refine q _ _ (hB.le' (L:=g.le++M) (by rw [Yae];omega) (λz hz=>?_)) P2 S2
   rcases Yaw.mp hz with h | h
   ·exact hB.ln z h
   ·exact hM z h
 rintro τ _ ⟨rfl,rfl⟩
 refine Ap (fun τ μ'=>τ=[some (.R a),some (.D (B6 g)),some (.D (.tuple (g.pl.map B3))),some (.D (.tuple (g.le.map .str))),some (.D (.tuple (g.rs.map Bl))),some (.D (.int v)),some (.R pm),none,none,none]/\μ2=μ') (λZ hZ=>ieq (λ_=>dif (λc=>?_) (λ_=>hZ _ _ ⟨rfl,rfl⟩)) (λ_=>Jg rfl (hZ _ _ ⟨rfl,rfl⟩))) ?_
 ·rw [Yaa]at c
  refine Bv ⟨a,l,g.pl.length,by rw [Yaa],P2,by omega,by omega,λal μ3 h3 P3 S3=>?_⟩
  dsimp only [Ch,List.set]
  refine Ap (fun τ μ'=>∃y:Str×Nat,τ=[some (.R a),some (.D (B6 g)),some (.D (.tuple (g.pl.map B3))),some (.D (.tuple (g.le.map .str))),some (.D (.tuple (g.rs.map Bl))),some (.D (.int v)),some (.R pm),some (.D (.int al)),some (.D (B3 y)),none]/\(lets y.1/\y.1.length<=10/\y.2 < 2)/\Pot μ' a l/\Bg a l μ μ') (λZ2 ck=>?_) ?_
  ·refine⟨a,l,g.pl.length,by rw [Yaa],P3,by omega,by omega,λu μ4 hu P4 S4=>?_⟩
   have hy:=hB.pn g.pl[u] (Ybu hu)
   refine Ac (Al (v:=B3 g.pl[u]) (by rw [List.getElem?_map,List.getElem?_eq_getElem hu];rfl)) (Ac (Al (j:=0) rfl) ⟨a,l,2,rfl,P4,by decide,by decide,λh μ5 hh P5 S5=>?_⟩)
   exact ck _ _ ⟨(g.pl[u].1,h),rfl,⟨hy.1,hy.2.1,hh⟩,P5,S2.trans (S3.trans (S4.trans S5))⟩
  rintro τ μ5 ⟨y,rfl,hy,P5,S5⟩
  refine Ap (fun τ μ'=>∃j:Nat,τ=[some (.R a),some (.D (B6 g)),some (.D (.tuple (g.pl.map B3))),some (.D (.tuple (g.le.map .str))),some (.D (.tuple (g.rs.map Bl))),some (.D (.int v)),some (.R pm),some (.D (.int al)),some (.D (B3 y)),some (.D (.tuple ((g.pl.drop j).map B3)))]/\al<=j/\Pot μ' a l/\Bg a l μ μ') (λZ2 ck=>?_) ?_
  ·refine⟨a,l,2,rfl,P5,by decide,by decide,λk μ6 hk P6 S6=>?_⟩
   refine ck _ _ ⟨al+k,?_,by omega,P6,S5.trans S6⟩
   rw [show((al:Int)+(k:Int))=((al+k:Nat):Int) by omega,C9];rfl
  rintro τ μ6 ⟨j,rfl,hj,P6,S6⟩
  have qh:=D8 (xs:=g.pl) (y:=y) hj
  have e:Cl (g.pl.map B3) none (some (al:Int))++[B3 y]++(g.pl.drop j).map B3=(g.pl.take al++[y]++g.pl.drop j).map B3:=by
   rw [B8,Yak,Yak];rfl
  have cz:(Cl (g.pl.map B3) none (some (al:Int))++[B3 y]).length+((g.pl.drop j).map B3).length<=60:=by
   have:=Ybb List.length e
   rw [Yae,Yaa (f:=B3) (as:=_++_++_)]at this
   omega
  refine⟨seven (by rw [Yae]at cz;exact Yai (Ydl _ _) (Yai cz (by decide))),seven (Yai cz (by decide)),_,Sub.refl,?_⟩
  rw [e]
  exact q _ _ (hB.pl' (Q:=g.pl.take al++[y]++g.pl.drop j) (by omega) (Fu hB.pn hy _ _)) P6 S6
 rintro τ _ ⟨rfl,rfl⟩
 refine Ap (fun τ μ'=>τ=[some (.R a),some (.D (B6 g)),some (.D (.tuple (g.pl.map B3))),some (.D (.tuple (g.le.map .str))),some (.D (.tuple (g.rs.map Bl))),some (.D (.int v)),some (.R pm),none,none,none]/\μ2=μ') (λZ hZ=>ieq (λ_=>dif (λc=>?_) (λ_=>hZ _ _ ⟨rfl,rfl⟩)) (λ_=>Jg rfl (hZ _ _ ⟨rfl,rfl⟩))) ?_
 ·rw [Yaa]at c
  refine Bv ⟨a,l,g.le.length,by rw [Yaa],P2,by omega,by omega,λal μ3 h3 P3 S3=>?_⟩
  dsimp only [Ch,List.set]
  refine Ap (fun τ μ'=>∃y:Str,τ=[some (.R a),some (.D (B6 g)),some (.D (.tuple (g.pl.map B3))),some (.D (.tuple (g.le.map .str))),some (.D (.tuple (g.rs.map Bl))),some (.D (.int v)),some (.R pm),some (.D (.int al)),some (.D (.str y)),none]/\(lets y/\y.length<=10)/\Pot μ' a l/\Bg a l μ μ') (λZ2 ck=>?_) ?_
  ·refine⟨a,l,g.le.length,by rw [Yaa],P3,by omega,by omega,λu μ4 hu P4 S4=>?_⟩
   have hy:=hB.ln g.le[u] (Ybu hu)
   exact Ac (Al (v:=PyData.str g.le[u]) (by rw [List.getElem?_map,List.getElem?_eq_getElem hu];rfl)) (ck _ _ ⟨g.le[u],rfl,hy,P4,S2.trans (S3.trans S4)⟩)
  rintro τ μ5 ⟨y,rfl,hy,P5,S5⟩
  refine Ap (fun τ μ'=>∃j:Nat,τ=[some (.R a),some (.D (B6 g)),some (.D (.tuple (g.pl.map B3))),some (.D (.tuple (g.le.map .str))),some (.D (.tuple (g.rs.map Bl))),some (.D (.int v)),some (.R pm),some (.D (.int al)),some (.D (.str y)),some (.D (.tuple ((g.le.drop j).map PyData.str)))]/\al<=j/\Pot μ' a l/\Bg a l μ μ') (λZ2 ck=>?_) ?_
  ·refine⟨a,l,2,rfl,P5,by decide,by decide,λk μ6 hk P6 S6=>?_⟩
   refine ck _ _ ⟨al+k,?_,by omega,P6,S5.trans S6⟩
   rw [show((al:Int)+(k:Int))=((al+k:Nat):Int) by omega,C9];rfl
  rintro τ μ6 ⟨j,rfl,hj,P6,S6⟩
  have qh:=D8 (xs:=g.le) (y:=y) hj
  have e:Cl (g.le.map PyData.str) none (some (al:Int))++[PyData.str y]++(g.le.drop j).map PyData.str=(g.le.take al++[y]++g.le.drop j).map PyData.str:=by
   rw [B8,Yak,Yak];rfl
  have cz:(Cl (g.le.map PyData.str) none (some (al:Int))++[PyData.str y]).length+((g.le.drop j).map PyData.str).length<=60:=by
   have:=Ybb List.length e
   rw [Yae,Yaa (f:=PyData.str) (as:=_++_++_)]at this
   omega
  refine⟨seven (by rw [Yae]at cz;exact Yai (Ydl _ _) (Yai cz (by decide))),seven (Yai cz (by decide)),_,Sub.refl,?_⟩
  rw [e]
  exact q _ _ (hB.le' (L:=g.le.take al++[y]++g.le.drop j) (by omega) (Fu hB.ln hy _ _)) P6 S6
 rintro τ _ ⟨rfl,rfl⟩
 exact⟨_,Sub.refl,q g _ hB.up P2 S2⟩
end
section
variable {P:Program}{w:World}{K:PySem.W.Frag}{mg:Str->Option Value}{base:Heap}{f:Addr}{fd:FuncData}
abbrev nOr:List Str:=["_law_deal_here","_law_rule_here","_law_places","_law_letters","_law_p","_law_x","_law_q","_law_w","_law_form","_law_most","_law_number","_law_at"]
theorem Kr:FnScope nOr ["_law_deal_here","_law_rule_here","_law_places","_law_letters"] (Ag Ze):=⟨rfl,rfl,rfl,by decide +kernel,rfl,by decide +kernel,by decide +kernel⟩
def Qct:ASp:=λxs μ R=>∃(a l:Addr) (r:Rz) (np nl:Nat),xs=[.R a,Cc r,.D (.int np),.D (.int nl)]/\np<=20/\nl<=20/\r.w.length<=2/\Pot μ a l/\∀(r':Rz) μ',r'.w.length<=2->Pot μ' a l->Bg a l μ μ'->R (Cc r') μ'
theorem Qcu{n:Nat}(F:Fun K "_law_other_rule" "_law_other_rule" Ze f fd) (bd:VCal P w K mg base n "_law_draw" ["_law_deal_here","_law_many"] Fq) (bj:mg "max" = none) (ae:mg "len" = none):FnOk P w K mg base En (n+1) f fd ["_law_deal_here","_law_rule_here","_law_places","_law_letters"] (Ih K 4 Qct):=by
 refine F.vok Kr λaq A outer s H E hr=>⟨_,(Ae (Fb (vv 1) (C5 (n:=4) rfl (Ay (Am (i:=4) Kr.nd rfl (Or.inl rfl)) (Ay (Am (i:=5) Kr.nd rfl (Or.inl rfl)) (Ay (Am (i:=6) Kr.nd rfl (Or.inl rfl)) (Ay (Am (i:=7) Kr.nd rfl (Or.inl rfl)) Ck))))))
   (Ae (An (i:=8) Kr.nd rfl (Or.inl rfl) (Ak bd hr rfl (Aa (vv 0) (Aa Af Ab))))
   (Ae (An (i:=9) Kr.nd rfl (Or.inl rfl) (A3 Bk (Cg (Aa (vv 2) (Aa (vv 3) (Aa (vv 2) (Aa (vv 3) Ab))))) (vv 8)))
   (Ae (An (i:=10) Kr.nd rfl (Or.inl rfl) (A3 Bk (Cg (Aa (Xz Af) (Aa (vv 9) (Aa (Au Bh (vv 9) Af) (Aa (Au Vm Af Af) (Aa (Ak bd hr rfl (Aa (vv 0) (Aa (Ah (Gf rfl) rfl bj Ybt (Aa Af (Aa (vv 9) Ab))) Ab))) Ab)))))) (Ak bd hr rfl (Aa (vv 0) (Aa Af Ab)))))
   (Ae (Bn (Aq (Ce hr) (vv 8) Af (nomark _)) (Ai (Bd (Az (Aa (vv 10) (Aa (vv 5) (Aa (vv 6) (Aa (vv 7) Ab))))))) A0)
   (Ae (Bn (Aq (Ce hr) (vv 8) Af (nomark _)) (Ai (Bd (Az (Aa (vv 4) (Aa (vv 10) (Aa (vv 6) (Aa (vv 7) Ab))))))) A0)
   (Ae (Bn (Aq (Ce hr) (vv 8) Af (nomark _)) (Ai (Bd (Az (Aa (vv 4) (Aa (vv 5) (Aa (vv 10) (Aa (vv 7) Ab))))))) A0)
   (Ae (An (i:=11) Kr.nd rfl (Or.inl rfl) (Ak bd hr rfl (Aa (vv 0) (Aa (Au Bh (Ah Ba rfl ae Yad (Aa (vv 7) Ab)) Af) Ab))))
   (Ai (Bd (Az (Aa (vv 4) (Aa (vv 5) (Aa (vv 6) (Aa (Ax (Au Bh (Au Bh (Ax (vv 7) Bc (A6 (vv 11))) (Az (Aa (vv 10) Ab))) (Ax (vv 7) (A6 (Au Bh (vv 11) Af)) Bc)) Bc (A6 Af)) Ab))))))))))))))),?_⟩
 rintro xs μ R _ ⟨a,l,r,np,nl,rfl,hp,hl,hw,hP,q⟩
 refine Ap (fun τ μ'=>τ=[some (.R a),some (Cc r),some (.D (.int np)),some (.D (.int nl)),some (.D (.int r.p)),some (.D (.int r.x)),some (.D (.int r.q)),some (.D (.tuple (r.w.map .int))),none,none,none,none]/\μ=μ') (λZ hZ=>⟨rfl,hZ _ _ ⟨rfl,rfl⟩⟩) ?_
 rintro τ _ ⟨rfl,rfl⟩
 refine Bv ⟨a,l,4,rfl,hP,by decide,by decide,λv μ1 hv P1 S1=>?_⟩
 dsimp only [Ch,List.set]
 refine Ap (fun τ μ'=>∃m:Nat,τ=[some (.R a),some (Cc r),some (.D (.int np)),some (.D (.int nl)),some (.D (.int r.p)),some (.D (.int r.x)),some (.D (.int r.q)),some (.D (.tuple (r.w.map .int))),some (.D (.int v)),some (.D (.int m)),none,none]/\m<=20/\Pot μ' a l/\Bg a l μ μ') (λZ hZ=>?_) ?_
 ·refine λpz dh=>Ac Ad ?_
  have fin:∀m:Nat,m<=20->Z [some (.R a),some (Cc r),some (.D (.int np)),some (.D (.int nl)),some (.D (.int r.p)),some (.D (.int r.x)),some (.D (.int r.q)),some (.D (.tuple (r.w.map .int))),some (.D (.int v)),some (.D (.int m)),none,none] (Ar μ1 pz (.lst [.D (.int np),.D (.int nl),.D (.int np),.D (.int nl)])):=λm hm=>hZ _ _ ⟨m,rfl,hm,P1.new dh,S1.new dh⟩
  match v,hv with
  | 0,_=>exact Ac (Al (j:=0) rfl) (fin np hp)
  | 1,_=>exact Ac (Al (j:=1) rfl) (fin nl hl)
  | 2,_=>exact Ac (Al (j:=2) rfl) (fin np hp)
  | 3,_=>exact Ac (Al (j:=3) rfl) (fin nl hl)
 rintro τ μ2 ⟨m,rfl,hm,P2,S2⟩
 refine Ap (fun τ μ'=>∃z:Int,τ=[some (.R a),some (Cc r),some (.D (.int np)),some (.D (.int nl)),some (.D (.int r.p)),some (.D (.int r.x)),some (.D (.int r.q)),some (.D (.tuple (r.w.map .int))),some (.D (.int v)),some (.D (.int m)),some (.D (.int z)),none]/\Pot μ' a l/\Bg a l μ μ') (λZ hZ=>?_) ?_
 ·have hm1:(if(m:Int) > 1 then(m:Int) else 1)=((max 1 m:Nat):Int):=by split <;> omega
  refine⟨⟨by decide,by decide,by decide⟩,a,l,max 1 m,by rw [<- hm1],P2,by omega,by omega,λd μ3 hd P3 S3=>?_⟩
  intro pz dh
  have cy:=P3.ne dh
  refine⟨a,l,5,rfl,P3.new dh,by decide,by decide,λu μ4 hu P4 S4=>Ac (S4 pz _ cy.1.symm cy.2.symm Ad) ?_⟩
  have fin:∀z:Int,Z [some (.R a),some (Cc r),some (.D (.int np)),some (.D (.int nl)),some (.D (.int r.p)),some (.D (.int r.x)),some (.D (.int r.q)),some (.D (.tuple (r.w.map .int))),some (.D (.int v)),some (.D (.int m)),some (.D (.int z)),none] μ4:=λz=>hZ _ _ ⟨z,rfl,P4,S2.trans ((S3.new dh).trans S4)⟩
  match u,hu with
  | 0,_=>exact Ac (Al (j:=0) rfl) (fin _)
  | 1,_=>exact Ac (Al (j:=1) rfl) (fin _)
  | 2,_=>exact Ac (Al (j:=2) rfl) (fin _)
  | 3,_=>exact Ac (Al (j:=3) rfl) (fin _)
  | 4,_=>exact Ac (Al (j:=4) rfl) (fin _)
 rintro τ μ3 ⟨z,rfl,P3,S3⟩
 refine Ap (fun τ μ'=>τ=[some (.R a),some (Cc r),some (.D (.int np)),some (.D (.int nl)),some (.D (.int r.p)),some (.D (.int r.x)),some (.D (.int r.q)),some (.D (.tuple (r.w.map .int))),some (.D (.int v)),some (.D (.int m)),some (.D (.int z)),none]/\μ3=μ') (λZ hZ=>ieq (λ_=>⟨_,Sub.refl,q ⟨z,r.x,r.q,r.w⟩ _ hw P3 S3⟩) (λ_=>hZ _ _ ⟨rfl,rfl⟩)) ?_
 rintro τ _ ⟨rfl,rfl⟩
 refine Ap (fun τ μ'=>τ=[some (.R a),some (Cc r),some (.D (.int np)),some (.D (.int nl)),some (.D (.int r.p)),some (.D (.int r.x)),some (.D (.int r.q)),some (.D (.tuple (r.w.map .int))),some (.D (.int v)),some (.D (.int m)),some (.D (.int z)),none]/\μ3=μ') (λZ hZ=>ieq (λ_=>⟨_,Sub.refl,q ⟨r.p,z,r.q,r.w⟩ _ hw P3 S3⟩) (λ_=>hZ _ _ ⟨rfl,rfl⟩)) ?_
 rintro τ _ ⟨rfl,rfl⟩
 refine Ap (fun τ μ'=>τ=[some (.R a),some (Cc r),some (.D (.int np)),some (.D (.int nl)),some (.D (.int r.p)),some (.D (.int r.x)),some (.D (.int r.q)),some (.D (.tuple (r.w.map .int))),some (.D (.int v)),some (.D (.int m)),some (.D (.int z)),none]/\μ3=μ') (λZ hZ=>ieq (λ_=>⟨_,Sub.refl,q ⟨r.p,r.x,z,r.w⟩ _ hw P3 S3⟩) (λ_=>hZ _ _ ⟨rfl,rfl⟩)) ?_
 rintro τ _ ⟨rfl,rfl⟩
 refine Ap (fun τ μ'=>∃al:Nat,τ=[some (.R a),some (Cc r),some (.D (.int np)),some (.D (.int nl)),some (.D (.int r.p)),some (.D (.int r.x)),some (.D (.int r.q)),some (.D (.tuple (r.w.map .int))),some (.D (.int v)),some (.D (.int m)),some (.D (.int z)),some (.D (.int al))]/\al<=2/\Pot μ' a l/\Bg a l μ μ') (λZ hZ=>?_) ?_
 ·exact⟨a,l,r.w.length+1,by rw [Yaa];rfl,P3,by omega,by omega,λu μ4 hu P4 S4=>hZ _ _ ⟨u,rfl,by omega,P4,S3.trans S4⟩⟩
 rintro τ μ4 ⟨al,rfl,ft,P4,S4⟩
 have e:Cl (Cl (r.w.map .int) none (some (al:Int))++[.int z]++Cl (r.w.map .int) (some ((al:Int)+1)) none) none (some 2)=((r.w.take al++[z]++r.w.drop (al+1)).take 2).map .int:=by
  rw [B8,show((al:Int)+1)=((al+1:Nat):Int) by omega,C9,show([PyData.int z]:List PyData)=[z].map .int from rfl,<- Yak,<- Yak]
  exact B8 _ _ 2
 have cz:=D8 (xs:=r.w) (y:=z) (i:=al) (j:=al+1) (by omega)
 have fm:(Cl (r.w.map PyData.int) none (some (al:Int))++[PyData.int z]).length+(Cl (r.w.map PyData.int) (some ((al:Int)+1)) none).length<=5:=by
  rw [B8,show((al:Int)+1)=((al+1:Nat):Int) by omega,C9]
  simp only [List.length_append,List.length_map,List.length_singleton]at cz ⊢
  omega
 refine⟨seven (by rw [Yae]at fm;exact Yai (Ydl _ _) (Yai fm (by decide))),seven (Yai fm (by decide)),_,Sub.refl,?_⟩
 rw [e]
 exact q ⟨r.p,r.x,r.q,(r.w.take al++[z]++r.w.drop (al+1)).take 2⟩ _ (by rw [Ya0];omega) P4 S4
abbrev nMr:List Str:=["_law_deal_here","_law_rules","_law_places","_law_letters","_law_form","_law_p","_law_x","_law_k","_law_rule_here","_law_y","_law_z","_law_at"]
theorem Ib:FnScope nMr ["_law_deal_here","_law_rules","_law_places","_law_letters"] (Ag Zf):=⟨rfl,rfl,rfl,by decide +kernel,rfl,by decide +kernel,by decide +kernel⟩
def Yy:ASp:=λxs μ R=>∃(a l:Addr) (B:List Rz) (np nl:Nat),xs=[.R a,.D (.tuple (B.map Bl)),.D (.int np),.D (.int nl)]/\np<=20/\nl<=20/\B.length<=30/\(∀r∈B,r.w.length<=2)/\Pot μ a l/\∀(B':List Rz) μ',B'.length<=B.length+9->(∀r∈B',r.w.length<=2)->Pot μ' a l->Bg a l μ μ'->R (.D (.tuple (B'.map Bl))) μ'
theorem Qcv{n:Nat}(F:Fun K "_law_more_rules" "_law_more_rules" Zf f fd) (bd:VCal P w K mg base n "_law_draw" ["_law_deal_here","_law_many"] Fq) (su:VCal P w K mg base n "_law_rule" ["_law_deal_here","_law_places","_law_letters"] Yw) (az:mg "list" = none) (ae:mg "len" = none) (ai:mg "range" = none) (bj:mg "max" = none):FnOk P w K mg base En (n+1) f fd ["_law_deal_here","_law_rules","_law_places","_law_letters"] (Ih K 4 Yy):=by
 refine F.vok Ib λaq A outer s H E hr=>⟨_,(Ae (An (i:=4) Ib.nd rfl (Or.inl rfl) (Ak bd hr rfl (Aa (vv 0) (Aa Af Ab))))
   (Ae (Fb (Ax (A3 Bk (Au Bh (Bw Rm rfl az Yc4 (Aa (vv 1) Ab)) (Cg (Aa (Az (Aa Af (Aa Af (Aa Af (Aa (Az Ab) Ab))))) Ab))) (Ak bd hr rfl (Aa (vv 0) (Aa (Au Bh (Ah Ba rfl ae Yad (Aa (vv 1) Ab)) Af) Ab)))) Bc (A6 Af)) (C5 (n:=2) rfl (Ay (Am (i:=5) Ib.nd rfl (Or.inl rfl)) (Ay (Am (i:=6) Ib.nd rfl (Or.inl rfl)) Ck))))
   (Ae (C6 Ybk rfl (Bt rfl ai (Aa (A3 Bk (Cg (Aa Af (Aa Af (Aa Af (Aa Af (Aa Af Ab)))))) (vv 4)) Ab)) (Am (i:=7) Ib.nd rfl (Or.inl rfl)) (Ae (An (i:=8) Ib.nd rfl (Or.inl rfl) (Ak su hr rfl (Aa (vv 0) (Aa (Ah (Gf rfl) rfl bj Ybt (Aa Af (Aa (vv 2) Ab))) (Aa (Ah (Gf rfl) rfl bj Ybt (Aa Af (Aa (vv 3) Ab))) Ab)))))
   (Ae (Bn (VW.pt (Fj (Aq (Ce hr) (vv 4) Af (nomark _)) (D3 (Aq (Ce hr) (vv 4) Af (nomark _))))) (Ae (Xw (i:=9) (j:=10) rfl Ib.nd rfl rfl (by decide) rfl rfl (Aa (Ak bd hr rfl (Aa (vv 0) (Aa (Ah (Gf rfl) rfl bj Ybt (Aa Af (Aa (vv 3) Ab))) Ab))) (Aa (Ak bd hr rfl (Aa (vv 0) (Aa (Ah (Gf rfl) rfl bj Ybt (Aa Af (Aa (vv 3) Ab))) Ab))) Ab)) rfl)
   (Ai (An (i:=8) Ib.nd rfl (Or.inl rfl) (Au Bh (Ax (vv 8) Bc (A6 Af)) (Az (Aa (Az (Aa (vv 9) (Aa (vv 10) Ab))) Ab)))))) A0)
   (Ae (Bn (VW.pt (Fj (Aq (Ce hr) (vv 4) Af (nomark _)) (D3 (Aq (Ce hr) (vv 4) Af (nomark _))))) (Ai (An (i:=8) Ib.nd rfl (Or.inl rfl) (Au Bh (Az (Aa (vv 5) (Aa (vv 6) Ab))) (Ax (vv 8) (A6 Af) Bc)))) A0)
   (Ae (An (i:=11) Ib.nd rfl (Or.inl rfl) (Ak bd hr rfl (Aa (vv 0) (Aa (Au Bh (Ah Ba rfl ae Yad (Aa (vv 1) Ab)) Af) Ab))))
   (Ai (An (i:=1) Ib.nd rfl (Or.inl rfl) (Au Bh (Au Bh (Ax (vv 1) Bc (A6 (vv 11))) (Az (Aa (vv 8) Ab))) (Ax (vv 1) (A6 (vv 11)) Bc)))))))))
   (Ai (Bd (vv 1)))))),?_⟩
 rintro xs μ R _ ⟨a,l,B,np,nl,rfl,hp,hl,hB,hw,hP,q⟩
 refine Bv ⟨a,l,5,rfl,hP,by decide,by decide,λv μ1 hv P1 S1=>?_⟩
 dsimp only [Ch,List.set,C0]
 refine Ap (fun τ μ'=>∃p x:Int,τ=[some (.R a),some (.D (.tuple (B.map Bl))),some (.D (.int np)),some (.D (.int nl)),some (.D (.int v)),some (.D (.int p)),some (.D (.int x)),none,none,none,none,none]/\Pot μ' a l/\Bg a l μ μ') (λZ hZ=>?_) ?_
 ·refine Ac Dw λp1 h1=>λp2 h2=>?_
  have qi:p1≠p2:=by rintro rfl;rw [Ad]at h2;cases h2
  have e1:Ar (Ar μ1 p1 (.lst (B.map Cc))) p2 (.lst [Cc ⟨0,0,0,[]⟩]) p1=some (.lst (B.map Cc)):=by rw [Aj qi];exact Ad
  refine Ac e1 (Ac Ad ⟨seven (by rw [Yaa];show B.length+1<=1000;omega),λp3 h3=>?_⟩)
  have P2:=((P1.new (o:=.lst (B.map Cc)) h1).new (o:=.lst [Cc ⟨0,0,0,[]⟩]) h2).new (o:=.lst (B.map Cc++[Cc ⟨0,0,0,[]⟩])) h3
  have S2:=((S1.new (o:=.lst (B.map Cc)) h1).new (o:=.lst [Cc ⟨0,0,0,[]⟩]) h2).new (o:=.lst (B.map Cc++[Cc ⟨0,0,0,[]⟩])) h3
  have hn3:=((P1.new (o:=.lst (B.map Cc)) h1).new (o:=.lst [Cc ⟨0,0,0,[]⟩]) h2).ne h3
  refine⟨a,l,B.length+1,by rw [Yaa];rfl,P2,by omega,by omega,λu μ4 hu P4 S4=>?_⟩
  have hx:∃r:Rz,(B++[⟨0,0,0,[]⟩])[u]?=some r:=⟨_,List.getElem?_eq_getElem (by rw [Yae];exact hu)⟩
  obtain⟨r,hr⟩:=hx
  refine Ac (S4 p3 _ hn3.1.symm hn3.2.symm Ad) (Ac (x:=Cc r) (Al ?_) ⟨rfl,hZ _ _ ⟨r.p,r.x,rfl,P4,S2.trans S4⟩⟩)
  show(B.map Cc++[⟨0,0,0,[]⟩].map Cc)[u]?=_
  rw [<- Yak,List.getElem?_map,hr];rfl
 rintro τ μ2 ⟨p,x,rfl,P2,S2⟩
 have hm:∀m:Nat,(if(m:Int) > 1 then(m:Int) else 1)=((max 1 m:Nat):Int):=λm=>by split <;> omega
 refine Ap (fun τ μ'=>∃o7 o8 o9 dc fk,∃C:List Rz,τ=[some (.R a),some (.D (.tuple (C.map Bl))),some (.D (.int np)),some (.D (.int nl)),some (.D (.int v)),some (.D (.int p)),some (.D (.int x)),o7,o8,o9,dc,fk]/\C.length<=B.length+9/\(∀r∈C,r.w.length<=2)/\Pot μ' a l/\Bg a l μ μ') (λZ hZ=>?_) ?_
 ·intro pz dh
  refine Ac Ad ?_
  have hk:∃k:Nat,([1,4,3,9,5]:List Int)[v]?=some (k:Int)/\k<=9:=by
   match v,hv with
   | 0,_=>exact⟨1,rfl,by omega⟩
   | 1,_=>exact⟨4,rfl,by omega⟩
   | 2,_=>exact⟨3,rfl,by omega⟩
   | 3,_=>exact⟨9,rfl,by omega⟩
   | 4,_=>exact⟨5,rfl,by omega⟩
  obtain⟨k,ek,hk9⟩:=hk
  have eA:atI [AV.D (.int 1),.D (.int 4),.D (.int 3),.D (.int 9),.D (.int 5)] (v:Int)=some (.D (.int (k:Nat))):=by
   refine Al ?_
   show(([1,4,3,9,5]:List Int).map λi=>AV.D (.int i))[v]?=_
   rw [List.getElem?_map,ek];rfl
  refine Ac eA ⟨by omega,by omega,?_⟩
  have am:(Db 0 (k:Int).toNat).length=k:=by rw [Bo];omega
  refine El (λi τ μ'=>∃o7 o8 o9 dc fk,∃C:List Rz,τ=[some (.R a),some (.D (.tuple (C.map Bl))),some (.D (.int np)),some (.D (.int nl)),some (.D (.int v)),some (.D (.int p)),some (.D (.int x)),o7,o8,o9,dc,fk]/\C.length<=B.length+i/\(∀r∈C,r.w.length<=2)/\Pot μ' a l/\Bg a l μ μ') ⟨none,none,none,none,none,B,rfl,by omega,hw,P2.new dh,S2.new dh⟩ (λ_ _ _ _=>trivial) ?_ ?_
  ·rintro i y τ μ3 Z2 hy ⟨o7,o8,o9,dc,fk,C,rfl,hC,hCw,P3,S3⟩ ck
   have hi:i < k:=by rw [<- am];exact(List.getElem?_eq_some_iff.mp hy).1
   refine Ap (fun τ μ'=>∃r:Rz,τ=[some (.R a),some (.D (.tuple (C.map Bl))),some (.D (.int np)),some (.D (.int nl)),some (.D (.int v)),some (.D (.int p)),some (.D (.int x)),some y,some (Cc r),o9,dc,fk]/\r.w.length<=2/\Pot μ' a l/\Bg a l μ μ') (λZ3 df=>?_) ?_
   ·exact⟨a,l,max 1 np,max 1 nl,by rw [<- hm,<- hm],by omega,by omega,P3,λr μ4 hr P4 S4=>df _ _ ⟨r,rfl,hr.2,P4,S3.trans S4⟩⟩
   rintro τ μ4 ⟨r,rfl,qj,P4,S4⟩
   refine Ap (fun τ μ'=>∃o9 dc,∃r:Rz,τ=[some (.R a),some (.D (.tuple (C.map Bl))),some (.D (.int np)),some (.D (.int nl)),some (.D (.int v)),some (.D (.int p)),some (.D (.int x)),some y,some (Cc r),o9,dc,fk]/\r.w.length<=2/\Pot μ' a l/\Bg a l μ μ') (λZ3 df=>?_) ?_
   ·have fe:Pb (Qa6 9 10 (Bp (Lh 2 Fq (Bp (Cw 0) (Bp (Vn Nt (Bp (vC (.D (.int 1))) (Bp (Cw 3) D4))) D4))) (Bp (Lh 2 Fq (Bp (Cw 0) (Bp (Vn Nt (Bp (vC (.D (.int 1))) (Bp (Cw 3) D4))) D4))) D4))) (Kd (Rf Rj (vSl (Cw 8) G3 (Nq (vC (.D (.int 3))))) (O9 (Bp (O9 (Bp (Cw 9) (Bp (Cw 10) D4))) D4))) (Ch 8)) Z3 (Uh R) Z Z2 [some (.R a),some (.D (.tuple (C.map Bl))),some (.D (.int np)),some (.D (.int nl)),some (.D (.int v)),some (.D (.int p)),some (.D (.int x)),some y,some (Cc r),o9,dc,fk] μ4:=by
     refine Bv ⟨a,l,max 1 nl,by rw [<- hm],P4,by omega,by omega,λy1 μ5 h5 P5 S5=>⟨a,l,max 1 nl,by rw [<- hm],P5,by omega,by omega,λy2 μ6 h6 P6 S6=>?_⟩⟩
     exact⟨by show 3+1<=sizeLine;decide,df _ _ ⟨_,_,⟨r.p,r.x,r.q,[(y1:Int),(y2:Int)]⟩,rfl,by simp,P6,S4.trans (S5.trans S6)⟩⟩
    have no:Z3 [some (.R a),some (.D (.tuple (C.map Bl))),some (.D (.int np)),some (.D (.int nl)),some (.D (.int v)),some (.D (.int p)),some (.D (.int x)),some y,some (Cc r),o9,dc,fk] μ4:=df _ _ ⟨_,_,r,rfl,qj,P4,S4⟩
    exact ieq (λc=>Lb rfl fe) (λc=>ieq (λc2=>fe) (λc2=>no))
   rintro τ μ5 ⟨o9',o10',r',rfl,d9,P5,S5⟩
   refine Ap (fun τ μ'=>∃r:Rz,τ=[some (.R a),some (.D (.tuple (C.map Bl))),some (.D (.int np)),some (.D (.int nl)),some (.D (.int v)),some (.D (.int p)),some (.D (.int x)),some y,some (Cc r),o9',o10',fk]/\r.w.length<=2/\Pot μ' a l/\Bg a l μ μ') (λZ3 df=>?_) ?_
   ·have fe:Kd (Rf Rj (O9 (Bp (Cw 5) (Bp (Cw 6) D4))) (vSl (Cw 8) (Nq (vC (.D (.int 2)))) G3)) (Ch 8) Z3 (Uh R) Z Z2 [some (.R a),some (.D (.tuple (C.map Bl))),some (.D (.int np)),some (.D (.int nl)),some (.D (.int v)),some (.D (.int p)),some (.D (.int x)),some y,some (Cc r'),o9',o10',fk] μ5:=by
     exact⟨by show 2+2<=sizeLine;decide,df _ _ ⟨⟨p,x,r'.q,r'.w⟩,rfl,d9,P5,S5⟩⟩
    have no:Z3 [some (.R a),some (.D (.tuple (C.map Bl))),some (.D (.int np)),some (.D (.int nl)),some (.D (.int v)),some (.D (.int p)),some (.D (.int x)),some y,some (Cc r'),o9',o10',fk] μ5:=df _ _ ⟨r',rfl,d9,P5,S5⟩
    exact ieq (λc=>Lb rfl fe) (λc=>ieq (λc2=>fe) (λc2=>no))
   rintro τ μ6 ⟨r2,rfl,hr2',P6,S6⟩
   refine Bv ⟨a,l,C.length+1,by rw [Yaa];rfl,P6,by omega,by omega,λal μ7 h7 P7 S7=>?_⟩
   have e:Cl (C.map Bl) none (some (al:Int))++[Bl r2]++Cl (C.map Bl) (some (al:Int)) none=(C.take al++[r2]++C.drop al).map Bl:=by
    rw [B8,C9,Yak,Yak];rfl
   have qh:=D8 (xs:=C) (y:=r2) (Yaf al)
   have fm:(Cl (C.map Bl) none (some (al:Int))++[Bl r2]).length+(Cl (C.map Bl) (some (al:Int)) none).length<=60:=by
    have:=Ybb List.length e
    rw [Yae,Yaa (f:=Bl) (as:=_++_++_)]at this
    omega
   refine⟨seven (by rw [Yae]at fm;exact Yai (Ydl _ _) (Yai fm (by decide))),seven (Yai fm (by decide)),ck _ _ ⟨some y,some (Cc r2),o9',o10',some (.D (.int al)),C.take al++[r2]++C.drop al,?_,by omega,Fu hCw hr2' _ _,P7,S6.trans S7⟩⟩
   rw [<- e];rfl
  ·rintro τ μ3 ⟨o7,o8,o9,dc,fk,C,rfl,hC,hCw,P3,S3⟩
   rw [am]at hC
   exact hZ _ _ ⟨_,_,_,_,_,C,rfl,by omega,hCw,P3,S3⟩
 rintro τ μ3 ⟨o7,o8,o9,dc,fk,C,rfl,hC,hCw,P3,S3⟩
 exact⟨_,Sub.refl,q C _ hC hCw P3 S3⟩
abbrev nSq:List Str:=["_law_deal_here","_law_game_here","_law_places","_law_letters","_law_rules","_law_form","_law_at","_law_to","_law_rule_here"]
theorem Ly:FnScope nSq ["_law_deal_here","_law_game_here"] (Ag Zg):=⟨rfl,rfl,rfl,by decide +kernel,rfl,by decide +kernel,by decide +kernel⟩
theorem M9{C:List Rz}{r:Rz}{i j:Nat}:Cl (C.map Bl) none (some (i:Int))++[Bl r]++Cl (C.map Bl) (some (j:Int)) none=(C.take i++[r]++C.drop j).map Bl:=by
 rw [B8,C9,Yak,Yak];rfl
theorem Od{C:List Rz}{r:Rz}{i j:Nat}(h:i<=j)(hC:C.length<=50):(Cl (C.map Bl) none (some (i:Int))).length+[Bl r].length<=sizeLine/\(Cl (C.map Bl) none (some (i:Int))++[Bl r]).length+(Cl (C.map Bl) (some (j:Int)) none).length<=sizeLine:=by
 have e:=Ybb List.length (M9 (C:=C) (r:=r) (i:=i) (j:=j))
 have qh:=D8 (xs:=C) (y:=r) h
 rw [Yae,Yaa (f:=Bl) (as:=_++_++_)]at e
 have h2:(Cl (C.map Bl) none (some (i:Int))++[Bl r]).length+(Cl (C.map Bl) (some (j:Int)) none).length<=60:=by omega
 refine⟨seven ?_,seven (Yai h2 (by decide))⟩
 rw [Yae]at h2
 omega
theorem Qcw{n:Nat}(F:Fun K "_law_spoilt" "_law_spoilt" Zg f fd) (bd:VCal P w K mg base n "_law_draw" ["_law_deal_here","_law_many"] Fq) (cOn:VCal P w K mg base n "_law_other_names" ["_law_deal_here","_law_game_here"] Sn) (cMr:VCal P w K mg base n "_law_more_rules" ["_law_deal_here","_law_rules","_law_places","_law_letters"] Yy) (cOr:VCal P w K mg base n "_law_other_rule" ["_law_deal_here","_law_rule_here","_law_places","_law_letters"] Qct) (ae:mg "len" = none):FnOk P w K mg base En (n+1) f fd ["_law_deal_here","_law_game_here"] (Ih K 2 Sn):=by
 refine F.vok Ly λaq A outer s H E hr=>⟨_,(Ae (Fb (vv 1) (C5 (n:=3) rfl (Ay (Am (i:=2) Ly.nd rfl (Or.inl rfl)) (Ay (Am (i:=3) Ly.nd rfl (Or.inl rfl)) (Ay (Am (i:=4) Ly.nd rfl (Or.inl rfl)) Ck)))))
   (Ae (An (i:=5) Ly.nd rfl (Or.inl rfl) (Ak bd hr rfl (Aa (vv 0) (Aa Af Ab))))
   (Ae (Bn (Aq (Ce hr) (vv 5) Af (nomark _)) (Ai (Bd (Ak cOn hr rfl (Aa (vv 0) (Aa (vv 1) Ab))))) A0)
   (Ae (Bn (VW.pt (Fj (Aq (Ce hr) (vv 5) Af (nomark _)) (D3 (Aq (Ce hr) (Ah Ba rfl ae Yad (Aa (vv 4) Ab)) Af (nomark _))))) (Ai (Bd (Az (Aa (vv 2) (Aa (vv 3) (Aa (Ak cMr hr rfl (Aa (vv 0) (Aa (vv 4) (Aa (Ah Ba rfl ae Yad (Aa (vv 2) Ab)) (Aa (Ah Ba rfl ae Yad (Aa (vv 3) Ab)) Ab))))) Ab)))))) A0)
   (Ae (An (i:=6) Ly.nd rfl (Or.inl rfl) (Ak bd hr rfl (Aa (vv 0) (Aa (Ah Ba rfl ae Yad (Aa (vv 4) Ab)) Ab))))
   (Ae (An (i:=7) Ly.nd rfl (Or.inl rfl) (Ak bd hr rfl (Aa (vv 0) (Aa (Au Bh (Ah Ba rfl ae Yad (Aa (vv 4) Ab)) Af) Ab))))
   (Ae (Bn (Aq (Ce hr) (vv 5) Af (nomark _)) (Ai (Bd (Az (Aa (vv 2) (Aa (vv 3) (Aa (Au Bh (Au Bh (Ax (vv 4) Bc (A6 (vv 7))) (Az (Aa (A3 Bk (vv 4) (vv 6)) Ab))) (Ax (vv 4) (A6 (vv 7)) Bc)) Ab)))))) A0)
   (Ae (An (i:=8) Ly.nd rfl (Or.inl rfl) (Ak cOr hr rfl (Aa (vv 0) (Aa (A3 Bk (vv 4) (vv 6)) (Aa (Ah Ba rfl ae Yad (Aa (vv 2) Ab)) (Aa (Ah Ba rfl ae Yad (Aa (vv 3) Ab)) Ab))))))
   (Ai (Bd (Az (Aa (vv 2) (Aa (vv 3) (Aa (Au Bh (Au Bh (Ax (vv 4) Bc (A6 (vv 6))) (Az (Aa (vv 8) Ab))) (Ax (vv 4) (A6 (Au Bh (vv 6) Af)) Bc)) Ab)))))))))))))),?_⟩
 rintro xs μ R _ ⟨a,l,n,g,rfl,hn,hB,hP,q⟩
 have hp:=hB.p
 have hl:=hB.l
 have v9:=hB.r
 refine Ap (fun τ μ'=>τ=[some (.R a),some (.D (B6 g)),some (.D (.tuple (g.pl.map B3))),some (.D (.tuple (g.le.map .str))),some (.D (.tuple (g.rs.map Bl))),none,none,none,none]/\μ=μ') (λZ hZ=>⟨rfl,hZ _ _ ⟨rfl,rfl⟩⟩) ?_
 rintro τ _ ⟨rfl,rfl⟩
 refine Bv ⟨a,l,4,rfl,hP,by decide,by decide,λv μ1 hv P1 S1=>?_⟩
 dsimp only [Ch,List.set]
 refine Ap (fun τ μ'=>τ=[some (.R a),some (.D (B6 g)),some (.D (.tuple (g.pl.map B3))),some (.D (.tuple (g.le.map .str))),some (.D (.tuple (g.rs.map Bl))),some (.D (.int v)),none,none,none]/\μ1=μ') (λZ hZ=>ieq (λ_=>⟨a,l,n,g,rfl,hn,hB,P1,λg' μ2 h2 P2 S2=>⟨_,Sub.refl,q g' _ h2 P2 (S1.trans S2)⟩⟩) (λ_=>hZ _ _ ⟨rfl,rfl⟩)) ?_
 rintro τ _ ⟨rfl,rfl⟩
 refine Ap (fun τ μ'=>τ=[some (.R a),some (.D (B6 g)),some (.D (.tuple (g.pl.map B3))),some (.D (.tuple (g.le.map .str))),some (.D (.tuple (g.rs.map Bl))),some (.D (.int v)),none,none,none]/\μ1=μ'/\0 < g.rs.length) (λZ hZ=>?_) ?_
 ·have fe:Qa3 (O9 (Bp (Cw 2) (Bp (Cw 3) (Bp (Lh 4 Yy (Bp (Cw 0) (Bp (Cw 4) (Bp (Vn Rk (Bp (Cw 2) D4)) (Bp (Vn Rk (Bp (Cw 3) D4)) D4))))) D4)))) Z (Uh R) Nv Nv [some (.R a),some (.D (B6 g)),some (.D (.tuple (g.pl.map B3))),some (.D (.tuple (g.le.map .str))),some (.D (.tuple (g.rs.map Bl))),some (.D (.int v)),none,none,none] μ1:=by
   refine⟨a,l,g.rs,g.pl.length,g.le.length,by rw [Yaa,Yaa],by omega,by omega,by omega,hB.rw,P1,λB' μ2 h2 h3 P2 S2=>⟨_,Sub.refl,q _ _ (hB.rs' (B:=B') (by omega) h3) P2 (S1.trans S2)⟩⟩
  refine ieq (λ_=>Lb rfl fe) (λ_=>ieq (λ_=>fe) (λc=>hZ _ _ ⟨rfl,rfl,?_⟩))
  rw [Yaa]at c;omega
 rintro τ _ ⟨rfl,rfl,h0⟩
 refine Ap (fun τ μ'=>∃al:Nat,τ=[some (.R a),some (.D (B6 g)),some (.D (.tuple (g.pl.map B3))),some (.D (.tuple (g.le.map .str))),some (.D (.tuple (g.rs.map Bl))),some (.D (.int v)),some (.D (.int al)),none,none]/\al < g.rs.length/\Pot μ' a l/\Bg a l μ μ') (λZ hZ=>?_) ?_
 ·exact⟨a,l,g.rs.length,by rw [Yaa],P1,by omega,by omega,λu μ2 hu P2 S2=>hZ _ _ ⟨u,rfl,hu,P2,S1.trans S2⟩⟩
 rintro τ μ2 ⟨al,rfl,ft,P2,S2⟩
 have d9:=List.getElem?_eq_getElem ft
 have qg:=hB.rw _ (Ybu ft)
 generalize g.rs[al]=r at d9 qg
 have po:(g.rs.map Bl)[al]?=some (Bl r):=by rw [List.getElem?_map,d9];rfl
 refine Ap (fun τ μ'=>∃to:Nat,τ=[some (.R a),some (.D (B6 g)),some (.D (.tuple (g.pl.map B3))),some (.D (.tuple (g.le.map .str))),some (.D (.tuple (g.rs.map Bl))),some (.D (.int v)),some (.D (.int al)),some (.D (.int to)),none]/\Pot μ' a l/\Bg a l μ μ') (λZ hZ=>?_) ?_
 ·exact⟨a,l,g.rs.length+1,by rw [Yaa];rfl,P2,by omega,by omega,λu μ3 hu P3 S3=>hZ _ _ ⟨u,rfl,P3,S2.trans S3⟩⟩
 rintro τ μ3 ⟨to,rfl,P3,S3⟩
 refine Ap (fun τ μ'=>τ=[some (.R a),some (.D (B6 g)),some (.D (.tuple (g.pl.map B3))),some (.D (.tuple (g.le.map .str))),some (.D (.tuple (g.rs.map Bl))),some (.D (.int v)),some (.D (.int al)),some (.D (.int to)),none]/\μ3=μ') (λZ hZ=>ieq (λ_=>?_) (λ_=>hZ _ _ ⟨rfl,rfl⟩)) ?_
 ·obtain⟨z1,z2⟩:=Od (C:=g.rs) (r:=r) (Yaf to) (by omega)
  refine Ac (Al po) ⟨z1,z2,_,Sub.refl,?_⟩
  rw [M9]
  have:=D8 (xs:=g.rs) (y:=r) (Yaf to)
  exact q _ _ (hB.rs' (B:=g.rs.take to++[r]++g.rs.drop to) (by omega) (Fu hB.rw qg _ _)) P3 S3
 rintro τ _ ⟨rfl,rfl⟩
 refine Bv (Ac (Al po) ⟨a,l,r,g.pl.length,g.le.length,by rw [Yaa,Yaa];rfl,by omega,by omega,qg,P3,λr' μ4 h4 P4 S4=>?_⟩)
 obtain⟨z1,z2⟩:=Od (C:=g.rs) (r:=r') (i:=al) (j:=al+1) (by omega) (by omega)
 refine⟨z1,z2,_,Sub.refl,?_⟩
 have e:((al:Int)+1)=((al+1:Nat):Int):=by omega
 rw [e,M9]
 have:=D8 (xs:=g.rs) (y:=r') (i:=al) (j:=al+1) (by omega)
 exact q _ _ (hB.rs' (B:=g.rs.take al++[r']++g.rs.drop (al+1)) (by omega) (Fu hB.rw h4 _ _)) P4 (S3.trans S4)
end
section
variable {P:Program}{w:World}{K:PySem.W.Frag}{mg:Str->Option Value}{base:Heap}{f:Addr}{fd:FuncData}
def prI(z:Int×Nat):AV:=.D (.tuple [.int z.1,.int (z.2:Nat)])
def nums(np nl:Nat)(r:Rz):List (Int×Nat):=[(r.p,np),(r.q,np),(r.x,nl)]++r.w.map λz=>(z,nl)
theorem Sq(np nl:Nat)(r:Rz):(((nums np nl r).map λz=>PyData.bool (thr z.1 z.2)).any λe=>PyData.eqv e (.bool false))=!parts np nl r:=by
 have h:∀(zs:List (Int×Nat)),((zs.map λz=>PyData.bool (thr z.1 z.2)).any λe=>PyData.eqv e (.bool false))=!(zs.all λz=>thr z.1 z.2):=by
  intro zs
  induction zs with
  | nil=>rfl
  | cons z zs ih =>
   rw [Yaz,Yb0,ih,List.all_cons,Bool.not_and]
   congr 1
   cases thr z.1 z.2 <;> rfl
 rw [h]
 congr 1
 unfold nums parts
 rw [List.all_append,List.all_map]
 simp only [List.all_cons,List.all_nil,Bool.and_true,Function.comp_def]
 cases thr r.p np <;> cases thr r.q np <;> cases thr r.x nl <;> rfl
theorem Lz:∀(bs:List Bool),PyData.canLayAll0 (bs.map .bool)=true/\PyData.depthAll (bs.map .bool)<=0
 | []=>⟨rfl,Yaf _⟩
 | b :: bs=>by
  obtain⟨h1,h2⟩:=Lz bs
  simp only [List.map_cons,PyData.canLayAll0,PyData.depthAll,PyData.depth,PyData.canLay0,h1,Bool.and_true]
  exact⟨trivial,by omega⟩
theorem Na(zs:List (Int×Nat)):Bq (.tuple (zs.map λz=>.bool (thr z.1 z.2))):=by
 have h:=Lz (zs.map λz=>thr z.1 z.2)
 rw [Yat]at h
 exact⟨by simp only [PyData.canLay0];exact h.1,by have:=h.2;simp only [PyData.depth];exact Yai (Yb4 this 1) (by decide)⟩
theorem Ic(B:List Rz):((B.map λv=>PyData.int (v.w.length:Nat)).countP λe=>PyData.eqv e (.int 2))=Bm B:=by
 unfold Bm
 rw [List.countP_map,<- List.countP_eq_length_filter]
 refine Ybb (List.countP · B) (funext λv=>?_)
 show PyData.eqv (.int (v.w.length:Nat)) (.int 2)=Cv v
 rw [Fo]
 exact Ycf.mpr ⟨λh=>by omega,λh=>by omega⟩
theorem Ie(B:List Rz)(r:Rz):((B.map λv=>PyData.tuple [.int v.p,.int v.x]).countP λe=>PyData.eqv e (.tuple [.int r.p,.int r.x]))=Cq B r:=by
 unfold Cq
 rw [List.countP_map,<- List.countP_eq_length_filter]
 refine Ybb (List.countP · B) (funext λv=>?_)
 show(decide (v.p=r.p) && (decide (v.x=r.x) && true))=Sj r v
 rw [Bool.and_true,<- Bool.decide_and];rfl
theorem Vb(B:List Rz):Bq (.tuple (B.map λv=>.int (v.w.length:Nat))):=by
 have h:=Kn (B.map λv=>(v.w.length:Int))
 rw [Yat]at h
 exact⟨by simp only [PyData.canLay0];exact h.1,by have:=h.2.1;simp only [PyData.depth];exact Yai (Yb4 this 1) (by decide)⟩
theorem Ks:∀(B:List Rz),PyData.canLayAll0 (B.map λv=>PyData.tuple [.int v.p,.int v.x])=true/\PyData.depthAll (B.map λv=>PyData.tuple [.int v.p,.int v.x])<=1
 | []=>⟨rfl,by simp [PyData.depthAll]⟩
 | b :: B=>by
  obtain⟨h1,h2⟩:=Ks B
  simp only [List.map_cons,PyData.canLayAll0,PyData.depthAll,PyData.depth,PyData.canLay0,h1,Bool.and_true]
  exact⟨trivial,by omega⟩
theorem Pr(B:List Rz):Bq (.tuple (B.map λv=>.tuple [.int v.p,.int v.x])):=⟨by simp only [PyData.canLay0];exact(Ks B).1,by have:=(Ks B).2;simp only [PyData.depth];exact Yai (Yb4 this 1) (by decide)⟩
theorem Yz{ws:List Str}(h:∀z∈ws,lets z):Bq (.list (ws.map .str)):=⟨by simp only [PyData.canLay0];exact(Ft h).1,by have:=(Ft h).2;simp only [PyData.depth];exact Yai (Yb4 this 1) (by decide)⟩
theorem Sr:Bq (.list []):=⟨rfl,by simp [PyData.depth,PyData.depthAll]⟩
theorem V9:(∀z∈(["rule","pushes","many"]:List Str),∀c∈z.cps.toList,97<=c/\c<=122):=by decide +kernel
theorem Y0(a b:Rz):PyData.eqv (Bl a) (Bl b)=decide (a=b):=by
 rw [Ycj,decide_eq_true_iff]
 exact⟨λh=>N8 (M1 _ _ (Fs a).2.2 (Fs b).2.2 h),λh=>by rw [h];exact Ht _ (Fs b).2.2⟩
abbrev nRf:List Str:=["_law_game_here","_law_at","_law_places","_law_letters","_law_rules","_law_p","_law_x","_law_q","_law_w","_law_numbers","_law_found"]
theorem Ip:FnScope nRf ["_law_game_here","_law_at"] (Ag Sw):=⟨rfl,rfl,rfl,by decide +kernel,rfl,by decide +kernel,by decide +kernel⟩
theorem Qcy:(["_law_letter","_law_letters"]:List Str).Nodup:=by decide +kernel
theorem Wa:(["_law_number","_law_most"]:List Str).Nodup:=by decide +kernel
theorem Qcz:(["_law_one"]:List Str).Nodup:=by decide +kernel
theorem Qc0:(["_law_one"]:List Str).Nodup:=by decide +kernel
def Qc1:ASp:=λxs μ R=>∃(g:Gz) (i:Nat) (r:Rz),xs=[.D (B6 g),.D (.int i)]/\GzB 3 g/\g.rs[i]?=some r/\∀(l:Addr) (ws:List Str) μ',μ l=none->μ' l=some (.lst (ws.map A7))->ws.head?=L5 g i r->(∀z∈ws,lets z)->ws.length<=3->Sub μ μ'->R (.R l) μ'
theorem Qc2{n:Nat}(F:Fun K "_law_rule_faults" "_law_rule_faults" Sw f fd) (ae:mg "len" = none):FnOk P w K mg base En (n+1) f fd ["_law_game_here","_law_at"] (Ih K 2 Qc1):=by
 refine F.vok Ip λaq A outer s H E hr=>⟨_,(Ae (Fb (vv 0) (C5 (n:=3) rfl (Ay (Am (i:=2) Ip.nd rfl (Or.inl rfl)) (Ay (Am (i:=3) Ip.nd rfl (Or.inr rfl)) (Ay (Am (i:=4) Ip.nd rfl (Or.inl rfl)) Ck)))))
   (Ae (Fb (A3 Bk (vv 4) (vv 1)) (C5 (n:=4) rfl (Ay (Am (i:=5) Ip.nd rfl (Or.inl rfl)) (Ay (Am (i:=6) Ip.nd rfl (Or.inl rfl)) (Ay (Am (i:=7) Ip.nd rfl (Or.inl rfl)) (Ay (Am (i:=8) Ip.nd rfl (Or.inl rfl)) Ck))))))
   (Ae (An (i:=9) Ip.nd rfl (Or.inl rfl) (Au Bh (Cg (Aa (Az (Aa (vv 5) (Aa (Ah Ba rfl ae Yad (Aa (vv 2) Ab)) Ab))) (Aa (Az (Aa (vv 7) (Aa (Ah Ba rfl ae Yad (Aa (vv 2) Ab)) Ab))) (Aa (Az (Aa (vv 6) (Aa (Ah Ba rfl ae Yad (Aa (vv 3) Ab)) Ab))) Ab)))) (Bz (N':=["_law_letter","_law_letters"]) (mp:=[none,some 3]) rfl (B9 (vv 8)) (λ_ _ _ _=>(Am (i:=0) Qcy rfl (Or.inl rfl) (Or.inr rfl))) (λ_ _ _ _=>Bx) (λ_ _ _ _=>(Az (Aa (vv 0) (Aa (Ah Ba rfl ae Yad (Aa (vv 1) Ab)) Ab)))) (Bb (N:=nRf) (pn:=(Ag Sw).names) (by decide +kernel)))))
   (Ae (An (i:=10) Ip.nd rfl (Or.inl rfl) (Cg Ab))
   (Ae (Bn (VW.pt (Fj (Aq (Ud hr) E4 (Bz (N':=["_law_number","_law_most"]) (mp:=[none,none]) rfl (B9 (vv 9)) (λ_ _ _ _=>(C5 (n:=2) rfl (Ay (Am (i:=0) Wa rfl (Or.inl rfl) (Or.inr rfl)) (Ay (Am (i:=1) Wa rfl (Or.inl rfl) (Or.inr rfl)) Ck)))) (λ_ _ _ _=>Bx) (λ_ _ _ _=>(J9 (Gc Ue Af (vv 0) (nomark _)) (Mv (Gc Mw (vv 0) (vv 1) (nomark _))))) (Bb (N:=nRf) (pn:=(Ag Sw).names) (by decide +kernel))) (by with_unfolding_all rfl)) (D3 (Aq Mw (Uy hr (vv 4) (Aa (A3 Bk (vv 4) (vv 1)) Ab)) (vv 1) (nomark _))))) (Ai (Cj (E5 Ybc Ybd Da (vv 10) (Aa A4 Ab)))) A0)
   (Ae (Bn (VW.pt (Ct (Aq (Ce hr) (Ah Ba rfl ae Yad (Aa (vv 8) Ab)) Af (nomark _)) (Cs (Aq Lf (E5 Yc1 PySem.F.type_list_count (N4 hr) (Bz (N':=["_law_one"]) (mp:=[none]) rfl (B9 (Ax (vv 4) Bc (A6 (vv 1)))) (λ_ _ _ _=>(Am (i:=0) Qcz rfl (Or.inl rfl) (Or.inr rfl))) (λ_ _ _ _=>Bx) (λ_ _ _ _=>(Ah Ba rfl ae Yad (Aa (A3 Bk (vv 0) Af) Ab))) (Bb (N:=nRf) (pn:=(Ag Sw).names) (by decide +kernel))) (Aa Af Ab)) Af (nomark _))))) (Ai (Cj (E5 Ybc Ybd Da (vv 10) (Aa A4 Ab)))) A0)
   (Ae (Bn (VW.pt (Ct (Aq (Ce hr) (vv 10) (Cg Ab) (nomark _)) (Ct (Aq (Ce hr) (A3 Bk (A3 Bk (vv 2) (vv 5)) Af) Af (nomark _)) (Cs (Aq Lf (E5 Yc1 PySem.F.type_list_count (N4 hr) (Bz (N':=["_law_one"]) (mp:=[none]) rfl (B9 (Ax (vv 4) Bc (A6 (vv 1)))) (λ_ _ _ _=>(Am (i:=0) Qc0 rfl (Or.inl rfl) (Or.inr rfl))) (λ_ _ _ _=>Bx) (λ_ _ _ _=>(Ax (vv 0) Bc (A6 Af))) (Bb (N:=nRf) (pn:=(Ag Sw).names) (by decide +kernel))) (Aa (Az (Aa (vv 5) (Aa (vv 6) Ab))) Ab)) Af (nomark _)))))) (Ai (Cj (E5 Ybc Ybd Da (vv 10) (Aa A4 Ab)))) A0)
   (Ai (Bd (vv 10)))))))))),?_⟩
 rintro xs μ R _ ⟨g,i,r,rfl,hB,hi,q⟩
 have zag:i < 40:=by have:=(List.getElem?_eq_some_iff.mp hi).1;have:=hB.r;omega
 have am:(g.rs.take i).length<=40:=by rw [Ya0];omega
 have hw2:=hB.rw r (Ybg hi)
 have po:(g.rs.map Bl)[i]?=some (Bl r):=by rw [List.getElem?_map,hi];rfl
 have htt:R5 (.D (.tuple (g.rs.map Bl))):=by
  cases h:g.rs with
  | nil=>rw [h]at hi;simp at hi
  | cons a b=>exact trivial
 have cut:Cl (g.rs.map Bl) none (some (i:Int))=(g.rs.take i).map Bl:=B8 _ _ _
 have qb:∀ μ:M,items μ (.D (.tuple (Cl (g.rs.map Bl) none (some (i:Int)))))=some ((g.rs.take i).map Cc):=fun μ=>by rw [cut];exact Dw
 refine Ap (fun τ μ'=>τ=[some (.D (B6 g)),some (.D (.int i)),some (.D (.tuple (g.pl.map B3))),some (.D (.tuple (g.le.map .str))),some (.D (.tuple (g.rs.map Bl))),none,none,none,none,none,none]/\μ=μ') (λZ hZ=>⟨rfl,hZ _ _ ⟨rfl,rfl⟩⟩) ?_
 rintro τ _ ⟨rfl,rfl⟩
 refine Ap (fun τ μ'=>τ=[some (.D (B6 g)),some (.D (.int i)),some (.D (.tuple (g.pl.map B3))),some (.D (.tuple (g.le.map .str))),some (.D (.tuple (g.rs.map Bl))),some (.D (.int r.p)),some (.D (.int r.x)),some (.D (.int r.q)),some (.D (.tuple (r.w.map .int))),none,none]/\μ=μ') (λZ hZ=>Ac (Al po) ⟨rfl,hZ _ _ ⟨rfl,rfl⟩⟩) ?_
 rintro τ _ ⟨rfl,rfl⟩
 refine Ap (fun τ μ'=>∃pn,τ=[some (.D (B6 g)),some (.D (.int i)),some (.D (.tuple (g.pl.map B3))),some (.D (.tuple (g.le.map .str))),some (.D (.tuple (g.rs.map Bl))),some (.D (.int r.p)),some (.D (.int r.x)),some (.D (.int r.q)),some (.D (.tuple (r.w.map .int))),some (.R pn),none]/\μ' pn=some (.lst ((nums g.pl.length g.le.length r).map prI))/\Sub μ μ') (λZ hZ=>?_) ?_
 ·intro p1 h1
  refine Ac Oa λp2 h2=>?_
  have qi:p1≠p2:=by rintro rfl;rw [Ad]at h2;cases h2
  refine cmap r.w _ (λz=>.D (.tuple [.int z,.int ((g.le.map PyData.str).length:Nat)])) (fun τ=>∃o,τ=[o,some (.D (.tuple (g.le.map .str)))]) ⟨none,rfl⟩ Ad (seven (by omega)) (λ_=>Oa) ?_ ?_
  ·rintro j z τ' ah W hj ⟨o,rfl⟩ hW
   exact hW _ ⟨_,rfl⟩
  ·have e1:∀(ah:List AV) (o:MO),Ar (Ar (Ar μ p1 o) p2 (.lst [])) p2 (.lst ah) p1=some o:=λah o=>by rw [Aj qi,Aj qi];exact Ad
   refine Ac (e1 _ _) (Ac Ad ⟨seven (by simp only [List.length_map,List.length_cons,List.length_nil];omega),λp3 h3=>hZ _ _ ⟨p3,rfl,?_,?_⟩⟩)
   ·rw [Ad]
    simp [nums,prI,List.map_map,Function.comp_def]
   ·have S0:∀(o1 o2 o3:MO),Sub μ (Ar (Ar (Ar μ p1 o1) p2 o2) p2 o3):=λ_ _ _=>((Sub.refl.new h1).new (Sub.none (Sub.refl.new h1) h2)).new (Sub.none (Sub.refl.new h1) h2)
    exact(S0 _ _ _).new ((S0 _ _ _).none h3)
 rintro τ μ1 ⟨pn,rfl,en,S1⟩
 refine Bv λpf io=>?_
 dsimp only [Ch,List.set]
 have dn:=S1.none io
 have nnf:pn≠pf:=by rintro rfl;rw [en]at io;cases io
 have qk:Ar μ1 pf (.lst []) pn=some (.lst ((nums g.pl.length g.le.length r).map prI)):=by rw [Aj nnf];exact en
 have zi:Ar μ1 pf (.lst []) pf=some (.lst (([]:List Str).map A7)):=Ad
 have S2:Sub μ (Ar μ1 pf (.lst [])):=S1.new dn
 generalize Ar μ1 pf (.lst [])=μ2 at qk zi S2
 have hnl:(nums g.pl.length g.le.length r).length<=10:=by unfold nums;simp;omega
 refine Ap (fun τ μ'=>∃ws:List Str,τ=[some (.D (B6 g)),some (.D (.int i)),some (.D (.tuple (g.pl.map B3))),some (.D (.tuple (g.le.map .str))),some (.D (.tuple (g.rs.map Bl))),some (.D (.int r.p)),some (.D (.int r.x)),some (.D (.int r.q)),some (.D (.tuple (r.w.map .int))),some (.R pn),some (.R pf)]/\μ' pf=some (.lst (ws.map A7))/\ws=(if parts g.pl.length g.le.length r=false\/r∈g.rs.take i then(["rule"]:List Str) else [])/\Sub μ μ') (λZ hZ=>?_) ?_
 ·refine Ac (A8 qk) λpc ao=>?_
  have im:pf≠pc:=by rintro rfl;rw [zi]at ao;cases ao
  have ncn:pn≠pc:=by rintro rfl;rw [qk]at ao;cases ao
  refine cmap (nums g.pl.length g.le.length r) prI (λz=>.D (.bool (thr z.1 z.2))) (fun τ=>∃o1 o2,τ=[o1,o2]) ⟨none,none,rfl⟩ Ad (seven (by omega)) (λ_=>A8 (by rw [Aj ncn,Aj ncn];exact qk)) ?_ ?_
  ·rintro j z τ' ah W hj ⟨o1,o2,rfl⟩ hW
   have ef:∀b,b=thr z.1 z.2->W [some (.D (.int z.1)),some (.D (.int (z.2:Nat)))] (.D (.bool b)) _:=λb e=>by rw [e];exact hW _ ⟨_,_,rfl⟩
   refine⟨rfl,dif (λc=>ef _ ?_) (λc=>ef _ ?_)⟩
   ·unfold thr;exact Ycf.mpr ⟨λh=>⟨c,h⟩,λh=>h.2⟩
   ·unfold thr;exact(Yay λh=>c h.1).symm
  ·have e3:Ar (Ar μ2 pc (.lst [])) pc (.lst ((nums g.pl.length g.le.length r).map λz=>.D (.bool (thr z.1 z.2)))) pf=some (.lst (([]:List Str).map A7)):=by rw [Aj im,Aj im];exact zi
   have S3:Sub μ (Ar (Ar μ2 pc (.lst [])) pc (.lst ((nums g.pl.length g.le.length r).map λz=>.D (.bool (thr z.1 z.2))))):=(S2.new (S2.none ao)).new (S2.none ao)
   have e4:Ar (Ar μ2 pc (.lst [])) pc (.lst ((nums g.pl.length g.le.length r).map λz=>.D (.bool (thr z.1 z.2)))) pc=some (.lst ((nums g.pl.length g.le.length r).map λz=>.D (.bool (thr z.1 z.2)))):=Ad
   generalize Ar (Ar μ2 pc (.lst [])) pc (.lst ((nums g.pl.length g.le.length r).map λz=>.D (.bool (thr z.1 z.2))))=μ3 at e3 S3 e4
   have fe:parts g.pl.length g.le.length r=false\/r∈g.rs.take i->Vq (vBL Kb (Cw 10) (Bp (vC (.D (.str "rule"))) D4)) Z (Uh R) Nv Nv [some (.D (B6 g)),some (.D (.int i)),some (.D (.tuple (g.pl.map B3))),some (.D (.tuple (g.le.map .str))),some (.D (.tuple (g.rs.map Bl))),some (.D (.int r.p)),some (.D (.int r.x)),some (.D (.int r.q)),some (.D (.tuple (r.w.map .int))),some (.R pn),some (.R pf)] μ3:=λc=>⟨Ac e3 trivial,Ac e3 ⟨Bs (by simp),hZ _ _ ⟨["rule"],rfl,Ad,(Yaq c).symm,S3.new dn⟩⟩⟩
   have hd:dats ((nums g.pl.length g.le.length r).map λz=>.D (.bool (thr z.1 z.2)))=some ((nums g.pl.length g.le.length r).map λz=>.bool (thr z.1 z.2)):=by
    rw [show((nums g.pl.length g.le.length r).map λz=>AV.D (.bool (thr z.1 z.2)))=((nums g.pl.length g.le.length r).map λz=>PyData.bool (thr z.1 z.2)).map .D by rw [Yat];rfl]
    exact B7 _
   refine Ac rfl (Ac (A8 e4) (Ac hd ⟨Pd _,Na _,?_⟩))
   have na:=Sq g.pl.length g.le.length r
   refine br (λc1=>Lb rfl (fe (.inl ?_))) (λc1=>?_)
   ·have c1:=na.symm.trans c1;simpa using c1
   have c1:parts g.pl.length g.le.length r=true:=by have c1:=na.symm.trans c1;simpa using c1
   obtain⟨j,ej,hj⟩:=Sc (g:=Bl) (λa _=>Y0 a r) hi
   refine⟨htt,Ac (Al po) (Ac rfl ⟨Ko r,Hz _,Ac ej (dif (λc2=>fe (.inr (hj.mp (by omega)))) (λc2=>hZ _ _ ⟨[],rfl,e3,(Yan λz=>?_).symm,S3⟩))⟩)⟩
   rcases z with z | z
   ·rw [c1]at z;cases z
   ·have:=hj.mpr z;omega
 rintro τ μ3 ⟨ws1,rfl,e3,hw1,S3⟩
 have z4:ws1.length<=1:=by rw [hw1];split <;> simp
 refine Ap (fun τ μ'=>∃ws:List Str,τ=[some (.D (B6 g)),some (.D (.int i)),some (.D (.tuple (g.pl.map B3))),some (.D (.tuple (g.le.map .str))),some (.D (.tuple (g.rs.map Bl))),some (.D (.int r.p)),some (.D (.int r.x)),some (.D (.int r.q)),some (.D (.tuple (r.w.map .int))),some (.R pn),some (.R pf)]/\μ' pf=some (.lst ((ws1++ws).map A7))/\ws=(if Cv r=true/\3<=Bm (g.rs.take i) then(["pushes"]:List Str) else [])/\Sub μ μ') (λZ hZ=>?_) ?_
 ·refine ieq (λc=>?_) (λc=>Jg rfl (hZ _ _ ⟨[],rfl,by rw [Ybs];exact e3,(Yan λz=>c ?_).symm,S3⟩))
  ·rw [Yaa]at c
   have dh:Cv r=true:=Ybl (by omega)
   refine Ac (qb _) λpc ao=>?_
   have im:pf≠pc:=by rintro rfl;rw [e3]at ao;cases ao
   refine cmap (g.rs.take i) Cc (λv=>.D (.int (v.w.length:Nat))) (fun τ=>∃o,τ=[o]) ⟨none,rfl⟩ Ad (seven (by omega)) (λ_=>qb _) ?_ ?_
   ·rintro j v τ' ah W hj ⟨o,rfl⟩ hW
    have ef:=hW [some (Cc v)] ⟨_,rfl⟩
    rw [<- Yaa (f:=PyData.int) (as:=v.w)]at ef
    exact Ac (Al (j:=3) rfl) ef
   ·have hd:dats ((g.rs.take i).map λv=>.D (.int (v.w.length:Nat)))=some ((g.rs.take i).map λv=>.int (v.w.length:Nat)):=by
     rw [show((g.rs.take i).map λv=>AV.D (.int (v.w.length:Nat)))=((g.rs.take i).map λv=>PyData.int (v.w.length:Nat)).map .D by rw [Yat];rfl]
     exact B7 _
    have S4:=(S3.new (m:=.lst []) (S3.none ao)).new (m:=.lst ((g.rs.take i).map λv=>.D (.int (v.w.length:Nat)))) (S3.none ao)
    have e4:Ar (Ar μ3 pc (.lst [])) pc (.lst ((g.rs.take i).map λv=>.D (.int (v.w.length:Nat)))) pf=some (.lst (ws1.map A7)):=by rw [Aj im,Aj im];exact e3
    have f4:Ar (Ar μ3 pc (.lst [])) pc (.lst ((g.rs.take i).map λv=>.D (.int (v.w.length:Nat)))) pc=some (.lst ((g.rs.take i).map λv=>.D (.int (v.w.length:Nat)))):=Ad
    generalize Ar (Ar μ3 pc (.lst [])) pc (.lst ((g.rs.take i).map λv=>.D (.int (v.w.length:Nat))))=μ4 at S4 e4 f4
    refine⟨Ac f4 trivial,Ac rfl (Ac f4 (Ac hd ⟨Cu _,Vb _,dif (λc2=>?_) (λc2=>hZ _ _ ⟨[],rfl,by rw [Ybs];exact e4,(Yan λz=>c2 ?_).symm,S4⟩)⟩))⟩
    ·have c2:=Ic (g.rs.take i) ▸ c2
     refine⟨Ac e4 trivial,Ac e4 ⟨Bs (by rw [Yaa];omega),hZ _ _ ⟨["pushes"],rfl,by rw [Ad,Yak];rfl,(Yaq ⟨dh,by omega⟩).symm,S4.new dn⟩⟩⟩
    ·rw [Ic];have:=z.2;omega
  ·rw [Yaa];have:=Yam z.1;omega
 rintro τ μ4 ⟨ws2,rfl,e4,hw2',S4⟩
 have cz:ws2.length<=1:=by rw [hw2'];split <;> simp
 have bu:∀z∈ws1++ws2,lets z:=λz hz=>V9 z (by
  rcases Yaw.mp hz with h | h
  ·rw [hw1]at h;split at h
   ·rw [Yax.mp h];decide +kernel
   ·cases h
  ·rw [hw2']at h;split at h
   ·rw [Yax.mp h];decide +kernel
   ·cases h)
 refine Ap (fun τ μ'=>∃ws:List Str,τ=[some (.D (B6 g)),some (.D (.int i)),some (.D (.tuple (g.pl.map B3))),some (.D (.tuple (g.le.map .str))),some (.D (.tuple (g.rs.map Bl))),some (.D (.int r.p)),some (.D (.int r.x)),some (.D (.int r.q)),some (.D (.tuple (r.w.map .int))),some (.R pn),some (.R pf)]/\μ' pf=some (.lst (ws.map A7))/\ws.head?=L5 g i r/\(∀z∈ws,lets z)/\ws.length<=3/\Sub μ μ') (λZ hZ=>?_) ?_
 ·intro pe i0
  have nef:pf≠pe:=by rintro rfl;rw [e4]at i0;cases i0
  have e5:Ar μ4 pe (.lst []) pf=some (.lst ((ws1++ws2).map A7)):=by rw [Aj nef];exact e4
  have S5:Sub μ (Ar μ4 pe (.lst [])):=S4.new (S4.none i0)
  refine Ac (Dj e5 (Dv _)) (Ac (Dj Ad rfl) ⟨Yz bu,Sr,?_⟩)
  have en:=N6 ((ws1++ws2).map PyData.str)
  refine br (λc=>?_) (λc=>Jg rfl (hZ _ _ ⟨_,rfl,e5,?_,bu,by rw [Yae];omega,S5⟩))
  ·have gp:ws1++ws2=[]:=by
    have c:=en.symm.trans c
    cases h:ws1++ws2 with
    | nil=>rfl
    | cons a b=>rw [h]at c;cases c
   obtain⟨h1,h2⟩:=List.append_eq_nil_iff.mp gp
   have n1:¬(parts g.pl.length g.le.length r=false\/r∈g.rs.take i):=λz=>by rw [hw1,Yaq z]at h1;cases h1
   have n2:¬(Cv r=true/\3<=Bm (g.rs.take i)):=λz=>by rw [hw2',Yaq z]at h2;cases h2
   have ic:L5 g i r=if g.H.getD r.p.toNat 0=1/\2<=Cq (g.rs.take i) r then some ("many" : Str) else none:=by unfold L5;rw [Yan n1,Yan n2]
   have fo:parts g.pl.length g.le.length r=true:=(Bool.not_eq_false _).mp λz=>n1 (.inl z)
   have hp:thr r.p g.pl.length=true:=by unfold parts at fo;rw [Yar,Yar]at fo;exact fo.1.1
   obtain⟨hp0,jp⟩:=Yam hp
   have iw:(g.pl.map B3)[r.p.toNat]?=some (B3 (g.pl[r.p.toNat]'(by omega))):=by rw [List.getElem?_map,List.getElem?_eq_getElem (by omega)];rfl
   have hH:g.H.getD r.p.toNat 0=(g.pl[r.p.toNat]'(by omega)).2:=by
    rw [List.getD_eq_getElem?_getD,List.getElem?_map,List.getElem?_eq_getElem (by omega)];rfl
   generalize g.pl[r.p.toNat]'(by omega)=pp at iw hH
   have ft:atI (g.pl.map B3) r.p=some (B3 pp):=by
    have:=Al iw
    rw [Int.toNat_of_nonneg hp0]at this;exact this
   rw [gp]at e5
   refine Ac ft (Ac (Al (j:=1) rfl) (ieq (λc1=>?_) (λc1=>Jg rfl (hZ _ _ ⟨[],rfl,e5,?_,(λ_ z=>nomatch z),by simp,S5⟩))))
   ·refine Ac (qb _) λpc ao=>?_
    have im:pf≠pc:=by rintro rfl;rw [e5]at ao;cases ao
    refine cmap (g.rs.take i) Cc (λv=>.D (.tuple [.int v.p,.int v.x])) (fun τ=>∃o,τ=[o]) ⟨none,rfl⟩ Ad (seven (by omega)) (λ_=>qb _) ?_ ?_
    ·rintro j v τ' ah W hj ⟨o,rfl⟩ hW
     exact hW [some (Cc v)] ⟨_,rfl⟩
    ·have hd:dats ((g.rs.take i).map λv=>.D (.tuple [.int v.p,.int v.x]))=some ((g.rs.take i).map λv=>.tuple [.int v.p,.int v.x]):=by
      rw [show((g.rs.take i).map λv=>AV.D (.tuple [.int v.p,.int v.x]))=((g.rs.take i).map λv=>PyData.tuple [.int v.p,.int v.x]).map .D by rw [Yat];rfl]
      exact B7 _
     have S6:=(S5.new (m:=.lst []) (S5.none ao)).new (m:=.lst ((g.rs.take i).map λv=>.D (.tuple [.int v.p,.int v.x]))) (S5.none ao)
     have e6:Ar (Ar (Ar μ4 pe (.lst [])) pc (.lst [])) pc (.lst ((g.rs.take i).map λv=>.D (.tuple [.int v.p,.int v.x]))) pf=some (.lst (([]:List Str).map A7)):=by rw [Aj im,Aj im];exact e5
     have f6:Ar (Ar (Ar μ4 pe (.lst [])) pc (.lst [])) pc (.lst ((g.rs.take i).map λv=>.D (.tuple [.int v.p,.int v.x]))) pc=some (.lst ((g.rs.take i).map λv=>.D (.tuple [.int v.p,.int v.x]))):=Ad
     generalize Ar (Ar (Ar μ4 pe (.lst [])) pc (.lst [])) pc (.lst ((g.rs.take i).map λv=>.D (.tuple [.int v.p,.int v.x])))=μ6 at S6 e6 f6
     refine⟨Ac f6 trivial,Ac rfl (Ac f6 (Ac hd ⟨Ia _ _,Pr _,dif (λc2=>?_) (λc2=>hZ _ _ ⟨[],rfl,e6,?_,(λ_ z=>nomatch z),by simp,S6⟩)⟩))⟩
     ·have c2:=Ie (g.rs.take i) r ▸ c2
      refine⟨Ac e6 trivial,Ac e6 ⟨Bs (by simp),hZ _ _ ⟨["many"],rfl,Ad,?_,(λz hz=>V9 z (by rw [Yax.mp hz];decide +kernel)),by simp,S6.new dn⟩⟩⟩
      rw [ic,Yaq ⟨by rw [hH];omega,by omega⟩];rfl
     ·rw [ic,Yan λz=>c2 (by rw [Ie];have:=z.2;omega)];rfl
   ·rw [ic,Yan λz=>c1 (by have:=z.1;rw [hH]at this;omega)];rfl
  ·have ay:ws1++ws2≠[]:=λz=>by rw [z]at c;exact absurd c (by decide)
   unfold L5
   by_cases h1:parts g.pl.length g.le.length r=false\/r∈g.rs.take i
   ·rw [Yaq h1]at hw1 ⊢;rw [hw1];rfl
   ·rw [Yan h1]at hw1 ⊢
    by_cases h2:Cv r=true/\3<=Bm (g.rs.take i)
    ·rw [Yaq h2]at hw2' ⊢;rw [hw1,hw2'];rfl
    ·rw [Yan h2]at hw2'
     exact absurd (by rw [hw1,hw2'];rfl) ay
 rintro τ μ5 ⟨ws,rfl,e5,hh,hl,hn,S5⟩
 exact⟨μ5,Sub.refl,q pf ws μ5 dn e5 hh hl hn S5⟩
end
section
variable {P:Program}{w:World}{K:PySem.W.Frag}{mg:Str->Option Value}{base:Heap}{f:Addr}{fd:FuncData}
def L6:Option (Str×Nat)->PyData
 | none=>.none
 | some o=>.tuple [.str o.1,.int (o.2:Nat)]
def fA(o:Str×Nat):AV:=.D (L6 (some o))
theorem in3(n:Nat):(([.int 1,.int 2,.int 3]:List PyData).any λe=>PyData.eqv e (.int (n:Int)))=decide (1<=n/\n<=3):=by
 simp only [List.any_cons,List.any_nil,Fo,Bool.or_false]
 rw [<- Bool.decide_or,<- Bool.decide_or]
 exact Ycf.mpr ⟨λh=>by omega,λh=>by omega⟩
theorem Ss(w:Str)(n:Nat):Ux [AV.D (.tuple [.str w,.int (n:Int)])] (if(!(([.int 1,.int 2,.int 3]:List PyData).any λe=>PyData.eqv e (.int (n:Int))))=true then(1:Int) else 0).toNat=(Fd w n).toList.map fA:=by
 rw [in3]
 unfold Fd
 by_cases h:1<=n/\n<=3
 ·rw [Ybl h,Yaq h];rfl
 ·rw [Yay h,Yan h];rfl
theorem Vc(n:Nat):Db 0 n=(List.range n).map Gh:=by
 have h:∀(n k:Nat),Db (k:Int) n=(List.range' k n).map Gh:=by
  intro n
  induction n with
  | zero=>intro k;rfl
  | succ n ih =>
   intro k
   rw [Db,List.range'_succ,Yaz,show((k:Int)+1)=((k+1:Nat):Int) by omega,ih (k+1)];rfl
 rw [List.range_eq_range']
 exact h n 0
theorem Oe{α:Type}(f:Nat->Option α)(n:Nat):Fv f (n+1)=(Fv f n).or (f n):=by
 unfold Fv
 rw [List.range_succ,List.findSome?_append]
 simp
def twP(zs:List Str)(j:Nat):Bool:=(Jp zs j).isSome
def tws(zs:List Str):List (Str×Nat):=((List.range zs.length).filter (twP zs)).map λj=>("twice",j)
theorem L3(zs:List Str):(tws zs).head?=Fv (Jp zs) zs.length:=by
 unfold tws Fv
 rw [N7]
 refine Ybb (λf=>List.findSome? f (List.range zs.length)) (funext λj=>?_)
 unfold twP Jp
 cases zs[j]? with
 | none=>rfl
 | some z =>
  dsimp only
  split
  ·rfl
  ·rfl
theorem Ku(zs:List Str):(tws zs).length<=zs.length:=by
 unfold tws
 rw [Yaa]
 exact Yai (Ydf _ _) (by rw [Yda];exact Yaf _)
theorem Of:(∀z∈(["places","letters","twice","rules"]:List Str),∀c∈z.cps.toList,97<=c/\c<=122):=by decide +kernel
theorem Vd(F:List (Str×Nat)):dats (F.map fA)=some (F.map λo=>L6 (some o)):=by
 rw [show F.map fA=(F.map λo=>L6 (some o)).map .D by rw [Yat];rfl];exact B7 _
theorem Nb:∀{F:List (Str×Nat)},(∀o∈F,lets o.1)->PyData.canLayAll0 (F.map λo=>L6 (some o))=true/\PyData.depthAll (F.map λo=>L6 (some o))<=1
 | [],_=>⟨rfl,by simp [PyData.depthAll]⟩
 | o :: F,h=>by
  obtain⟨h1,h2⟩:=Nb (F:=F) λy hy=>h y (Yao _ hy)
  have h3:=G5 (h o Yau)
  simp only [List.map_cons,L6,PyData.canLayAll0,PyData.depthAll,PyData.depth,PyData.canLay0]at h1 h2 h3 ⊢
  rw [h1,h3]
  exact⟨rfl,by omega⟩
theorem Su{F:List (Str×Nat)}(h:∀o∈F,lets o.1):Bq (.list (F.map λo=>L6 (some o))):=⟨by simp only [PyData.canLay0];exact(Nb h).1,by have:=(Nb h).2;simp only [PyData.depth];exact Yai (Yb4 this 1) (by decide)⟩
theorem Og{w:Str}{n:Nat}(h:lets w):∀o∈(Fd w n).toList,lets o.1:=λo ho=>by
 unfold Fd at ho
 split at ho
 ·simp at ho
 ·simp at ho;rw [ho];exact h
theorem Kv{w:Str}{n:Nat}:(Fd w n).toList.length<=1:=by unfold Fd;split <;> simp
theorem G8{α:Type}(F G:List α):(F++G).head?=F.head?.or G.head?:=by cases F <;> simp
theorem Gq{α:Type}(o:Option α):o.toList.head?=o:=by cases o <;> rfl
abbrev nDu:List Str:=["_law_game_here","_law_places","_law_letters","_law_rules","_law_found","_law_names_here","_law_some","_law_at"]
theorem Ig:FnScope nDu ["_law_game_here"] (Ag U0):=⟨rfl,rfl,rfl,by decide +kernel,rfl,by decide +kernel,by decide +kernel⟩
theorem Wb:(["_law_name","_law_hand"]:List Str).Nodup:=by decide +kernel
theorem Qc4:(["_law_at","_law_some"]:List Str).Nodup:=by decide +kernel
theorem Qc5:(["_law_word","_law_at"]:List Str).Nodup:=by decide +kernel
def Y1:ASp:=λxs μ R=>∃(g:Gz),xs=[.D (B6 g)]/\GzB 3 g/\∀ μ',Sub μ μ'->(∀o,flt g=some o->lets o.1)->R (.D (L6 (flt g))) μ'
theorem Qc6{n:Nat}(F:Fun K "_law_due" "_law_due" U0 f fd) (cRf:VCal P w K mg base n "_law_rule_faults" ["_law_game_here","_law_at"] Qc1) (ae:mg "len" = none) (bn:mg "int" = none) (az:mg "list" = none) (ai:mg "range" = none):FnOk P w K mg base En (n+1) f fd ["_law_game_here"] (Ih K 1 Y1):=by
 refine F.vok Ig λaq A outer s H E hr=>⟨_,(Ae (Fb (vv 0) (C5 (n:=3) rfl (Ay (Am (i:=1) Ig.nd rfl (Or.inl rfl)) (Ay (Am (i:=2) Ig.nd rfl (Or.inl rfl)) (Ay (Am (i:=3) Ig.nd rfl (Or.inl rfl)) Ck)))))
   (Ae (An (i:=4) Ig.nd rfl (Or.inl rfl) (Au R3 (Cg (Aa (Az (Aa A4 (Aa (Ah Ba rfl ae Yad (Aa (vv 1) Ab)) Ab))) Ab)) (Bw N2 rfl bn Yb1 (Aa (Gc (Ka hr) (Ah Ba rfl ae Yad (Aa (vv 1) Ab)) (Az (Aa Af (Aa Af (Aa Af Ab)))) (by with_unfolding_all rfl)) Ab))))
   (Ae (An (i:=4) Ig.nd rfl (Or.inl rfl) (Au Bh (vv 4) (Au R3 (Cg (Aa (Az (Aa A4 (Aa (Ah Ba rfl ae Yad (Aa (vv 2) Ab)) Ab))) Ab)) (Bw N2 rfl bn Yb1 (Aa (Gc (Ka hr) (Ah Ba rfl ae Yad (Aa (vv 2) Ab)) (Az (Aa Af (Aa Af (Aa Af Ab)))) (by with_unfolding_all rfl)) Ab)))))
   (Ae (Fm (i:=5) (N':=["_law_name","_law_hand"]) (mp:=[none,none]) rfl Ig.nd rfl rfl (B9 (vv 1)) (λ_ _ _ _=>(C5 (n:=2) rfl (Ay (Am (i:=0) Wb rfl (Or.inl rfl) (Or.inr rfl)) (Ay (Am (i:=1) Wb rfl (Or.inl rfl) (Or.inr rfl)) Ck)))) (λ_ _ _ _=>Bx) (λ_ _ _ _=>(vv 0)) (Bb (N:=nDu) (pn:=(Ag U0).names) (by decide +kernel)))
   (Ae (C6 Ybk rfl (Yc (Aa (vv 5) (Aa (Bw Rm rfl az Yc4 (Aa (vv 2) Ab)) Ab))) (Am (i:=6) Ig.nd rfl (Or.inr rfl)) (Ai (An (i:=4) Ig.nd rfl (Or.inl rfl) (Au Bh (vv 4) (Bz (N':=["_law_at","_law_some"]) (mp:=[none,some 6]) rfl (Bt rfl ai (Aa (Ah Ba rfl ae Yad (Aa (vv 6) Ab)) Ab)) (λ_ _ _ _=>(Am (i:=0) Qc4 rfl (Or.inl rfl) (Or.inr rfl))) (λ_ _ _ _=>(C3 (Aq Mw (E5 PySem.F.slot_list_index PySem.F.type_list_index (Uw hr) (vv 1) (Aa (A3 Bk (vv 1) (vv 0)) Ab)) (vv 0) (nomark _)))) (λ_ _ _ _=>(Az (Aa A4 (Aa (vv 0) Ab)))) (Bb (N:=nDu) (pn:=(Ag U0).names) (by decide +kernel)))))))
   (Ae (C6 Ybk rfl (Bt rfl ai (Aa (Ah Ba rfl ae Yad (Aa (vv 3) Ab)) Ab)) (Am (i:=7) Ig.nd rfl (Or.inr rfl)) (Ai (Bn (Aq (Ce hr) (vv 4) (Cg Ab) (nomark _)) (Ai (Fm (i:=4) (N':=["_law_word","_law_at"]) (mp:=[none,some 7]) rfl Ig.nd rfl rfl (B9 (Ak cRf hr rfl (Aa (vv 0) (Aa (vv 7) Ab)))) (λ_ _ _ _=>(Am (i:=0) Qc5 rfl (Or.inl rfl) (Or.inr rfl))) (λ_ _ _ _=>Bx) (λ_ _ _ _=>(Az (Aa (vv 0) (Aa (vv 1) Ab)))) (Bb (N:=nDu) (pn:=(Ag U0).names) (by decide +kernel)))) A0)))
   (Ae (Bn (Aq Lf (Ah Ba rfl ae Yad (Aa (vv 3) Ab)) Af (nomark _)) (Ai (Cj (E5 Ybc Ybd Da (vv 4) (Aa (Az (Aa A4 (Aa (Ah Ba rfl ae Yad (Aa (vv 3) Ab)) Ab))) Ab)))) A0)
   (Ai (Bd (A3 Bk (Au Bh (vv 4) (Cg (Aa Re Ab))) Af)))))))))),?_⟩
 rintro xs μ R _ ⟨g,rfl,hB,q⟩
 have hp:=hB.p
 have hl:=hB.l
 have v9:=hB.r
 have lpn:∀z∈g.pl.map (·.1),lets z:=λz hz=>by
  obtain⟨p,hp,rfl⟩:=Ybj.mp hz
  exact(hB.pn p hp).1
 have lln:∀z∈g.le,lets z:=λz hz=>(hB.ln z hz).1
 refine Ap (fun τ μ'=>τ=[some (.D (B6 g)),some (.D (.tuple (g.pl.map B3))),some (.D (.tuple (g.le.map .str))),some (.D (.tuple (g.rs.map Bl))),none,none,none,none]/\μ=μ') (λZ hZ=>⟨rfl,hZ _ _ ⟨rfl,rfl⟩⟩) ?_
 rintro τ _ ⟨rfl,rfl⟩
 refine Ap (fun τ μ'=>∃pf,τ=[some (.D (B6 g)),some (.D (.tuple (g.pl.map B3))),some (.D (.tuple (g.le.map .str))),some (.D (.tuple (g.rs.map Bl))),some (.R pf),none,none,none]/\μ' pf=some (.lst ((Fd "places" g.pl.length).toList.map fA))/\Sub μ μ') (λZ hZ=>?_) ?_
 ·intro p1 h1
  refine Ac rfl ⟨Cu _,⟨by decide +kernel,by decide +kernel⟩,Ac Ad ⟨⟨?_,?_,by simp⟩,λp2 h2=>hZ _ _ ⟨p2,rfl,?_,?_⟩⟩⟩
  ·split <;> omega
  ·split <;> omega
  ·rw [Ad,Ss "places",Yaa]
  ·exact(Sub.refl.new h1).new (Sub.none (Sub.refl.new h1) h2)
 rintro τ μ1 ⟨pf0,rfl,e1,S1⟩
 refine Ap (fun τ μ'=>∃pf,τ=[some (.D (B6 g)),some (.D (.tuple (g.pl.map B3))),some (.D (.tuple (g.le.map .str))),some (.D (.tuple (g.rs.map Bl))),some (.R pf),none,none,none]/\μ' pf=some (.lst (((Fd "places" g.pl.length).toList++(Fd "letters" g.le.length).toList).map fA))/\Sub μ μ') (λZ hZ=>?_) ?_
 ·intro p1 h1
  have n1:pf0≠p1:=by rintro rfl;rw [e1]at h1;cases h1
  refine Ac rfl ⟨Cu _,⟨by decide +kernel,by decide +kernel⟩,Ac Ad ⟨⟨?_,?_,by simp⟩,λp2 h2=>?_⟩⟩
  ·split <;> omega
  ·split <;> omega
  have n2:pf0≠p2:=by rintro rfl;rw [Aj n1,e1]at h2;cases h2
  rw [Ss "letters",Yaa]
  have e2:∀o1 o2,Ar (Ar μ1 p1 o1) p2 o2 pf0=some (.lst ((Fd "places" g.pl.length).toList.map fA)):=λo1 o2=>by rw [Aj n2,Aj n1];exact e1
  have S2:∀o1 o2,Sub μ (Ar (Ar μ1 p1 o1) p2 o2):=λo1 o2=>(S1.new (S1.none h1)).new (Sub.none (S1.new (S1.none h1)) h2)
  have l1:=Kv (w := "places") (n:=g.pl.length)
  have l2:=Kv (w := "letters") (n:=g.le.length)
  refine Ac (e2 _ _) (Ac Ad ⟨seven (by rw [Yaa,Yaa];omega),λp3 h3=>hZ _ _ ⟨p3,rfl,?_,(S2 _ _).new ((S2 _ _).none h3)⟩⟩)
  rw [Ad,Yak]
 rintro τ μ2 ⟨pf1,rfl,e2,S2⟩
 have hF0:∀o∈(Fd "places" g.pl.length).toList++(Fd "letters" g.le.length).toList,lets o.1:=λo ho=>by
  rcases Yaw.mp ho with h | h
  ·exact Og (Of _ (by decide +kernel)) o h
  ·exact Og (Of _ (by decide +kernel)) o h
 have hL0:((Fd "places" g.pl.length).toList++(Fd "letters" g.le.length).toList).length<=2:=by
  have l1:=Kv (w := "places") (n:=g.pl.length)
  have l2:=Kv (w := "letters") (n:=g.le.length)
  rw [Yae];omega
 have hH0:((Fd "places" g.pl.length).toList++(Fd "letters" g.le.length).toList).head?=(Fd "places" g.pl.length).or (Fd "letters" g.le.length):=by rw [G8,Gq,Gq]
 generalize (Fd "places" g.pl.length).toList++(Fd "letters" g.le.length).toList=F0 at e2 hF0 hL0 hH0
 refine Ap (fun τ μ'=>∃pn,τ=[some (.D (B6 g)),some (.D (.tuple (g.pl.map B3))),some (.D (.tuple (g.le.map .str))),some (.D (.tuple (g.rs.map Bl))),some (.R pf1),some (.R pn),none,none]/\μ' pf1=some (.lst (F0.map fA))/\μ' pn=some (.lst ((g.pl.map (·.1)).map A7))/\Sub μ μ') (λZ hZ=>?_) ?_
 ·have itp:∀ μ:M,items μ (.D (.tuple (g.pl.map B3)))=some (g.pl.map λp=>.D (B3 p)):=fun μ=>by show some ((g.pl.map B3).map AV.D)=_;rw [Yat];rfl
  refine Ac (itp _) λpc ao=>?_
  have n1:pf1≠pc:=by rintro rfl;rw [e2]at ao;cases ao
  refine cmap g.pl _ (λp=>A7 p.1) (fun τ=>∃o1 o2,τ=[o1,o2]) ⟨none,none,rfl⟩ Ad (seven (by omega)) (λ_=>itp _) ?_ ?_
  ·rintro i p τ' ah W hi ⟨o1,o2,rfl⟩ hW
   exact⟨rfl,hW _ ⟨_,_,rfl⟩⟩
  ·refine hZ _ _ ⟨pc,rfl,by rw [Aj n1,Aj n1];exact e2,?_,(S2.new (S2.none ao)).new (S2.none ao)⟩
   rw [Ad,Yat];rfl
 rintro τ μ3 ⟨pn,rfl,e3,f3,S3⟩
 refine Ap (fun τ μ'=>∃pf o6,∃F:List (Str×Nat),τ=[some (.D (B6 g)),some (.D (.tuple (g.pl.map B3))),some (.D (.tuple (g.le.map .str))),some (.D (.tuple (g.rs.map Bl))),some (.R pf),some (.R pn),o6,none]/\μ' pf=some (.lst (F.map fA))/\(∀o∈F,lets o.1)/\F.length<=50/\F.head?=((Fd "places" g.pl.length).or (Fd "letters" g.le.length)).or ((Fv (Jp (g.pl.map (·.1))) g.pl.length).or (Fv (Jp g.le) g.le.length))/\μ pf=none/\Sub μ μ') (λZ hZ=>?_) ?_
 ·refine Ac V6 λpl hpl=>?_
  have n1:pf1≠pl:=by rintro rfl;rw [e3]at hpl;cases hpl
  have n2:pn≠pl:=by rintro rfl;rw [f3]at hpl;cases hpl
  have g4:Ar μ3 pl (.lst (g.le.map A7)) pl=some (.lst (g.le.map A7)):=Ad
  have e4:Ar μ3 pl (.lst (g.le.map A7)) pf1=some (.lst (F0.map fA)):=by rw [Aj n1];exact e3
  have f4:Ar μ3 pl (.lst (g.le.map A7)) pn=some (.lst ((g.pl.map (·.1)).map A7)):=by rw [Aj n2];exact f3
  have S4:Sub μ (Ar μ3 pl (.lst (g.le.map A7))):=S3.new (S3.none hpl)
  generalize Ar μ3 pl (.lst (g.le.map A7))=μ4 at e4 f4 g4 S4
  have one:∀(pz pf:Addr) (zs:List Str) (F:List (Str×Nat)) (ν:M) (Z2:ASt->M->Prop) (Z3 Z4:ASt->M->Prop) (o7:Option AV),ν pz=some (.lst (zs.map A7))->ν pf=some (.lst (F.map fA))->(∀z∈zs,lets z)->zs.length<=20->F.length<=30->(∀vg ν',ν vg=none->ν' vg=some (.lst ((F++tws zs).map fA))->Sub ν ν'->Z2 [some (.D (B6 g)),some (.D (.tuple (g.pl.map B3))),some (.D (.tuple (g.le.map .str))),some (.D (.tuple (g.rs.map Bl))),some (.R vg),some (.R pn),some (.R pz),none] ν')->Kd (Rf Rj (Cw 4) (Nu [none,some 6] (Vr (Bp (Vn Rk (Bp (Cw 6) D4)) D4)) (Ch 0) (Ld (Rf aLt (vBL R1 (Cw 1) (Bp (Rf aIx (Cw 1) (Cw 0)) D4)) (Cw 0))) (O9 (Bp (vC (.D (.str "twice"))) (Bp (Cw 0) D4))))) (Ch 4) Z2 (Uh R) Z3 Z4 [some (.D (B6 g)),some (.D (.tuple (g.pl.map B3))),some (.D (.tuple (g.le.map .str))),some (.D (.tuple (g.rs.map Bl))),some (.R pf),some (.R pn),some (.R pz),none] ν:=by
   intro pz pf zs F ν Z2 Z3 Z4 o7 hz hf hlz hzl ni K
   refine Ac hz ⟨by rw [Yaa];omega,by rw [Yaa];omega,λpc ao=>?_⟩
   have m1:pz≠pc:=by rintro rfl;rw [hz]at ao;cases ao
   have m2:pf≠pc:=by rintro rfl;rw [hf]at ao;cases ao
   rw [Yaa,show((zs.length:Int)).toNat=zs.length by omega,Vc]
   refine cmapf (List.range zs.length) Gh (twP zs) (λj=>fA ("twice",j)) (fun τ=>∃o,τ=[o,some (.R pz)]) ⟨none,rfl⟩ Ad (seven (by rw [Yda];omega)) (λ_=>trivial) ?_ ?_
   ·rintro i j τ' ah W W2 hi ⟨o,rfl⟩ h1 h2
    have hj:j < zs.length:=Yb2.mp (Ybg hi)
    have xg:Ar (Ar ν pc (.lst [])) pc (.lst ah) pz=some (.lst (zs.map A7)):=by rw [Aj m1,Aj m1];exact hz
    have ml:=List.getElem?_eq_getElem hj
    have hlj:=hlz _ (Ybu hj)
    generalize zs[j]=z at ml hlj
    obtain⟨k,ek,hk⟩:=Sc (g:=PyData.str) (λa _=>by rw [Nw]) ml
    refine⟨Ac xg trivial,Ac xg (Ac (x:=A7 z) (Al (by rw [List.getElem?_map,ml];rfl)) (Ac rfl (Ac xg (Ac (Dv zs) ⟨Es hlj,Gi hlz,Ac ek (dif (λc=>h1 ?_ _ ⟨_,rfl⟩) (λc=>h2 ?_ _ ⟨_,rfl⟩))⟩))))⟩
    ·unfold twP Jp;rw [ml];dsimp only;rw [Yaq (hk.mp (by omega))];rfl
    ·unfold twP Jp;rw [ml];dsimp only;rw [Yan λh=>c (by have:=hk.mpr h;omega)];rfl
   ·have f2:∀o1 o2,Ar (Ar ν pc o1) pc o2 pf=some (.lst (F.map fA)):=λo1 o2=>by rw [Aj m2,Aj m2];exact hf
    have hS:∀o1 o2,Sub ν (Ar (Ar ν pc o1) pc o2):=λo1 o2=>(Sub.refl.new ao).new ao
    have cz:=Ku zs
    refine Ac (f2 _ _) (Ac Ad ⟨seven ?_,λp3 h3=>K p3 _ ((hS _ _).none h3) ?_ ((hS _ _).new ((hS _ _).none h3))⟩)
    ·unfold tws at cz;rw [Yaa]at cz ⊢;rw [Yaa];omega
    ·rw [Ad,Yak];unfold tws;rw [Yat];rfl
  refine⟨trivial,one pn pf1 (g.pl.map (·.1)) F0 μ4 _ Nv Nv none f4 e4 lpn (by rw [Yaa];omega) (by omega) λv4 μ5 x5 e5 S5=>?_⟩
  have l5:=Ku (g.pl.map (·.1))
  rw [Yaa]at l5
  have l6:=Ku g.le
  refine⟨trivial,one pl v4 g.le _ μ5 _ Nv Nv none (S5 _ _ g4) e5 lln (by omega) (by rw [Yae];omega) λiy μ6 x6 e6 S6=>⟨trivial,?_⟩⟩
  refine hZ _ _ ⟨iy,_,_,rfl,e6,λo ho=>?_,by rw [Yae,Yae];omega,?_,(S4.trans S5).none x6,S4.trans (S5.trans S6)⟩
  ·have tl:∀zs:List Str,∀o∈tws zs,lets o.1:=λzs o ho=>by
    obtain⟨j,_,rfl⟩:=Ybj.mp ho
    exact Of "twice" (by decide +kernel)
   rcases Yaw.mp ho with h | h
   ·rcases Yaw.mp h with h | h
    ·exact hF0 o h
    ·exact tl _ o h
   ·exact tl _ o h
  ·have t1:=L3 (g.pl.map (·.1))
   rw [Yaa]at t1
   rw [G8,G8,hH0,t1,L3,Option.or_assoc]
 rintro τ μ4 ⟨v4,o6,F1,rfl,e4,hF1,hL1,hH1,x4,S4⟩
 generalize hhd:((Fd "places" g.pl.length).or (Fd "letters" g.le.length)).or ((Fv (Jp (g.pl.map (·.1))) g.pl.length).or (Fv (Jp g.le) g.le.length))=hd at hH1
 have kf:flt g=(hd.or (Fv (Pq g) g.rs.length)).or (Zi g):=by
  rw [<- hhd];unfold flt;simp only [Option.or_assoc]
 refine Ap (fun τ μ'=>∃pf o7,∃F:List (Str×Nat),τ=[some (.D (B6 g)),some (.D (.tuple (g.pl.map B3))),some (.D (.tuple (g.le.map .str))),some (.D (.tuple (g.rs.map Bl))),some (.R pf),some (.R pn),o6,o7]/\μ' pf=some (.lst (F.map fA))/\(∀o∈F,lets o.1)/\F.length<=50/\F.head?=hd.or (Fv (Pq g) g.rs.length)/\μ pf=none/\Sub μ μ') (λZ hZ=>?_) ?_
 ·have am:(Db 0 ((g.rs.map Bl).length:Int).toNat).length=g.rs.length:=by rw [Bo,Yaa];omega
  refine⟨by rw [Yaa];omega,by rw [Yaa];omega,?_⟩
  refine El (λi τ μ'=>∃pf o7,∃F:List (Str×Nat),τ=[some (.D (B6 g)),some (.D (.tuple (g.pl.map B3))),some (.D (.tuple (g.le.map .str))),some (.D (.tuple (g.rs.map Bl))),some (.R pf),some (.R pn),o6,o7]/\μ' pf=some (.lst (F.map fA))/\(∀o∈F,lets o.1)/\F.length<=50/\F.head?=hd.or (Fv (Pq g) i)/\μ pf=none/\Sub μ μ') ⟨v4,none,F1,rfl,e4,hF1,hL1,by rw [hH1];show hd=hd.or none;rw [Option.or_none],x4,S4⟩ (λ_ _ _ _=>trivial) ?_ ?_
  ·rintro i y τ μ5 W hy ⟨pf,o7,F,rfl,e5,hF,hL,hH,x5,S5⟩ hW
   have hi:i < g.rs.length:=by rw [<- am];exact(List.getElem?_eq_some_iff.mp hy).1
   have ey:=Dd _ _ _ hy
   subst ey
   rw [Int.zero_add]
   have d9:=List.getElem?_eq_getElem hi
   generalize g.rs[i]=r at d9
   have hrs:Pq g i=(L5 g i r).map λz=>(z,i):=by unfold Pq;rw [d9]
   intro pe i0
   have n1:pf≠pe:=by rintro rfl;rw [e5]at i0;cases i0
   have e6:Ar μ5 pe (.lst []) pf=some (.lst (F.map fA)):=by rw [Aj n1];exact e5
   have S6:Sub μ (Ar μ5 pe (.lst [])):=S5.new (S5.none i0)
   refine Ac (Dj e6 (Vd F)) (Ac (Dj Ad rfl) ⟨Su hF,Sr,?_⟩)
   have en:=N6 (F.map λo=>L6 (some o))
   refine br (λc=>?_) (λc=>hW _ _ ⟨pf,_,F,rfl,e6,hF,hL,?_,x5,S6⟩)
   ·have gp:F=[]:=by
     have c:=en.symm.trans c
     cases F with
     | nil=>rfl
     | cons a b=>cases c
    refine⟨g,i,r,rfl,hB,d9,λlw ws μ7 hlw e7 hh hlw2 qh S7=>Ac (A8 e7) λpc ao=>?_⟩
    refine cmap ws A7 (λz=>fA (z,i)) (fun τ=>∃o,τ=[o,some (.D (.int i))]) ⟨none,rfl⟩ Ad (seven (by omega)) (λ_=>A8 (by
     have m1:lw≠pc:=by rintro rfl;rw [e7]at ao;cases ao
     rw [Aj m1,Aj m1];exact e7)) ?_ ?_
    ·rintro j z τ' ah W2 hj ⟨o,rfl⟩ ef
     exact ef _ ⟨_,rfl⟩
    ·have S8:=(S6.trans S7)
     refine hW _ _ ⟨pc,_,ws.map λz=>(z,i),rfl,?_,λo ho=>?_,by rw [Yaa];omega,?_,S8.none ao,(S8.new (S8.none ao)).new (S8.none ao)⟩
     ·rw [Ad,Yat];rfl
     ·obtain⟨z,hz,rfl⟩:=Ybj.mp ho
      exact hlw2 z hz
     ·rw [Oe,<- Option.or_assoc,<- hH,gp,List.head?_map,hh,hrs];rfl
   ·have ay:F≠[]:=λz=>by rw [z]at c;exact absurd c (by decide)
    rw [Oe,<- Option.or_assoc,<- hH]
    cases F with
    | nil=>exact absurd rfl ay
    | cons a b=>rfl
  ·rintro τ μ5 ⟨pf,o7,F,rfl,e5,hF,hL,hH,x5,S5⟩
   rw [am]at hH
   exact hZ _ _ ⟨pf,o7,F,rfl,e5,hF,hL,hH,x5,S5⟩
 rintro τ μ5 ⟨iy,o7,F2,rfl,e5,hF2,hL2,i4,x5,S5⟩
 refine Ap (fun τ μ'=>∃F:List (Str×Nat),τ=[some (.D (B6 g)),some (.D (.tuple (g.pl.map B3))),some (.D (.tuple (g.le.map .str))),some (.D (.tuple (g.rs.map Bl))),some (.R iy),some (.R pn),o6,o7]/\μ' iy=some (.lst (F.map fA))/\F.length<=60/\F.head?=flt g/\(∀o∈F,lets o.1)/\Sub μ μ') (λZ hZ=>?_) ?_
 ·have e6:Ar μ5 iy (.lst (F2.map fA++[.D (.tuple [.str "rules",.int ((g.rs.map Bl).length:Nat)])])) iy=some (.lst ((F2++[(("rules" : Str),g.rs.length)]).map fA)):=by rw [Ad,Yak,Yaa];rfl
  refine dif (λc=>⟨Ac e5 trivial,Ac e5 ⟨Bs (by rw [Yaa];omega),hZ _ _ ⟨_,rfl,e6,by rw [Yae,List.length_singleton];omega,?_,λo ho=>?_,S5.new x5⟩⟩⟩) (λc=>hZ _ _ ⟨F2,rfl,e5,by omega,?_,hF2,S5⟩)
  ·rw [Yaa]at c
   rw [G8,i4,kf];unfold Zi;rw [Yaq (by omega)];rfl
  ·rcases Yaw.mp ho with h | h
   ·exact hF2 o h
   ·rw [Yax.mp h];exact Of "rules" (by decide +kernel)
  ·rw [Yaa]at c
   rw [i4,kf];unfold Zi;rw [Yan (by omega),Option.or_none]
 rintro τ μ6 ⟨F3,rfl,e6,hL3,hH3,hF3,S6⟩
 intro p1 h1
 have n1:iy≠p1:=by rintro rfl;rw [e6]at h1;cases h1
 have e7:Ar μ6 p1 (.lst [.D .none]) iy=some (.lst (F3.map fA)):=by rw [Aj n1];exact e6
 refine Ac e7 (Ac Ad ⟨seven (by rw [Yaa];show F3.length+1<=1000;omega),λp2 h2=>Ac Ad (Ac (x:=.D (L6 (flt g))) (Al (j:=0) ?_) ⟨_,Sub.refl,q _ ?_ ?_⟩)⟩)
 ·rw [<- hH3]
  cases F3 with
  | nil=>rfl
  | cons a b=>rfl
 ·have S7:=S6.new (m:=.lst [.D .none]) (S6.none h1)
  exact S7.new (S7.none h2)
 ·intro o ho
  rw [<- hH3]at ho
  exact hF3 o (List.mem_of_head? ho)
end
section
variable {P:Program}{w:World}{K:PySem.W.Frag}{mg:Str->Option Value}{base:Heap}{f:Addr}{fd:FuncData}
theorem _root_.L2.XCal.mono{P:Program}{w:World}{K:PySem.W.Frag}{mg:Str->Option Value}{base:Heap}{j k:Nat}{x:Str}{C:Addr}{c8:List Str}(c:XCal P w K mg base j x C c8)(h:j<=k):XCal P w K mg base k x C c8 :=
 let⟨f,fd,ps,G,r⟩:=c;⟨f,fd,ps,G.mono h,r⟩
abbrev nTo:List Str:=["_law_game_here","_law_found","e","_law_good"]
theorem Ps:FnScope nTo ["_law_game_here"] (Ag Zh):=⟨rfl,rfl,rfl,by decide +kernel,rfl,by decide +kernel,by decide +kernel⟩
theorem Qfr:kit "int" "bool" = false:=by decide
theorem Qfs:kit "int" "int" = true:=by decide
def Y2:ASp:=λxs μ R=>∃(g:Gz),xs=[.D (B6 g)]/\GzB 3 g/\∀ μ',Sub μ μ'->R (.D (L6 (flt g))) μ'
theorem Qc7{n:Nat}{c0 c1 c2 c3 c4 c5 c6 c7 D:Addr}(F:Fun K "_law_told" "_law_told" Zh f fd) (kz:Dh P w K mg base n "look" ["game"] (U7 c1)) (aj:mg "isinstance" = none) (bh:mg "ValueError" = none) (cb:mg "bool" = none) (bn:mg "int" = none)
  (sj:mg "NoText" = some (.ref c0)) (p8:mg "NoGame" = some (.ref c1)) (ri:mg "NoSaying" = some (.ref c2)) (vn:mg "TooMany" = some (.ref c3)) (yt:mg "NoPaper" = some (.ref c4)) (wk:mg "NoFit" = some (.ref c5)) (ye:mg "NoProgram" = some (.ref c6)) (zu:mg "NoRow" = some (.ref c7)) (mD:mg "DuelError" = some (.ref D))
  (er:Err K c1 D [c5,c4,c6,c7,c2,c0,c3]) (na:Dl K c1 "at") (nw:Dl K c1 "word"):FnOk P w K mg base En (n+1) f fd ["_law_game_here"] (Ih K 1 Y2):=by
 refine F.vok0 Ps λaq A outer s H E hr=>⟨_,(Jj (VS.z (An (i:=1) Ps.nd rfl (Or.inl rfl) A4))
   (Jj (Up (i:=2) (λxe pn EX hX=>(Ai (Bn (Aq Qbf (De kz hr hX rfl (Aa (vv 0) Ab)) E4 (nomark _)) (Ai (An (i:=1) Ps.nd rfl (Or.inl rfl) Re)) A0))) (λe=>(Ae (An (i:=3) Ps.nd rfl (Or.inl rfl) (J9 (Uu (K:=K) rfl rfl aj rfl mD (vv 2)) (J9 (Ry (K:=K) (T := "ValueError") rfl rfl aj rfl bh (by decide +kernel) (vv 2)) (Mv (Kc rfl aj rfl bn Yb1 Rv (G4 (K:=K) rfl (vv 2) rfl))))))
   (Ai (Bn (VW.pt (Ct (Dp (vv 3)) (Cs (Ej (Dp (Pj (K:=K) rfl rfl aj (Hs rfl wk (Hs rfl yt (Hs rfl ye (Hs rfl zu (Hs rfl ri (Hs rfl sj (Hs rfl vn X2))))))) (vv 2) (hl:=seven (n:=7) (by decide)))))))) (Ai (An (i:=1) Ps.nd rfl (Or.inl rfl) (A3 Bk (Cg (Aa (Az (Aa (G4 (K:=K) rfl (vv 2) rfl) (Aa (G4 (K:=K) rfl (vv 2) rfl) Ab))) (Aa A4 Ab))) (Bw N2 rfl bn Yb1 (Aa (Kc rfl aj rfl cb PyProof.Rows.boot_bool Jl (G4 (K:=K) rfl (vv 2) rfl)) Ab))))) A0)))) rfl p8 er.xc er.xi.toXCls.mb rfl rfl Ps.nd rfl rfl)
   (Rr (VS.z (Bd (vv 1)))))),?_⟩
 rintro xs μ R _ ⟨g,rfl,hB,q⟩
 refine Bv (Qba (Bv ?_))
 refine⟨g,rfl,hB,λhn=>?_,λo ho=>⟨er.me,?_⟩⟩
 ·rw [hn]at q
  exact Lb rfl ⟨μ,Sub.refl,q μ Sub.refl⟩
 ·rw [ho]at q
  refine Bv ⟨er.xi,Ac er.iD (Lb rfl ⟨er.xi,Ac er.iV (Lb rfl ⟨er.xi.toXCls,na,Ac rfl (Ac rfl ?_)⟩)⟩)⟩
  refine Lb Qfs ⟨er.xi,Ac er.no (Lb rfl ⟨er.xi.toXCls,nw,Ac rfl ⟨er.xi.toXCls,na,Ac rfl λp hp=>⟨er.xi.toXCls,na,Ac rfl (Ac rfl (Ac Ad (Ac (x:=.D (L6 (some o))) ?_ ⟨_,Sub.refl,q _ (Sub.refl.new hp)⟩)))⟩⟩⟩)⟩
  rw [Qfr];rfl
def nX:AX:=λ_ _ _=>False
theorem Qc8{X:Cx}:XA X nX:=λaa σ H1 s1 a C d vs I q R h=>by
 obtain⟨_,_,_,_,_,_,_,_,_,_,z⟩:=h
 exact z.elim
theorem GzB.mono{n m:Nat}{g:Gz}(h:GzB n g)(hm:n<=m):GzB m g:=⟨by have:=h.p;omega,by have:=h.l;omega,by have:=h.r;omega,h.pn,h.ln,h.rw⟩
theorem Pot.sub{μ ν:M}{a l:Addr}(h:Pot μ a l)(S:Sub μ ν):Pot ν a l :=
 let⟨sd,nm,ns,h⟩:=h;⟨sd,nm,ns,S _ _ h.ha,S _ _ h.hl,h.s0,h.s1,h.n0,h.p0,h.ne⟩
theorem Qc9{o:Option (Str×Nat)}(h:∀p,o=some p->lets p.1):Bq (L6 o):=by
 cases o with
 | none=>exact⟨rfl,by simp [L6,PyData.depth]⟩
 | some p =>
  have h3:=G5 (h p rfl)
  exact⟨by simp only [L6,PyData.canLay0,PyData.canLayAll0]at h3 ⊢;rw [h3];rfl,by simp [L6,PyData.depth,PyData.depthAll]⟩
abbrev Qda:List Str:=["_law_script","_law_deal_here","_law_game_here","_law_second","_law_k","_law_other","_law_turn"]
theorem Gr:FnScope Qda ["_law_script"] (Ag Hx):=⟨rfl,rfl,rfl,by decide +kernel,rfl,by decide +kernel,by decide +kernel⟩
def spL:ASp:=λxs μ R=>∃ns:List Int,xs=[.D (Fc ns)]/\ns.length<=63/\∀ μ',R (.D (.bool true)) μ'
theorem Ve{n:Nat}{C:Addr}(F:Fun K "law" "law" Hx f fd) (vt:VCal P w K mg base n "_law_deal" ["_law_script","_law_base"] Yl) (qq:VCal P w K mg base n "_law_game" ["_law_deal_here"] Yx) (lp:VCal P w K mg base n "_law_rules_right" ["_law_game_here"] Yu) (qu:VCal P w K mg base n "_law_spoilt" ["_law_deal_here","_law_game_here"] Sn) (bd:VCal P w K mg base n "_law_draw" ["_law_deal_here","_law_many"] Fq) (xo:VCal P w K mg base n "_law_told" ["_law_game_here"] Y2) (xf:VCal P w K mg base n "_law_due" ["_law_game_here"] Y1) (kz:Dh P w K mg base n "look" ["game"] (U7 C)) (ai:mg "range" = none) (ae:mg "len" = none):FnOk P w K mg base En (n+1) f fd ["_law_script"] (Ih K 1 spL):=by
 refine F.vok Gr λaq A outer s H E hr=>have hX:=Qc8 (X:=(Fz En P w K mg base Qda "law" (Ag Hx) f aq A outer s H E).nox);⟨_,(Ae (An (i:=1) Gr.nd rfl (Or.inl rfl) (Ak vt hr rfl (Aa (vv 0) (Aa Af Ab))))
   (Ae (An (i:=2) Gr.nd rfl (Or.inl rfl) (Ak qq hr rfl (Aa (vv 1) Ab)))
   (Ae (An (i:=3) Gr.nd rfl (Or.inl rfl) (Ak qq hr rfl (Aa (vv 1) Ab)))
   (Ae (Bn (VW.pt (Fj (Ej (Dp (Ak lp hr rfl (Aa (vv 2) Ab)))) (D3 (Ej (Dp (Ak lp hr rfl (Aa (vv 3) Ab))))))) (Ai (Bd E4)) A0)
   (Ae (C6 Ybk rfl (Bt rfl ai (Aa (Au Bh Af (Ah Ba rfl ae Yad (Aa (Ax (vv 0) Bc (A6 Af)) Ab))) Ab)) (Am (i:=4) Gr.nd rfl (Or.inl rfl)) (Ae (An (i:=5) Gr.nd rfl (Or.inl rfl) (Ak qu hr rfl (Aa (vv 1) (Aa (vv 2) Ab))))
   (Ae (C6 Ybk rfl (Bt rfl ai (Aa (Ak bd hr rfl (Aa (vv 1) (Aa Af Ab))) Ab)) (Am (i:=6) Gr.nd rfl (Or.inl rfl)) (Ai (An (i:=5) Gr.nd rfl (Or.inl rfl) (Ak qu hr rfl (Aa (vv 1) (Aa (vv 5) Ab))))))
   (Ai (Bn (VW.pt (Fj (Aq (Xr hr) (Ak xo hr rfl (Aa (vv 5) Ab)) (Ak xf hr rfl (Aa (vv 5) Ab)) (nomark _)) (D3 (Aq X3 (De kz hr hX rfl (Aa (vv 2) Ab)) E4 (nomark _))))) (Ai (Bd E4)) A0)))))
   (Ai (Bd (Ak lp hr rfl (Aa (vv 2) Ab))))))))),?_⟩
 rintro xs μ R _ ⟨ns,rfl,hn,q⟩
 refine Bv ⟨ns,0,rfl,by decide,hn,λa l μ1 _ _ P1 _=>?_⟩
 dsimp only [Ch,List.set,C0]
 refine Bv ⟨a,l,rfl,P1,λg μ2 hg hf P2 _=>?_⟩
 dsimp only [Ch,List.set,C0]
 refine Ap (fun τ μ'=>∃g2:Gz,τ=[some (.D (Fc ns)),some (.R a),some (.D (B6 g)),some (.D (B6 g2)),none,none,none]/\GzB 0 g2/\Pot μ' a l) (λZ hZ=>⟨a,l,rfl,P2,λg2 μ3 h2 _ P3 _=>hZ _ _ ⟨g2,rfl,h2,P3⟩⟩) ?_
 rintro τ μ3 ⟨g2,rfl,d7,P3⟩
 have wa:=hg.mono (m:=3) (by omega)
 have yo:=d7.mono (m:=3) (by omega)
 refine Ap (fun τ μ'=>τ=[some (.D (Fc ns)),some (.R a),some (.D (B6 g)),some (.D (B6 g2)),none,none,none]/\Pot μ' a l) (λZ hZ=>⟨g,rfl,wa,fun μ4 S4=>Jg rfl ⟨g2,rfl,yo,fun μ5 S5=>Jg rfl (hZ _ _ ⟨rfl,P3.sub (S4.trans S5)⟩)⟩⟩) ?_
 rintro τ μ4 ⟨rfl,P4⟩
 refine Ap (fun τ μ'=>∃o4 o5 o6,τ=[some (.D (Fc ns)),some (.R a),some (.D (B6 g)),some (.D (B6 g2)),o4,o5,o6]/\Pot μ' a l) (λZ hZ=>?_) ?_
 ·refine Ac (Jo _ ns) λps fq=>?_
  obtain⟨ys,ey,hy⟩:=Ln Ex ns none (some 6)
  rw [ey]
  refine Ac Ad ⟨by rw [Yaa];omega,by rw [Yaa];omega,?_⟩
  refine El (λi τ μ'=>∃o4 o5 o6,τ=[some (.D (Fc ns)),some (.R a),some (.D (B6 g)),some (.D (B6 g2)),o4,o5,o6]/\Pot μ' a l) ⟨none,none,none,rfl,P4.new fq⟩ (λ_ _ _ _=>trivial) ?_ ?_
  ·rintro i y τ μ5 W hy2 ⟨o4,o5,o6,rfl,P5⟩ hW
   refine Ap (fun τ μ'=>∃h:Gz,τ=[some (.D (Fc ns)),some (.R a),some (.D (B6 g)),some (.D (B6 g2)),some y,some (.D (B6 h)),o6]/\GzB 1 h/\Pot μ' a l) (λZ2 ck=>⟨a,l,0,g,rfl,by omega,hg,P5,λh μ6 hh P6 _=>ck _ _ ⟨h,rfl,hh,P6⟩⟩) ?_
   rintro τ μ6 ⟨h0,rfl,hh0,P6⟩
   refine Ap (fun τ μ'=>∃o6,∃h:Gz,τ=[some (.D (Fc ns)),some (.R a),some (.D (B6 g)),some (.D (B6 g2)),some y,some (.D (B6 h)),o6]/\GzB 3 h/\Pot μ' a l) (λZ2 ck=>?_) ?_
   ·refine⟨a,l,3,rfl,P6,by decide,by decide,λc μ7 hc P7 _=>⟨by omega,by omega,?_⟩⟩
    have am:(Db 0 (c:Int).toNat).length=c:=by rw [Bo];omega
    refine El (λi τ μ'=>∃o6,∃h:Gz,τ=[some (.D (Fc ns)),some (.R a),some (.D (B6 g)),some (.D (B6 g2)),some y,some (.D (B6 h)),o6]/\GzB (1+i) h/\Pot μ' a l) ⟨_,h0,rfl,hh0,P7⟩ (λ_ _ _ _=>trivial) ?_ ?_
    ·rintro j y2 τ μ8 W2 hy3 ⟨o6',h,rfl,hh,P8⟩ ef
     have hj:j < c:=by rw [<- am];exact(List.getElem?_eq_some_iff.mp hy3).1
     exact⟨a,l,1+j,h,rfl,by omega,hh,P8,λh' μ9 hh' P9 _=>ef _ _ ⟨_,h',rfl,hh'.mono (by omega),P9⟩⟩
    ·rintro τ μ8 ⟨o6',h,rfl,hh,P8⟩
     rw [am]at hh
     exact ck _ _ ⟨_,h,rfl,hh.mono (by omega),P8⟩
   rintro τ μ7 ⟨o6',h,rfl,hh,P7⟩
   refine⟨h,rfl,hh,fun μ8 S8=>⟨h,rfl,hh,fun μ9 S9 hok=>?_⟩⟩
   have e1:=Qc9 hok
   refine⟨e1,e1,Jg (by rw [PySem.SeqAt.eqv_refl _ e1.1];rfl) ⟨g,rfl,wa,λ_=>Jg rfl (hW _ _ ⟨_,_,_,rfl,P7.sub (S8.trans S9)⟩),λo ho=>?_⟩⟩
   rw [hf]at ho;cases ho
  ·rintro τ μ5 ⟨o4,o5,o6,rfl,P5⟩
   exact hZ _ _ ⟨_,_,_,rfl,P5⟩
 rintro τ μ5 ⟨o4,o5,o6,rfl,P5⟩
 exact⟨g,rfl,wa,fun μ6 S6=>⟨_,Sub.refl,q _⟩⟩
def Oh(K:PySem.W.Frag):Sp:=λvs H Q _=>∃(a:Addr) (ns:List Int),vs=[.ref a]/\Dq K H a (ns.map V.int)/\Only H/\ns.length<=63/\∀H',Q (.bl true) H'
theorem Oi{H:Hp}:∀(ns:List Int),Ao K H (ns.map .int) (ns.map V.int)
 | []=>Dz
 | n :: ns=>C2 Cm (Oi ns)
theorem Y3{n:Nat}{C:Addr}(F:Fun K "law" "law" Hx f fd) (vt:VCal P w K mg base n "_law_deal" ["_law_script","_law_base"] Yl) (qq:VCal P w K mg base n "_law_game" ["_law_deal_here"] Yx) (lp:VCal P w K mg base n "_law_rules_right" ["_law_game_here"] Yu) (qu:VCal P w K mg base n "_law_spoilt" ["_law_deal_here","_law_game_here"] Sn) (bd:VCal P w K mg base n "_law_draw" ["_law_deal_here","_law_many"] Fq) (xo:VCal P w K mg base n "_law_told" ["_law_game_here"] Y2) (xf:VCal P w K mg base n "_law_due" ["_law_game_here"] Y1) (kz:Dh P w K mg base n "look" ["game"] (U7 C)) (ai:mg "range" = none) (ae:mg "len" = none):FnOk P w K mg base En (n+1) f fd ["_law_script"] (Oh K):=by
 refine(Ve F vt qq lp qu bd xo xf kz ai ae).imp ?_
 rintro vs H Q E ⟨a,ns,rfl,hS,hO,hl,q⟩
 refine⟨[.D (Fc ns)],λ_=>none,λv _=>v=.D (.bool true),rfl,.cons ?_ .nil,(λ_ _ z=>nomatch z),⟨ns,rfl,hl,λ_=>rfl⟩,?_⟩
 ·refine Xp (xs:=ns.map V.int) ?_ (Oi ns)
  rcases hS with(h | h) | h
  ·rcases hO a with z | ⟨o,xs,z⟩
   ·rw [z]at h;cases h
   ·rw [z]at h;cases h
  ·exact .inl h
  ·exact .inr h
 ·rintro x μ v H' _ _ rx rfl
  cases RelA.bl rx
  exact q _
end
theorem Gs{us:List Value}(h:us.length=1):∃a0,us=[a0]:=by
 obtain⟨a0,t,rfl,h2⟩:=Dt h
 rw [List.eq_nil_of_length_eq_zero h2];exact⟨a0,rfl⟩
theorem Em{us:List Value}(h:us.length=2):∃a0 a1,us=[a0,a1]:=by
 obtain⟨a0,t,rfl,h2⟩:=Dt h
 obtain⟨a1,rfl⟩:=Gs h2
 exact⟨a0,a1,rfl⟩
theorem L4{us:List Value}(h:us.length=3):∃a0 a1 a2,us=[a0,a1,a2]:=by
 obtain⟨a0,t,rfl,h2⟩:=Dt h
 obtain⟨a1,a2,rfl⟩:=Em h2
 exact⟨a0,a1,a2,rfl⟩
theorem Wc{us:List Value}(h:us.length=4):∃a0 a1 a2 a3,us=[a0,a1,a2,a3]:=by
 obtain⟨a0,t,rfl,h2⟩:=Dt h
 obtain⟨a1,a2,a3,rfl⟩:=L4 h2
 exact⟨a0,a1,a2,a3,rfl⟩
theorem all_mk{l:PySem.W.OpenLaw}{w:World}{K:PySem.W.Frag}{h:Heap}{mg:Str->Option Value}{fa f1 f2 f3 f4 f5 f6 f7 f8 f9 ur yh y7 r9 z6 xw ym v8 u7 xh yw yb yx sk c0 c1 c2 c3 c4 c5 c6 c7 D p9:Addr}(X:K.In h)(G:h.Ns mainGlobals mg)(hfa:mg "law" = some (.ref fa))
  {od1 an1 od2 an2 od3 an3 od4 an4 od5 an5 od6 an6 od7 an7 od8 an8 od9 an9 zx yr w6 rg tm wb u8 yy zj wq zr sg yp w9 zv sy wt za wd ww yd xu zk wn ug sx yu m7 xz qx:Option Addr} {sl1 jt sl3 sl4 sl5 sl6 sl7 sl8 sl9 t8 wu t9 yk um tw uq wj yc vz ux zn tf ul v7:Array (Option Value)} {oc1 kV1 dc1 pm1 cd1 ct1 oc2 kV2 dc2 pm2 cd2 ct2 oc3 kV3 dc3 pm3 cd3 ct3 oc4 kV4 dc4 pm4 cd4 ct4 oc5 kV5 dc5 pm5 cd5 ct5 oc6 kV6 dc6 pm6 cd6 ct6 oc7 kV7 dc7 pm7 cd7 ct7 oc8 kV8 dc8 pm8 cd8 ct8 oc9 kV9 dc9 pm9 cd9 ct9 vd tu uc so nt u4 wm zl vk vw pj si uo ui xx uw lx uv x8 sr xy ud l0 xq xj va we wg j8 wf v3 qy vp z5 n6 ua yq re yi wc j6 ya u9 qz wo w5 km vc vj wx vm tz ku y9 xt yj v5 xk j0 x0 uy wy xp ss jw x9 u6 vy sv uh kx r6 wz vb vx xb my vi v2 ma oi kd i5 lu vh zb zc sf kc v6:Value}
  {t1 t2 t3 t4 t5 t6:Tok}
  (a1:PySem.W.nsIn K mainGlobals "is_there" = some (some (.ref f1)))
  (l1:K.lookup f1=some ⟨oc1,od1,.func (PySem.W.fnOf "is_there" "is_there" (Bf Y8) (A5 Y8) (Ag Y8) .none kV1 dc1 pm1 an1 cd1 ct1),sl1⟩)
  (c_1:PySem.W.codeIn K cd1 "is_there" = true)
  (k1:PySem.W.keepIn K (.ref f1)=true)
  (a2:PySem.W.nsIn K mainGlobals "rules_at" = some (some (.ref f2)))
  (l2:K.lookup f2=some ⟨oc2,od2,.func (PySem.W.fnOf "rules_at" "rules_at" (Bf Yd) (A5 Yd) (Ag Yd) .none kV2 dc2 pm2 an2 cd2 ct2),jt⟩)
  (c_2:PySem.W.codeIn K cd2 "rules_at" = true)
  (k2:PySem.W.keepIn K (.ref f2)=true)
  (a3:PySem.W.nsIn K mainGlobals "look" = some (some (.ref f3)))
  (l3:K.lookup f3=some ⟨oc3,od3,.func (PySem.W.fnOf "look" "look" (Bf Ye) (A5 Ye) (Ag Ye) .none kV3 dc3 pm3 an3 cd3 ct3),sl3⟩)
  (c_3:PySem.W.codeIn K cd3 "look" = true)
  (k3:PySem.W.keepIn K (.ref f3)=true)
  (a4:PySem.W.nsIn K mainGlobals "look_size" = some (some (.ref f4)))
  (l4:K.lookup f4=some ⟨oc4,od4,.func (PySem.W.fnOf "look_size" "look_size" (Bf Y9) (A5 Y9) (Ag Y9) .none kV4 dc4 pm4 an4 cd4 ct4),sl4⟩)
  (c_4:PySem.W.codeIn K cd4 "look_size" = true)
  (k4:PySem.W.keepIn K (.ref f4)=true)
  (a5:PySem.W.nsIn K mainGlobals "look_unlike" = some (some (.ref f5)))
  (l5:K.lookup f5=some ⟨oc5,od5,.func (PySem.W.fnOf "look_unlike" "look_unlike" (Bf Za) (A5 Za) (Ag Za) .none kV5 dc5 pm5 an5 cd5 ct5),sl5⟩)
  (c_5:PySem.W.codeIn K cd5 "look_unlike" = true)
  (k5:PySem.W.keepIn K (.ref f5)=true)
  (a6:PySem.W.nsIn K mainGlobals "look_rule" = some (some (.ref f6)))
  (l6:K.lookup f6=some ⟨oc6,od6,.func (PySem.W.fnOf "look_rule" "look_rule" (Bf V0) (A5 V0) (Ag V0) .none kV6 dc6 pm6 an6 cd6 ct6),sl6⟩)
  (c_6:PySem.W.codeIn K cd6 "look_rule" = true)
  (k6:PySem.W.keepIn K (.ref f6)=true)
  (a7:PySem.W.nsIn K mainGlobals "has_its_parts" = some (some (.ref f7)))
  (l7:K.lookup f7=some ⟨oc7,od7,.func (PySem.W.fnOf "has_its_parts" "has_its_parts" (Bf Yf) (A5 Yf) (Ag Yf) .none kV7 dc7 pm7 an7 cd7 ct7),sl7⟩)
  (c_7:PySem.W.codeIn K cd7 "has_its_parts" = true)
  (k7:PySem.W.keepIn K (.ref f7)=true)
  (a8:PySem.W.nsIn K mainGlobals "is_push" = some (some (.ref f8)))
  (l8:K.lookup f8=some ⟨oc8,od8,.func (PySem.W.fnOf "is_push" "is_push" (Bf Zb) (A5 Zb) (Ag Zb) .none kV8 dc8 pm8 an8 cd8 ct8),sl8⟩)
  (c_8:PySem.W.codeIn K cd8 "is_push" = true)
  (k8:PySem.W.keepIn K (.ref f8)=true)
  (a9:PySem.W.nsIn K mainGlobals "_law_deal" = some (some (.ref f9)))
  (l9:K.lookup f9=some ⟨oc9,od9,.func (PySem.W.fnOf "_law_deal" "_law_deal" (Bf V1) (A5 V1) (Ag V1) .none kV9 dc9 pm9 an9 cd9 ct9),sl9⟩)
  (c_9:PySem.W.codeIn K cd9 "_law_deal" = true)
  (k9:PySem.W.keepIn K (.ref f9)=true)
  (a10:PySem.W.nsIn K mainGlobals "_law_draw" = some (some (.ref ur)))
  (l10:K.lookup ur=some ⟨vd,zx,.func (PySem.W.fnOf "_law_draw" "_law_draw" (Bf Zc) (A5 Zc) (Ag Zc) .none tu uc so yr nt u4),t8⟩)
  (c_10:PySem.W.codeIn K nt "_law_draw" = true)
  (k10:PySem.W.keepIn K (.ref ur)=true)
  (a11:PySem.W.nsIn K mainGlobals "_law_names" = some (some (.ref yh)))
  (l11:K.lookup yh=some ⟨wm,w6,.func (PySem.W.fnOf "_law_names" "_law_names" (Bf Yg) (A5 Yg) (Ag Yg) .none zl vk vw rg pj si),wu⟩)
  (c_11:PySem.W.codeIn K pj "_law_names" = true)
  (k11:PySem.W.keepIn K (.ref yh)=true)
  (a12:PySem.W.nsIn K mainGlobals "_law_put" = some (some (.ref y7)))
  (l12:K.lookup y7=some ⟨uo,tm,.func (PySem.W.fnOf "_law_put" "_law_put" (Bf Yh) (A5 Yh) (Ag Yh) .none ui xx uw wb lx uv),t9⟩)
  (c_12:PySem.W.codeIn K lx "_law_put" = true)
  (k12:PySem.W.keepIn K (.ref y7)=true)
  (a13:PySem.W.nsIn K mainGlobals "_law_rule" = some (some (.ref r9)))
  (l13:K.lookup r9=some ⟨x8,u8,.func (PySem.W.fnOf "_law_rule" "_law_rule" (Bf Zd) (A5 Zd) (Ag Zd) .none sr xy ud yy l0 xq),yk⟩)
  (c_13:PySem.W.codeIn K l0 "_law_rule" = true)
  (k13:PySem.W.keepIn K (.ref r9)=true)
  (a14:PySem.W.nsIn K mainGlobals "_law_game" = some (some (.ref z6)))
  (l14:K.lookup z6=some ⟨xj,zj,.func (PySem.W.fnOf "_law_game" "_law_game" (Bf Uz) (A5 Uz) (Ag Uz) .none va we wg wq j8 wf),um⟩)
  (c_14:PySem.W.codeIn K j8 "_law_game" = true)
  (k14:PySem.W.keepIn K (.ref z6)=true)
  (a15:PySem.W.nsIn K mainGlobals "_law_other_names" = some (some (.ref xw)))
  (l15:K.lookup xw=some ⟨v3,zr,.func (PySem.W.fnOf "_law_other_names" "_law_other_names" (Bf V2) (A5 V2) (Ag V2) .none qy vp z5 sg n6 ua),tw⟩)
  (c_15:PySem.W.codeIn K n6 "_law_other_names" = true)
  (k15:PySem.W.keepIn K (.ref xw)=true)
  (a16:PySem.W.nsIn K mainGlobals "_law_other_rule" = some (some (.ref ym)))
  (l16:K.lookup ym=some ⟨yq,yp,.func (PySem.W.fnOf "_law_other_rule" "_law_other_rule" (Bf Ze) (A5 Ze) (Ag Ze) .none re yi wc w9 j6 ya),uq⟩)
  (c_16:PySem.W.codeIn K j6 "_law_other_rule" = true)
  (k16:PySem.W.keepIn K (.ref ym)=true)
  (a17:PySem.W.nsIn K mainGlobals "_law_more_rules" = some (some (.ref v8)))
  (l17:K.lookup v8=some ⟨u9,zv,.func (PySem.W.fnOf "_law_more_rules" "_law_more_rules" (Bf Zf) (A5 Zf) (Ag Zf) .none qz wo w5 sy km vc),wj⟩)
  (c_17:PySem.W.codeIn K km "_law_more_rules" = true)
  (k17:PySem.W.keepIn K (.ref v8)=true)
  (a18:PySem.W.nsIn K mainGlobals "_law_spoilt" = some (some (.ref u7)))
  (l18:K.lookup u7=some ⟨vj,wt,.func (PySem.W.fnOf "_law_spoilt" "_law_spoilt" (Bf Zg) (A5 Zg) (Ag Zg) .none wx vm tz za ku y9),yc⟩)
  (c_18:PySem.W.codeIn K ku "_law_spoilt" = true)
  (k18:PySem.W.keepIn K (.ref u7)=true)
  (a19:PySem.W.nsIn K mainGlobals "_law_rule_faults" = some (some (.ref xh)))
  (l19:K.lookup xh=some ⟨xt,wd,.func (PySem.W.fnOf "_law_rule_faults" "_law_rule_faults" (Bf Sw) (A5 Sw) (Ag Sw) .none yj v5 xk ww j0 x0),vz⟩)
  (c_19:PySem.W.codeIn K j0 "_law_rule_faults" = true)
  (k19:PySem.W.keepIn K (.ref xh)=true)
  (a20:PySem.W.nsIn K mainGlobals "_law_due" = some (some (.ref yw)))
  (l20:K.lookup yw=some ⟨uy,yd,.func (PySem.W.fnOf "_law_due" "_law_due" (Bf U0) (A5 U0) (Ag U0) .none wy xp ss xu jw x9),ux⟩)
  (c_20:PySem.W.codeIn K jw "_law_due" = true)
  (k20:PySem.W.keepIn K (.ref yw)=true)
  (a21:PySem.W.nsIn K mainGlobals "_law_told" = some (some (.ref yb)))
  (l21:K.lookup yb=some ⟨u6,zk,.func (PySem.W.fnOf "_law_told" "_law_told" (Bf Zh) (A5 Zh) (Ag Zh) .none vy sv uh wn kx r6),zn⟩)
  (c_21:PySem.W.codeIn K kx "_law_told" = true)
  (k21:PySem.W.keepIn K (.ref yb)=true)
  (a22:PySem.W.nsIn K mainGlobals "_law_rules_right" = some (some (.ref yx)))
  (l22:K.lookup yx=some ⟨wz,ug,.func (PySem.W.fnOf "_law_rules_right" "_law_rules_right" (Bf Yi) (A5 Yi) (Ag Yi) .none vb vx xb sx my vi),tf⟩)
  (c_22:PySem.W.codeIn K my "_law_rules_right" = true)
  (k22:PySem.W.keepIn K (.ref yx)=true)
  (a23:PySem.W.nsIn K mainGlobals "law" = some (some (.ref sk)))
  (l23:K.lookup sk=some ⟨v2,yu,.func (PySem.W.fnOf "law" "law" (Bf Hx) (A5 Hx) (Ag Hx) .none ma oi kd m7 i5 lu),ul⟩)
  (c_23:PySem.W.codeIn K i5 "law" = true)
  (k23:PySem.W.keepIn K (.ref sk)=true)
  (u_c0:PySem.W.nsIn K mainGlobals "NoText" = some (some (.ref c0)))
  (u_c1:PySem.W.nsIn K mainGlobals "NoGame" = some (some (.ref c1)))
  (u_c2:PySem.W.nsIn K mainGlobals "NoSaying" = some (some (.ref c2)))
  (u_c3:PySem.W.nsIn K mainGlobals "TooMany" = some (some (.ref c3)))
  (u_c4:PySem.W.nsIn K mainGlobals "NoPaper" = some (some (.ref c4)))
  (u_c5:PySem.W.nsIn K mainGlobals "NoFit" = some (some (.ref c5)))
  (u_c6:PySem.W.nsIn K mainGlobals "NoProgram" = some (some (.ref c6)))
  (u_c7:PySem.W.nsIn K mainGlobals "NoRow" = some (some (.ref c7)))
  (u_D:PySem.W.nsIn K mainGlobals "DuelError" = some (some (.ref D)))
  (e_c1:Rx K c1 D [c5,c4,c6,c7,c2,c0,c3]=true)
  (i_c1:PySem.W.findIn K (.ref c1) "__init__" = some (some (.ref p9)))
  (n_c1:PySem.W.isFn K (.ref p9)=true)
  (l_c1:K.lookup p9=some ⟨vh,xz,.func (PySem.W.fnOf "__init__" "NoGame.__init__" (Bf Pm) (A5 Pm) (Ag Pm) .none zb zc sf qx kc v6),v7⟩)
  (c_c1:PySem.W.codeIn K kc "NoGame.__init__" = true)
  (k_c1:PySem.W.keepIn K (.ref p9)=true)
  (na_c1_word:PySem.W.findIn K (.ref c1) "word" = some none)
  (na_c1_at:PySem.W.findIn K (.ref c1) "at" = some none)
  (z_isinstance:PySem.W.nsIn K mainGlobals "isinstance" = some none)
  (z_bool:PySem.W.nsIn K mainGlobals "bool" = some none)
  (z_enumerate:PySem.W.nsIn K mainGlobals "enumerate" = some none)
  (z_len:PySem.W.nsIn K mainGlobals "len" = some none)
  (z_range:PySem.W.nsIn K mainGlobals "range" = some none)
  (z_all:PySem.W.nsIn K mainGlobals "all" = some none)
  (z_max:PySem.W.nsIn K mainGlobals "max" = some none)
  (z_list:PySem.W.nsIn K mainGlobals "list" = some none)
  (z_reversed:PySem.W.nsIn K mainGlobals "reversed" = some none)
  (z_tuple:PySem.W.nsIn K mainGlobals "tuple" = some none)
  (z_int:PySem.W.nsIn K mainGlobals "int" = some none)
  (z_ValueError:PySem.W.nsIn K mainGlobals "ValueError" = some none)
  (y1:PySem.W.nsIn K mainGlobals "MOST_PLACES" = some (some (.int 3 t1)))
  (y2:PySem.W.nsIn K mainGlobals "MOST_LETTERS" = some (some (.int 3 t2)))
  (y3:PySem.W.nsIn K mainGlobals "MOST_RULES" = some (some (.int 8 t3)))
  (y4:PySem.W.nsIn K mainGlobals "MOST_PUSHES" = some (some (.int 3 t4)))
  (y5:PySem.W.nsIn K mainGlobals "MOST_ANSWERS" = some (some (.int 2 t5)))
  (y6:PySem.W.nsIn K mainGlobals "OTHER_HAND" = some (some (.int 1 t6))) :
  ∃fd:FuncData,(∀(s:Shared) (v:Value),BindsTo s fd ⟨[v],[]⟩ [("_law_script",v)])/\∀base:Heap,K.In base->base.Ns mainGlobals mg->FnOk l.prog w K mg base En 65 fa fd ["_law_script"] (Oh K):=by
 have e:=hfa.symm.trans (Yaj X G a23)
 cases e
 have F1:=Br (st:=Y8) l1 c_1 k1
 have F2:=Br (st:=Yd) l2 c_2 k2
 have F3:=Br (st:=Ye) l3 c_3 k3
 have F4:=Br (st:=Y9) l4 c_4 k4
 have F5:=Br (st:=Za) l5 c_5 k5
 have F6:=Br (st:=V0) l6 c_6 k6
 have F7:=Br (st:=Yf) l7 c_7 k7
 have F8:=Br (st:=Zb) l8 c_8 k8
 have F9:=Br (st:=V1) l9 c_9 k9
 have F10:=Br (st:=Zc) l10 c_10 k10
 have F11:=Br (st:=Yg) l11 c_11 k11
 have F12:=Br (st:=Yh) l12 c_12 k12
 have F13:=Br (st:=Zd) l13 c_13 k13
 have F14:=Br (st:=Uz) l14 c_14 k14
 have F15:=Br (st:=V2) l15 c_15 k15
 have F16:=Br (st:=Ze) l16 c_16 k16
 have F17:=Br (st:=Zf) l17 c_17 k17
 have F18:=Br (st:=Zg) l18 c_18 k18
 have F19:=Br (st:=Sw) l19 c_19 k19
 have F20:=Br (st:=U0) l20 c_20 k20
 have F21:=Br (st:=Zh) l21 c_21 k21
 have F22:=Br (st:=Yi) l22 c_22 k22
 have F23:=Br (st:=Hx) l23 c_23 k23
 have Fc1:=Br (st:=Pm) l_c1 c_c1 k_c1
 have b1:=F1.binds (ps:=["number","many"]) λ_ _ _ _ _ _ us hl=>by obtain⟨a0,a1,rfl⟩:=Em hl;rfl
 have b2:=F2.binds (ps:=["game","place","letter"]) λ_ _ _ _ _ _ us hl=>by obtain⟨a0,a1,a2,rfl⟩:=L4 hl;rfl
 have b3:=F3.binds (ps:=["game"]) λ_ _ _ _ _ _ us hl=>by obtain⟨a0,rfl⟩:=Gs hl;rfl
 have b4:=F4.binds (ps:=["word","many","most"]) λ_ _ _ _ _ _ us hl=>by obtain⟨a0,a1,a2,rfl⟩:=L4 hl;rfl
 have b5:=F5.binds (ps:=["names"]) λ_ _ _ _ _ _ us hl=>by obtain⟨a0,rfl⟩:=Gs hl;rfl
 have b6:=F6.binds (ps:=["game","number"]) λ_ _ _ _ _ _ us hl=>by obtain⟨a0,a1,rfl⟩:=Em hl;rfl
 have b7:=F7.binds (ps:=["game","rule"]) λ_ _ _ _ _ _ us hl=>by obtain⟨a0,a1,rfl⟩:=Em hl;rfl
 have b8:=F8.binds (ps:=["rule"]) λ_ _ _ _ _ _ us hl=>by obtain⟨a0,rfl⟩:=Gs hl;rfl
 have b9:=F9.binds (ps:=["_law_script","_law_base"]) λ_ _ _ _ _ _ us hl=>by obtain⟨a0,a1,rfl⟩:=Em hl;rfl
 have b10:=F10.binds (ps:=["_law_deal_here","_law_many"]) λ_ _ _ _ _ _ us hl=>by obtain⟨a0,a1,rfl⟩:=Em hl;rfl
 have b11:=F11.binds (ps:=["_law_deal_here","_law_many"]) λ_ _ _ _ _ _ us hl=>by obtain⟨a0,a1,rfl⟩:=Em hl;rfl
 have b12:=F12.binds (ps:=["_law_deal_here","_law_many"]) λ_ _ _ _ _ _ us hl=>by obtain⟨a0,a1,rfl⟩:=Em hl;rfl
 have b13:=F13.binds (ps:=["_law_deal_here","_law_places","_law_letters"]) λ_ _ _ _ _ _ us hl=>by obtain⟨a0,a1,a2,rfl⟩:=L4 hl;rfl
 have b14:=F14.binds (ps:=["_law_deal_here"]) λ_ _ _ _ _ _ us hl=>by obtain⟨a0,rfl⟩:=Gs hl;rfl
 have b15:=F15.binds (ps:=["_law_deal_here","_law_game_here"]) λ_ _ _ _ _ _ us hl=>by obtain⟨a0,a1,rfl⟩:=Em hl;rfl
 have b16:=F16.binds (ps:=["_law_deal_here","_law_rule_here","_law_places","_law_letters"]) λ_ _ _ _ _ _ us hl=>by obtain⟨a0,a1,a2,a3,rfl⟩:=Wc hl;rfl
 have b17:=F17.binds (ps:=["_law_deal_here","_law_rules","_law_places","_law_letters"]) λ_ _ _ _ _ _ us hl=>by obtain⟨a0,a1,a2,a3,rfl⟩:=Wc hl;rfl
 have b18:=F18.binds (ps:=["_law_deal_here","_law_game_here"]) λ_ _ _ _ _ _ us hl=>by obtain⟨a0,a1,rfl⟩:=Em hl;rfl
 have b19:=F19.binds (ps:=["_law_game_here","_law_at"]) λ_ _ _ _ _ _ us hl=>by obtain⟨a0,a1,rfl⟩:=Em hl;rfl
 have b20:=F20.binds (ps:=["_law_game_here"]) λ_ _ _ _ _ _ us hl=>by obtain⟨a0,rfl⟩:=Gs hl;rfl
 have b21:=F21.binds (ps:=["_law_game_here"]) λ_ _ _ _ _ _ us hl=>by obtain⟨a0,rfl⟩:=Gs hl;rfl
 have b22:=F22.binds (ps:=["_law_game_here"]) λ_ _ _ _ _ _ us hl=>by obtain⟨a0,rfl⟩:=Gs hl;rfl
 have bc1:=Fc1.binds (ps:=["self","word","at"]) λ_ _ _ _ _ _ us hl=>by obtain⟨a0,a1,a2,rfl⟩:=L4 hl;rfl
 have aj:=Ya4 X G z_isinstance
 have cb:=Ya4 X G z_bool
 have av:=Ya4 X G z_enumerate
 have ae:=Ya4 X G z_len
 have ai:=Ya4 X G z_range
 have fw:=Ya4 X G z_all
 have bj:=Ya4 X G z_max
 have az:=Ya4 X G z_list
 have bt:=Ya4 X G z_reversed
 have ar:=Ya4 X G z_tuple
 have bn:=Ya4 X G z_int
 have bh:=Ya4 X G z_ValueError
 have sj:=Yaj X G u_c0
 have p8:=Yaj X G u_c1
 have ri:=Yaj X G u_c2
 have vn:=Yaj X G u_c3
 have yt:=Yaj X G u_c4
 have wk:=Yaj X G u_c5
 have ye:=Yaj X G u_c6
 have zu:=Yaj X G u_c7
 have mD:=Yaj X G u_D
 have du:=X6 e_c1
 have xn:=Yaj X G y1
 have w4:=Yaj X G y2
 have zp:=Yaj X G y3
 have ue:=Yaj X G y4
 have zo:=Yaj X G y5
 have xl:=Yaj X G y6
 refine⟨PySem.W.fnOf "law" "law" (Bf Hx) (A5 Hx) (Ag Hx) .none ma oi kd m7 i5 lu,λs v=>.of_eq rfl,λbase _ _=>?_⟩
 have ie:XCal l.prog w K mg base 9 "NoGame" c1 ["word","at"]:=⟨_,_,_,(Yj (P:=l.prog) (w:=w) (mg:=mg) (base:=base) (n:=0) Fc1 du.xi.toXCls na_c1_word na_c1_at).mono (by decide),bc1,⟨du.xc,i_c1,n_c1,du.kp⟩,p8,du.xi.toXCls.mb⟩
 have g1:=Qbz (P:=l.prog) (w:=w) (mg:=mg) (base:=base) (n:=0) F1 aj cb
 have q1:VCal l.prog w K mg base 1 "is_there" ["number","many"] _:=⟨_,_,g1,b1,k1,Yaj X G a1⟩
 have g2:=Qcf (P:=l.prog) (w:=w) (mg:=mg) (base:=base) (n:=0) F2 av
 have q2:VCal l.prog w K mg base 1 "rules_at" ["game","place","letter"] _:=⟨_,_,g2,b2,k2,Yaj X G a2⟩
 have g4:=Qb6 (P:=l.prog) (w:=w) (mg:=mg) (base:=base) (n:=9) F4 ie
 have q4:Dh l.prog w K mg base 11 "look_size" ["word","many","most"] _:=⟨_,_,g4,b4,k4,Yaj X G a4⟩
 have g5:=Qb8 (P:=l.prog) (w:=w) (mg:=mg) (base:=base) (n:=9) F5 av ie
 have q5:Dh l.prog w K mg base 11 "look_unlike" ["names"] _:=⟨_,_,g5,b5,k5,Yaj X G a5⟩
 have g7:=Qb4 (P:=l.prog) (w:=w) (mg:=mg) (base:=base) (n:=1) F7 (q1.mono (by decide)) ae fw
 have q7:VCal l.prog w K mg base 2 "has_its_parts" ["game","rule"] _:=⟨_,_,g7,b7,k7,Yaj X G a7⟩
 have g8:=Qb1 (P:=l.prog) (w:=w) (mg:=mg) (base:=base) (n:=0) F8 ae
 have q8:VCal l.prog w K mg base 1 "is_push" ["rule"] _:=⟨_,_,g8,b8,k8,Yaj X G a8⟩
 have g6:=Qcc (P:=l.prog) (w:=w) (mg:=mg) (base:=base) (n:=9) F6 (q7.mono (by decide)) (q8.mono (by decide)) ae ue zo xl ie
 have q6:Dh l.prog w K mg base 11 "look_rule" ["game","number"] _:=⟨_,_,g6,b6,k6,Yaj X G a6⟩
 have g3:=Qcd (P:=l.prog) (w:=w) (mg:=mg) (base:=base) (n:=10) F3 (q4.mono (by decide)) (q5.mono (by decide)) (q6.mono (by decide)) ae ai xn w4 zp (ie.mono (by decide))
 have q3:Dh l.prog w K mg base 12 "look" ["game"] _:=⟨_,_,g3,b3,k3,Yaj X G a3⟩
 have g9:=Qbr (P:=l.prog) (w:=w) (mg:=mg) (base:=base) (n:=0) F9 bj az bt
 have q9:VCal l.prog w K mg base 1 "_law_deal" ["_law_script","_law_base"] _:=⟨_,_,g9,b9,k9,Yaj X G a9⟩
 have g10:=Qbo (P:=l.prog) (w:=w) (mg:=mg) (base:=base) (n:=0) F10 ae
 have ii:VCal l.prog w K mg base 1 "_law_draw" ["_law_deal_here","_law_many"] _:=⟨_,_,g10,b10,k10,Yaj X G a10⟩
 have g11:=Qbu (P:=l.prog) (w:=w) (mg:=mg) (base:=base) (n:=1) F11 (ii.mono (by decide)) ai ae
 have q11:VCal l.prog w K mg base 2 "_law_names" ["_law_deal_here","_law_many"] _:=⟨_,_,g11,b11,k11,Yaj X G a11⟩
 have g12:=Qbx (P:=l.prog) (w:=w) (mg:=mg) (base:=base) (n:=1) F12 (ii.mono (by decide)) ai ar
 have q12:VCal l.prog w K mg base 2 "_law_put" ["_law_deal_here","_law_many"] _:=⟨_,_,g12,b12,k12,Yaj X G a12⟩
 have g13:=Qck (P:=l.prog) (w:=w) (mg:=mg) (base:=base) (n:=2) F13 (ii.mono (by decide)) (q12.mono (by decide))
 have q13:VCal l.prog w K mg base 3 "_law_rule" ["_law_deal_here","_law_places","_law_letters"] _:=⟨_,_,g13,b13,k13,Yaj X G a13⟩
 have g14:=Qco (P:=l.prog) (w:=w) (mg:=mg) (base:=base) (n:=3) F14 (q11.mono (by decide)) (ii.mono (by decide)) (q13.mono (by decide)) ar ai ae bn
 have q14:VCal l.prog w K mg base 4 "_law_game" ["_law_deal_here"] _:=⟨_,_,g14,b14,k14,Yaj X G a14⟩
 have g15:=Qcs (P:=l.prog) (w:=w) (mg:=mg) (base:=base) (n:=1) F15 (ii.mono (by decide)) ar ae
 have q15:VCal l.prog w K mg base 2 "_law_other_names" ["_law_deal_here","_law_game_here"] _:=⟨_,_,g15,b15,k15,Yaj X G a15⟩
 have g16:=Qcu (P:=l.prog) (w:=w) (mg:=mg) (base:=base) (n:=1) F16 (ii.mono (by decide)) bj ae
 have q16:VCal l.prog w K mg base 2 "_law_other_rule" ["_law_deal_here","_law_rule_here","_law_places","_law_letters"] _:=⟨_,_,g16,b16,k16,Yaj X G a16⟩
 have g17:=Qcv (P:=l.prog) (w:=w) (mg:=mg) (base:=base) (n:=3) F17 (ii.mono (by decide)) (q13.mono (by decide)) az ae ai bj
 have q17:VCal l.prog w K mg base 4 "_law_more_rules" ["_law_deal_here","_law_rules","_law_places","_law_letters"] _:=⟨_,_,g17,b17,k17,Yaj X G a17⟩
 have g18:=Qcw (P:=l.prog) (w:=w) (mg:=mg) (base:=base) (n:=4) F18 (ii.mono (by decide)) (q15.mono (by decide)) (q17.mono (by decide)) (q16.mono (by decide)) ae
 have q18:VCal l.prog w K mg base 5 "_law_spoilt" ["_law_deal_here","_law_game_here"] _:=⟨_,_,g18,b18,k18,Yaj X G a18⟩
 have g19:=Qc2 (P:=l.prog) (w:=w) (mg:=mg) (base:=base) (n:=0) F19 ae
 have q19:VCal l.prog w K mg base 1 "_law_rule_faults" ["_law_game_here","_law_at"] _:=⟨_,_,g19,b19,k19,Yaj X G a19⟩
 have g20:=Qc6 (P:=l.prog) (w:=w) (mg:=mg) (base:=base) (n:=1) F20 (q19.mono (by decide)) ae bn az ai
 have q20:VCal l.prog w K mg base 2 "_law_due" ["_law_game_here"] _:=⟨_,_,g20,b20,k20,Yaj X G a20⟩
 have g21:=Qc7 (P:=l.prog) (w:=w) (mg:=mg) (base:=base) (n:=12) F21 (q3.mono (by decide)) aj bh cb bn sj p8 ri vn yt wk ye zu mD du na_c1_at na_c1_word
 have q21:VCal l.prog w K mg base 13 "_law_told" ["_law_game_here"] _:=⟨_,_,g21,b21,k21,Yaj X G a21⟩
 have g22:=Qch (P:=l.prog) (w:=w) (mg:=mg) (base:=base) (n:=1) F22 (q2.mono (by decide)) ai ae aj az
 have q22:VCal l.prog w K mg base 2 "_law_rules_right" ["_law_game_here"] _:=⟨_,_,g22,b22,k22,Yaj X G a22⟩
 have g23:=Y3 (P:=l.prog) (w:=w) (mg:=mg) (base:=base) (n:=13) F23 (q9.mono (by decide)) (q14.mono (by decide)) (q22.mono (by decide)) (q18.mono (by decide)) (ii.mono (by decide)) (q21.mono (by decide)) (q20.mono (by decide)) (q3.mono (by decide)) ai ae
 exact g23.mono (by decide)
theorem walk{l:PySem.W.OpenLaw}{q:Program}{cw:List Str}{XP:(Str->Option Value)->Heap->Prop}{YP:World->Heap->Prop}{d:DefRec}{K:Params->PySem.W.Frag}(hn:l.most=some 63)(om:d.params.defaults=[])
  (hY:∀(w:World) (h:Heap),YP w h->(K w.params).In h)
  (F:∀(w:World) (mg:Str->Option Value) (fa:Addr) (h:Heap),(K w.params).In h->h.Ns mainGlobals mg->mg d.name=some (.ref fa) ->
   ∃fd:FuncData,(∀(s:Shared) (u:Value),BindsTo s fd ⟨[u],[]⟩ [("_law_script",u)])/\∀base:Heap,(K w.params).In base->base.Ns mainGlobals mg->FnOk l.prog w (K w.params) mg base En 65 fa fd ["_law_script"] (Oh (K w.params))) :
  PySem.W.WalkO q cw XP YP l.row.toRowW d [] (λf vs=>PySem.call f vs) :=
 L2.walk_of (n:=63) (k:=65) (x := "_law_script") (CX:=λ_=>En) (sp:=λw=>Oh (K w.params)) hn (by decide) om ⟨rfl,by decide,by decide,rfl⟩ hY F (λ_ _ a ns hl hO hS=>⟨a,ns,rfl,hS,hO,hl,λ_=>rfl⟩) λ_ _ _ _ _ z=>z
end K12
namespace PySem.W.Fast
theorem tw11218259365131979203:True:=trivial
theorem tw1722403297185316365:True:=trivial
theorem tw503378413162144062:True:=trivial
theorem tw9643763542905057931:True:=trivial
theorem tw1539931151717934043:True:=trivial
theorem tw179443987266543180:True:=trivial
theorem tw13836823698611474792:True:=trivial
theorem tw260177380549568766:True:=trivial
theorem tw17335107419808845150:True:=trivial
theorem tw7769990811195886303:True:=trivial
theorem tw13772711684504284233:True:=trivial
theorem tw2589148964529195674:True:=trivial
theorem tw6250060614748426684:True:=trivial
theorem tw5983984212841110557:True:=trivial
theorem tw3603345765811776961:True:=trivial
theorem tw10202575710229739086:True:=trivial
theorem tw8139114140677765832:True:=trivial
theorem tw16594953301637821692:True:=trivial
theorem tw2568022279450387422:True:=trivial
theorem tw4322064309496947152:True:=trivial
theorem tw1466794871968642045:True:=trivial
theorem tw1598662429630177160:True:=trivial
theorem tw3145516068888431918:True:=trivial
theorem tw5032774178194709274:True:=trivial
theorem tw3575108119314685653:True:=trivial
theorem tw9333618426614863783:True:=trivial
theorem tw1231288046867517719:True:=trivial
theorem tw15543647408319927014:True:=trivial
theorem tw7318453442748360876:True:=trivial
theorem tw5900485051110319935:True:=trivial
theorem tw11525607876431024077:True:=trivial
theorem tw10984209435528369554:True:=trivial
theorem tw13399761554309865711:True:=trivial
theorem tw16358455411542609818:True:=trivial
theorem tw7302730163331777319:True:=trivial
theorem tw13356901509918948473:True:=trivial
theorem tw12470387959152265276:True:=trivial
theorem tw17391935410371429040:True:=trivial
theorem tw17751168759641971470:True:=trivial
theorem tw13934232189506195293:True:=trivial
theorem tw13635827997516213404:True:=trivial
theorem tw4049820245802316579:True:=trivial
theorem tw11780339284696659723:True:=trivial
theorem tw3264685055890049495:True:=trivial
theorem tw17886392230244133457:True:=trivial
theorem tw6407465205472514711:True:=trivial
theorem tw5630485513406787802:True:=trivial
theorem tw14115146801089118244:True:=trivial
theorem tw7043800555327552384:True:=trivial
theorem tw6756460426602326217:True:=trivial
theorem tw12174485165094779565:True:=trivial
theorem tw10115280512100419994:True:=trivial
theorem tw11557473576363195792:True:=trivial
theorem tw4582718507025357:True:=trivial
theorem tw9411392565191865076:True:=trivial
theorem tw1567921626087773585:True:=trivial
theorem tw1008179624085666395:True:=trivial
theorem tw12561820519371305610:True:=trivial
theorem tw11774335184618460435:True:=trivial
theorem tw7298004809102189006:True:=trivial
theorem tw9710219989558760836:True:=trivial
theorem tw10840790409790829140:True:=trivial
theorem tw419044893088422158:True:=trivial
theorem tw7699663860467158447:True:=trivial
theorem tw10572200848046100014:True:=trivial
theorem tw13399333683405295776:True:=trivial
theorem tw7043008521363621535:True:=trivial
theorem tw7544727456248202496:True:=trivial
theorem tw8607698749744294633:True:=trivial
theorem tw1408295846980835843:True:=trivial
theorem tw8447082994131581152:True:=trivial
theorem tw17419960338012797087:True:=trivial
theorem tw15296574395321906533:True:=trivial
theorem tw2221893664114078455:True:=trivial
theorem tw3599609121766084497:True:=trivial
theorem tw12041460298831283735:True:=trivial
theorem tw4143760369789602495:True:=trivial
theorem tw8836893733889776467:True:=trivial
theorem tw16859542263566785860:True:=trivial
theorem tw7799439339265977871:True:=trivial
theorem tw7989736153677009956:True:=trivial
theorem tw2645067468252629126:True:=trivial
theorem tw7939426433748599127:True:=trivial
end PySem.W.Fast
open PySem PySem.W PyProof.Rows
set_option maxRecDepth 100000 in
set_option maxHeartbeats 0 in
theorem PySem.Challenge.cw_pileduel_k12_games_looked_at_holds : PySem.Challenge.rw_pileduel_k12_games_looked_at.Holds := by
 w_on;o_law;k_head;(case hw=>w_witness2)
 k_fill
 refine K12.walk (l:=PySem.Challenge.rw_pileduel_k12_games_looked_at) rfl rfl (fun w h Y=>PySem.W.kIn_of Y) ?F
 case F =>
  intro w mg fa h KX G hmg
  refine' K12.all_mk KX G hmg ?a1 ?l1 ?c_1 ?k1 ?a2 ?l2 ?c_2 ?k2 ?a3 ?l3 ?c_3 ?k3 ?a4 ?l4 ?c_4 ?k4 ?a5 ?l5 ?c_5 ?k5 ?a6 ?l6 ?c_6 ?k6 ?a7 ?l7 ?c_7 ?k7 ?a8 ?l8 ?c_8 ?k8 ?a9 ?l9 ?c_9 ?k9 ?a10 ?l10 ?c_10 ?k10 ?a11 ?l11 ?c_11 ?k11 ?a12 ?l12 ?c_12 ?k12 ?a13 ?l13 ?c_13 ?k13 ?a14 ?l14 ?c_14 ?k14 ?a15 ?l15 ?c_15 ?k15 ?a16 ?l16 ?c_16 ?k16 ?a17 ?l17 ?c_17 ?k17 ?a18 ?l18 ?c_18 ?k18 ?a19 ?l19 ?c_19 ?k19 ?a20 ?l20 ?c_20 ?k20 ?a21 ?l21 ?c_21 ?k21 ?a22 ?l22 ?c_22 ?k22 ?a23 ?l23 ?c_23 ?k23 ?u_c0 ?u_c1 ?u_c2 ?u_c3 ?u_c4 ?u_c5 ?u_c6 ?u_c7 ?u_D ?e_c1 ?i_c1 ?n_c1 ?l_c1 ?c_c1 ?k_c1 ?na_c1_word ?na_c1_at ?z_isinstance ?z_bool ?z_enumerate ?z_len ?z_range ?z_all ?z_max ?z_list ?z_reversed ?z_tuple ?z_int ?z_ValueError ?y1 ?y2 ?y3 ?y4 ?y5 ?y6
  (case a1=>k_is)
  (case l1=>k_is)
  (case c_1=>k_is)
  (case k1=>k_is)
  (case a2=>k_is)
  (case l2=>k_is)
  (case c_2=>k_is)
  (case k2=>k_is)
  (case a3=>k_is)
  (case l3=>k_is)
  (case c_3=>k_is)
  (case k3=>k_is)
  (case a4=>k_is)
  (case l4=>k_is)
  (case c_4=>k_is)
  (case k4=>k_is)
  (case a5=>k_is)
  (case l5=>k_is)
  (case c_5=>k_is)
  (case k5=>k_is)
  (case a6=>k_is)
  (case l6=>k_is)
  (case c_6=>k_is)
  (case k6=>k_is)
  (case a7=>k_is)
  (case l7=>k_is)
  (case c_7=>k_is)
  (case k7=>k_is)
  (case a8=>k_is)
  (case l8=>k_is)
  (case c_8=>k_is)
  (case k8=>k_is)
  (case a9=>k_is)
  (case l9=>k_is)
  (case c_9=>k_is)
  (case k9=>k_is)
  (case a10=>k_is)
  (case l10=>k_is)
  (case c_10=>k_is)
  (case k10=>k_is)
  (case a11=>k_is)
  (case l11=>k_is)
  (case c_11=>k_is)
  (case k11=>k_is)
  (case a12=>k_is)
  (case l12=>k_is)
  (case c_12=>k_is)
  (case k12=>k_is)
  (case a13=>k_is)
  (case l13=>k_is)
  (case c_13=>k_is)
  (case k13=>k_is)
  (case a14=>k_is)
  (case l14=>k_is)
  (case c_14=>k_is)
  (case k14=>k_is)
  (case a15=>k_is)
  (case l15=>k_is)
  (case c_15=>k_is)
  (case k15=>k_is)
  (case a16=>k_is)
  (case l16=>k_is)
  (case c_16=>k_is)
  (case k16=>k_is)
  (case a17=>k_is)
  (case l17=>k_is)
  (case c_17=>k_is)
  (case k17=>k_is)
  (case a18=>k_is)
  (case l18=>k_is)
  (case c_18=>k_is)
  (case k18=>k_is)
  (case a19=>k_is)
  (case l19=>k_is)
  (case c_19=>k_is)
  (case k19=>k_is)
  (case a20=>k_is)
  (case l20=>k_is)
  (case c_20=>k_is)
  (case k20=>k_is)
  (case a21=>k_is)
  (case l21=>k_is)
  (case c_21=>k_is)
  (case k21=>k_is)
  (case a22=>k_is)
  (case l22=>k_is)
  (case c_22=>k_is)
  (case k22=>k_is)
  (case a23=>k_is)
  (case l23=>k_is)
  (case c_23=>k_is)
  (case k23=>k_is)
  (case u_c0=>k_is)
  (case u_c1=>k_is)
  (case u_c2=>k_is)
  (case u_c3=>k_is)
  (case u_c4=>k_is)
  (case u_c5=>k_is)
  (case u_c6=>k_is)
  (case u_c7=>k_is)
  (case u_D=>k_is)
  (case e_c1=>kernel_rfl)
  (case i_c1=>k_is)
  (case n_c1=>k_is)
  (case l_c1=>k_is)
  (case c_c1=>k_is)
  (case k_c1=>k_is)
  (case na_c1_word=>k_is)
  (case na_c1_at=>k_is)
  (case z_isinstance=>k_is)
  (case z_bool=>k_is)
  (case z_enumerate=>k_is)
  (case z_len=>k_is)
  (case z_range=>k_is)
  (case z_all=>k_is)
  (case z_max=>k_is)
  (case z_list=>k_is)
  (case z_reversed=>k_is)
  (case z_tuple=>k_is)
  (case z_int=>k_is)
  (case z_ValueError=>k_is)
  (case y1=>k_is)
  (case y2=>k_is)
  (case y3=>k_is)
  (case y4=>k_is)
  (case y5=>k_is)
  (case y6=>k_is)
