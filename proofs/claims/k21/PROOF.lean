import PyProof.Rows.All
import Wide.All
import OpenK.AllK
import Wide.FinOn
import Lean
import PyProof.EqAt
import PyProof.EqKinds
import PyProof.TupleCall
import PyProof.CompFree
import PyProof.CompUse
import PyProof.CollectIter
import PyProof.ListNew
import KE.KRevIter
import PyProof.EnumMake
import PyProof.Draws
import PyProof.TupleIter
import PyProof.WalksMore
import PyProof.ReprRoads
import PyProof.P3Eq
import PyProof.NeData
import PyProof.EqLayable
import PyProof.Rows.RegFStrParts
import PyProof.AutoListH
import KE.KItemsList
import KE.KDictList
import PyProof.StrBlockG
import PyProof.StrLawsOcc
import PyProof.StrLawsTight
import PyProof.StrLawsChain
import PyProof.Rows.Range3
import PyProof.MinMaxWalk
import PyProof.WalkInts
import PyProof.ExcClass3
import PyProof.ExcInit
import PyProof.InstStoreFacts
import PyProof.ExcArgsOwn
import KE.KIsAll
import PyProof.RaisesMany
import PyProof.RulesTry
import PyProof.Raises
import PyProof.RulesAs
import PyProof.NsDelKeeps
import PyProof.PassesOwn
import PyProof.Rows.CatchHere
import KE.KSortTup
import PyProof.FactsAll.tuple_2
import PyProof.TupleKey
import PyProof.Rows.RowHeap
import PyProof.SetKind
import PyProof.SetNew
import PyProof.DictIter
import PyProof.CollectWalk
import PyProof.Walks
import PyProof.ZipIter
import KE.KRevSl
import KE.KStateDown
import PyProof.SetRoads
import PyProof.SumWalk
import PyProof.CallStr
import PySem.Challenge.RW_pileduel_k21_sayings_joined
set_option Elab.async false
set_option linter.all false
set_option maxRecDepth 100000
namespace L2
theorem Qc1{α:Sort _}{a b:α->Prop}{P:Prop}(h:∃x,a x/\b x)(k:∀x,a x->b x->P):P:=Exists.elim h λx y=>k x y.1 y.2
theorem De{α β:Sort _}{a b c:α->β->Prop}{P:Prop}(h:∃x y,a x y/\b x y/\c x y)(k:∀x y,a x y->b x y->c x y->P):P:=Exists.elim h λx h=>Exists.elim h λy h=>k x y h.1 h.2.1 h.2.2
theorem Ce{α β γ:Sort _}{a b c d:α->β->γ->Prop}{P:Prop}(h:∃x y z,a x y z/\b x y z/\c x y z/\d x y z)(k:∀x y z,a x y z->b x y z->c x y z->d x y z->P):P:=Exists.elim h λx h=>Exists.elim h λy h=>Exists.elim h λz h=>k x y z h.1 h.2.1 h.2.2.1 h.2.2.2
theorem Dw{α β γ δ:Sort _}{a b c d e:α->β->γ->δ->Prop}{P:Prop}(h:∃x y z u,a x y z u/\b x y z u/\c x y z u/\d x y z u/\e x y z u)(k:∀x y z u,a x y z u->b x y z u->c x y z u->d x y z u->e x y z u->P):P:=Exists.elim h λx h=>Exists.elim h λy h=>Exists.elim h λz h=>Exists.elim h λu h=>k x y z u h.1 h.2.1 h.2.2.1 h.2.2.2.1 h.2.2.2.2
theorem V4{α β γ δ:Sort _}{a b c d e f:α->β->γ->δ->Prop}{P:Prop}(h:∃x y z u,a x y z u/\b x y z u/\c x y z u/\d x y z u/\e x y z u/\f x y z u)(k:∀x y z u,a x y z u->b x y z u->c x y z u->d x y z u->e x y z u->f x y z u->P):P:=Exists.elim h λx h=>Exists.elim h λy h=>Exists.elim h λz h=>Exists.elim h λu h=>k x y z u h.1 h.2.1 h.2.2.1 h.2.2.2.1 h.2.2.2.2.1 h.2.2.2.2.2
theorem Me{α β γ δ ε ζ:Sort _}{a b c d:α->β->γ->δ->ε->ζ->Prop}{P:Prop}(h:∃x y z u v w,a x y z u v w/\b x y z u v w/\c x y z u v w/\d x y z u v w)(k:∀x y z u v w,a x y z u v w->b x y z u v w->c x y z u v w->d x y z u v w->P):P:=Exists.elim h λx h=>Exists.elim h λy h=>Exists.elim h λz h=>Exists.elim h λu h=>Exists.elim h λv h=>Exists.elim h λw h=>k x y z u v w h.1 h.2.1 h.2.2.1 h.2.2.2
open PySem PySem.Spec PyProof.Rows
abbrev Key:=Sum Int Str
def Ha:Key->Value->Bool
 | .inl k,v=>Value.isInt k v
 | .inr x,v=>Value.isStrOf x v
def Zs(w:World):Key->Int
 | .inl k=>hashInt k
 | .inr x=>hashStr w x
theorem keyIs_shape:∀{k:Key} {v:Value},Ha k v=true->(∃i t,k=Sum.inl i/\v=Value.int i t)\/(∃x t,k=Sum.inr x/\v=Value.str x t)
 | .inl i,v,h=>by
  obtain⟨t,e⟩:=Value.isInt_shape (k:=i) (v:=v) h
  exact .inl ⟨i,t,rfl,e⟩
 | .inr x,v,h=>by
  obtain⟨t,e⟩:=Value.isStrOf_shape (x:=x) (v:=v) h
  exact .inr ⟨x,t,rfl,e⟩
theorem Q0(i:Int)(t:Tok):Ha (.inl i) (.int i t)=true:=by simp [Ha,Value.isInt]
theorem Q3(x:Str)(t:Tok):Ha (.inr x) (.str x t)=true:=by simp [Ha,Value.isStrOf]
theorem Zt(a b:Int):decide ((Sum.inl a:Key)=Sum.inl b)=(a==b):=by
 by_cases e:a=b
 ·subst e;simp
 ·have h:¬(Sum.inl a:Key)=Sum.inl b:=λq=>e (Sum.inl.inj q)
  rw [decide_eq_false h]
  exact(beq_eq_false_iff_ne.mpr e).symm
theorem Zu(a b:Str):decide ((Sum.inr a:Key)=Sum.inr b)=decide (a=b):=by
 by_cases e:a=b
 ·subst e;simp
 ·have h:¬(Sum.inr a:Key)=Sum.inr b:=λq=>e (Sum.inr.inj q)
  rw [decide_eq_false h,decide_eq_false e]
theorem Zv(a:Int)(b:Str):decide ((Sum.inl a:Key)=Sum.inr b)=false:=decide_eq_false (λq=>nomatch q)
theorem Zw(a:Str)(b:Int):decide ((Sum.inr a:Key)=Sum.inl b)=false:=decide_eq_false (λq=>nomatch q)
def Bv(prog:Program)(w:World):PySem.KeyKind prog w Key where
 is:=Ha
 hash:=Zs w
 inj:=λv a b ha hb=>by
  rcases keyIs_shape ha with⟨i,t,rfl,rfl⟩ | ⟨x,t,rfl,rfl⟩
  ·rcases keyIs_shape hb with⟨j,u,rfl,e⟩ | ⟨y,u,rfl,e⟩
   ·injection e with e1 _;rw [e1]
   ·exact nomatch e
  ·rcases keyIs_shape hb with⟨j,u,rfl,e⟩ | ⟨y,u,rfl,e⟩
   ·exact nomatch e
   ·injection e with e1 _;rw [e1]
 byValue:=λk v h=>by
  rcases keyIs_shape h with⟨i,t,rfl,rfl⟩ | ⟨x,t,rfl,rfl⟩ <;> rfl
 pyHash:=λhv h=>by
  rcases keyIs_shape hv with⟨i,t,rfl,rfl⟩ | ⟨x,t,rfl,rfl⟩
  ·exact wpAny_pyHash_int h
  ·exact wpAny_pyHash_str h
 eqBool:=λhu hv h=>by
  rcases keyIs_shape hu with⟨i,t,rfl,rfl⟩ | ⟨x,t,rfl,rfl⟩
  ·rcases keyIs_shape hv with⟨j,u,rfl,rfl⟩ | ⟨y,u,rfl,rfl⟩
   ·rw [Zt]at h;exact wpAny_eqBool_int h
   ·rw [Zv]at h;exact SeqAt.EqAt.int_str i t y u _ _ _ _ h
  ·rcases keyIs_shape hv with⟨j,u,rfl,rfl⟩ | ⟨y,u,rfl,rfl⟩
   ·rw [Zw]at h;exact SeqAt.EqAt.str_int x t j u _ _ _ _ h
   ·rw [Zu]at h;exact wpAny_eqBool_str h
 «strs»:=λk x t v h=>by
  rcases keyIs_shape h with⟨i,u,rfl,e⟩ | ⟨y,u,rfl,e⟩
  ·exact nomatch e
  ·injection e with e1 _
   subst e1
   cases v <;> rfl
theorem Db(prog:Program)(w:World)(i:Int)(t:Tok):(Bv prog w).is (.inl i) (.int i t)=true:=Q0 i t
theorem Hb(prog:Program)(w:World)(x:Str)(t:Tok):(Bv prog w).is (.inr x) (.str x t)=true:=Q3 x t
end L2
namespace L2
open PySem PySem.Spec PyProof.Rows
inductive V where
 | non | bl (b:Bool) | int (i:Int) | str (x:Str) | byt (b:Array UInt8) | flt (b:UInt64) | ref (a:Addr) | ty (n:String)
 deriving DecidableEq
def B4:V->Value->Prop
 | .non,u=>u=Value.none
 | .bl b,u=>u=Value.bool b
 | .int i,u=>∃t,u=Value.int i t
 | .str x,u=>∃t,u=Value.str x t
 | .byt b,u=>∃t,u=Value.bytes b t
 | .flt b,u=>∃t,u=Value.float b t
 | .ref a,u=>u=Value.ref a
 | .ty n,u=>u=Value.type n
abbrev Vals:List V->List Value->Prop:=Paired B4
theorem Vals.length{xs:List V}{us:List Value}(r:Vals xs us):xs.length=us.length:=Paired.length r
theorem Vals.get:∀{xs:List V} {us:List Value} {i:Nat} {x:V},Vals xs us->xs[i]?=some x->∃u,us[i]?=some u/\B4 x u
 | _,_,_,_,.nil,e=>by simp at e
 | _,_,0,_,.cons r _,e=>by simp at e;subst e;exact⟨_,rfl,r⟩
 | _,_,i+1,x,.cons _ t,e=>by
  obtain⟨u,h1,h2⟩:=Vals.get (i:=i) (x:=x) t (by simpa using e)
  exact⟨u,by simpa using h1,h2⟩
theorem Vals.set{x:V}{u:Value}(r:B4 x u):∀{xs:List V} {us:List Value} (i:Nat),Vals xs us->Vals (xs.set i x) (us.set i u)
 | _,_,_,.nil=>.nil
 | _,_,0,.cons _ t=>.cons r t
 | _,_,i+1,.cons q t=>.cons q (Vals.set r i t)
theorem Vals.append:∀{xs ys:List V} {us ws:List Value},Vals xs us->Vals ys ws->Vals (xs++ys) (us++ws)
 | _,_,_,_,.nil,s=>s
 | _,_,_,_,.cons r t,s=>.cons r (Vals.append t s)
theorem Vals.take:∀{xs:List V} {us:List Value} (n:Nat),Vals xs us->Vals (xs.take n) (us.take n)
 | _,_,0,_=>.nil
 | _,_,_+1,.nil=>.nil
 | _,_,n+1,.cons r t=>.cons r (Vals.take n t)
theorem Vals.drop:∀{xs:List V} {us:List Value} (n:Nat),Vals xs us->Vals (xs.drop n) (us.drop n)
 | _,_,0,r=>r
 | _,_,_+1,.nil=>.nil
 | _,_,n+1,.cons _ t=>Vals.drop n t
def Zx:Option V->Option Value->Prop
 | some v,some u=>B4 v u
 | none,none=>True
 | _,_=>False
def KV{κ:Type}:List (κ×V)->List (κ×Value)->Prop:=Paired λ(p:κ×V) (q:κ×Value)=>p.1=q.1/\B4 p.2 q.2
def kV:Key->V
 | .inl i=>.int i
 | .inr x=>.str x
mutual
def Bc(w:World):PyData->Int
 | .int i=>Zs w (.inl i)
 | .str x=>Zs w (.inr x)
 | .tuple ds=>reduceHash (Builtin.Tuple.tupleHashOf (C6 w ds))
 | _=>0
def C6(w:World):List PyData->List Int
 | []=>[]
 | d :: ds=>Bc w d :: C6 w ds
end
def Qgu(w:World)(x:PyData×Addr×Value):DictEntry:=⟨Bc w x.1,.ref x.2.1,x.2.2⟩
def Qgv(w:World)(h:Heap)(a:Addr)(xs:List (PyData×Addr×Value)):Prop :=
 ∃o es ep,h.get? a=some o/\o.ExactDict/\o.data=.dict es ep/\es.toList=xs.map (Qgu w)/\(xs.map (·.1)).Nodup/\(a==sysModules)=false/\xs.length<=sizeLine
inductive HO where
 | lst (xs:List V)
 | tup (xs:List V)
 | dK (kvs:List (Key×V)) | dT (kvs:List (List Key×V))
 | set (S:Int->Bool) (n:Nat)
 | ins (C dx:Addr) (fs:List (Str×V))
 | own (x:Addr)
 | xd (fs:List (Str×V))
 | met (f x:Addr)
 | rng (lo hi:Int)
 | frz (o:Obj) (u:HO)
 | tbl (ps:Array Value)
 | ext (φ:Heap->Prop)
 | dd (xs:List (PyData×Addr×Value))
abbrev Hp:=Addr->Option HO
def upd(H:Hp)(a:Addr)(o:HO):Hp:=λb=>if b=a then some o else H b
theorem Cq{H:Hp}{a:Addr}{o:HO}:upd H a o a=some o:=by unfold upd;rw [if_pos rfl]
theorem Bn{H:Hp}{a b:Addr}{o:HO}(h:b≠a):upd H a o b=H b:=by unfold upd;rw [if_neg h]
theorem Yl{H:Hp}{a b:Addr}{o u:HO}(h:H a=some o)(h':H b=some u)(d:o≠u):a≠b:=by
 intro e;subst e;rw [h]at h';exact d (Option.some.inj h')
theorem Ci{H:Hp}{a b:Addr}{o:HO}(h:H a=some o)(h':H b=none):a≠b:=by
 intro e;subst e;rw [h]at h';cases h'
section
variable(P:Program)(w:World)
def Ch(H:Hp)(h:Heap)(a:Addr):HO->Prop
 | .lst xs=>xs.length<=sizeLine/\∃(its:List Value) (n:Nat),Vals xs its/\h.get? a=some { cls:=.type "list",data:=.seq its.toArray n }
 | .tup xs=>xs.length<=sizeLine/\∃its:List Value,Vals xs its/\IsTup h a its.toArray
 | .dK kvs=>kvs.length<=sizeLine/\(a==sysModules)=false/\∃vs,KV kvs vs/\h.DictOf (Bv P w) a vs
 | .dT kvs=>kvs.length<=sizeLine/\(a==sysModules)=false/\∃xs:List (List Key×Addr×Value),
   Paired (λ(p:List Key×V) (q:List Key×Addr×Value)=>p.1=q.1/\H q.2.1=some (.tup (p.1.map kV))/\B4 p.2 q.2.2) kvs xs /\
   ∃o es ep,h.get? a=some o/\o.ExactDict/\o.data=.dict es ep/\es.toList=xs.map (entryOfKey (tupleKind (Bv P w)))/\(xs.map (·.1)).Nodup
 | .set S n=>h.SetOf (intKind P w) a S n
 | .ins C dx fs=>H dx=some (.own a)/\fs.length<=1000/\dx≠a/\h.get? a=some (PySem.W.instObj C dx) /\
   ∃mA,h.Ns1 dx mA/\(∀f,Zx (fs.lookup f) (mA f))/\PySem.Within mA (fs.map (·.1))
 | .own _=>∃o,h.get? a=some o
 | .xd fs=>∃mA,h.Ns1 a mA/\∀f,Zx (fs.lookup f) (mA f)
 | .rng lo hi=>∃t u v,h.get? a=some { cls:=.type "range",data:=.fields #[.int lo t,.int hi u,.int 1 v] }
 | .frz o u=>h.get? a=some o/\Ch H h a u
 | .tbl ps=>h.get? a=some { cls:=.none,data:=.fields ps }
 | .met f x=>h.get? a=some (PySem.W.methodObj (.ref f) (.ref x))
 | .ext φ=>φ h/\(∃o,h.get? a=some o)/\∀h1 h2:Heap,φ h1->(∀o,h1.get? a=some o->h2.get? a=some o)->φ h2
 | .dd xs=>Qgv w h a xs
def HOk(H:Hp)(h:Heap):Prop:=∀a o,H a=some o->Ch P w H h a o
end
section
variable {P:Program}{w:World}{H H':Hp}{h h':Heap}{a:Addr}{o:HO}
theorem Ch.lt(x:Ch P w H h a o):a < h.objs.size:=by
 cases o with
 | lst xs=>obtain⟨_,_,_,_,e⟩:=x;exact Heap.lt_size e
 | tup xs=>obtain⟨_,_,_,p⟩:=x;exact p.lt
 | dK kvs=>obtain⟨_,_,_,_,o,_,_,e,_⟩:=x;exact Heap.lt_size e
 | dT kvs=>obtain⟨_,_,_,_,o,_,_,e,_⟩:=x;exact Heap.lt_size e
 | set S n=>obtain⟨o,_,_,_,e,_⟩:=x;exact Heap.lt_size e
 | ins C dx fs=>obtain⟨_,_,_,e,_⟩:=x;exact Heap.lt_size e
 | own y=>obtain⟨_,e⟩:=x;exact Heap.lt_size e
 | xd fs=>obtain⟨_,⟨_,_,_,e,_⟩,_⟩:=x;exact Heap.lt_size e
 | rng lo hi=>obtain⟨_,_,_,e⟩:=x;exact Heap.lt_size e
 | frz ob u=>obtain⟨e,_⟩:=x;exact Heap.lt_size e
 | tbl ps=>exact Heap.lt_size (show h.get? a=some _ from x)
 | met f y=>exact Heap.lt_size (show h.get? a=some _ from x)
 | ext φ=>obtain⟨_,⟨_,e⟩,_⟩:=x;exact Heap.lt_size e
 | dd xs=>obtain⟨_,_,_,e,_⟩:=x;exact Heap.lt_size e
theorem Paired.mapP{α β:Type}{F G:α->β->Prop}:∀{l₁:List α} {l₂:List β},Paired F l₁ l₂->(∀a b,F a b->G a b)->Paired G l₁ l₂
 | _,_,.nil,_=>.nil
 | _,_,.cons r t,f=>.cons (f _ _ r) (Paired.mapP t f)
theorem Ch.stay(x:Ch P w H h a o)(k:∀b u,(b=a\/H b=some (.own a))->h.get? b=some u->h'.get? b=some u)
  (ho:∀b,H b=some (.own a)->H' b=some (.own a)) (ht:∀b xs,H b=some (.tup xs)->H' b=some (.tup xs)):Ch P w H' h' a o:=by
 induction o with
 | lst xs=>obtain⟨z,its,n,r,e⟩:=x;exact⟨z,its,n,r,k _ _ (.inl rfl) e⟩
 | tup xs=>obtain⟨z,its,r,ob,e,c⟩:=x;exact⟨z,its,r,ob,k _ _ (.inl rfl) e,c⟩
 | dK kvs=>obtain⟨z,y,vs,r,ob,es,ep,e,c⟩:=x;exact⟨z,y,vs,r,ob,es,ep,k _ _ (.inl rfl) e,c⟩
 | dT kvs =>
  obtain⟨z,y,xs,r,ob,es,ep,e,c⟩:=x
  exact⟨z,y,xs,Paired.mapP r λp q z=>⟨z.1,ht _ _ z.2.1,z.2.2⟩,ob,es,ep,k _ _ (.inl rfl) e,c⟩
 | set S n=>obtain⟨ob,es,ep,t,e,c⟩:=x;exact⟨ob,es,ep,t,k _ _ (.inl rfl) e,c⟩
 | ins C dx fs =>
  obtain⟨d,z,ne,e,mA,⟨od,es,ep,e2,c⟩,r⟩:=x
  exact⟨ho _ d,z,ne,k _ _ (.inl rfl) e,mA,⟨od,es,ep,k _ _ (.inr d) e2,c⟩,r⟩
 | own y=>obtain⟨ob,e⟩:=x;exact⟨ob,k _ _ (.inl rfl) e⟩
 | xd fs=>obtain⟨mA,⟨od,es,ep,e,c⟩,r⟩:=x;exact⟨mA,⟨od,es,ep,k _ _ (.inl rfl) e,c⟩,r⟩
 | rng lo hi=>obtain⟨t,u,v,e⟩:=x;exact⟨t,u,v,k _ _ (.inl rfl) e⟩
 | frz ob u ih=>obtain⟨e,q⟩:=x;exact⟨k _ _ (.inl rfl) e,ih q⟩
 | tbl ps =>
  have e:h.get? a=some { cls:=.none,data:=.fields ps }:=x
  show h'.get? a=some { cls:=.none,data:=.fields ps }
  exact k a _ (.inl rfl) e
 | met f y =>
  have e:h.get? a=some (PySem.W.methodObj (.ref f) (.ref y)):=x
  show h'.get? a=some (PySem.W.methodObj (.ref f) (.ref y))
  exact k a _ (.inl rfl) e
 | ext φ=>obtain⟨p,⟨o,e⟩,st⟩:=x;exact⟨st _ _ p λo q=>k _ _ (.inl rfl) q,⟨o,k _ _ (.inl rfl) e⟩,st⟩
 | dd xs=>obtain⟨o,es,ep,e,c⟩:=x;exact⟨o,es,ep,k _ _ (.inl rfl) e,c⟩
theorem HOk.lt(x:HOk P w H h)(e:H a=some o):a < h.objs.size:=(x a o e).lt
theorem HOk.fresh(x:HOk P w H h)(e:h.objs.size<=a):H a=none:=by
 cases q:H a with
 | none=>rfl
 | some u=>exact absurd (Nat.lt_of_lt_of_le (x.lt q) e) (Nat.lt_irrefl _)
theorem HOk.kept(x:HOk P w H h)(k:∀b u,h.get? b=some u->h'.get? b=some u):HOk P w H h':=λa o e =>
 (x a o e).stay (λb u _ q=>k b u q) (λ_ q=>q) λ_ _ q=>q
theorem HOk.laid(x:HOk P w H h)(k:∀b u,h.get? b=some u->h'.get? b=some u)(hp:h.objs.size<=a)(new:Ch P w (upd H a o) h' a o):HOk P w (upd H a o) h':=λb u e=>by
 have hn:=x.fresh hp
 by_cases hb:b=a
 ·subst hb;rw [Cq]at e;cases e;exact new
 ·rw [Bn hb]at e
  exact(x b u e).stay (λc v _ q=>k c v q) (λc q=>by rw [Bn (Ci q hn)];exact q) λc xs q=>by rw [Bn (Ci q hn)];exact q
end
def Rd(H:Hp)(a:Addr)(u:HO):Prop:=H a=some u\/∃o,H a=some (.frz o u)
theorem Rd.ok{P:Program}{w:World}{H:Hp}{h:Heap}{a:Addr}{u:HO}(r:Rd H a u)(x:HOk P w H h):Ch P w H h a u:=by
 rcases r with r | ⟨o,r⟩
 ·exact x a u r
 ·obtain⟨_,q⟩:=x a _ r
  exact q
def Mut:Option HO->Prop
 | some (.lst _)=>True
 | some (.dK _)=>True
 | some (.dT _)=>True
 | some (.set _ _)=>True
 | some (.ins _ _ _)=>True
 | some (.ext _)=>True
 | some (.dd _)=>True
 | _=>False
section
variable {P:Program}{w:World}{H:Hp}{h h':Heap}{x e:Addr}{o':HO}
theorem HOk.write(ok:HOk P w H h)(mu:Mut (H x))(he:e=x\/H e=some (.own x))(k:∀b u,b≠e->h.get? b=some u->h'.get? b=some u)(heo:∃u,h'.get? e=some u)
  (new:Ch P w (upd H x o') h' x o'):HOk P w (upd H x o') h':=λb u q=>by
 have nown:∀c y,H c=some (.own y)->c≠x:=λc y r z=>by subst z;rw [r]at mu;exact mu
 have ntup:∀c xs,H c=some (.tup xs)->c≠x:=λc xs r z=>by subst z;rw [r]at mu;exact mu
 by_cases hb:b=x
 ·subst hb;rw [Cq]at q;cases q;exact new
 ·rw [Bn hb]at q
  by_cases hbe:b=e
  ·have q':H b=some (.own x):=by
    rcases he with z | z
    ·exact absurd (hbe.trans z) hb
    ·rw [hbe];exact z
   rw [q]at q';cases q'
   obtain⟨v,hv⟩:=heo
   exact⟨v,by rw [hbe];exact hv⟩
  ·refine(ok b u q).stay (λc v hc r=>k c v ?_ r) (λc r=>by rw [Bn (nown c b r)];exact r) λc xs r=>by rw [Bn (ntup c xs r)];exact r
   rcases hc with rfl | hc
   ·exact hbe
   ·rintro rfl
    rcases he with z | z
    ·exact nown c b hc z
    ·rw [hc]at z;cases z;exact hb rfl
end
structure Un(fs ex:List Addr)(H H':Hp)(h h':Heap):Prop where
 keep:∀b o,h.get? b=some o->H b=none->b∉fs->b∉ex->h'.get? b=some o
 slot:∀b o,h.get? b=some o->H b=none->b∈fs->b∉ex->∃sl,h'.get? b=some { o with slots:=sl }
 free:∀b o,h.get? b=some o->H b=none->b∉ex->H' b=none
 there:∀b o,h.get? b=some o->b∉ex->∃o',h'.get? b=some o'
 tups:∀b xs,H b=some (.tup xs)->H' b=some (.tup xs)
 frzs:∀b o u,H b=some (.frz o u)->H' b=some (.frz o u)
 tbls:∀b ps,H b=some (.tbl ps)->∃more,H' b=some (.tbl (ps++more))
section
variable {fs fs' ex ex':List Addr}{H H1 H2:Hp}{h h1 h2 h':Heap}{a x e:Addr}{o:HO}
theorem Un.any(u:Un fs ex H H1 h h1){b:Addr}{ob:Obj}(q:h.get? b=some ob)(n:H b=none)(hx:b∉ex):∃sl,h1.get? b=some { ob with slots:=sl }:=by
 by_cases hb:b∈fs
 ·exact u.slot b ob q n hb hx
 ·exact⟨ob.slots,u.keep b ob q n hb hx⟩
theorem Un.kept(k:∀b u,h.get? b=some u->h'.get? b=some u):Un fs ex H H h h' :=
 ⟨λb ob q _ _ _=>k b ob q,λb ob q _ _ _=>⟨ob.slots,k b ob q⟩,λ_ _ _ n _=>n,λb ob q _=>⟨ob,k b ob q⟩,λ_ _ q=>q,λ_ _ _ q=>q,λ_ ps q=>⟨#[],by rw [q];simp⟩⟩
theorem Un.refl:Un fs ex H H h h:=Un.kept λ_ _ q=>q
theorem Un.laid(k:∀b u,h.get? b=some u->h'.get? b=some u)(hp:h.objs.size<=a)(hn:H a=none):Un fs ex H (upd H a o) h h' where
 keep:=λb u q _ _ _=>k b u q
 slot:=λb u q _ _ _=>⟨u.slots,k b u q⟩
 free:=λb u q n _=>by rw [Bn (Nat.ne_of_lt (Nat.lt_of_lt_of_le (Heap.lt_size q) hp))];exact n
 there:=λb u q _=>⟨u,k b u q⟩
 tups:=λb xs q=>by rw [Bn (Ci q hn)];exact q
 frzs:=λb u xs q=>by rw [Bn (Ci q hn)];exact q
 tbls:=λb ps q=>⟨#[],by rw [Bn (Ci q hn),q];simp⟩
theorem Un.write(mu:Mut (H x))(he:e=x\/H e=some (.own x))(k:∀b u,b≠e->h.get? b=some u->h'.get? b=some u)(heo:∃u,h'.get? e=some u):Un fs ex H (upd H x o) h h':=by
 have hx:∀b,H b=none->b≠x:=λb n z=>by subst z;rw [n]at mu;exact mu
 have hb:∀b,H b=none->b≠e:=λb n z=>by
  subst z
  rcases he with r | r
  ·exact hx b n r
  ·rw [n]at r;cases r
 have hm:∀b u,H b=some u->¬Mut (some u)->b≠x:=λb u q nm z=>by subst z;rw [q]at mu;exact nm mu
 refine⟨λb u q n _ _=>k b u (hb b n) q,λb u q n _ _=>⟨u.slots,k b u (hb b n) q⟩,λb u q n _=>by rw [Bn (hx b n)];exact n,λb u q _=>?_,
  λb xs q=>by rw [Bn (hm b _ q λz=>z)];exact q,λb u xs q=>by rw [Bn (hm b _ q λz=>z)];exact q,λb ps q=>⟨#[],by rw [Bn (hm b _ q λz=>z),q];simp⟩⟩
 by_cases hbe:b=e
 ·subst hbe;exact heo
 ·exact⟨u,k b u hbe q⟩
end
def trk(h:Heap)(H:Hp):List Addr:=(List.range h.objs.size).filter λa=>(H a).isSome
def La(h:Heap)(H:Hp):Heap:=PySem.W.hideAll h (trk h H)
theorem Q4(h:Heap)(H:Hp):(La h H).objs.size=h.objs.size:=PySem.W.hideAll_size _ _
theorem Su{h:Heap}{H:Hp}{b:Addr}{o:Obj}(e:h.get? b=some o)(n:H b=none):(La h H).get? b=some o :=
 PySem.W.hideAll_get _ e λhm=>by
  have q:(H b).isSome=true:=(List.mem_filter.mp hm).2
  rw [n]at q;simp at q
theorem V5{h:Heap}{H:Hp}{b:Addr}{o:Obj}(e:(La h H).get? b=some o):h.get? b=some o/\H b=none:=by
 have e':h.get? b=some o:=PySem.W.of_hideAll (trk h H) e
 refine⟨e',?_⟩
 cases q:H b with
 | none=>rfl
 | some x =>
  have hm:b∈trk h H:=List.mem_filter.mpr ⟨List.mem_range.mpr (Heap.lt_size e'),by simp [q]⟩
  have z:(La h H).get? b=none:=PySem.W.hideAll_none (trk h H) hm
  rw [z]at e;cases e
def V6(g h:Heap)(L:Addr):List (Addr×Obj):=(List.range h.objs.size).filterMap λa=>if a=L\/(g.get? a).isSome=true then none else(h.get? a).map λo=>(a,o)
def rest(g h:Heap)(L d:Addr):List (Addr×Obj):=(V6 g h L).filter λp=>decide (p.1≠d)
structure Mod(K:PySem.W.Frag)(mg:Str->Option Value)(base:Heap):Prop where
 kin:K.In base
 glob:base.Ns mainGlobals mg
 blt:∃mb,base.Ns builtinsNs mb/\∀x:Str,x ≠ "__name__" -> mb x=bootBuiltins x
 nolimit:base.NoLimit
structure Cx where
 prog:Program
 w:World
 K:PySem.W.Frag
 mg:Str->Option Value
 base:Heap
 A:Around
 N:List Str
 s₀:Shared
 H₀:Hp
 env:Env
 outer:List Env
 stack:List Env
 ex:List Addr
 fn:Str->Bool
 calm:Bool
 pn:List (Addr×Obj)
 xe:Value->Shared->Prop
def frs(l:List Env):List Addr:=l.filterMap (·.frame)
abbrev Cx.fs(X:Cx):List Addr:=frs X.outer
def Vis(sc:Scope)(x:Str):Prop:=sc.names.lookup x=some .local\/sc.names.lookup x=some .cell\/sc.names.lookup x=some .free
def Loc(sc:Scope)(x:Str):Prop:=sc.names.lookup x=some .local\/sc.names.lookup x=some .cell
def Look(env:Env)(h:Heap)(m:Str->Option Value)(x:Str)(u:Value):Prop :=
 (env.kindOf x=some .local/\m x=some u)\/((env.kindOf x=some .cell\/env.kindOf x=some .free)/\∃c,env.cells.lookup x=some c/\h.IsCell c (some u))
structure Cx.Ok(X:Cx):Prop where
 mod:Mod X.K X.mg X.base
 kind:X.env.scope.kind=.function
 glob:X.env.globals=mainGlobals
 blt:X.env.builtins=builtinsNs
 above:X.s₀.heap.objs.size<=X.env.locals
 inj:∀x y c,X.env.cells.lookup x=some c->X.env.cells.lookup y=some c->x=y
 has:∀x,(X.env.kindOf x=some .cell\/X.env.kindOf x=some .free)->∃c,X.env.cells.lookup x=some c
 cab:∀x c,X.fn x=true->X.env.cells.lookup x=some c->X.s₀.heap.objs.size<=c
 hd:X.calm=true->X.A.handled=none
 frames:X.A.frames=some X.stack
 stk:X.stack=X.outer\/(X.stack=X.env :: X.outer/\X.env.frame=some X.env.locals)
 exf:∀b∈X.ex,b≠X.env.locals/\∀x c,X.env.cells.lookup x=some c->c≠b
 bs:∀b o,X.base.get? b=some o->X.s₀.heap.get? b=some o/\X.H₀ b=none
 bsz:X.base.objs.size<=X.s₀.heap.objs.size
 noex:∀b o,X.base.get? b=some o->b∉X.ex
 exfs:∀b∈X.ex,b∉X.fs
 funs:X.s₀.heap.FunFrames X.base X.outer
 frf:∀b∈X.fs,X.H₀ b=none
structure Inv(X:Cx)(pins:List (Addr×Obj))(σ:List (Option V))(H:Hp)(s:Shared):Prop where
 ok:X.Ok
 os:s.os=X.s₀.os
 bare:AllBare s.gens
 base:Un X.fs X.ex X.H₀ H X.s₀.heap s.heap
 loc:∃m,s.heap.Ns X.env.locals m/\∀(i:Nat) (x:Str) (v:V),X.N[i]?=some x->σ[i]?=some (some v)->Vis X.env.scope x->∃u,B4 v u/\Look X.env s.heap m x u
 cell:∀x c,X.env.cells.lookup x=some c->∃v,s.heap.IsCell c v
 free:H X.env.locals=none
 freeC:∀x c,X.env.cells.lookup x=some c->H c=none
 pin:∀p∈X.pn++pins,s.heap.get? p.1=some p.2/\H p.1=none/\p.1≠X.env.locals/\p.1∉X.fs/\∀v,p.2.data≠.cell v
 hok:HOk X.prog X.w H s.heap
 len:σ.length=X.N.length
section
variable {X:Cx}{pins:List (Addr×Obj)}{σ:List (Option V)}{H H':Hp}{s:Shared}{h':Heap}
theorem Cx.Ok.nofr(ok:X.Ok){b:Addr}{o:Obj}(e:X.base.get? b=some o):b∉X.fs:=λhb=>by
 have:=(ok.funs.mem hb).1
 rw [e]at this;cases this
theorem Inv.bs(I:Inv X pins σ H s):∀b o,X.base.get? b=some o->s.heap.get? b=some o/\H b=none:=λb o e =>
 ⟨I.base.keep b o (I.ok.bs b o e).1 (I.ok.bs b o e).2 (I.ok.nofr e) (I.ok.noex b o e),I.base.free b o (I.ok.bs b o e).1 (I.ok.bs b o e).2 (I.ok.noex b o e)⟩
theorem Inv.bk(I:Inv X pins σ H s):∀b o,X.base.get? b=some o->s.heap.get? b=some o:=λb o e=>(I.bs b o e).1
theorem Inv.mod(I:Inv X pins σ H s):Mod X.K X.mg X.base:=I.ok.mod
theorem Inv.kIn(I:Inv X pins σ H s):X.K.In s.heap:=I.ok.mod.kin.keeps I.bk
theorem Inv.lt(I:Inv X pins σ H s):X.env.locals < s.heap.objs.size:=let⟨_,hn,_⟩:=I.loc;hn.lt
theorem Inv.sz(I:Inv X pins σ H s):X.s₀.heap.objs.size<=s.heap.objs.size:=Nat.le_trans I.ok.above (Nat.le_of_lt I.lt)
theorem Inv.nofs(I:Inv X pins σ H s){a:Addr}(h:s.heap.objs.size<=a):a∉X.fs:=λhb=>by
 obtain⟨_,o,ho,_⟩:=I.ok.funs.mem hb
 exact absurd (Nat.lt_of_lt_of_le (Heap.lt_size ho) (Nat.le_trans I.sz h)) (Nat.lt_irrefl _)
theorem Inv.cne(I:Inv X pins σ H s):∀x c,X.env.cells.lookup x=some c->c≠X.env.locals:=λx c e z=>by
 obtain⟨v,o,ho,hd⟩:=I.cell x c e
 obtain⟨m,⟨o',es,ep,ho',hd',_⟩,_⟩:=I.loc
 rw [z,ho']at ho;cases ho;rw [hd']at hd;cases hd
theorem Inv.funs(I:Inv X pins σ H s):s.heap.FunFrames X.base X.outer:=by
 have all:∀(l:List Env),(∀b∈frs l,b∈X.fs)->X.s₀.heap.FunFrames X.base l->s.heap.FunFrames X.base l:=by
  intro l
  induction l with
  | nil=>intro _ _;trivial
  | cons env r ih =>
   intro hs hl
   obtain⟨hk,⟨L,o,hf,hn,ho,hd⟩,hr⟩:=hl
   have hL:L∈X.fs:=hs L (by unfold frs;rw [List.filterMap_cons,hf];exact List.mem_cons_self)
   obtain⟨sl,e⟩:=I.base.slot L o ho (I.ok.frf L hL) hL λz=>I.ok.exfs L z hL
   exact⟨hk,⟨L,_,hf,hn,e,hd⟩,ih (λb hb=>hs b (by unfold frs;rw [List.filterMap_cons,hf];exact List.mem_cons_of_mem _ hb)) hr⟩
 exact all X.outer (λ_ hb=>hb) I.ok.funs
theorem Inv.stack(I:Inv X pins σ H s):s.heap.FunFrames X.base X.stack:=by
 rcases I.ok.stk with e | ⟨e,hf⟩
 ·rw [e];exact I.funs
 ·rw [e]
  obtain⟨m,hn,_⟩:=I.loc
  refine .cons (by rw [I.ok.kind];decide) hf hn ?_ I.funs
  exact Heap.get?_none_of_le (Nat.le_trans I.ok.bsz I.ok.above)
theorem Inv.stkSub(I:Inv X pins σ H s):∀b∈frs X.stack,b∈X.env.locals :: X.fs:=λb hb=>by
 rcases I.ok.stk with e | ⟨e,hf⟩
 ·rw [e]at hb;exact List.mem_cons_of_mem _ hb
 ·rw [e]at hb
  unfold frs at hb
  rw [List.filterMap_cons,hf]at hb
  exact hb
theorem Inv.stkFree(I:Inv X pins σ H s):∀b∈frs X.stack,H b=none:=λb hb=>by
 rcases List.mem_cons.mp (I.stkSub b hb) with e | hb
 ·rw [e];exact I.free
 ·obtain⟨_,o,ho,_⟩:=I.ok.funs.mem hb
  exact I.base.free b o ho (I.ok.frf b hb) λz=>I.ok.exfs b z hb
theorem Inv.step{g':Array GenState}{t':Nat}{d':Drawn}{ch:List Addr}(I:Inv X pins σ H s)
  (hch:∀b∈ch,(b∈X.ex\/X.s₀.heap.objs.size<=b)/\b≠X.env.locals/\(∀x c,X.env.cells.lookup x=some c->c≠b)/\∀p∈X.pn++pins,p.1≠b)
  (keep:∀b o,b≠X.env.locals->b∉X.fs->b∉ch->s.heap.get? b=some o->H b=none->h'.get? b=some o)
  (slot:∀b o,b≠X.env.locals->b∈X.fs->b∉ch->s.heap.get? b=some o->H b=none->∃sl,h'.get? b=some { o with slots:=sl }) (free:∀b o,b∉ch->s.heap.get? b=some o->H b=none->H' b=none)
  (there:∀b o,b∉ch->s.heap.get? b=some o->∃o',h'.get? b=some o')
  (tups:∀b xs,H b=some (.tup xs)->H' b=some (.tup xs)) (frzs:∀b o u,H b=some (.frz o u)->H' b=some (.frz o u)) (tbls:∀b ps,H b=some (.tbl ps)->∃more,H' b=some (.tbl (ps++more)))
  (ns:∀m,s.heap.Ns X.env.locals m->h'.Ns X.env.locals m) (hok:HOk X.prog X.w H' h') (hg:AllBare g') :
  Inv X pins σ H' { s with heap:=h',gens:=g',drawn:=d',toks:=t' }:=by
 have neL:∀b o,X.s₀.heap.get? b=some o->b≠X.env.locals:=λb o e=>Nat.ne_of_lt (Nat.lt_of_lt_of_le (Heap.lt_size e) I.ok.above)
 have neC:∀b o,X.s₀.heap.get? b=some o->b∉X.ex->b∉ch:=λb o e hx hb=>by
  rcases(hch b hb).1 with z | z
  ·exact hx z
  ·exact absurd (Nat.lt_of_lt_of_le (Heap.lt_size e) z) (Nat.lt_irrefl _)
 have cellK:∀x c,X.env.cells.lookup x=some c->∀v,s.heap.IsCell c v->h'.IsCell c v:=λx c e v ⟨o,ho,hd⟩=>by
  have nch:c∉ch:=λz=>(hch c z).2.2.1 x c e rfl
  by_cases hc:c∈X.fs
  ·obtain⟨sl,q⟩:=slot c o (I.cne x c e) hc nch ho (I.freeC x c e)
   exact⟨_,q,hd⟩
  ·exact⟨o,keep c o (I.cne x c e) hc nch ho (I.freeC x c e),hd⟩
 refine⟨I.ok,I.os,hg,⟨λb o e n hb hx=>?_,λb o e n hb hx=>?_,λb o e n hx=>?_,λb o e hx=>?_,λb xs e=>tups b xs (I.base.tups b xs e),λb o xs e=>frzs b o xs (I.base.frzs b o xs e),λb ps e=>?_⟩,?_,λx c e=>?_,?_,λx c e=>?_,λp hp=>?_,hok,I.len⟩
 ·exact keep b o (neL b o e) hb (neC b o e hx) (I.base.keep b o e n hb hx) (I.base.free b o e n hx)
 ·obtain⟨sl,e1⟩:=I.base.slot b o e n hb hx
  obtain⟨sl',e2⟩:=slot b _ (neL b o e) hb (neC b o e hx) e1 (I.base.free b o e n hx)
  exact⟨sl',e2⟩
 ·obtain⟨o',e1⟩:=I.base.there b o e hx
  exact free b o' (neC b o e hx) e1 (I.base.free b o e n hx)
 ·obtain⟨o',e1⟩:=I.base.there b o e hx
  exact there b o' (neC b o e hx) e1
 ·obtain⟨m1,e1⟩:=I.base.tbls b ps e
  obtain⟨m2,e2⟩:=tbls b _ e1
  exact⟨m1++m2,by rw [e2,Array.append_assoc]⟩
 ·obtain⟨m,hn,hl⟩:=I.loc
  refine⟨m,ns m hn,λi x v e1 e2 e3=>?_⟩
  obtain⟨u,r,l⟩:=hl i x v e1 e2 e3
  refine⟨u,r,?_⟩
  rcases l with l | ⟨k,c,e,z⟩
  ·exact .inl l
  ·exact .inr ⟨k,c,e,cellK x c e _ z⟩
 ·obtain⟨v,z⟩:=I.cell x c e
  exact⟨v,cellK x c e v z⟩
 ·obtain⟨m,⟨o,_,_,ho,_⟩,_⟩:=I.loc
  exact free _ o (λz=>(hch _ z).2.1 rfl) ho I.free
 ·obtain⟨v,o,ho,hd⟩:=I.cell x c e
  exact free c o (λz=>(hch c z).2.2.1 x c e rfl) ho (I.freeC x c e)
 ·obtain⟨e,n,ne,nf,d⟩:=I.pin p hp
  have nch:p.1∉ch:=λz=>(hch p.1 z).2.2.2 p hp rfl
  exact⟨keep p.1 p.2 ne nf nch e n,free p.1 p.2 nch e n,ne,nf,d⟩
theorem Inv.un{t':Nat}(I:Inv X pins σ H s)(u:Un X.fs [] H H' s.heap h')(hok:HOk X.prog X.w H' h'):Inv X pins σ H' { s with heap:=h',toks:=t' }:=by
 obtain⟨m,⟨o,es,ep,ho,r⟩,_⟩:=id I.loc
 obtain⟨sl,hL⟩:=u.any ho I.free (by simp)
 exact I.step (g':=s.gens) (d':=s.drawn) (ch:=[]) (λ_ z=>nomatch z) (λb o _ hb _ e n=>u.keep b o e n hb (by simp)) (λb o _ hb _ e n=>u.slot b o e n hb (by simp)) (λb o _ e n=>u.free b o e n (by simp)) (λb o _ e=>u.there b o e (by simp)) u.tups u.frzs u.tbls (λm' hm=>by
  obtain⟨o',es',ep',ho',r'⟩:=hm
  rw [ho]at ho';cases ho'
  exact⟨_,es',ep',hL,r'⟩) hok I.bare
theorem Inv.call{g':Array GenState}{t':Nat}{d':Drawn}{ch:List Addr}(I:Inv X pins σ H s)(u:Un (frs X.stack) ch H H' s.heap h')(hok:HOk X.prog X.w H' h')(hg:AllBare g')
  (hch:∀b∈ch,(b∈X.ex\/X.s₀.heap.objs.size<=b)/\b≠X.env.locals/\(∀x c,X.env.cells.lookup x=some c->c≠b)/\∀p∈X.pn++pins,p.1≠b) :
  Inv X pins σ H' { s with heap:=h',gens:=g',drawn:=d',toks:=t' }:=by
 obtain⟨m,⟨o,es,ep,ho,r⟩,_⟩:=id I.loc
 obtain⟨sl,hL⟩:=u.any ho I.free λz=>(hch _ z).2.1 rfl
 exact I.step (ch:=ch) hch (λb o hL hb hc e n=>u.keep b o e n (λz=>(List.mem_cons.mp (I.stkSub b z)).elim hL hb) hc) (λb o _ _ hc e n=>u.any e n hc) (λb o hc e n=>u.free b o e n hc) (λb o hc e=>u.there b o e hc) u.tups u.frzs u.tbls (λm' hm=>by
  obtain⟨o',es',ep',ho',r'⟩:=hm
  rw [ho]at ho';cases ho'
  exact⟨_,es',ep',hL,r'⟩) hok hg
theorem Inv.turned{t':Nat}{it:Addr}(I:Inv X pins σ H s)(k:∀b o,b≠it->s.heap.get? b=some o->h'.get? b=some o)(hn:H it=none)(hL:it≠X.env.locals)
  (h1:it∈X.ex\/X.s₀.heap.objs.size<=it) (h2:∀x c,X.env.cells.lookup x=some c->c≠it) (h3:∀p∈X.pn++pins,p.1≠it):Inv X pins σ H { s with heap:=h',toks:=t' }:=by
 have nit:∀b u,H b=some u->b≠it:=λb u e z=>by rw [z,hn]at e;cases e
 refine I.step (g':=s.gens) (d':=s.drawn) (ch:=[it]) (λb hb=>?_) (λb o _ _ hc e _=>k b o (λz=>hc (by simp [z])) e) (λb o _ _ hc e _=>⟨o.slots,k b o (λz=>hc (by simp [z])) e⟩) (λ_ _ _ _ n=>n)
  (λb o hc e=>⟨o,k b o (λz=>hc (by simp [z])) e⟩) (λ_ _ e=>e) (λ_ _ _ e=>e) (λb ps e=>⟨#[],by rw [e];simp⟩) (λm hm=>?_) (λb u e=>?_) I.bare
 ·have e:b=it:=by simpa using hb
  subst e
  exact⟨h1,hL,h2,h3⟩
 ·obtain⟨o,es,ep,ho,r⟩:=hm
  exact⟨o,es,ep,k _ o (Ne.symm hL) ho,r⟩
 ·refine(I.hok b u e).stay (λc v hc q=>k c v ?_ q) (λ_ q=>q) λ_ _ q=>q
  rcases hc with z | z
  ·rw [z];exact nit b u e
  ·exact nit c _ z
theorem Inv.tok(I:Inv X pins σ H s)(t:Nat):Inv X pins σ H { s with toks:=t }:=I.un (h':=s.heap) (t':=t) Un.refl I.hok
theorem Inv.kept{t':Nat}(I:Inv X pins σ H s)(k:∀b u,s.heap.get? b=some u->h'.get? b=some u):Inv X pins σ H { s with heap:=h',toks:=t' }:=I.un (Un.kept k) (I.hok.kept k)
theorem Inv.laid{a:Addr}{o:HO}{t':Nat}(I:Inv X pins σ H s)(k:∀b u,s.heap.get? b=some u->h'.get? b=some u)(hp:s.heap.objs.size<=a)(new:Ch X.prog X.w (upd H a o) h' a o) :
  Inv X pins σ (upd H a o) { s with heap:=h',toks:=t' }:=I.un (Un.laid k hp (I.hok.fresh hp)) (I.hok.laid k hp new)
theorem Inv.write{x e:Addr}{o:HO}{t':Nat}(I:Inv X pins σ H s)(mu:Mut (H x))(he:e=x\/H e=some (.own x))(k:∀b u,b≠e->s.heap.get? b=some u->h'.get? b=some u)(heo:∃u,h'.get? e=some u)
  (new:Ch X.prog X.w (upd H x o) h' x o):Inv X pins σ (upd H x o) { s with heap:=h',toks:=t' }:=I.un (Un.write mu he k heo) (I.hok.write mu he k heo new)
theorem Inv.pins_of{pins':List (Addr×Obj)}(I:Inv X pins σ H s)(h:∀p∈pins',s.heap.get? p.1=some p.2/\H p.1=none/\p.1≠X.env.locals/\p.1∉X.fs/\∀v,p.2.data≠.cell v):Inv X pins' σ H s :=
 ⟨I.ok,I.os,I.bare,I.base,I.loc,I.cell,I.free,I.freeC,λp hp=>(List.mem_append.mp hp).elim (λz=>I.pin p (List.mem_append_left _ z)) (h p),I.hok,I.len⟩
theorem Mf{N:List Str}(hN:N.Nodup){i j:Nat}{x:Str}(a:N[i]?=some x)(b:N[j]?=some x):i=j:=by
 obtain⟨h1,e1⟩:=List.getElem?_eq_some_iff.mp a
 obtain⟨h2,e2⟩:=List.getElem?_eq_some_iff.mp b
 exact(List.getElem_inj hN).mp (e1.trans e2.symm)
theorem J6{M:Model}{A:Around}{E:Value->Shared->Prop}{i:Nat}{x:Str}{v:V}{u:Value}{Q:Unit->Shared->Prop}(I:Inv X pins σ H s)(hN:X.N.Nodup)(hi:X.N[i]?=some x)(hx:Loc X.env.scope x)(r:B4 v u)
  (h:∀s',Inv X pins (σ.set i (some v)) H s'->(∃a,Heap.SameBut a s.heap s'.heap/\(a=X.env.locals\/X.env.cells.lookup x=some a))->Q () s') (hf:X.fn x=true\/X.env.scope.names.lookup x=some .local:=by first | exact .inl rfl | exact .inr rfl | assumption):wpAny M A (storeName X.env x u) Q E s:=by
 obtain⟨m,hn,hl⟩:=id I.loc
 have hcls:(X.env.scope.kind==.class || (X.env.scope.kind==.module && X.env.locals != X.env.globals))=false:=by rw [I.ok.kind];rfl
 have hiσ:i < σ.length:=by rw [I.len];exact(List.getElem?_eq_some_iff.mp hi).1
 have cne:=I.cne
 have tracked:∀{a:Addr} {h':Heap},(∃o,s.heap.get? a=some o/\H a=none)->Heap.SameBut a s.heap h'->HOk X.prog X.w H h':=λ{a h'} ha hs b ob e=>by
  obtain⟨_,_,hfree⟩:=ha
  refine(I.hok b ob e).stay (λc w' hc q=>(hs.2 c ?_).trans q) (λ_ q=>q) λ_ _ q=>q
  rintro rfl
  rcases hc with rfl | hc
  ·rw [hfree]at e;cases e
  ·rw [hfree]at hc;cases hc
 rcases hx with hk | hk
 ·refine wpAny_storeName_local hk hn (λh' hn' hs=>?_) hcls
  obtain⟨oL,_,_,hoL,_⟩:=id hn
  refine h _ ⟨I.ok,I.os,I.bare,⟨λb o e n hb hx=>?_,λb o e n hb hx=>?_,I.base.free,λb o e hx=>?_,I.base.tups,I.base.frzs,I.base.tbls⟩,⟨_,hn',λj y v' e1 e2 e3=>?_⟩,λy c e=>?_,I.free,I.freeC,λp hp=>?_,tracked ⟨oL,hoL,I.free⟩ hs,by simpa using I.len⟩ ⟨_,hs,.inl rfl⟩
  ·exact(hs.2 b (Nat.ne_of_lt (Nat.lt_of_lt_of_le (Heap.lt_size e) I.ok.above))).trans (I.base.keep b o e n hb hx)
  ·obtain⟨sl,e1⟩:=I.base.slot b o e n hb hx
   exact⟨sl,(hs.2 b (Nat.ne_of_lt (Nat.lt_of_lt_of_le (Heap.lt_size e) I.ok.above))).trans e1⟩
  ·obtain⟨o',e1⟩:=I.base.there b o e hx
   exact⟨o',(hs.2 b (Nat.ne_of_lt (Nat.lt_of_lt_of_le (Heap.lt_size e) I.ok.above))).trans e1⟩
  ·by_cases hj:j=i
   ·subst hj
    rw [hi]at e1;cases e1
    rw [List.getElem?_set_self hiσ]at e2
    cases e2
    exact⟨u,r,.inl ⟨hk,by simp⟩⟩
   ·rw [List.getElem?_set_ne (Ne.symm hj)]at e2
    obtain⟨u',r',q⟩:=hl j y v' e1 e2 e3
    refine⟨u',r',?_⟩
    rcases q with⟨k,e⟩ | ⟨k,c,e,z⟩
    ·refine .inl ⟨k,?_⟩
     have:y≠x:=λe=>hj (Mf hN e1 (e ▸ hi))
     simp [this,e]
    ·exact .inr ⟨k,c,e,z.sameBut hs (cne y c e)⟩
  ·obtain⟨w',z⟩:=I.cell y c e
   exact⟨w',z.sameBut hs (cne y c e)⟩
  ·obtain⟨e,n,ne,nf,d⟩:=I.pin p hp
   exact⟨(hs.2 p.1 ne).trans e,n,ne,nf,d⟩
 ·have hfn:X.fn x=true:=by
   rcases hf with z | z
   ·exact z
   ·rw [z]at hk;cases hk
  obtain⟨c,hc⟩:=I.ok.has x (.inl hk)
  obtain⟨w',z⟩:=I.cell x c hc
  refine wpAny_storeName_cell I.ok.kind hk hc z (λh' hc' hs=>?_)
  obtain⟨oc,hoc,hocd⟩:=id z
  refine h { s with heap:=h' } ⟨I.ok,I.os,I.bare,⟨λb o e n hb hx=>?_,λb o e n hb hx=>?_,I.base.free,λb o e hx=>?_,I.base.tups,I.base.frzs,I.base.tbls⟩,⟨m,hn.sameBut hs (Ne.symm (cne x c hc)),λj y v' e1 e2 e3=>?_⟩,λy c' e=>?_,I.free,I.freeC,λp hp=>?_,tracked ⟨oc,hoc,I.freeC x c hc⟩ hs,by simpa using I.len⟩ ⟨c,hs,.inr hc⟩
  ·exact(hs.2 b (Nat.ne_of_lt (Nat.lt_of_lt_of_le (Heap.lt_size e) (I.ok.cab x c hfn hc)))).trans (I.base.keep b o e n hb hx)
  ·obtain⟨sl,e1⟩:=I.base.slot b o e n hb hx
   exact⟨sl,(hs.2 b (Nat.ne_of_lt (Nat.lt_of_lt_of_le (Heap.lt_size e) (I.ok.cab x c hfn hc)))).trans e1⟩
  ·obtain⟨o',e1⟩:=I.base.there b o e hx
   exact⟨o',(hs.2 b (Nat.ne_of_lt (Nat.lt_of_lt_of_le (Heap.lt_size e) (I.ok.cab x c hfn hc)))).trans e1⟩
  ·by_cases hj:j=i
   ·subst hj
    rw [hi]at e1;cases e1
    rw [List.getElem?_set_self hiσ]at e2
    cases e2
    exact⟨u,r,.inr ⟨.inl hk,c,hc,hc'⟩⟩
   ·rw [List.getElem?_set_ne (Ne.symm hj)]at e2
    obtain⟨u',r',q⟩:=hl j y v' e1 e2 e3
    refine⟨u',r',?_⟩
    rcases q with q | ⟨k,c',e,z'⟩
    ·exact .inl q
    ·refine .inr ⟨k,c',e,z'.sameBut hs ?_⟩
     rintro rfl
     exact hj (Mf hN e1 (I.ok.inj _ _ _ e hc ▸ hi))
  ·by_cases hcc:c'=c
   ·subst hcc;exact⟨_,hc'⟩
   ·obtain⟨w2,z2⟩:=I.cell y c' e
    exact⟨w2,z2.sameBut hs hcc⟩
  ·obtain⟨e,n,ne,nf,d⟩:=I.pin p hp
   refine⟨(hs.2 p.1 ?_).trans e,n,ne,nf,d⟩
   intro q
   rw [q,hoc]at e
   have q':oc=p.2:=Option.some.inj e
   exact d w' (by rw [<- q'];exact hocd)
theorem Mg{M:Model}{A:Around}{E:Value->Shared->Prop}{i:Nat}{x:Str}{v:V}{u:Value}{Q:Unit->Shared->Prop}(I:Inv X pins σ H s)(hN:X.N.Nodup)(hi:X.N[i]?=some x)(hx:Loc X.env.scope x)(r:B4 v u)
  (h:∀s',Inv X pins (σ.set i (some v)) H s'->Q () s') (hf:X.fn x=true\/X.env.scope.names.lookup x=some .local:=by first | exact .inl rfl | exact .inr rfl | assumption):wpAny M A (storeName X.env x u) Q E s :=
 J6 I hN hi hx r (λs' I' _=>h s' I') hf
theorem Inv.call'{s':Shared}{ch:List Addr}(I:Inv X pins σ H s)(ho:s'.os=s.os)(u:Un (frs X.stack) ch H H' s.heap s'.heap)(hok:HOk X.prog X.w H' s'.heap)(hg:AllBare s'.gens)
  (hch:∀b∈ch,(b∈X.ex\/X.s₀.heap.objs.size<=b)/\b≠X.env.locals/\(∀x c,X.env.cells.lookup x=some c->c≠b)/\∀p∈X.pn++pins,p.1≠b):Inv X pins σ H' s':=by
 obtain⟨h',g',d',t',o'⟩:=s'
 have e:o'=s.os:=ho
 subst e
 exact I.call (g':=g') (t':=t') (d':=d') u hok hg hch
end
abbrev XK:=Value->Option Addr->Hp->Prop
abbrev St:=List (Option V)
abbrev VK:=V->Hp->Prop
abbrev TE:=St->Hp->VK->Prop
abbrev TT:=St->Hp->(Bool->Hp->Prop)->Prop
abbrev TA:=St->Hp->(List V->Hp->Prop)->Prop
structure Ends where
 nx:St->Hp->Prop
 rt:VK
 bk:St->Hp->Prop:=λ_ _=>False
 ct:St->Hp->Prop:=λ_ _=>False
abbrev TS:=Ends->St->Hp->Prop
def EP(X:Cx)(pins:List (Addr×Obj))(σ:St)(Q:VK)(u:Value)(s':Shared):Prop:=∃v H',Inv X pins σ H' s'/\B4 v u/\Q v H'
def TP(X:Cx)(pins:List (Addr×Obj))(σ:St)(Q:Bool->Hp->Prop)(b:Bool)(s':Shared):Prop:=∃H',Inv X pins σ H' s'/\Q b H'
def AP(X:Cx)(pins:List (Addr×Obj))(σ:St)(Q:List V->Hp->Prop)(us:List Value)(s':Shared):Prop:=∃vs H',Inv X pins σ H' s'/\Vals vs us/\Q vs H'
def SP(X:Cx)(pins:List (Addr×Obj))(D:Ends)(f:Flow)(s':Shared):Prop :=
 match f with
 | .next=>∃ σ' H',Inv X pins σ' H' s'/\D.nx σ' H'
 | .brk=>∃ σ' H',Inv X pins σ' H' s'/\D.bk σ' H'
 | .cont=>∃ σ' H',Inv X pins σ' H' s'/\D.ct σ' H'
 | .ret u=>∃v σ' H',Inv X pins σ' H' s'/\B4 v u/\D.rt v H'
def PE(X:Cx)(e:Expr)(t:TE):Prop :=
 ∀(pins:List (Addr×Obj)) (s:Shared) (σ:St) (H:Hp) (Q:VK),Inv X pins σ H s->t σ H Q->wpAny (model X.prog X.w) X.A (eval e X.env) (EP X pins σ Q) X.xe s
def PT(X:Cx)(e:Expr)(t:TT):Prop :=
 ∀(pins:List (Addr×Obj)) (s:Shared) (σ:St) (H:Hp) (Q:Bool->Hp->Prop),Inv X pins σ H s->t σ H Q->wpAny (model X.prog X.w) X.A (isTrue e X.env (eval e X.env)) (TP X pins σ Q) X.xe s
def PW(X:Cx)(e:Expr)(t:TT):Prop :=
 ∀(whole:Sem Value) (pins:List (Addr×Obj)) (s:Shared) (σ:St) (H:Hp) (Q:Bool->Hp->Prop),Inv X pins σ H s->t σ H Q->wpAny (model X.prog X.w) X.A (isTrue e X.env whole) (TP X pins σ Q) X.xe s
theorem PW.pt{X:Cx}{e:Expr}{t:TT}(h:PW X e t):PT X e t:=h _
def PA(X:Cx)(es:List Expr)(t:TA):Prop :=
 ∀(pos:Pos) (pins:List (Addr×Obj)) (s:Shared) (σ:St) (H:Hp) (Q:List V->Hp->Prop),Inv X pins σ H s->t σ H Q->wpAny (model X.prog X.w) X.A (spliced (backTo pos (starEach es X.env))) (AP X pins σ Q) X.xe s
def PS(X:Cx)(st:Stmt)(t:TS):Prop :=
 ∀(pins:List (Addr×Obj)) (s:Shared) (σ:St) (H:Hp) (D:Ends),Inv X pins σ H s->t D σ H->wpAny (model X.prog X.w) X.A (exec st X.env) (SP X pins D) X.xe s
def PSs(X:Cx)(st:List Stmt)(t:TS):Prop :=
 ∀(pins:List (Addr×Obj)) (s:Shared) (σ:St) (H:Hp) (D:Ends),Inv X pins σ H s->t D σ H->wpAny (model X.prog X.w) X.A (execs st X.env) (SP X pins D) X.xe s
theorem thn{α:Type}{t:Sem α}{Q Q':α->Shared->Prop}{M:Model}{A:Around}{E:Value->Shared->Prop}{s:Shared}(h:wpAny M A t Q E s)(hQ:∀a s,Q a s->Q' a s):wpAny M A t Q' E s:=wpAny_mono h hQ λ_ _ x=>x
section
variable {X:Cx}
def Qc2(i:Nat):TE:=fun σ H Q=>∃v,σ[i]?=some (some v)/\Q v H
def tC(v:V):TE:=λ_ H Q=>Q v H
theorem Zy{i:Nat}{x:Str}{pos:Pos}(hN:X.N[i]?=some x)(hv:Vis X.env.scope x)(hd:(x==("__debug__" : Str))=false:=by decide) (hcd:(x==("__classdict__" : Str))=false:=by decide):PE X (.Name x pos) (Qc2 i):=by
 intro pins s σ H Q I h
 obtain⟨v,e,h⟩:=h
 obtain⟨m,hn,hl⟩:=I.loc
 obtain⟨u,r,l⟩:=hl i x v hN e hv
 have fin:EP X pins σ Q u s:=⟨v,H,I,r,h⟩
 rcases l with⟨hk,hm⟩ | ⟨hk,c,hc,hcell⟩
 ·exact wpAny_Name (wpAny_loadName_local I.ok.kind hk hn hm fin) hd
 ·rcases hk with hk | hk
  ·exact wpAny_Name (wpAny_loadName_cell I.ok.kind hk hc hcell fin) hd
  ·exact wpAny_Name (wpAny_loadName_free I.ok.kind hk hc hcell fin hcd) hd
theorem Zz{i j pos}:PE X (.Constant (.int i) j pos) (tC (.int i)):=λ_ _ _ H _ I h=>wpAny_Constant_int ⟨.int i,H,I.tok _,⟨_,rfl⟩,h⟩
theorem Qc3{b j pos}:PE X (.Constant (.bool b) j pos) (tC (.bl b)):=λ_ _ _ H _ I h=>Constant_bool ⟨.bl b,H,I,rfl,h⟩
theorem Z0{x j pos}:PE X (.Constant (.str x) j pos) (tC (.str x)):=λ_ _ _ H _ I h=>Calls.Constant_str ⟨.str x,H,I.tok _,⟨_,rfl⟩,h⟩
def Gl(X:Cx)(x:Str):Prop:=X.env.kindOf x=some .globalImplicit
theorem V7{E:Value->Shared->Prop}{pins:List (Addr×Obj)}{s:Shared}{σ:St}{H:Hp}{x:Str}{u:Value}{pos:Pos}{Q:Value->Shared->Prop}(I:Inv X pins σ H s)(hg:Gl X x)(hm:X.mg x=some u)(h:Q u s)
  (hd:(x==("__debug__" : Str))=false:=by decide):wpAny (model X.prog X.w) X.A (eval (.Name x pos) X.env) Q E s :=
 Calls.Name_function_global I.ok.kind hg (Calls.loadGlobal_global (by rw [I.ok.glob];exact I.mod.glob.keeps I.bk) hm h) hd
theorem C0{E:Value->Shared->Prop}{pins:List (Addr×Obj)}{s:Shared}{σ:St}{H:Hp}{x:Str}{u:Value}{pos:Pos}{Q:Value->Shared->Prop}(I:Inv X pins σ H s)(hg:Gl X x)(hm:X.mg x=none)(hv:bootBuiltins x=some u)(h:Q u s)
  (hn:x ≠ "__name__" := by decide) (hd:(x==("__debug__" : Str))=false:=by decide):wpAny (model X.prog X.w) X.A (eval (.Name x pos) X.env) Q E s:=by
 obtain⟨mb,h1,h2⟩:=I.mod.blt
 exact Calls.Name_function_global I.ok.kind hg (Calls.loadGlobal_builtin (by rw [I.ok.glob];exact I.mod.glob.keeps I.bk) hm (by rw [I.ok.blt];exact h1.keeps I.bk) ((h2 x hn).trans hv) h) hd
variable {a b:Expr}{ta tb:TE}{pos:Pos}
def tB(t:TE):TT:=fun σ H Q=>t σ H λx H1=>∃c,x=.bl c/\Q c H1
theorem Z5{e:Expr}{t:TE}(h:PE X e t)(he:∀whole,isTrue e X.env whole=(do let v <- whole;standAt e.pos;holding [v] (truthy v)):=by intro _;rfl):PT X e (tB t):=by
 intro pins s σ H Q I hw
 refine isTrue_plain (thn (h pins s σ H _ I hw) λv s1 zz206=>De zz206 λx H1 I1 r1 q1=>?_) (he _)
 obtain⟨d,rfl,q⟩:=q1
 cases r1
 exact wpAny_truthy_bool ⟨H1,I1,q⟩
variable {tA tB':TT}{rest:List Expr}
def Qgw(t u:TT):TT:=fun σ H Q=>t σ H λc H1=>if c=true then u σ H1 Q else Q false H1
def tOr(t u:TT):TT:=fun σ H Q=>t σ H λc H1=>if c=true then Q true H1 else u σ H1 Q
def Qgx(t:TT):TT:=fun σ H Q=>t σ H λc H1=>Q (!c) H1
theorem V8(ha:PT X a tA):PW X (.BoolOp .And [a] pos) tA:=by
 intro wh pins s σ H Q I h
 refine isTrue_and (thn (ha pins s σ H Q I h) λc s1 e=>?_)
 cases c with
 | true=>exact isTrue_and_nil e
 | false=>exact e
theorem Z6(ha:PT X a tA):PW X (.BoolOp .Or [a] pos) tA:=by
 intro wh pins s σ H Q I h
 refine isTrue_or (thn (ha pins s σ H Q I h) λc s1 e=>?_)
 cases c with
 | false=>exact isTrue_or_nil e
 | true=>exact e
theorem Z7(ha:PT X a tA)(hb:PW X (.BoolOp .And (b :: rest) pos) tB'):PW X (.BoolOp .And (a :: b :: rest) pos) (Qgw tA tB'):=by
 intro wh pins s σ H Q I h
 refine isTrue_and (thn (ha pins s σ H _ I h) λc s1 ⟨H1,I1,q1⟩=>?_)
 cases c with
 | true=>exact hb wh pins s1 σ H1 Q I1 q1
 | false=>exact⟨H1,I1,q1⟩
theorem Qc4(ha:PT X a tA)(hb:PW X (.BoolOp .Or (b :: rest) pos) tB'):PW X (.BoolOp .Or (a :: b :: rest) pos) (tOr tA tB'):=by
 intro wh pins s σ H Q I h
 refine isTrue_or (thn (ha pins s σ H _ I h) λc s1 ⟨H1,I1,q1⟩=>?_)
 cases c with
 | true=>exact⟨H1,I1,q1⟩
 | false=>exact hb wh pins s1 σ H1 Q I1 q1
theorem Z8(ha:PT X a tA):PT X (.UnaryOp .Not a pos) (Qgx tA):=by
 intro pins s σ H Q I h
 exact isTrue_not (ha pins s σ H (λc H1=>Q (!c) H1) I h)
def Qc5(ta tb:TE):TE:=fun σ H Q=>ta σ H λx H1=>∃c,x=.bl c/\if c=true then tb σ H1 Q else Q (.bl false) H1
def Qc6(ta:TE):TE:=fun σ H Q=>ta σ H λx H1=>∃c,x=.bl c/\Q (.bl (!c)) H1
theorem Z9{op}{t:TE}(h:PE X a t):PE X (.BoolOp op [a] pos) t:=λpins s σ H Q I hw=>BoolOp_one (h pins s σ H Q I hw)
theorem Qaa(ha:PE X a ta)(hb:PE X (.BoolOp .And (b :: rest) pos) tb):PE X (.BoolOp .And (a :: b :: rest) pos) (Qc5 ta tb):=by
 intro pins s σ H Q I h
 refine BoolOp_and (thn (ha pins s σ H _ I h) λv s1 zz207=>De zz207 λx H1 I1 r1 q1=>?_)
 obtain⟨c,rfl,q1⟩:=q1
 cases r1
 refine wpAny_truthy_bool ?_
 cases c with
 | true=>exact hb pins s1 σ H1 Q I1 q1
 | false=>exact⟨.bl false,H1,I1,rfl,q1⟩
theorem Qab(ha:PE X a ta):PE X (.UnaryOp .Not a pos) (Qc6 ta):=by
 intro pins s σ H Q I h
 refine UnaryOp_ (thn (ha pins s σ H _ I h) λv s1 zz209=>De zz209 λx H1 I1 r1 q1=>?_)
 obtain⟨c,rfl,q1⟩:=q1
 cases r1
 exact not_of (wpAny_truthy_bool ⟨.bl (!c),H1,I1,rfl,q1⟩)
def tIf(t:TT)(ta tb:TE):TE:=fun σ H Q=>t σ H λc H1=>if c=true then ta σ H1 Q else tb σ H1 Q
theorem Sv{c:Expr}(hc:PT X c tA)(ha:PE X a ta)(hb:PE X b tb):PE X (.IfExp c a b pos) (tIf tA ta tb):=by
 intro pins s σ H Q I h
 refine wpAny_IfExp (thn (hc pins s σ H _ I h) λd s1 ⟨H1,I1,q1⟩=>?_)
 cases d with
 | true=>exact ha pins s1 σ H1 Q I1 q1
 | false=>exact hb pins s1 σ H1 Q I1 q1
end
def Ec(K:PySem.W.Frag)(H:Hp)(a:Addr)(xs:List V):Prop :=
 Rd H a (.lst xs) \/
  ∃(o:Obj) (its:Array Value) (n:Nat),K.lookup a=some o/\o.cls=.type "list" /\ o.dict=none/\o.data=.seq its n/\its.size<=sizeLine/\Vals xs its.toList
def Jv(K:PySem.W.Frag)(H:Hp)(a:Addr)(xs:List V):Prop :=
 Rd H a (.tup xs) \/
  ∃(o:Obj) (its:Array Value) (n:Nat),K.lookup a=some o/\o.cls=.type "tuple" /\ o.data=.seq its n/\its.size<=sizeLine/\Vals xs its.toList
def Qgy:Value->Option V
 | .none=>some .non
 | .bool b=>some (.bl b)
 | .int i _=>some (.int i)
 | .str x _=>some (.str x)
 | .bytes b _=>some (.byt b)
 | .float b _=>some (.flt b)
 | .ref a=>some (.ref a)
 | .type n=>some (.ty n)
 | _=>none
theorem B4.abs{x:V}{u:Value}(r:B4 x u):Qgy u=some x:=by
 cases x with
 | non=>cases r;rfl
 | bl _=>cases r;rfl
 | int _=>obtain⟨t,rfl⟩:=r;rfl
 | str _=>obtain⟨t,rfl⟩:=r;rfl
 | byt _=>obtain⟨t,rfl⟩:=r;rfl
 | flt _=>obtain⟨t,rfl⟩:=r;rfl
 | ref _=>cases r;rfl
 | ty _=>cases r;rfl
theorem B4.inj{x y:V}{u:Value}(r:B4 x u)(q:B4 y u):x=y:=Option.some.inj (r.abs.symm.trans q.abs)
theorem Vals.inj:∀{xs ys:List V} {us:List Value},Vals xs us->Vals ys us->xs=ys
 | _,_,_,.nil,.nil=>rfl
 | _,_,_,.cons r t,.cons r' t'=>by rw [r.inj r',Vals.inj t t']
section
variable {X:Cx}{pins:List (Addr×Obj)}{σ:St}{H:Hp}{s:Shared}{a:Addr}{xs ys:List V}
theorem Ec.of{K:PySem.W.Frag}(h:H a=some (.lst xs)):Ec K H a xs:=.inl (.inl h)
theorem Jv.of{K:PySem.W.Frag}(h:H a=some (.tup xs)):Jv K H a xs:=.inl (.inl h)
theorem Inv.list(I:Inv X pins σ H s)(h:Ec X.K H a xs):∃its:List Value,Vals xs its/\PlainL s.heap a its.toArray/\xs.length<=sizeLine:=by
 rcases h with h | ⟨o,its,n,hk,hc,hd,hs,hz,r⟩
 ·obtain⟨z,its,n,r,e⟩:=h.ok I.hok
  exact⟨its,r,⟨_,n,e,rfl,rfl,rfl⟩,z⟩
 ·refine⟨its.toList,r,⟨o,n,I.kIn a o hk,hc,hd,by simpa using hs⟩,?_⟩
  have e:=r.length
  simp only [Array.length_toList]at e
  omega
theorem Inv.tuple(I:Inv X pins σ H s)(h:Jv X.K H a xs):∃its:List Value,Vals xs its/\IsTup s.heap a its.toArray/\xs.length<=sizeLine:=by
 rcases h with h | ⟨o,its,n,hk,hc,hs,hz,r⟩
 ·obtain⟨z,its,r,p⟩:=h.ok I.hok
  exact⟨its,r,p,z⟩
 ·refine⟨its.toList,r,⟨o,I.kIn a o hk,hc,n,by simpa using hs⟩,?_⟩
  have e:=r.length
  simp only [Array.length_toList]at e
  omega
theorem Inv.list_inj(I:Inv X pins σ H s)(h:Ec X.K H a xs)(h':Ec X.K H a ys):xs=ys:=by
 obtain⟨its,r,⟨o,n,e,_,_,d⟩,_⟩:=I.list h
 obtain⟨its',r',⟨o',n',e',_,_,d'⟩,_⟩:=I.list h'
 rw [e]at e';cases e'
 rw [d]at d'
 injection d' with d1 _
 have:its=its':=by simpa using congrArg Array.toList d1
 subst this
 exact r.inj r'
theorem Inv.tuple_inj(I:Inv X pins σ H s)(h:Jv X.K H a xs)(h':Jv X.K H a ys):xs=ys:=by
 obtain⟨its,r,⟨o,e,_,n,d⟩,_⟩:=I.tuple h
 obtain⟨its',r',⟨o',e',_,n',d'⟩,_⟩:=I.tuple h'
 rw [e]at e';cases e'
 rw [d]at d'
 injection d' with d1 _
 have:its=its':=by simpa using congrArg Array.toList d1
 subst this
 exact r.inj r'
end
abbrev Cx.wish(X:Cx)(E:Value->Shared->Prop):Cx:={ X with xe:=E }
abbrev Cx.nox(X:Cx):Cx:=X.wish λ_ _=>False
theorem Cx.Ok.wish{X:Cx}(ok:X.Ok)(E:Value->Shared->Prop):(X.wish E).Ok :=
 ⟨ok.mod,ok.kind,ok.glob,ok.blt,ok.above,ok.inj,ok.has,ok.cab,ok.hd,ok.frames,ok.stk,ok.exf,ok.bs,ok.bsz,ok.noex,ok.exfs,ok.funs,ok.frf⟩
theorem Cx.Ok.unwish{X:Cx}{E:Value->Shared->Prop}(ok:(X.wish E).Ok):X.Ok :=
 ⟨ok.mod,ok.kind,ok.glob,ok.blt,ok.above,ok.inj,ok.has,ok.cab,ok.hd,ok.frames,ok.stk,ok.exf,ok.bs,ok.bsz,ok.noex,ok.exfs,ok.funs,ok.frf⟩
section
variable {X:Cx}{pins:List (Addr×Obj)}{σ:St}{H:Hp}{s:Shared}{E:Value->Shared->Prop}
theorem Inv.wish(I:Inv X pins σ H s)(E:Value->Shared->Prop):Inv (X.wish E) pins σ H s:=⟨I.ok.wish E,I.os,I.bare,I.base,I.loc,I.cell,I.free,I.freeC,I.pin,I.hok,I.len⟩
theorem Inv.unwish(I:Inv (X.wish E) pins σ H s):Inv X pins σ H s:=⟨I.ok.unwish,I.os,I.bare,I.base,I.loc,I.cell,I.free,I.freeC,I.pin,I.hok,I.len⟩
theorem SP.unwish{D:Ends}{f:Flow}{s':Shared}(h:SP (X.wish E) pins D f s'):SP X pins D f s':=by
 cases f with
 | next=>obtain⟨σ',H',I,q⟩:=h;exact⟨σ',H',I.unwish,q⟩
 | brk=>obtain⟨σ',H',I,q⟩:=h;exact⟨σ',H',I.unwish,q⟩
 | cont=>obtain⟨σ',H',I,q⟩:=h;exact⟨σ',H',I.unwish,q⟩
 | ret u=>obtain⟨v,σ',H',I,r,q⟩:=h;exact⟨v,σ',H',I.unwish,r,q⟩
theorem PSs.nox{st:List Stmt}{t:TS}(h:PSs X.nox st t):PSs X st t:=λpins s σ H D I hw =>
 wpAny_mono (h pins s σ H D (I.wish _) hw) (λ_ _ q=>q.unwish) λ_ _ z=>False.elim z
end
section
variable {X:Cx}{st:Stmt}{rest:List Stmt}{t u:TS}{e:Expr}{te:TE}{pos:Pos}
def Qc7:TS:=λD σ H=>D.nx σ H
def Qgz(t u:TS):TS:=λD σ H=>t { D with nx:=u D } σ H
theorem V9:PSs X [] Qc7:=λ_ _ σ H _ I h=>wpAny_execs_nil ⟨σ,H,I,h⟩
theorem Sw(h1:PS X st t)(h2:PSs X rest u):PSs X (st :: rest) (Qgz t u):=by
 intro pins s σ H D I h
 refine wpAny_execs_cons (thn (h1 pins s σ H { D with nx:=u D } I h) λf s1 q=>?_)
 cases f with
 | next =>
  obtain⟨σ',H',I',q⟩:=q
  exact h2 pins s1 σ' H' D I' q
 | ret v=>exact q
 | brk=>exact q
 | cont=>exact q
theorem Wa(h1:PS X st t):PSs X [st] t:=by
 intro pins s σ H D I h
 refine wpAny_execs_cons (thn (h1 pins s σ H D I h) λf s1 q=>?_)
 cases f with
 | next=>exact wpAny_execs_nil q
 | ret v=>exact q
 | brk=>exact q
 | cont=>exact q
theorem Inv.quiet{pins:List (Addr×Obj)}{σ:St}{H:Hp}{s:Shared}(I:Inv X pins σ H s):interactive X.env=false:=by simp [interactive,I.ok.kind]
def Qc8(te:TE):TS:=λD σ H=>te σ H λ_ H1=>D.nx σ H1
theorem Wb(he:PE X e te)(hs:swapsWith e none pos.line X.env=pure false:=by rfl):PS X (.Expr e pos) (Qc8 te):=by
 intro pins s σ H D I h
 exact wpAny_Expr_any (thn (he pins s σ H _ I h) λv s1 zz210=>De zz210 λx H1 I1 r1 q1=>⟨σ,H1,I1,q1⟩) I.quiet hs
def Qg0(te:TE):TS:=λD σ H=>te σ H D.rt
theorem Qac(he:PE X e te):PS X (.Return (some e) pos) (Qg0 te):=by
 intro pins s σ H D I h
 exact wpAny_Return_some (thn (he pins s σ H _ I h) λv s1 zz211=>De zz211 λx H1 I1 r1 q1=>⟨x,σ,H1,I1,r1,q1⟩)
def Qg1(c:TT)(t u:TS):TS:=λD σ H=>c σ H λb H1=>if b=true then t D σ H1 else u D σ H1
theorem Qc9{c:Expr}{a b:List Stmt}{tc:TT}(hc:PT X c tc)(ha:PSs X a t)(hb:PSs X b u):PS X (.If c a b pos) (Qg1 tc t u):=by
 intro pins s σ H D I h
 refine wpAny_If (thn (hc pins s σ H _ I h) λd s1 ⟨H1,I1,q1⟩=>?_)
 cases d with
 | true=>exact ha pins s1 σ H1 D I1 q1
 | false=>exact hb pins s1 σ H1 D I1 q1
end
abbrev TG:=V->St->Hp->(St->Hp->Prop)->Prop
abbrev TGs:=List V->St->Hp->(St->Hp->Prop)->Prop
def PG(X:Cx)(target:Expr)(t:TG):Prop :=
 ∀(pins:List (Addr×Obj)) (s:Shared) (σ:St) (H:Hp) (v:V) (u:Value) (Q:St->Hp->Prop),Inv X pins σ H s->B4 v u->t v σ H Q ->
  wpAny (model X.prog X.w) X.A (assign target X.env u) (λ_ s'=>∃ σ' H',Inv X pins σ' H' s'/\Q σ' H') X.xe s
def PGs(X:Cx)(ts:List Expr)(t:TGs):Prop :=
 ∀(pins:List (Addr×Obj)) (s:Shared) (σ:St) (H:Hp) (vs:List V) (us:List Value) (Q:St->Hp->Prop),Inv X pins σ H s->Vals vs us->t vs σ H Q ->
  wpAny (model X.prog X.w) X.A (assignInOrder ((assignEach ts X.env).map (·.2)) us) (λ_ s'=>∃ σ' H',Inv X pins σ' H' s'/\Q σ' H') X.xe s
abbrev TSet:=V->V->V->Hp->(Hp->Prop)->Prop
def PSet(X:Cx)(t:TSet):Prop :=
 ∀(pins:List (Addr×Obj)) (s:Shared) (σ:St) (H:Hp) (o i v:V) (ov iv u:Value) (Q:Hp->Prop),Inv X pins σ H s->B4 o ov->B4 i iv->B4 v u->t o i v H Q ->
  wpAny (model X.prog X.w) X.A (setItem ov iv u) (λ_ s'=>∃H',Inv X pins σ H' s'/\Q H') X.xe s
section
variable {X:Cx}{pos:Pos}
def Sx(i:Nat):TG:=λv σ H Q=>Q (σ.set i (some v)) H
theorem Wc{i:Nat}{x:Str}(hN:X.N.Nodup)(hi:X.N[i]?=some x)(hx:Loc X.env.scope x)(hf:X.fn x=true\/X.env.scope.names.lookup x=some .local:=by first | exact .inl rfl | exact .inr rfl | assumption):PG X (.Name x pos) (Sx i):=by
 intro pins s σ H v u Q I r h
 exact wpAny_assign_Name (Mg I hN hi hx r (λs' I'=>⟨_,H,I',h⟩) hf)
def Qg2:TGs:=λvs σ H Q=>vs=[]/\Q σ H
def Qda(t:TG)(u:TGs):TGs:=λvs σ H Q=>∃v r,vs=v :: r/\t v σ H fun σ' H'=>u r σ' H' Q
theorem Wd:PGs X [] Qg2:=by
 intro pins s σ H vs us Q I r h
 obtain⟨e,h⟩:=h
 subst e
 cases r
 exact assignInOrder_nil ⟨σ,H,I,h⟩
theorem Sy{e:Expr}{es:List Expr}{t:TG}{u:TGs}(h1:PG X e t)(h2:PGs X es u)
  (hs:(assignEach (e :: es) X.env).map (·.2)=assign e X.env :: (assignEach es X.env).map (·.2):=by rfl):PGs X (e :: es) (Qda t u):=by
 intro pins s σ H vs us Q I r h
 obtain⟨v,vr,e1,h⟩:=h
 subst e1
 cases r with
 | cons r rr =>
  rw [hs]
  refine assignInOrder_cons (thn (h1 pins s σ H _ _ _ I r h) λ_ s1 zz501=>?_)
  obtain⟨σ1,H1,I1,q1⟩:=zz501
  exact h2 pins s1 σ1 H1 _ _ Q I1 rr q1
def Qg3(K:PySem.W.Frag)(n:Nat)(t:TGs):TG:=λv σ H Q=>∃a xs,v=.ref a/\Jv K H a xs/\xs.length=n/\t xs σ H Q
theorem Qad{es:List Expr}{k:Nat}{t:TGs}{n:Nat}(hc:X.calm=true)(h:PGs X es t)
  (hn:(assignEach es X.env).length=n:=by rfl) (hst:(assignEach es X.env).findIdx? (·.1)=none:=by rfl):PG X (.Tuple es k pos) (Qg3 X.K n t):=by
 intro pins s σ H v u Q I r hw
 obtain⟨a,xs,e1,hq,hl,hw⟩:=hw
 subst e1
 cases r
 obtain⟨its,rv,ht,hz⟩:=I.tuple hq
 refine assign_Tuple_tuple (I.ok.hd hc) ht (by simp [hn,<- hl,rv.length]) hst λh' hx=>?_
 have I1:Inv X pins σ H { s with heap:=h' }:=I.kept (t':=s.toks) λb o e=>hx b o (Nat.ne_of_lt (Heap.lt_size e)) e
 exact h pins _ σ H xs _ Q I1 (by simpa using rv) hw
def Qg4(to ti:TE)(t:TSet):TG:=λv σ H Q=>to σ H λo H1=>ti σ H1 λi H2=>t o i v H2 λH3=>Q σ H3
theorem Qae{o i:Expr}{to ti:TE}{t:TSet}(ho:PE X o to)(hi:PE X i ti)(hs:PSet X t)
  (ha:∀v,assign (.Subscript o i pos) X.env v=(do
   let ov <- holding [v] (eval o X.env)
   let iv <- holding [v,ov] (eval i X.env)
   standAt pos
   holding [v,ov,iv] (setItem ov iv v)
   release [v,ov,iv] []):=by intro _;rfl):PG X (.Subscript o i pos) (Qg4 to ti t):=by
 intro pins s σ H v u Q I r h
 rw [ha]
 refine wpAny_bind (wpAny_holding (thn (ho pins s σ H _ I h) λov s1 zz212=>De zz212 λx H1 I1 r1 q1=>?_))
 refine wpAny_bind (wpAny_holding (thn (hi pins s1 σ H1 _ I1 q1) λiv s2 zz213=>De zz213 λy H2 I2 r2 q2=>?_))
 refine wpAny_bind (wpAny_standAt (wpAny_bind (wpAny_holding (thn (hs pins s2 σ H2 x y v ov iv u _ I2 r1 r2 r q2) λ_ s3 ⟨H3,I3,q3⟩=>?_))))
 exact wpAny_release ⟨σ,H3,I3,q3⟩
def We(te:TE)(g:TG):TS:=λD σ H=>te σ H λx H1=>g x σ H1 D.nx
theorem Qaf{tg e:Expr}{te:TE}{g:TG}(he:PE X e te)(hg:PG X tg g)(hs:swapsWithSole [tg] e pos.line X.env=pure false:=by rfl)(hw:swappedStores [tg] e X.env=pure none:=by rfl)
  (h1:(assignEach [tg] X.env).map (·.2)=[assign tg X.env]:=by rfl):PS X (.Assign [tg] e pos) (We te g):=by
 intro pins s σ H D I h
 refine wpAny_Assign_stores (thn (he pins s σ H _ I h) λv s1 zz214=>De zz214 λx H1 I1 r1 q1=>?_) hs hw
 rw [h1]
 exact thn (hg pins s1 σ H1 x v _ I1 r1 q1) λ_ s2 q=>q
theorem Qag{i:Nat}{x:Str}{e:Expr}{te:TE}{pos':Pos}(hN:X.N.Nodup)(hi:X.N[i]?=some x)(hx:Loc X.env.scope x)(he:PE X e te)(hs:swapsWith e (some (.Name x pos')) pos.line X.env=pure false:=by rfl)(hf:X.fn x=true\/X.env.scope.names.lookup x=some .local:=by first | exact .inl rfl | exact .inr rfl | assumption) :
  PS X (.Assign [.Name x pos'] e pos) (We te (Sx i)):=by
 intro pins s σ H D I h
 refine wpAny_Assign_Name (thn (he pins s σ H _ I h) λv s1 zz215=>De zz215 λy H1 I1 r1 q1=>?_) hs
 exact Mg I1 hN hi hx r1 (λs2 I2=>⟨_,H1,I2,q1⟩) hf
end
section
variable {X:Cx}{pos:Pos}
end
structure It where
 go:Nat->Hp->Prop
 yld:Nat->Hp->V->Hp->Prop
 stop:Nat->Hp->Prop
def Fr(X:Cx)(pins:List (Addr×Obj))(H:Hp)(b:Addr):Prop :=
 H b=none/\b≠X.env.locals/\b∉X.fs/\(b∈X.ex\/X.s₀.heap.objs.size<=b)/\(∀x c,X.env.cells.lookup x=some c->c≠b)/\∀p∈X.pn++pins,p.1≠b
theorem Inv.fpOk{X:Cx}{pins:List (Addr×Obj)}{σ:St}{H H':Hp}{s:Shared}{b:Addr}(I:Inv X pins σ H s)(hb:s.heap.objs.size<=b)(hn:H' b=none):Fr X pins H' b:=by
 refine⟨hn,Nat.ne_of_gt (Nat.lt_of_lt_of_le I.lt hb),I.nofs hb,.inr (Nat.le_trans I.sz hb),λx c e z=>?_,λp hp z=>?_⟩
 ·obtain⟨v,q⟩:=I.cell x c e
  exact absurd (Nat.lt_of_lt_of_le q.lt (by rw [z];exact hb)) (Nat.lt_irrefl _)
 ·exact absurd (Nat.lt_of_lt_of_le (Heap.lt_size (I.pin p hp).1) (by rw [z];exact hb)) (Nat.lt_irrefl _)
structure Turn(P:Program)(w:World)(K:PySem.W.Frag)(tg:Expr)(J:It)(fp:List Addr)(it:Addr)(tn:Nat->Heap->Prop):Prop where
 mem:it∈fp
 obj:∀i h,tn i h->∀b∈fp,∃o,h.get? b=some o/\∀v,o.data≠.cell v
 keep:∀i h h',tn i h->(∀b∈fp,∀o,h.get? b=some o->h'.get? b=some o)->tn i h'
 item:∀(X:Cx),X.prog=P->X.w=w->X.K=K->X.calm=true->∀(i:Nat) (pins:List (Addr×Obj)) (s:Shared) (σ:St) (H:Hp) (E:Value->Shared->Prop),Inv X pins σ H s->(∀b∈fp,Fr X pins H b)->tn i s.heap->J.go i H ->
  wpAny (model P w) X.A (pyNext (.ref it)) (λr s1=>∃u,r=some u /\
   wpAny (model P w) X.A (letOwnedTupleGo tg (.ref it) u) (λ_ s2=>∃x H',Inv X pins σ H' s2/\B4 x u/\J.yld i H x H'/\tn (i+1) s2.heap/\∀b∈fp,H' b=none) E s1) E s
 done:∀(X:Cx),X.prog=P->X.w=w->X.K=K->X.calm=true->∀(i:Nat) (pins:List (Addr×Obj)) (s:Shared) (σ:St) (H:Hp) (E:Value->Shared->Prop),Inv X pins σ H s->(∀b∈fp,Fr X pins H b)->tn i s.heap->J.stop i H ->
  wpAny (model P w) X.A (pyNext (.ref it)) (λr s1=>r=none/\Inv X pins σ H s1) E s
 self:∀(A:Around) (i:Nat) (s:Shared) (Q:Value->Shared->Prop) (E:Value->Shared->Prop),tn i s.heap->Q (.ref it) s->wpAny (model P w) A (pyIter (.ref it)) Q E s
abbrev TI:=St->Hp->(It->Hp->Prop)->Prop
def PIE(X:Cx)(pins:List (Addr×Obj))(σ:St)(tg:Expr)(R:It->Hp->Prop)(itv:Value)(s2:Shared):Prop :=
 ∃(it:Addr) (fp:List Addr) (tn:Nat->Heap->Prop) (J:It) (H':Hp),itv=.ref it/\Inv X pins σ H' s2/\Turn X.prog X.w X.K tg J fp it tn/\tn 0 s2.heap/\(∀b∈fp,Fr X pins H' b)/\R J H'
def PI(X:Cx)(tg iter:Expr)(wi:TI):Prop :=
 ∀(pins:List (Addr×Obj)) (s:Shared) (σ:St) (H:Hp) (R:It->Hp->Prop),Inv X pins σ H s->wi σ H R ->
  wpAny (model X.prog X.w) X.A (eval iter X.env) (λv s1=>wpAny (model X.prog X.w) X.A (pyIter v) (PIE X pins σ tg R) X.xe s1) X.xe s
theorem Pi{M:Model}{A:Around}{E:Value->Shared->Prop}{s:Shared}{tg:Expr}{it:Addr}{u:Value}{o:Obj}{n:String}{vs:Array Value}{Q:Unit->Shared->Prop}(ho:s.heap.get? it=some o)(hc:o.cls=.type n)(hd:o.data=.fields vs)
  (hn:["enumerate","zip","dict_itemiterator","dict_reverseitemiterator","odict_iterator","itertools.zip_longest","itertools.pairwise"].contains n=false) (hQ:Q () s):wpAny M A (letOwnedTupleGo tg (.ref it) u) Q E s:=by
 unfold letOwnedTupleGo
 cases tg <;> first
  | exact wpAny_pure hQ
  | (cases u <;> first
    | exact wpAny_pure hQ
    | (refine wpAny_bind (wpAny_load ho ?_)
       rw [hc, hd]
       show wpAny M A (if (["enumerate", "zip", "dict_itemiterator", "dict_reverseitemiterator", "odict_iterator", "itertools.zip_longest", "itertools.pairwise"].contains n && vs[0]? == some (rawInt _)) = true then _ else _) Q E s
       rw [if_neg (by intro h; rw [hn, Bool.false_and] at h; cases h)]
       exact wpAny_pure hQ))
def Itl(K:PySem.W.Frag)(a:Addr):It :=
 ⟨λi H=>∃xs x,Ec K H a xs/\xs[i]?=some x,λi H x H'=>H'=H/\∀xs,Ec K H a xs->xs[i]?=some x,λi H=>∃xs,Ec K H a xs/\xs.length<=i⟩
def Itt(K:PySem.W.Frag)(a:Addr):It :=
 ⟨λi H=>∃xs x,Jv K H a xs/\xs[i]?=some x,λi H x H'=>H'=H/\∀xs,Jv K H a xs->xs[i]?=some x,λi H=>∃xs,Jv K H a xs/\xs.length<=i⟩
def Itr(lo:Int)(n:Nat):It:=⟨λi _=>i < n,λi H x H'=>H'=H/\x=.int (lo+i),λi _=>n<=i⟩
theorem Q5{P:Program}{w:World}{K:PySem.W.Frag}{tg:Expr}(a it:Addr):Turn P w K tg (Itl K a) [it] it (λi h=>h.IsListIter it a i) where
 mem:=by simp
 obj:=λi h st b hb=>by
  have e:b=it:=by simpa using hb
  subst e
  obtain⟨o,e,c,d⟩:=st
  exact⟨o,e,λv z=>by rw [d]at z;cases z⟩
 keep:=λi h h' st k=>st.at λo e=>k it (by simp) o e
 item:=by
  intro X hP hw hK hc i pins s σ H E I hf st hg
  subst hP hw hK
  obtain⟨xs,x,hq,hx⟩:=hg
  obtain⟨its,rv,p,hz⟩:=I.list hq
  obtain⟨u,hu,ru⟩:=rv.get hx
  obtain⟨f0,f1,f2,f3,f4,f5⟩:=hf it (by simp)
  refine wpAny_pyNext_list_item st p.isList (x:=u) (by simpa using hu) λh' st' sb=>?_
  have I1:Inv X pins σ H { s with heap:=h' }:=I.turned (t':=s.toks) (λb o hb e=>(sb.2 b hb).trans e) f0 f1 f3 f4 f5
  obtain⟨o,e,c,d⟩:=id st'
  exact⟨u,rfl,Pi (s:={ s with heap:=h' }) e c d (by decide) ⟨x,H,I1,ru,⟨rfl,λys hy=>by rw [I.list_inj hy hq];exact hx⟩,st',λb hb=>(hf b hb).1⟩⟩
 done:=by
  intro X hP hw hK hc i pins s σ H E I hf st hg
  subst hP hw hK
  obtain⟨xs,hq,hx⟩:=hg
  obtain⟨its,rv,p,hz⟩:=I.list hq
  obtain⟨f0,f1,f2,f3,f4,f5⟩:=hf it (by simp)
  have hl:=rv.length
  exact wpAny_pyNext_list_end (I.ok.hd hc) st p.isList (by simp;omega) λh' eb=>⟨rfl,I.turned (t':=s.toks) (λb o hb e=>eb b o hb e) f0 f1 f3 f4 f5⟩
 self:=λ_ _ _ _ _ st h=>wpAny_pyIter_listiter st h
theorem N4{P:Program}{w:World}{K:PySem.W.Frag}{tg:Expr}(a it:Addr):Turn P w K tg (Itt K a) [it] it (λi h=>h.IsTupleIter it a i) where
 mem:=by simp
 obj:=λi h st b hb=>by
  have e:b=it:=by simpa using hb
  subst e
  obtain⟨o,e,c,d⟩:=st
  exact⟨o,e,λv z=>by rw [d]at z;cases z⟩
 keep:=λi h h' st k=>st.at λo e=>k it (by simp) o e
 item:=by
  intro X hP hw hK hc i pins s σ H E I hf st hg
  subst hP hw hK
  obtain⟨xs,x,hq,hx⟩:=hg
  obtain⟨its,rv,p,hz⟩:=I.tuple hq
  obtain⟨u,hu,ru⟩:=rv.get hx
  obtain⟨f0,f1,f2,f3,f4,f5⟩:=hf it (by simp)
  refine wpAny_pyNext_tuple_item st (show s.heap.IsTuple a its.toArray from p) (x:=u) (by simpa using hu) λh' st' sb=>?_
  have I1:Inv X pins σ H { s with heap:=h' }:=I.turned (t':=s.toks) (λb o hb e=>(sb.2 b hb).trans e) f0 f1 f3 f4 f5
  obtain⟨o,e,c,d⟩:=id st'
  exact⟨u,rfl,Pi (s:={ s with heap:=h' }) e c d (by decide) ⟨x,H,I1,ru,⟨rfl,λys hy=>by rw [I.tuple_inj hy hq];exact hx⟩,st',λb hb=>(hf b hb).1⟩⟩
 done:=by
  intro X hP hw hK hc i pins s σ H E I hf st hg
  subst hP hw hK
  obtain⟨xs,hq,hx⟩:=hg
  obtain⟨its,rv,p,hz⟩:=I.tuple hq
  obtain⟨f0,f1,f2,f3,f4,f5⟩:=hf it (by simp)
  have hl:=rv.length
  exact wpAny_pyNext_tuple_end (I.ok.hd hc) st (show s.heap.IsTuple a its.toArray from p) (by simp;omega) λh' eb=>⟨rfl,I.turned (t':=s.toks) (λb o hb e=>eb b o hb e) f0 f1 f3 f4 f5⟩
 self:=λ_ _ _ _ _ st h=>wpAny_pyIter_tupleiter st h
theorem N5{P:Program}{w:World}{K:PySem.W.Frag}{tg:Expr}(it:Addr)(lo:Int)(n:Nat):Turn P w K tg (Itr lo n) [it] it (λi h=>IsRangeIter h it (lo+(i:Nat) * 1) ((n:Int) - (i:Nat)) 1) where
 mem:=by simp
 obj:=λi h st b hb=>by
  have e:b=it:=by simpa using hb
  subst e
  exact⟨_,st,λv z=>by
   have z':Data.fields _=Data.cell v:=z
   cases z'⟩
 keep:=λi h h' st k=>k it (by simp) _ st
 item:=by
  intro X hP hw hK hc i pins s σ H E I hf st hg
  subst hP hw hK
  obtain⟨f0,f1,f2,f3,f4,f5⟩:=hf it (by simp)
  have W:=Walks.range (prog:=X.prog) (w:=X.w) (I.ok.hd hc) it lo 1 n
  refine W.item i s _ _ hg st λv h' tk hv st' kk=>?_
  obtain⟨t,rfl⟩:=hv
  have I1:Inv X pins σ H { s with heap:=h',toks:=tk }:=I.turned (λb o hb e=>kk b o (by simpa using hb) e) f0 f1 f3 f4 f5
  refine⟨_,rfl,Pi (s:={ s with heap:=h',toks:=tk }) (n := "range_iterator") st' rfl rfl (by decide) ⟨.int (lo+i),H,I1,⟨t,?_⟩,⟨rfl,rfl⟩,st',λb hb=>(hf b hb).1⟩⟩
  rw [Int.mul_one]
 done:=by
  intro X hP hw hK hc i pins s σ H E I hf st hg
  subst hP hw hK
  obtain⟨f0,f1,f2,f3,f4,f5⟩:=hf it (by simp)
  exact wpAny_pyNext_range_end (I.ok.hd hc) st (by have:n<=i:=hg;omega) λh' eb=>⟨rfl,I.turned (t':=s.toks) (λb o hb e=>eb b o hb e) f0 f1 f3 f4 f5⟩
 self:=λ_ _ _ _ _ st h=>wpAny_pyIter_rangeiter st h
section
variable {X:Cx}{tg:Expr}
theorem Ta{pins:List (Addr×Obj)}{σ:St}{H:Hp}{s:Shared}{R:It->Hp->Prop}{E:Value->Shared->Prop}{lo hi:Int}{t u v:Tok}{tk:Nat}(I:Inv X pins σ H s)(h1:-(2 ^ 62)<=lo)(h2:lo < 2 ^ 62)(h3:-(2 ^ 62)<=hi)(h4:hi < 2 ^ 62)
  (q:R (Itr lo (hi - lo).toNat) H):wpAny (model X.prog X.w) X.A (pyIter (.ref s.heap.objs.size)) (PIE X pins σ tg R) E { s with heap:=s.heap.push { cls:=.type "range",data:=.fields #[.int lo t,.int hi u,.int 1 v] },toks:=tk }:=by
 refine wpAny_pyIter_range (IsRange.new ..) (small_one h1 h2 h3 h4) ?_
 have I1:Inv X pins σ H { s with heap:=s.heap.push { cls:=.type "range",data:=.fields #[.int lo t,.int hi u,.int 1 v] },toks:=tk }:=I.kept λb o e=>Heap.get?_push_of_some _ e
 refine⟨(s.heap.push { cls:=.type "range",data:=.fields #[.int lo t,.int hi u,.int 1 v] }).objs.size,[(s.heap.push { cls:=.type "range",data:=.fields #[.int lo t,.int hi u,.int 1 v] }).objs.size],_,_,H,rfl,
  I1.kept (t':=tk) λb o e=>Heap.get?_push_of_some _ e,N5 _ lo (hi - lo).toNat,?_,λb hb=>?_,q⟩
 ·have e1:lo+((0:Nat):Int) * 1=lo:=by simp
  have e2:(((hi - lo).toNat:Nat):Int) - ((0:Nat):Int)=Builtin.Range.rangeSize lo hi 1:=by rw [rangeSize_one];split <;> omega
  show IsRangeIter _ _ (lo+((0:Nat):Int) * 1) ((((hi - lo).toNat:Nat):Int) - ((0:Nat):Int)) 1
  rw [e1,e2]
  exact Heap.get?_push_size _ rfl
 ·have e:b=(s.heap.push { cls:=.type "range",data:=.fields #[.int lo t,.int hi u,.int 1 v] }).objs.size:=by simpa using hb
  subst e
  exact I1.fpOk (Nat.le_refl _) (I1.hok.fresh (Nat.le_refl _))
def Qdb(ta:TA):TI:=fun σ H R=>ta σ H λvs H1=>∃j:Int,vs=[.int j]/\-(2 ^ 62)<=j/\j < 2 ^ 62/\R (Itr 0 j.toNat) H1
theorem Q6{a:Expr}{ta:TA}{p pos:Pos}(hg:Gl X "range") (hm:X.mg "range" = none) (ha:PA X [a] ta) (hs:starEach [a] X.env=[(false,eval a X.env)]:=by rfl):PI X tg (.Call (.Name "range" p) [a] [] pos) (Qdb ta):=by
 intro pins s σ H R I h
 refine Call_ (C0 I hg hm boot_range (PyProof.Rows.callWith_type1 (thn (ha pos pins s σ H _ I h) λus s1 zz226=>De zz226 λvs H1 I1 r1 q1=>?_) hs rfl))
 obtain⟨j,e,q1,q2,q⟩:=q1
 subst e
 cases r1 with
 | cons r rr =>
  cases rr
  obtain⟨t,rfl⟩:=r
  exact call_range_1 (Ta I1 (by omega) (by omega) q1 q2 (by simpa using q))
def Qg5(wi:TI)(g:TG)(tb:TS):TS:=λD σ H=>wi σ H λJ H1=>∃W:Nat->Nat->St->Hp->Prop,(∃m,W 0 m σ H1)/\∀i m σ H,W i m σ H ->
 (J.stop i H/\D.nx σ H)\/(J.go i H/\∃N:St->Hp->Prop,(∀ σ' H',N σ' H'->∃m',m' < m/\W (i+1) m' σ' H')/\∀x H',J.yld i H x H'->g x σ H' fun σ2 H2=>tb { D with nx:=N,ct:=N,bk:=D.nx } σ2 H2)
def Ii(fp:List Addr)(h:Heap):List (Addr×Obj):=fp.filterMap λb=>(h.get? b).map λo=>(b,o)
theorem Ed{fp:List Addr}{h:Heap}{b:Addr}{o:Obj}(hb:b∈fp)(e:h.get? b=some o):(b,o)∈Ii fp h:=List.mem_filterMap.mpr ⟨b,hb,by rw [e];rfl⟩
theorem Q7{fp:List Addr}{h:Heap}{p:Addr×Obj}(hp:p∈Ii fp h):p.1∈fp/\h.get? p.1=some p.2:=by
 obtain⟨b,hb,e⟩:=List.mem_filterMap.mp hp
 cases q:h.get? b with
 | none=>rw [q]at e;cases e
 | some o =>
  rw [q]at e
  have e':(b,o)=p:=Option.some.inj e
  subst e'
  exact⟨hb,q⟩
theorem Inv.pinned{pins:List (Addr×Obj)}{σ:St}{H:Hp}{s:Shared}{fp:List Addr}(I:Inv X pins σ H s)(hf:∀b∈fp,Fr X pins H b)(ho:∀b∈fp,∃o,s.heap.get? b=some o/\∀v,o.data≠.cell v):Inv X (pins++Ii fp s.heap) σ H s :=
 I.pins_of λp hp=>(List.mem_append.mp hp).elim (λz=>I.pin p (List.mem_append_right _ z)) λz=>by
  obtain⟨hb,e⟩:=Q7 z
  obtain⟨f0,f1,f2,_⟩:=hf p.1 hb
  obtain⟨o,e',d⟩:=ho p.1 hb
  rw [e]at e';cases e'
  exact⟨e,f0,f1,f2,d⟩
theorem Inv.unpinned{pins pl:List (Addr×Obj)}{σ:St}{H:Hp}{s:Shared}(I:Inv X (pins++pl) σ H s):Inv X pins σ H s:=I.pins_of λp hp=>I.pin p (List.mem_append_right _ (List.mem_append_left _ hp))
theorem Qah{iter:Expr}{body:List Stmt}{wi:TI}{g:TG}{tb:TS}{pos:Pos}(hp:PassesOwn (model X.prog X.w) X.A X.env X.xe)(hc:X.calm=true)(hi:PI X tg iter wi)(hg:PG X tg g)(hb:PSs X body tb)
  (hs:∀x,foldedSetIterable iter X.env x=pure x:=by intro _;rfl):PS X (.For tg iter body [] pos) (Qg5 wi g tb):=by
 intro pins s σ H D I h
 refine wpAny_For (thn (hi pins s σ H _ I h) λv s1 h1=>thn h1 λitv s2 h2=>?_) hs
 obtain⟨it,fp,tn,J,H2,e,I2,T,st2,f2,W,⟨m0,w0⟩,turn⟩:=h2
 subst e
 have stat:∀{H':Hp},(∀b∈fp,H' b=none)->∀b∈fp,Fr X pins H' b:=λhn b hb=>⟨hn b hb,(f2 b hb).2⟩
 refine codeAny_forLoop_any (λn s'=>∃i σ' H',Inv X pins σ' H' s'/\tn i s'.heap/\(∀b∈fp,H' b=none)/\W i n σ' H') ?_ m0 ⟨0,σ,H2,I2,st2,λb hb=>(f2 b hb).1,w0⟩
 rintro n s3 ⟨i,σ3,H3,I3,st3,fr3,w3⟩
 rcases turn i n σ3 H3 w3 with⟨stop,qn⟩ | ⟨go,N,hN,step⟩
 ·refine wpAny_passesOwn hp (thn (T.done X rfl rfl rfl hc i pins s3 σ3 H3 X.xe I3 (stat fr3) st3 stop) λr s4 ⟨hr,I4⟩=>?_)
  subst hr
  exact wpAny_execs_nil ⟨σ3,H3,I4,qn⟩
 ·refine wpAny_passesOwn hp (thn (T.item X rfl rfl rfl hc i pins s3 σ3 H3 X.xe I3 (stat fr3) st3 go) λr s4 ⟨u,hr,h4⟩=>?_)
  subst hr
  refine wpAny_passesOwn hp (thn h4 λ_ s5 zz502=>?_)
  obtain⟨x,H5,I5,r5,y5,st5,fr5⟩:=zz502
  have I5':=I5.pinned (stat fr5) (T.obj _ _ st5)
  refine wpAny_passesOwn hp (thn (hg _ s5 σ3 H5 x u _ I5' r5 (step x H5 y5)) λ_ s6 zz503=>?_)
  obtain⟨σ6,H6,I6,q6⟩:=zz503
  refine wpAny_passesOwn hp (thn (hb _ s6 σ6 H6 _ I6 q6) λf s7 q7=>?_)
  have again:∀{σ7:St} {H7:Hp},Inv X (pins++Ii fp s5.heap) σ7 H7 s7->N σ7 H7->∃m,m < n/\∃i σ' H',Inv X pins σ' H' s7/\tn i s7.heap/\(∀b∈fp,H' b=none)/\W i m σ' H':=λ{σ7 H7} I7 n7=>by
   obtain⟨m',hm,w7⟩:=hN σ7 H7 n7
   refine⟨m',hm,i+1,σ7,H7,I7.unpinned,T.keep _ _ _ st5 λb hb o e=>(I7.pin (b,o) (List.mem_append_right _ (List.mem_append_right _ (Ed hb e)))).1,λb hb=>?_,w7⟩
   obtain⟨o,e,d⟩:=T.obj _ _ st5 b hb
   exact(I7.pin (b,o) (List.mem_append_right _ (List.mem_append_right _ (Ed hb e)))).2.1
  cases f with
  | next=>obtain⟨σ7,H7,I7,n7⟩:=q7;exact again I7 n7
  | cont=>obtain⟨σ7,H7,I7,n7⟩:=q7;exact again I7 n7
  | brk=>obtain⟨σ7,H7,I7,q7⟩:=q7;exact⟨σ7,H7,I7.unpinned,q7⟩
  | ret v=>obtain⟨x7,σ7,H7,I7,r7,q7⟩:=q7;exact⟨x7,σ7,H7,I7.unpinned,r7,q7⟩
end
abbrev R2:=V->V->Hp->VK->Prop
def Ij(X:Cx)(f:Value->Value->Sem Value)(r:R2):Prop :=
 ∀(pins:List (Addr×Obj)) (s:Shared) (σ:St) (H:Hp) (x y:V) (v u:Value) (Q:VK),Inv X pins σ H s->B4 x v->B4 y u->r x y H Q ->
  wpAny (model X.prog X.w) X.A (f v u) (EP X pins σ Q) X.xe s
def UnR(X:Cx)(f:Value->Sem Value)(r:V->Hp->VK->Prop):Prop :=
 ∀(pins:List (Addr×Obj)) (s:Shared) (σ:St) (H:Hp) (x:V) (v:Value) (Q:VK),Inv X pins σ H s->B4 x v->r x H Q ->
  wpAny (model X.prog X.w) X.A (f v) (EP X pins σ Q) X.xe s
def Eo(X:Cx)(f:Value)(r:List V->Hp->VK->Prop):Prop :=
 ∀(pins:List (Addr×Obj)) (s:Shared) (σ:St) (H:Hp) (xs:List V) (us:List Value) (Q:VK),Inv X pins σ H s->Vals xs us->r xs H Q ->
  wpAny (model X.prog X.w) X.A (call f us) (EP X pins σ Q) X.xe s
def tOp(r:R2)(ta tb:TE):TE:=fun σ H Q=>ta σ H λx H1=>tb σ H1 λy H2=>r x y H2 Q
def tUn(r:V->Hp->VK->Prop)(ta:TE):TE:=fun σ H Q=>ta σ H λx H1=>r x H1 Q
def rI(C:Int->Int->Prop)(g:Int->Int->V):R2:=λx y H Q=>∃i j,x=.int i/\y=.int j/\C i j/\Q (g i j) H
def Ym(g:Int->Int->V):R2:=λx y H Q=>∃i j,x=.int i/\y=.int j/\Q (g i j) H
def rU(g:Int->V):V->Hp->VK->Prop:=λx H Q=>∃i,x=.int i/\Q (g i) H
section
variable {X:Cx}{a b c:Expr}{ta tb tc:TE}{pos:Pos}
theorem Qai(ha:PE X a ta)(hb:PE X b tb){pins:List (Addr×Obj)}{s:Shared}{σ:St}{H:Hp}{R:V->V->Hp->Prop}(I:Inv X pins σ H s)
  (h:ta σ H λx H1=>tb σ H1 λy H2=>R x y H2) {Q:Value->Shared->Prop} {f:Value->Value->Sem Value}
  (hf:∀v u s2 x y H2,Inv X pins σ H2 s2->B4 x v->B4 y u->R x y H2->wpAny (model X.prog X.w) X.A (f v u) Q X.xe s2) :
  wpAny (model X.prog X.w) X.A (eval a X.env) (λv s₁=>wpAny (model X.prog X.w) X.A (eval b X.env) (λu s₂=>wpAny (model X.prog X.w) X.A (f v u) Q X.xe s₂) X.xe s₁) X.xe s:=by
 refine thn (ha pins s σ H _ I h) λv s1 zz228=>De zz228 λx H1 I1 r1 q1=>?_
 refine thn (hb pins s1 σ H1 _ I1 q1) λu s2 zz229=>De zz229 λy H2 I2 r2 q2=>?_
 exact hf v u s2 x y H2 I2 r1 r2 q2
theorem Qdd{op:Operator}{r:R2}(ho:Ij X (binaryOp op) r)(ha:PE X a ta)(hb:PE X b tb):PE X (.BinOp a op b pos) (tOp r ta tb):=by
 intro pins s σ H Q I h
 exact wpAny_BinOp (Qai ha hb I h λv u s2 x y H2 I2 rx ry q=>ho pins s2 σ H2 x y v u Q I2 rx ry q)
theorem Qde{op:UnaryOp}{r:V->Hp->VK->Prop}(ho:UnR X (unaryOp op) r)(ha:PE X a ta):PE X (.UnaryOp op a pos) (tUn r ta):=by
 intro pins s σ H Q I h
 exact UnaryOp_ (thn (ha pins s σ H _ I h) λv s1 zz230=>De zz230 λx H1 I1 r1 q1=>ho pins s1 σ H1 x v Q I1 r1 q1)
theorem opI{f:Value->Value->Sem Value}{C:Int->Int->Prop}{g:Int->Int->Int}
  (rule:∀(i j:Int) (t u:Tok) (s:Shared) (Q:Value->Shared->Prop) (E:Value->Shared->Prop),C i j->Q (.int (g i j) s.toks) { s with toks:=s.toks+1 }->wpAny (model X.prog X.w) X.A (f (.int i t) (.int j u)) Q E s) :
  Ij X f (rI C λi j=>.int (g i j)):=by
 intro pins s σ H x y v u Q I rx ry h
 obtain⟨i,j,rfl,rfl,hc,q⟩:=h
 obtain⟨t,rfl⟩:=rx
 obtain⟨t',rfl⟩:=ry
 exact rule i j t t' s _ _ hc ⟨.int (g i j),H,I.tok _,⟨_,rfl⟩,q⟩
theorem Qdf{f:Value->Value->Sem Value}{g:Int->Int->Int}
  (rule:∀(i j:Int) (t u:Tok) (s:Shared) (Q:Value->Shared->Prop) (E:Value->Shared->Prop),Q (.int (g i j) s.toks) { s with toks:=s.toks+1 }->wpAny (model X.prog X.w) X.A (f (.int i t) (.int j u)) Q E s) :
  Ij X f (Ym λi j=>.int (g i j)):=by
 intro pins s σ H x y v u Q I rx ry h
 obtain⟨i,j,rfl,rfl,q⟩:=h
 obtain⟨t,rfl⟩:=rx
 obtain⟨t',rfl⟩:=ry
 exact rule i j t t' s _ _ ⟨.int (g i j),H,I.tok _,⟨_,rfl⟩,q⟩
theorem Qaj{f:Value->Value->Sem Value}{g:Int->Int->Bool}
  (rule:∀(i j:Int) (t u:Tok) (s:Shared) (Q:Value->Shared->Prop) (E:Value->Shared->Prop),Q (.bool (g i j)) s->wpAny (model X.prog X.w) X.A (f (.int i t) (.int j u)) Q E s) :
  Ij X f (Ym λi j=>.bl (g i j)):=by
 intro pins s σ H x y v u Q I rx ry h
 obtain⟨i,j,rfl,rfl,q⟩:=h
 obtain⟨t,rfl⟩:=rx
 obtain⟨t',rfl⟩:=ry
 exact rule i j t t' s _ _ ⟨.bl (g i j),H,I,rfl,q⟩
def CDiv(i j:Int):Prop:=0 < j/\j < 1073741824
def CPow(i j:Int):Prop:=0<=j/\j<=1000000/\i.natAbs < 2 ^ 64
def CMul(i j:Int):Prop:=(-(2 ^ 64) < i/\i < 2 ^ 64)\/(-(2 ^ 64) < j/\j < 2 ^ 64)
theorem CMul.ok{i j:Int}(h:CMul i j):IntMulOk i j:=by
 rcases h with⟨h1,h2⟩ | ⟨h1,h2⟩
 ·exact .of_left (intBits_le_64 h1 h2)
 ·exact .of_right (intBits_le_64 h1 h2)
theorem Qak:Ij X (binaryOp .Add) (Ym λi j=>.int (i+j)):=Qdf λ_ _ _ _ _ _ _ q=>add_int q
theorem Qal:Ij X (binaryOp .Sub) (Ym λi j=>.int (i - j)):=Qdf λ_ _ _ _ _ _ _ q=>sub_int q
theorem Qam:Ij X (binaryOp .Mult) (rI CMul λi j=>.int (i * j)):=opI λ_ _ _ _ _ _ _ hc q=>mul_int q hc.ok
theorem Wf:Ij X (binaryOp .FloorDiv) (rI CDiv λi j=>.int (i / j)):=opI λi j _ _ _ _ _ hc q=>by
 have h1:(0:Int) < j:=hc.1
 have h2:j < 1073741824:=hc.2
 exact floordiv_int (by omega) (by rw [Int.fdiv_eq_ediv_of_nonneg i (by omega)];exact q) (.inl (PyProof.noPylong_small (by omega)))
theorem Qan:Ij X (binaryOp .Mod) (rI (λ_ j=>0 < j) λi j=>.int (i % j)):=opI λi j _ _ _ _ _ hc q=>by
 have h1:(0:Int) < j:=hc
 exact mod_int' (by omega) (by rw [Int.fmod_eq_emod_of_nonneg i (by omega)];exact q)
theorem Qao:Ij X (binaryOp .Pow) (rI CPow λi j=>.int (i ^ j.toNat)):=opI λ_ _ _ _ _ _ _ hc q=>pow_int_small hc.1 hc.2.1 hc.2.2 q
theorem unI{f:Value->Sem Value}{g:Int->Int}
  (rule:∀(i:Int) (t:Tok) (s:Shared) (Q:Value->Shared->Prop) (E:Value->Shared->Prop),Q (.int (g i) s.toks) { s with toks:=s.toks+1 }->wpAny (model X.prog X.w) X.A (f (.int i t)) Q E s) :
  UnR X f (rU λi=>.int (g i)):=by
 intro pins s σ H x v Q I rx h
 obtain⟨i,rfl,q⟩:=h
 obtain⟨t,rfl⟩:=rx
 exact rule i t s _ _ ⟨.int (g i),H,I.tok _,⟨_,rfl⟩,q⟩
theorem Qap:UnR X (unaryOp .USub) (rU λi=>.int (-i)):=unI λ_ _ _ _ _ q=>neg_int q
end
section
variable {X:Cx}{a b c:Expr}{ta tb tc:TE}{pos:Pos}
theorem N6{pins:List (Addr×Obj)}{σ:St}{H:Hp}{s:Shared}{Q:VK}{k k':Bool}(I:Inv X pins σ H s)(q:Q (.bl k) H)(e:k=k'):EP X pins σ Q (.bool k') s:=by
 subst e
 exact⟨.bl k,H,I,rfl,q⟩
theorem Qdg:Ij X (compareOp .Lt) (Ym λi j=>.bl (decide (i < j))):=Qaj λ_ _ _ _ _ _ _ q=>lt_int q
theorem Qdh:Ij X (compareOp .Gt) (Ym λi j=>.bl (decide (j < i))):=Qaj λ_ _ _ _ _ _ _ q=>gt_int q
theorem Qdi:Ij X (compareOp .GtE) (Ym λi j=>.bl (decide (j<=i))):=Qaj λ_ _ _ _ _ _ _ q=>ge_int q
theorem Q8:Ij X (compareOp .In) (λx y H Q=>∃i j,x=.str i/\y=.str j/\Q (.bl (!(Builtin.Str.occurrences j i 0 j.length 1).isEmpty)) H):=by
 intro pins s σ H x y v u Q I rx ry h
 obtain⟨i,j,rfl,rfl,q⟩:=h
 obtain⟨t,rfl⟩:=rx
 obtain⟨t',rfl⟩:=ry
 exact in_str (N6 I q rfl)
theorem nomark(b:Expr){op:CmpOp}(h:op≠.In:=by decide)(h2:op≠.NotIn:=by decide):behindInMarks op b=false:=by
 have e1:(op==CmpOp.In)=false:=by cases op <;> first | rfl | exact absurd rfl h
 have e2:(op==CmpOp.NotIn)=false:=by cases op <;> first | rfl | exact absurd rfl h2
 cases b <;> simp [behindInMarks,e1,e2]
theorem Wg{op:CmpOp}{r:R2}(ho:Ij X (compareOp op) r)(ha:PE X a ta)(hb:PE X b tb)(hm:behindInMarks op b=false):PE X (.Compare a [op] [b] pos) (tOp r ta tb):=by
 intro pins s σ H Q I h
 exact wpAny_Compare1 (Qai ha hb I h λv u s2 x y H2 I2 rx ry q=>ho pins s2 σ H2 x y v u Q I2 rx ry q) hm
def Yn(t:TE):TT:=fun σ H Q=>t σ H λx H'=>∃k,x=.bl k/\Q k H'
theorem Wh{op:CmpOp}{r:R2}(ho:Ij X (compareOp op) r)(ha:PE X a ta)(hb:PE X b tb)(hm:behindInMarks op b=false):PT X (.Compare a [op] [b] pos) (Yn (tOp r ta tb)):=by
 intro pins s σ H Q I h
 refine wpAny_isTrue_Compare1 (thn (ha pins s σ H _ I h) λv s1 zz231=>De zz231 λx H1 I1 r1 q1=>thn (hb pins s1 σ H1 _ I1 q1) λu s2 zz232=>De zz232 λy H2 I2 r2 q2 =>
  thn (ho pins s2 σ H2 x y v u _ I2 r1 r2 q2) λc s3 ⟨z,H3,I3,r3,k,e,q3⟩=>?_) hm
 subst e
 cases r3
 exact wpAny_truthy_bool ⟨H3,I3,q3⟩
theorem Gq:(sizeLine:Nat) < 2 ^ 63:=by rw [sizeLine_eq];decide
theorem N7:Ij X (binaryOp .Add) (λx y H Q=>∃i j,x=.str i/\y=.str j/\i.length+j.length<=sizeLine/\Q (.str (i++j)) H):=by
 intro pins s σ H x y v u Q I rx ry h
 obtain⟨i,j,rfl,rfl,hz,q⟩:=h
 obtain⟨t,rfl⟩:=rx
 obtain⟨t',rfl⟩:=ry
 exact add_str (λt' tk=>⟨.str (i++j),H,I.tok _,⟨_,rfl⟩,q⟩) hz
theorem Dx{x:V}{us:List Value}(r:Vals [x] us):∃u,us=[u]/\B4 x u:=by
 cases r with
 | cons r1 r2=>cases r2;exact⟨_,rfl,r1⟩
theorem Qdj{x y:V}{us:List Value}(r:Vals [x,y] us):∃u w',us=[u,w']/\B4 x u/\B4 y w':=by
 cases r with
 | cons r1 r2 =>
  cases r2 with
  | cons r3 r4=>cases r4;exact⟨_,_,rfl,r1,r3⟩
theorem Q9(hc:X.calm=true):Eo X (.builtin "min") (λxs H Q=>∃i j,xs=[.int i,.int j]/\Q (.int (if j < i then j else i)) H):=by
 intro pins s σ H xs us Q I r h
 obtain⟨i,j,rfl,q⟩:=h
 obtain⟨u,w',rfl,⟨t,rfl⟩,⟨t',rfl⟩⟩:=Qdj r
 refine min_two_ints (I.ok.hd hc) λh' tk k=>⟨_,H,I.kept k,?_,q⟩
 by_cases hj:j < i
 ·rw [if_pos hj,if_pos hj];exact⟨_,rfl⟩
 ·rw [if_neg hj,if_neg hj];exact⟨_,rfl⟩
theorem J7:Eo X (.type "int") (λxs H Q=>(∃i,xs=[.int i]/\Q (.int i) H)\/∃k,xs=[.bl k]/\Q (.int (if k then 1 else 0)) H):=by
 intro pins s σ H xs us Q I r h
 rcases h with⟨i,rfl,q⟩ | ⟨k,rfl,q⟩
 ·obtain⟨u,rfl,t,rfl⟩:=Dx r
  exact call_int_int ⟨.int i,H,I,⟨_,rfl⟩,q⟩
 ·obtain⟨u,rfl,r1⟩:=Dx r
  cases r1
  exact call_int_bool ⟨.int (if k then 1 else 0),H,I.tok _,⟨_,rfl⟩,q⟩
end
section
variable {prog:Program}{w:World}{A:Around}{E:Value->Shared->Prop}{s:Shared}{K:PySem.W.Frag}{x dx C f:Addr}{mA:Str->Option Value}{name:Str}{v:Value}
end
section
variable {P:Program}{w:World}{H H':Hp}{h h':Heap}{a C dx:Addr}{fs fs':List (Str×V)}
end
section
variable {X:Cx}{pins:List (Addr×Obj)}{σ:St}{H:Hp}{s:Shared}{a C dx:Addr}{fs:List (Str×V)}{f:Str}{v:V}{A:Around}{E:Value->Shared->Prop}
end
section
variable {X:Cx}{o e value:Expr}{f:Str}{pos pos' tpos:Pos}{ta tv:TE}
end
section
variable {X:Cx}{pins:List (Addr×Obj)}{σ:St}{H:Hp}{s:Shared}{A:Around}{E:Value->Shared->Prop}{Q:Value->Shared->Prop}{c:Value}{b:Bool}
end
structure Room(k:Nat)(A:Around):Prop where
 hd:A.handled=none
 dp:A.depth+3 * k+5 < recursionLimit
 un:A.units+16 * k+200 < cLine
 gd:A.guards=some []
theorem Room.mono{j k:Nat}{A:Around}(r:Room k A)(h:j<=k):Room j A:=⟨r.hd,by have:=r.dp;omega,by have:=r.un;omega,r.gd⟩
theorem Room.deeper{k:Nat}{A:Around}(r:Room (k+1) A)(env:Env):Room k (A.deeper env) :=
 ⟨r.hd,by have:=r.dp;show A.depth+1+3 * k+5 < _;omega,by have:=r.un;show A.units+3+16 * k+200 < _;omega,r.gd⟩
theorem Room.depth{k:Nat}{A:Around}(r:Room k A):A.depth < recursionLimit:=by have:=r.dp;omega
def Qg7:TA:=λ_ H Q=>Q [] H
def Qdk(ta:TE)(tr:TA):TA:=fun σ H Q=>ta σ H λx H1=>tr σ H1 λxs H2=>Q (x :: xs) H2
section
variable {X:Cx}{e:Expr}{es:List Expr}{te:TE}{t:TA}{pos:Pos}
theorem Qaq:PA X [] Qg7:=λ_ _ _ _ H Q I h=>Calls.spliced_nil ⟨[],H,I,.nil,h⟩
theorem Wi(ha:PE X e te)(hr:PA X es t)(hs:starEach (e :: es) X.env=(false,eval e X.env) :: starEach es X.env:=by rfl):PA X (e :: es) (Qdk te t):=by
 intro pos pins s σ H Q I h
 rw [hs]
 show wpAny _ _ (spliced ((false,eval e X.env) :: backTo pos (starEach es X.env))) _ _ s
 refine Calls.spliced_cons (thn (ha pins s σ H _ I h) λu s1 zz242=>De zz242 λx H1 I1 r1 q1=>?_)
 exact thn (hr pos pins s1 σ H1 _ I1 q1) λus s2 zz243=>De zz243 λxs H2 I2 r2 q2=>⟨x :: xs,H2,I2,.cons r1 r2,q2⟩
def Qg8(t:TA):TE:=fun σ H Q=>t σ H λxs H1=>xs.length<=sizeLine/\∀p,H1 p=none->Q (.ref p) (upd H1 p (.tup xs))
def Qg9(t:TA):TE:=fun σ H Q=>t σ H λxs H1=>xs.length<=sizeLine/\∀p,H1 p=none->Q (.ref p) (upd H1 p (.lst xs))
theorem Qar{x1}(h:PA X es t):PE X (.Tuple es x1 pos) (Qg8 t):=by
 intro pins s σ H Q I hq
 refine wpAny_Tuple_spliced (thn (h pos pins s σ H _ I hq) λus s1 ⟨xs,H1,I1,r,z,q⟩=>⟨by rw [<- r.length];exact z,?_⟩)
 have hf:H1 s1.heap.objs.size=none:=I1.hok.fresh (Nat.le_refl _)
 refine⟨.ref s1.heap.objs.size,upd H1 s1.heap.objs.size (.tup xs),I1.laid (t':=s1.toks) (λb u e=>Heap.get?_push_of_some _ e) (Nat.le_refl _) ?_,rfl,q _ hf⟩
 exact⟨z,us,r,⟨_,Heap.get?_push_size _ rfl,rfl,_,rfl⟩⟩
theorem Qas(h:PA X es t):PE X (.List es pos) (Qg9 t):=by
 intro pins s σ H Q I hq
 refine wpAny_List_spliced (thn (h pos pins s σ H _ I hq) λus s1 ⟨xs,H1,I1,r,z,q⟩=>⟨by rw [<- r.length];exact z,?_⟩)
 have hf:H1 s1.heap.objs.size=none:=I1.hok.fresh (Nat.le_refl _)
 refine⟨.ref s1.heap.objs.size,upd H1 s1.heap.objs.size (.lst xs),I1.laid (t':=s1.toks) (λb u e=>Heap.get?_push_of_some _ e) (Nat.le_refl _) ?_,rfl,q _ hf⟩
 exact⟨z,us,0,r,Heap.get?_push_size _ rfl⟩
end
abbrev Sp:=List V->Hp->VK->XK->Prop
abbrev CXT:=List Env->Hp->Shared->XK->Value->Shared->Prop
structure Env0(P:Program)(w:World)(K:PySem.W.Frag)(mg:Str->Option Value)(base:Heap)(A:Around)(outer:List Env)(s:Shared)(H:Hp):Prop where
 frames:A.frames=some outer
 mod:Mod K mg base
 bs:∀b o,base.get? b=some o->s.heap.get? b=some o/\H b=none
 bsz:base.objs.size<=s.heap.objs.size
 funs:s.heap.FunFrames base outer
 frf:∀b∈frs outer,H b=none
 hok:HOk P w H s.heap
 bare:AllBare s.gens
def CE(outer:List Env)(P:Program)(w:World)(H:Hp)(s:Shared)(Q:VK)(u:Value)(s':Shared):Prop :=
 ∃v H',s'.os=s.os/\AllBare s'.gens/\Un (frs outer) [] H H' s.heap s'.heap/\HOk P w H' s'.heap/\B4 v u/\Q v H'
def CR(CX:CXT)(outer:List Env)(P:Program)(w:World)(H:Hp)(s:Shared)(Q:VK)(E:XK)(r:Result)(s':Shared):Prop :=
 match r with
 | .ok (.ret u)=>CE outer P w H s Q u s'
 | .ok _=>False
 | .error e=>CX outer H s E e s'
structure FnOk(P:Program)(w:World)(K:PySem.W.Frag)(mg:Str->Option Value)(base:Heap)(CX:CXT)(k:Nat)(f:Addr)(fd:FuncData)(ps:List Str)(sp:Sp):Prop where
 len:∀vs H Q E,sp vs H Q E->vs.length=ps.length
 run:∀(A:Around) (outer:List Env) (s:Shared) (H:Hp) (args:Args) (us:List Value) (vs:List V) (Q:VK) (E:XK),Room k A->Env0 P w K mg base A outer s H->BindsTo s fd args (ps.zip us)->Vals vs us->sp vs H Q E ->
  codeAny (model P w) A (.call (.ref f) args) (CR CX outer P w H s Q E) s
theorem FnOk.mono{P:Program}{w:World}{K:PySem.W.Frag}{mg:Str->Option Value}{base:Heap}{CX:CXT}{j k:Nat}{f:Addr}{fd:FuncData}{ps:List Str}{sp:Sp}(F:FnOk P w K mg base CX j f fd ps sp)(h:j<=k) :
  FnOk P w K mg base CX k f fd ps sp:=⟨F.len,λA outer s H args us vs Q E hr=>F.run A outer s H args us vs Q E (hr.mono h)⟩
theorem FnOk.imp{P:Program}{w:World}{K:PySem.W.Frag}{mg:Str->Option Value}{base:Heap}{CX:CXT}{k:Nat}{f:Addr}{fd:FuncData}{ps:List Str}{sp sp':Sp}(F:FnOk P w K mg base CX k f fd ps sp)
  (h:∀vs H Q E,sp' vs H Q E->sp vs H Q E):FnOk P w K mg base CX k f fd ps sp' :=
 ⟨λvs H Q E q=>F.len vs H Q E (h _ _ _ _ q),λA outer s H args us vs Q E hr he hb hv hs=>F.run A outer s H args us vs Q E hr he hb hv (h _ _ _ _ hs)⟩
section
variable {X:Cx}{pins:List (Addr×Obj)}{σ:St}{H:Hp}{s s':Shared}
theorem Inv.env0(I:Inv X pins σ H s):Env0 X.prog X.w X.K X.mg X.base X.A X.stack s H :=
 ⟨I.ok.frames,I.ok.mod,I.bs,Nat.le_trans I.ok.bsz I.sz,I.stack,I.stkFree,I.hok,I.bare⟩
theorem Inv.after{Q:VK}{u:Value}(I:Inv X pins σ H s)(h:CE X.stack X.prog X.w H s Q u s'):EP X pins σ Q u s':=by
 obtain⟨v,H',os,bare,un,hok,r,q⟩:=h
 obtain⟨hh,g,d,t,os'⟩:=s'
 obtain rfl:os'=s.os:=os
 exact⟨v,H',I.call (h':=hh) (g':=g) (d':=d) (t':=t) (ch:=[]) un hok bare (λb z=>absurd z (by simp)),r,q⟩
end
def Qdl(sp:Sp)(dvs:List V)(E:XK)(t:TA):TE:=fun σ H Q=>t σ H λvs H1=>sp (vs++dvs) H1 Q E
def Binds(K:PySem.W.Frag)(fd:FuncData)(ps:List Str)(ds:List Value):Prop :=
 ∀(s:Shared) (us:List Value),K.In s.heap->(us++ds).length=ps.length->BindsTo s fd ⟨us,[]⟩ (ps.zip (us++ds))
theorem Binds.all{K:PySem.W.Frag}{fd:FuncData}{ps:List Str}(h:∀us:List Value,us.length=ps.length->bindArgs fd ⟨us,[]⟩=pure (ps.zip us)):Binds K fd ps []:=λs us _ hl=>by
 rw [List.append_nil]at hl ⊢
 exact .of_eq (h us hl)
def Passes(CX:CXT)(X:Cx)(E:XK):Prop:=∀(pins:List (Addr×Obj)) (σ:St) (H:Hp) (s:Shared) (e:Value) (s':Shared),Inv X pins σ H s->CX X.stack H s E e s'->X.xe e s'
section
variable {X:Cx}{CX:CXT}{k:Nat}{f C:Addr}{fd:FuncData}{ps:List Str}{sp:Sp}{dvs:List V}{ds:List Value}{E:XK}{x m:Str}{p pos apos:Pos}{e o:Expr}{es:List Expr}{ta:TE}{t:TA}
theorem Qat{pins:List (Addr×Obj)}{σ:St}{H:Hp}{s:Shared}{Q:VK}{us:List Value}{vs:List V}(F:FnOk X.prog X.w X.K X.mg X.base CX k f fd ps sp)(hr:Room k X.A)(hb:Binds X.K fd ps ds)(hd:Vals dvs ds)(hx:Passes CX X E)
  (I:Inv X pins σ H s) (r:Vals vs us) (h:sp (vs++dvs) H Q E):wpAny (model X.prog X.w) X.A (call (.ref f) us) (EP X pins σ Q) X.xe s:=by
 have r2:Vals (vs++dvs) (us++ds):=r.append hd
 have hl:(us++ds).length=ps.length:=by rw [<- r2.length];exact F.len _ _ _ _ h
 refine wpAny_call (codeAny_mono (F.run X.A X.stack s H ⟨us,[]⟩ (us++ds) (vs++dvs) Q E hr I.env0 (hb s us I.kIn hl) r2 h) λr s' hq=>?_)
 cases r with
 | error e=>exact hx pins σ H s e s' I hq
 | ok fl =>
  cases fl with
  | ret u=>exact I.after hq
  | next=>exact False.elim hq
  | brk=>exact False.elim hq
  | cont=>exact False.elim hq
theorem Wj(F:FnOk X.prog X.w X.K X.mg X.base CX k f fd ps sp)(hr:Room k X.A)(hg:Gl X x)(hm:X.mg x=some (.ref f))(hk:PySem.W.keepIn X.K (.ref f)=true)(hb:Binds X.K fd ps ds)(hd:Vals dvs ds)(hx:Passes CX X E)
  (ha:PA X (e :: es) t) (hdb:(x==("__debug__" : Str))=false:=by decide) (he:starEach (e :: es) X.env=(false,eval e X.env) :: starEach es X.env:=by rfl) (hpl:(backTo pos (starEach es X.env)).any (·.1)=false:=by rfl) :
  PE X (.Call (.Name x p) (e :: es) [] pos) (Qdl sp dvs E t):=by
 intro pins s σ H Q I h
 refine wpAny_Call_Name_kw (V7 I hg hm ?_ hdb)
 refine PySem.W.callWith_K (h₀:=X.base) I.ok.mod.kin hk (thn (ha pos pins s σ H _ I h) λus s1 zz244=>De zz244 λvs H1 I1 r q=>⟨I1.kIn,?_⟩) he hpl
 exact Qat F hr hb hd hx I1 r q
end
section
variable {X:Cx}{CX:CXT}{k:Nat}{f C:Addr}{fd:FuncData}{ps ks:List Str}{sp:Sp}{E:XK}{x m:Str}{p pos apos kpos:Pos}{e o:Expr}{es:List Expr}{kws:List Keyword}{te ta:TE}{t tk:TA}{nm:Option Str}
variable {g:List Value->List Value->List Value}{gV:List V->List V->List V}
end
structure FnScope(N P:List Str)(sc:Scope):Prop where
 kind:sc.kind=.function
 co:sc.isCoroutine=false
 gen:sc.isGenerator=false
 nd:N.Nodup
 pre:N.take P.length=P
 par:∀x∈P,sc.names.lookup x=some .local\/sc.names.lookup x=some .cell
 nofree:∀y∈sc.names,y.2≠.free
theorem J8{kindOf:Str->Option NameKind}{x:Str}:∀{binds:List (Str×Value)} {m:Str->Option Value},(∀v,(x,v)∉binds)->bindL kindOf binds m x=m x
 | [],_,_=>rfl
 | (n,v) :: r,m,h=>by
  unfold bindL
  rw [J8 λw hw=>h w (List.mem_cons_of_mem _ hw)]
  split
  ·have:x≠n:=by rintro rfl;exact h v List.mem_cons_self
   simp [this]
  ·rfl
theorem J9{kindOf:Str->Option NameKind}{x:Str}:∀{binds:List (Str×Value)} {m:Str->Option Value},(∀v,(x,v)∉binds)->bindC kindOf binds m x=m x
 | [],_,_=>rfl
 | (n,v) :: r,m,h=>by
  unfold bindC
  rw [J9 λw hw=>h w (List.mem_cons_of_mem _ hw)]
  split
  ·rfl
  ·have:x≠n:=by rintro rfl;exact h v List.mem_cons_self
   simp [this]
theorem Ka{kindOf:Str->Option NameKind}{x:Str}{v:Value}:∀{P:List Str} {vs:List Value} {i:Nat} {m:Str->Option Value},P.Nodup->P[i]?=some x->vs[i]?=some v->kindOf x=some .local ->
  bindL kindOf (P.zip vs) m x=some v
 | [],_,_,_,_,h,_,_=>by simp at h
 | _ :: _,[],_,_,_,_,h,_=>by simp at h
 | p :: P,w :: vs,0,m,nd,h1,h2,hk=>by
  simp at h1 h2;subst h1;subst h2
  show bindL kindOf ((p,w) :: P.zip vs) m p=_
  unfold bindL
  rw [J8 λv hv=>(List.nodup_cons.mp nd).1 (List.of_mem_zip hv).1,if_pos hk]
  simp
 | p :: P,w :: vs,i+1,m,nd,h1,h2,hk=>by
  show bindL kindOf ((p,w) :: P.zip vs) m x=_
  unfold bindL
  exact Ka (i:=i) (List.nodup_cons.mp nd).2 (by simpa using h1) (by simpa using h2) hk
theorem Kc{kindOf:Str->Option NameKind}{x:Str}{v:Value}:∀{P:List Str} {vs:List Value} {i:Nat} {m:Str->Option Value},P.Nodup->P[i]?=some x->vs[i]?=some v->kindOf x≠some .local ->
  bindC kindOf (P.zip vs) m x=some v
 | [],_,_,_,_,h,_,_=>by simp at h
 | _ :: _,[],_,_,_,_,h,_=>by simp at h
 | p :: P,w :: vs,0,m,nd,h1,h2,hk=>by
  simp at h1 h2;subst h1;subst h2
  show bindC kindOf ((p,w) :: P.zip vs) m p=_
  unfold bindC
  rw [J9 λv hv=>(List.nodup_cons.mp nd).1 (List.of_mem_zip hv).1,if_neg hk]
  simp
 | p :: P,w :: vs,i+1,m,nd,h1,h2,hk=>by
  show bindC kindOf ((p,w) :: P.zip vs) m x=_
  unfold bindC
  exact Kc (i:=i) (List.nodup_cons.mp nd).2 (by simpa using h1) (by simpa using h2) hk
def start(N:List Str)(vs:List V):St:=vs.map some++List.replicate (N.length - vs.length) none
def N8(CX:CXT)(P:Program)(w:World)(K:PySem.W.Frag)(mg:Str->Option Value)(base:Heap)(N:List Str)(qual:Str)(scope:Scope)(f:Addr)(cd:Value)(A:Around)(outer:List Env)(s:Shared)(H:Hp)(E:XK):Cx where
 prog:=P
 w:=w
 K:=K
 mg:=mg
 base:=base
 A:=A.deeper (envOfC qual scope s.heap.objs.size f cd)
 N:=N
 s₀:=s
 H₀:=H
 env:=envOfC qual scope s.heap.objs.size f cd
 outer:=outer
 stack:=envOfC qual scope s.heap.objs.size f cd :: outer
 ex:=[]
 calm:=true
 fn:=λ_=>true
 pn:=[]
 xe:=λe s'=>wpAny (model P w) (A.deeper (envOfC qual scope s.heap.objs.size f cd)) («leaving» (envOfC qual scope s.heap.objs.size f cd) e) (λ_ s''=>CX outer H s E e s'') (λe' s''=>CX outer H s E e' s'') s'
theorem Mh{sc:Scope}{n:Nat}{x:Str}(h:sc.names.lookup x=some .cell):∃c,(cellsFrom n sc.names []).lookup x=some c:=by
 have q:=PySem.W.cellsFrom_some sc.names n [] (.inl h)
 exact Option.isSome_iff_exists.mp q
theorem Ra{CX:CXT}{P:Program}{w:World}{K:PySem.W.Frag}{mg:Str->Option Value}{base:Heap}{N ps:List Str}{qual:Str}{scope:Scope}{f:Addr}{cd:Value}{A:Around}{outer:List Env}{s s1:Shared}{H:Hp}{E:XK}{us:List Value}{vs:List V}
  (S:FnScope N ps scope) (hd:A.handled=none) (e0:Env0 P w K mg base A outer s H) (hl:vs.length=ps.length) (r:Vals vs us)
  (x:InCallC s s.heap.objs.size (bindL (envOfC qual scope s.heap.objs.size f cd).kindOf (ps.zip us) λ_=>none) (cellsFrom (s.heap.objs.size+1) scope.names []) (bindC (envOfC qual scope s.heap.objs.size f cd).kindOf (ps.zip us) λ_=>none) s1) :
  Inv (N8 CX P w K mg base N qual scope f cd A outer s H E) [] (start N vs) H s1:=by
 have hpl:ps.length<=N.length:=by have:=congrArg List.length S.pre;rw [List.length_take]at this;omega
 obtain⟨h1,tk,rfl,hk⟩:=x.done
 have noA:∀b:Addr,b∉(N8 CX P w K mg base N qual scope f cd A outer s H E).ex:=λb z=>absurd (show b∈([]:List Addr) from z) (by simp)
 refine⟨⟨e0.mod,S.kind,rfl,rfl,Nat.le_refl _,λy z c h1 h2=>?_,λy hy=>?_,λy c _ h=>?_,λ_=>hd,Around.frames_deeper e0.frames,.inr ⟨rfl,rfl⟩,λb z=>absurd z (noA b),e0.bs,e0.bsz,λb _ _=>noA b,λb z=>absurd z (noA b),e0.funs,e0.frf⟩,
  rfl,e0.bare,Un.kept hk,⟨_,x.toInCall.ns,λi y v h1 h2 h3=>?_⟩,λy c h=>⟨_,x.cell y c h⟩,e0.hok.fresh (Nat.le_refl _),λy c h=>?_,λp hp=>absurd (show p∈([]:List (Addr×Obj)) from hp) (by simp),e0.hok.kept hk,?_⟩
 ·exact name_of_addr x.apart (PySem.mem_of_lookup h1) (PySem.mem_of_lookup h2)
 ·have hy:scope.names.lookup y=some .cell\/scope.names.lookup y=some .free:=hy
  rcases hy with hy | hy
  ·exact Mh hy
  ·exact absurd rfl (S.nofree _ (PySem.mem_of_lookup hy))
 ·exact Nat.le_of_lt (x.above y c (PySem.mem_of_lookup h))
 ·have hi:i < vs.length:=by
   unfold start at h2
   by_cases hi:i < vs.length
   ·exact hi
   ·rw [List.getElem?_append_right (by simpa using hi)]at h2
    rw [List.getElem?_replicate]at h2
    split at h2 <;> cases h2
  have ha:vs[i]?=some v:=by
   unfold start at h2
   rw [List.getElem?_append_left (by simpa using hi),List.getElem?_map]at h2
   cases e:vs[i]? with
   | none=>rw [e]at h2;cases h2
   | some a=>rw [e]at h2;cases h2;rfl
  obtain⟨u,hu,rv⟩:=r.get ha
  have hp:ps[i]?=some y:=by
   rw [<- S.pre,List.getElem?_take_of_lt (by omega)];exact h1
  have ndP:ps.Nodup:=by rw [<- S.pre];exact S.nd.sublist (List.take_sublist _ _)
  refine⟨u,rv,?_⟩
  rcases S.par y (List.mem_of_getElem? hp) with k | k
  ·exact .inl ⟨k,Ka ndP hp hu k⟩
  ·obtain⟨c,e⟩:=Mh (n:=s.heap.objs.size+1) k
   refine .inr ⟨.inl k,c,e,?_⟩
   have q:=x.cell y c e
   rw [Kc ndP hp hu (by show scope.names.lookup y≠_;rw [k];decide)]at q
   exact q
 ·exact e0.hok.fresh (Nat.le_of_lt (x.above y c (PySem.mem_of_lookup h)))
 ·unfold start
  show _=N.length
  rw [List.length_append,List.length_map,List.length_replicate]
  omega
theorem Qdm{CX:CXT}{P:Program}{w:World}{K:PySem.W.Frag}{mg:Str->Option Value}{base:Heap}{k:Nat}{f:Addr}{name qual:Str}{params:Arguments}{body:List Stmt}{scope:Scope}{dV kV doc pm cdv ct oc:Value}{an od:Option Addr}
  {osl:Array (Option Value)} {N ps:List Str} {sp:Sp} (lk:K.lookup f=some ⟨oc,od,.func (PySem.W.fnOf name qual params body scope dV kV doc pm an cdv ct),osl⟩) (hcd:PySem.W.codeIn K cdv qual=true) (S:FnScope N ps scope)
  (len:∀vs H Q E,sp vs H Q E->vs.length=ps.length)
  (hbody:∀(A:Around) (outer:List Env) (s:Shared) (H:Hp) (vs:List V) (Q:VK) (E:XK),Room k (A.deeper (envOfC qual scope s.heap.objs.size f cdv))->sp vs H Q E ->
   ∃t,PSs (N8 CX P w K mg base N qual scope f cdv A outer s H E) body t/\t { nx:=λ_ H'=>Q .non H',rt:=Q } (start N vs) H) :
  FnOk P w K mg base CX (k+1) f (PySem.W.fnOf name qual params body scope dV kV doc pm an cdv ct) ps sp:=by
 refine⟨len,λA outer s H args us vs Q E hr e0 hb r hsp=>?_⟩
 have hl:=len _ _ _ _ hsp
 have KX:K.In s.heap:=e0.mod.kin.keeps λb o e=>(e0.bs b o e).1
 have lim:s.heap.NoLimit:=e0.mod.nolimit.keeps λb o e=>(e0.bs b o e).1
 have hkind:∀y∈ps.zip us,scope.names.lookup y.1=some .local\/(scope.names.lookup y.1=some .cell/\((cellsFrom (s.heap.objs.size+1) scope.names []).lookup y.1).isSome=true):=λ⟨n,v⟩ hy=>by
  rcases S.par n (List.of_mem_zip hy).1 with q | q
  ·exact .inl q
  ·exact .inr ⟨q,PySem.W.cellsFrom_some _ _ _ (.inl q)⟩
 refine codeAny_call_function hr.depth (KX _ _ lk) rfl S.co S.gen rfl (PySem.W.codeRec_of KX hcd) (hb _ _ _ _ ?_)
 refine wpAny_newFunctionEnv_cells S.kind hkind λenv he s1 x=>?_
 subst he
 refine⟨lim.keeps x.toInCall.keep,codeAny_func ?_⟩
 obtain⟨t,ht,hq⟩:=hbody A outer s H vs Q E (hr.deeper _) hsp
 have I:Inv (N8 CX P w K mg base N qual scope f cdv A outer s H E) [] (start N vs) H s1:=Ra S hr.hd e0 hl r x
 refine wpAny_mono (ht [] s1 (start N vs) H _ I hq) (λfl s' hs=>?_) λe s' hs=>hs
 have fin:∀{σ':St} {H':Hp} {v:V} {u:Value},Inv (N8 CX P w K mg base N qual scope f cdv A outer s H E) [] σ' H' s'->B4 v u->Q v H'->CE outer P w H s Q u s' :=
  λ{σ' H' v u} J rv q=>⟨v,H',J.os,J.bare,J.base,J.hok,rv,q⟩
 cases fl with
 | ret u =>
  obtain⟨v,σ',H',J,rv,q⟩:=hs
  exact fin J rv q
 | next =>
  obtain⟨σ',H',J,q⟩:=hs
  exact fin (v:=V.non) (u:=Value.none) J rfl q
 | brk =>
  obtain⟨_,_,_,q⟩:=hs
  exact False.elim q
 | cont =>
  obtain⟨_,_,_,q⟩:=hs
  exact False.elim q
section
variable {X:Cx}{x:Str}{p pos:Pos}{e:Expr}{es:List Expr}{t:TA}{id T:String}{r:List V->Hp->VK->Prop}
def tCB(r:List V->Hp->VK->Prop)(t:TA):TE:=fun σ H Q=>t σ H λvs H1=>r vs H1 Q
theorem Tb(hc:Eo X (.builtin id) r)(hg:Gl X x)(hm:X.mg x=none)(hv:bootBuiltins x=some (.builtin id))(ha:PA X (e :: es) t)(hn:x ≠ "__name__" := by decide) (hdb:(x==("__debug__" : Str))=false:=by decide)
  (he:starEach (e :: es) X.env=(false,eval e X.env) :: starEach es X.env:=by rfl) (hpl:(backTo pos (starEach es X.env)).any (·.1)=false:=by rfl):PE X (.Call (.Name x p) (e :: es) [] pos) (tCB r t):=by
 intro pins s σ H Q I h
 refine wpAny_Call_Name_kw (C0 I hg hm hv ?_ hn hdb)
 exact PyProof.Rows.callWith_builtin1 (thn (ha pos pins s σ H _ I h) λus s1 zz251=>De zz251 λvs H1 I1 r1 q1=>hc pins s1 σ H1 vs us Q I1 r1 q1) he hpl
theorem Rb(hc:Eo X (.type T) r)(hg:Gl X x)(hm:X.mg x=none)(hv:bootBuiltins x=some (.type T))(ha:PA X (e :: es) t)(hn:x ≠ "__name__" := by decide) (hdb:(x==("__debug__" : Str))=false:=by decide)
  (he:starEach (e :: es) X.env=(false,eval e X.env) :: starEach es X.env:=by rfl) (hpl:(backTo pos (starEach es X.env)).any (·.1)=false:=by rfl):PE X (.Call (.Name x p) (e :: es) [] pos) (tCB r t):=by
 intro pins s σ H Q I h
 refine wpAny_Call_Name_kw (C0 I hg hm hv ?_ hn hdb)
 exact PyProof.Rows.callWith_type1 (thn (ha pos pins s σ H _ I h) λus s1 zz252=>De zz252 λvs H1 I1 r1 q1=>hc pins s1 σ H1 vs us Q I1 r1 q1) he hpl
end
end L2
namespace HT
open PySem PyProof.Rows
section
open PySem.SeqAt
open PySem.AutoSeq1 (wpAny_loadPart')
open PySem.MeetsSeq PySem.MeetsSeq2 PySem.MeetsSeq3
end
section
variable {prog:Program}{w:World}{A:Around}{E:Value->Shared->Prop}{s:Shared}
theorem cat_tup{t b:Addr}{vs ws:List Value}{Q:Value->Shared->Prop}(ht:IsTup s.heap t vs.toArray)(hb:IsTup s.heap b ws.toArray)(hv:vs≠[])
  (h1:ws=[]->Q (.ref t) s) (h2:ws≠[]->Q (.ref s.heap.objs.size) { s with heap:=s.heap.push { cls:=.type "tuple",data:=.seq (vs++ws).toArray } })
  (hsz:vs.length+ws.length<=sizeLine):wpAny (model prog w) A (binaryOp .Add (.ref t) (.ref b)) Q E s:=by
 obtain⟨⟨cls,dd,data,sl⟩,ho,hc,n,hd⟩:=id ht
 obtain⟨⟨cls2,dd2,data2,sl2⟩,ho2,hc2,n2,hd2⟩:=id hb
 simp only at hc hd hc2 hd2
 subst hc hd hc2 hd2
 have e:vs.toArray++ws.toArray=(vs++ws).toArray:=by simp
 by_cases hw:ws=[]
 ·exact concat_meets ⟨_,ho,rfl⟩ ⟨_,ho2,rfl⟩ noFill_tuple_add seq_tuple_add PySem.F.slot_tuple_add PySem.F.entry_tuple_add (PySem.F.args_tuple_add_2 _ _)
   (tuple_addW1 t b vs.toArray ws.toArray n n2 dd dd2 sl sl2 (by simpa using hv) (by simp [hw])) ⟨ho,ho2,h1 hw⟩
 ·refine concat_meets ⟨_,ho,rfl⟩ ⟨_,ho2,rfl⟩ noFill_tuple_add seq_tuple_add PySem.F.slot_tuple_add PySem.F.entry_tuple_add (PySem.F.args_tuple_add_2 _ _)
   (tuple_addW2 t b vs.toArray ws.toArray n n2 dd dd2 sl sl2 (by simpa using hv) (by simpa using hw) (by rw [List.size_toArray,List.size_toArray];exact hsz)) ⟨ho,ho2,?_⟩
  rw [e]
  exact h2 hw
def sIx(n d:Nat):Option Int->Nat
 | none=>d
 | some v=>if v < 0 then(v+(n:Int)).toNat else min v.toNat n
theorem Qau(n d:Nat)(hd:d<=n)(o:Option Int):sIx n d o<=n:=by
 cases o with
 | none=>exact hd
 | some v =>
  show(if v < 0 then(v+(n:Int)).toNat else min v.toNat n)<=n
  by_cases hv:v < 0
  ·rw [if_pos hv];omega
  ·rw [if_neg hv];exact Nat.min_le_right _ _
theorem Pj(v:Int)(n d:Nat):(if v < 0 then max (v+(n:Int)) 0 else min v (n:Int))=((sIx n d (some v):Nat):Int):=by
 show(if v < 0 then max (v+(n:Int)) 0 else min v (n:Int))=(((if v < 0 then(v+(n:Int)).toNat else min v.toNat n):Nat):Int)
 by_cases hv:v < 0
 ·simp only [if_pos hv];omega
 ·simp only [if_neg hv];omega
theorem N9(lo hi:Option Int)(n:Nat):Builtin.Slice.sliceAdjust lo hi 1 (n:Int)=(((sIx n 0 lo:Nat):Int),((sIx n n hi:Nat):Int)):=by
 have h1:¬((1:Int) < 0):=by omega
 unfold Builtin.Slice.sliceAdjust
 simp only [h1,if_false]
 refine Prod.ext ?_ ?_
 ·cases lo with
  | none=>rfl
  | some v=>exact Pj v n 0
 ·cases hi with
  | none=>rfl
  | some v=>exact Pj v n n
theorem Oa(i j:Nat):Builtin.Slice.slicePlaces (i:Int) (j:Int) 1=j - i:=by
 unfold Builtin.Slice.slicePlaces
 have h1:(1:Int) > 0:=by omega
 simp only [h1,if_true,Int.ediv_one]
 split <;> omega
theorem Ik{v:Value}{o:Option Int}{Q:Option Int->Shared->Prop}(p:IsPart v o)(h:Q o s):wpAny (model prog w) A (Builtin.Slice.slicePartIndex v) Q E s:=by
 cases p with
 | none=>exact slicePart_none h
 | int i t=>exact slicePart_int h
theorem Dy{sl:Addr}{vl vu:Value}{lo hi:Option Int}{n:Nat}{Q:Int×Int×Nat->Shared->Prop}(hs:s.heap.IsSliceOf sl vl vu .none)(pl:IsPart vl lo)(pu:IsPart vu hi)
  (h:Q (((sIx n 0 lo:Nat):Int),1,sIx n n hi - sIx n 0 lo) s):wpAny (model prog w) A (Builtin.Slice.sliceApplied (.ref sl) (pure (n:Int))) Q E s:=by
 obtain⟨os,hos,hcs,hds⟩:=id hs
 unfold Builtin.Slice.sliceApplied Builtin.Slice.sliceFields
 refine wpAny_bind (wpAny_bind (wpAny_field hos hds (x:=vl) rfl (wpAny_bind (wpAny_field hos hds (x:=vu) rfl (wpAny_bind (wpAny_field hos hds (x:=.none) rfl (wpAny_pure ?_)))))))
 refine wpAny_bind (slicePart_none ?_)
 show wpAny _ _ (if((1:Int)==0)=true then _ else _) _ _ s
 rw [if_neg (by decide)]
 refine wpAny_bind (Ik pl (wpAny_bind (Ik pu (wpAny_bind (wpAny_pure ?_)))))
 show wpAny _ _ (match Builtin.Slice.sliceAdjust lo hi 1 (n:Int) with | (lo,hi)=>pure (lo,(1:Int),Builtin.Slice.slicePlaces lo hi 1)) _ _ s
 rw [N9 lo hi n]
 show wpAny _ _ (pure (((sIx n 0 lo:Nat):Int),(1:Int),Builtin.Slice.slicePlaces ((sIx n 0 lo:Nat):Int) ((sIx n n hi:Nat):Int) 1)) _ _ s
 rw [Oa]
 exact wpAny_pure h
theorem Tc(xs:Array Value)(i k:Nat):((List.range k).filterMap λ(m:Nat)=>xs[((i:Int)+(m:Int) * 1).toNat]?).toArray=((xs.toList.drop i).take k).toArray:=by
 have e:(λ(m:Nat)=>xs[((i:Int)+(m:Int) * 1).toNat]?)=λm=>xs[i+m]?:=by
  funext m
  have:((i:Int)+(m:Int) * 1).toNat=i+m:=by omega
  rw [this]
 rw [e]
 have:=pick_run xs i k
 rw [List.filterMap_map]at this
 have e2:((λx=>xs[x]?) ∘ λx=>i+x)=λm=>xs[i+m]?:=rfl
 rw [e2]at this
 rw [this]
theorem getItem_tuple_cut{t sl:Addr}{items:Array Value}{vl vu:Value}{lo hi:Option Int}{Q:Value->Shared->Prop}(ht:IsTup s.heap t items)(hs:s.heap.IsSliceOf sl vl vu .none)(pl:IsPart vl lo)(pu:IsPart vu hi)
  (hw:¬(sIx items.size 0 lo=0/\sIx items.size items.size hi=items.size))
  (h:Q (.ref s.heap.objs.size) { s with heap:=s.heap.push { cls:=.type "tuple",data:=.seq ((items.toList.drop (sIx items.size 0 lo)).take (sIx items.size items.size hi - sIx items.size 0 lo)).toArray } })
  (hsz:items.size<=sizeLine):wpAny (model prog w) A (getItem (.ref t) (.ref sl)) Q E s:=by
 have htake:sizeOk (.seq ((items.toList.drop (sIx items.size 0 lo)).take (sIx items.size items.size hi - sIx items.size 0 lo)).toArray):=by
  show((items.toList.drop (sIx items.size 0 lo)).take (sIx items.size items.size hi - sIx items.size 0 lo)).toArray.size<=sizeLine
  rw [List.size_toArray,List.length_take,List.length_drop,Array.length_toList]
  omega
 have hj:sIx items.size items.size hi<=items.size:=Qau _ _ (Nat.le_refl _) hi
 obtain⟨os,hos,hcs,hds⟩:=id hs
 have hTs:s.TypeIs (.ref sl) "slice" := ⟨os,hos,hcs⟩
 unfold getItem
 try with_reducible refine wpAny_holding ?_
 first | refine wpAny_bind (wpAny_pure ?_) | skip
 refine wpAny_bind (wpAny_sequenceKey ht.typeIs (by decide) ?_)
 refine wpAny_bind (wpAny_callSpecial?_slot (name:=Str.ofString "__getitem__") ht.typeIs PyProof.Rows.slot_tuple_getitem
  (wpAny_call_entry PyProof.Rows.slot_tuple_getitem ht.typeIs entry_tuple_getitem ?_ (args_tuple_getitem _ _)))
 show wpAny _ _ (Builtin.Tuple.tupleItemsOf (.ref t) >>= _) _ _ s
 refine wpAny_bind (tupleItemsOf_ ht ?_)
 refine wpAny_bind (wpAny_typeOf hTs ?_)
 rw [if_pos (by decide)]
 refine wpAny_bind (Dy hs pl pu ?_)
 have hno:¬((((sIx items.size 0 lo:Nat):Int)==0 && (1:Int)==1 && (sIx items.size items.size hi - sIx items.size 0 lo)==items.size)=true):=by
  intro q
  rw [Bool.and_eq_true,Bool.and_eq_true]at q
  have q1:((sIx items.size 0 lo:Nat):Int)=0:=eq_of_beq q.1.1
  have q2:sIx items.size items.size hi - sIx items.size 0 lo=items.size:=eq_of_beq q.2
  exact hw ⟨by omega,by omega⟩
 show wpAny _ _ (if(((sIx items.size 0 lo:Nat):Int)==0 && (1:Int)==1 && (sIx items.size items.size hi - sIx items.size 0 lo)==items.size)=true then _ else _) _ _ s
 rw [if_neg hno,Tc]
 first
  | exact wpAny_bind (m:=Builtin.Tuple.tupleExact _) (wpAny_newObj_type (wpAny_pure ⟨_,rfl,wpAny_pure h⟩) htake)
  | exact wpAny_bind (m:=Builtin.Tuple.tupleExact _) (wpAny_newObj_type (wpAny_bind (wpAny_pure (wpAny_pure ⟨_,rfl,wpAny_pure h⟩))) htake)
  | exact wpAny_bind (wpAny_bind (m:=Builtin.Tuple.tupleExact _) (wpAny_newObj_type (wpAny_pure (wpAny_pure ⟨_,rfl,wpAny_pure h⟩)) htake))
  | exact wpAny_bind (wpAny_bind (m:=Builtin.Tuple.tupleExact _) (wpAny_newObj_type (wpAny_pure ⟨_,rfl,wpAny_pure h⟩) htake))
end
end HT
namespace L2
open PySem PySem.Spec PyProof.Rows
abbrev TO:=St->Hp->(Option Int->Hp->Prop)->Prop
def PO(X:Cx)(e:Option Expr)(t:TO):Prop :=
 ∀(pins:List (Addr×Obj)) (s:Shared) (σ:St) (H:Hp) (Q:Option Int->Hp->Prop),Inv X pins σ H s->t σ H Q ->
  wpAny (model X.prog X.w) X.A (evalPart e X.env) (λu s'=>∃o H',Inv X pins σ H' s'/\IsPart u o/\Q o H') X.xe s
def Wk:TO:=λ_ H Q=>Q none H
def Qdn(t:TE):TO:=fun σ H Q=>t σ H λx H1=>∃i,x=.int i/\Q (some i) H1
section
variable {X:Cx}{e:Expr}{te:TE}{lo hi:Option Expr}{tl th:TO}{pos p2:Pos}
theorem Wl:PO X none Wk:=by
 intro pins s σ H Q I h
 rw [evalPart_none]
 exact wpAny_pure ⟨none,H,I,.none,h⟩
theorem Wm(h:PE X e te):PO X (some e) (Qdn te):=by
 intro pins s σ H Q I hw
 rw [evalPart_some]
 refine thn (h pins s σ H _ I hw) λu s1 zz253=>De zz253 λx H1 I1 r1 q1=>?_
 obtain⟨i,rfl,q⟩:=q1
 obtain⟨t,rfl⟩:=r1
 exact⟨some i,H1,I1,.int i t,q⟩
def SlR(X:Cx)(r:V->Option Int->Option Int->Hp->VK->Prop):Prop :=
 ∀(pins:List (Addr×Obj)) (s:Shared) (σ:St) (H:Hp) (x:V) (v vl vu:Value) (lo hi:Option Int) (sl:Addr) (Q:VK),Inv X pins σ H s->B4 x v->s.heap.IsSliceOf sl vl vu .none->IsPart vl lo->IsPart vu hi->r x lo hi H Q ->
  ∃T id,typeLookup (.type T) "__getitem__" = pure (some (.builtin id))/\s.TypeIs v T/\wpAny (model X.prog X.w) X.A (getItem v (.ref sl)) (EP X pins σ Q) X.xe s
def tSl(r:V->Option Int->Option Int->Hp->VK->Prop)(te:TE)(tl th:TO):TE:=fun σ H Q=>te σ H λx H1=>tl σ H1 λl H2=>th σ H2 λu H3=>r x l u H3 Q
theorem Td{r:V->Option Int->Option Int->Hp->VK->Prop}(hr:SlR X r)(he:PE X e te)(hl:PO X lo tl)(hu:PO X hi th):PE X (.Subscript e (.Slice lo hi none p2) pos) (tSl r te tl th):=by
 intro pins s σ H Q I h
 refine Subscript_ (thn (he pins s σ H _ I h) λv s1 zz254=>De zz254 λx H1 I1 r1 q1=>?_)
 refine wpAny_Slice (thn (hl pins s1 σ H1 _ I1 q1) λvl s2 zz255=>De zz255 λl H2 I2 pl q2=>thn (hu pins s2 σ H2 _ I2 q2) λvu s3 zz256=>De zz256 λu H3 I3 pu q3=>?_)
 rw [evalPart_none]
 refine wpAny_pure ?_
 have I4:Inv X pins σ H3 { s3 with heap:=s3.heap.push { cls:=.type "slice",data:=.fields #[vl,vu,.none] } }:=I3.kept (t':=s3.toks) λb ob q=>Heap.get?_push_of_some _ q
 obtain⟨T,id,hT,ht,hg⟩:=hr pins { s3 with heap:=s3.heap.push { cls:=.type "slice",data:=.fields #[vl,vu,.none] } } σ H3 x v vl vu l u s3.heap.objs.size Q I4 r1 (Heap.IsSliceOf.new ..) pl pu q3
 show wpAny (model X.prog X.w) X.A (subscriptTail e (.Slice lo hi none p2) v (.ref s3.heap.objs.size)) (EP X pins σ Q) X.xe { s3 with heap:=s3.heap.push { cls:=.type "slice",data:=.fields #[vl,vu,.none] } }
 exact tail_any (ops:=[.ref s3.heap.objs.size,v]) ht hT hg (by with_unfolding_all rfl)
def Jx(xs:List V)(lo hi:Option Int):List V:=(xs.drop (HT.sIx xs.length 0 lo)).take (HT.sIx xs.length xs.length hi - HT.sIx xs.length 0 lo)
theorem Hc(xs:List V)(lo hi:Option Int):(Jx xs lo hi).length<=xs.length:=by
 unfold Jx
 rw [List.length_take,List.length_drop]
 omega
def Qhb(K:PySem.W.Frag):V->Option Int->Option Int->Hp->VK->Prop:=λx lo hi H Q=>∃a xs,x=.ref a/\Jv K H a xs /\
 ¬(HT.sIx xs.length 0 lo=0/\HT.sIx xs.length xs.length hi=xs.length)/\∀p,H p=none->Q (.ref p) (upd H p (.tup (Jx xs lo hi)))
theorem Qav:SlR X (Qhb X.K):=by
 intro pins s σ H x v vl vu lo hi sl Q I rx hs pl pu h
 obtain⟨a,xs,rfl,hx,hw,q⟩:=h
 cases rx
 obtain⟨its,r,ht,hz⟩:=I.tuple hx
 have hlen:its.toArray.size=xs.length:=by rw [List.size_toArray];exact r.length.symm
 refine⟨"tuple",_,PyProof.Rows.slot_tuple_getitem.lookup,ht.typeIs,?_⟩
 refine HT.getItem_tuple_cut ht hs pl pu (by rw [hlen];exact hw) ?_ (by rw [hlen];exact hz)
 rw [hlen]
 refine⟨.ref s.heap.objs.size,_,I.laid (t':=s.toks) (o:=.tup (Jx xs lo hi)) (λb ob q=>Heap.get?_push_of_some _ q) (Nat.le_refl _) ?_,rfl,q _ (I.hok.fresh (Nat.le_refl _))⟩
 exact⟨Nat.le_trans (Hc xs lo hi) hz,_,(r.drop (HT.sIx xs.length 0 lo)).take (HT.sIx xs.length xs.length hi - HT.sIx xs.length 0 lo),IsTup.new _ _⟩
theorem Vals.nil_iff{xs:List V}{us:List Value}(r:Vals xs us):us=[]↔xs=[]:=by
 cases r with
 | nil=>simp
 | cons _ _=>simp
end
def V3(n:Nat)(i:Int):Option Nat:=if 0<=i then(if i < n then some i.toNat else none) else if -(n:Int)<=i then some (i+n).toNat else none
def atI{α:Type}(xs:List α)(i:Int):Option α:=(V3 xs.length i).bind λj=>xs[j]?
theorem Pk{n:Nat}{i:Int}{j:Nat}(h:V3 n i=some j):seqIndex? i n=some j/\j < n/\-(n:Int)<=i/\i < n:=by
 unfold V3 at h
 by_cases h0:0<=i
 ·rw [if_pos h0]at h
  by_cases h1:i < n
  ·rw [if_pos h1]at h
   have e:i.toNat=j:=Option.some.inj h
   exact⟨by rw [seqIndex_of h0 h1,e],by omega,by omega,h1⟩
  ·rw [if_neg h1]at h;cases h
 ·rw [if_neg h0]at h
  by_cases h1:-(n:Int)<=i
  ·rw [if_pos h1]at h
   have e:(i+n).toNat=j:=Option.some.inj h
   exact⟨by rw [seqIndex_neg (by omega) h1,e],by omega,h1,by omega⟩
  ·rw [if_neg h1]at h;cases h
theorem Lb{α:Type}{xs:List α}{i:Int}{v:α}(h:atI xs i=some v):∃j,seqIndex? i xs.length=some j/\xs[j]?=some v/\j < xs.length/\-(xs.length:Int)<=i/\i < xs.length:=by
 unfold atI at h
 cases e:V3 xs.length i with
 | none=>rw [e]at h;cases h
 | some j =>
  rw [e]at h
  obtain⟨h1,h2,h3,h4⟩:=Pk e
  exact⟨j,h1,h,h2,h3,h4⟩
theorem Ai{α:Type}{xs:List α}{j:Nat}{v:α}(h:xs[j]?=some v):atI xs (j:Int)=some v:=by
 have hj:j < xs.length:=(List.getElem?_eq_some_iff.mp h).1
 have e:V3 xs.length (j:Int)=some j:=by
  unfold V3
  rw [if_pos (by omega),if_pos (by omega)];simp
 unfold atI;rw [e];exact h
def Pn(b:Expr):Prop:=∀o i,subscripted b false o i=operate [o,i] (getItem o i)
def IxR(X:Cx)(r:R2):Prop :=
 ∀(value slice:Expr) (pins:List (Addr×Obj)) (s:Shared) (σ:St) (H:Hp) (x y:V) (v u:Value) (Q:VK),Inv X pins σ H s->B4 x v->B4 y u->r x y H Q ->
  subscripted slice false v u=operate [v,u] (getItem v u)->wpAny (model X.prog X.w) X.A (subscriptTail value slice v u) (EP X pins σ Q) X.xe s
def MtR(X:Cx)(id:String)(r:V->List V->Hp->VK->Prop):Prop :=
 ∀(pins:List (Addr×Obj)) (s:Shared) (σ:St) (H:Hp) (x:V) (xs:List V) (v:Value) (us:List Value) (Q:VK),Inv X pins σ H s->B4 x v->Vals xs us->r x xs H Q ->
  wpAny (model X.prog X.w) X.A (call (.builtin id) (v :: us)) (EP X pins σ Q) X.xe s
section
variable {X:Cx}{a b:Expr}{ta tb:TE}{pos:Pos}
theorem Qdq{r:R2}(hr:IxR X r)(ha:PE X a ta)(hb:PE X b tb)(hs:Pn b):PE X (.Subscript a b pos) (tOp r ta tb):=by
 intro pins s σ H Q I h
 exact Subscript_ (Qai ha hb I h λv u s2 x y H2 I2 rx ry q=>hr a b pins s2 σ H2 x y v u Q I2 rx ry q (hs _ _))
def Qhc(K:PySem.W.Frag):R2:=λx y H Q=>∃p xs i v,x=.ref p/\y=.int i/\Ec K H p xs/\atI xs i=some v/\Q v H
def Qhd(K:PySem.W.Frag):R2:=λx y H Q=>∃p xs i v,x=.ref p/\y=.int i/\Jv K H p xs/\atI xs i=some v/\Q v H
def Qhe:R2:=λx y H Q=>∃z i c,x=.str z/\y=.int i/\z.length<=sizeLine/\atI z.cps.toList i=some c/\Q (.str ⟨#[c]⟩) H
theorem Po:IxR X (Qhc X.K):=by
 intro value slice pins s σ H x y v u Q I rx ry h hs
 obtain⟨p,xs,i,z,rfl,rfl,hq,he,q⟩:=h
 cases rx
 obtain⟨t,rfl⟩:=ry
 obtain⟨its,r,pl,hz⟩:=I.list hq
 obtain⟨j,h1,h2,h3,h4,h5⟩:=Lb he
 obtain⟨w,ew,rw'⟩:=r.get h2
 have hl:=r.length
 have hn:=Gq
 have fin:EP X pins σ Q w s:=⟨z,H,I,rw',q⟩
 by_cases h0:0<=i
 ·have hj:i.toNat=j:=by
   rw [seqIndex_of h0 h5]at h1
   exact Option.some.inj h1
  exact item_listR pl.isList h0 (by omega) (by rw [hj];simpa using ew) fin hs
 ·have hj:(i+(its.toArray.size:Int)).toNat=j:=by
   rw [seqIndex_neg (by omega) h4]at h1
   rw [List.size_toArray,<- hl]
   exact Option.some.inj h1
  exact subscriptTail_builtinR (x:=w) pl.isList.typeIs slot_list_getitem.lookup
   (wpAny_getItem_list_neg (Q:=λr s'=>r=w/\EP X pins σ Q r s') pl.isList (by omega) (by rw [List.size_toArray] <;> omega) (by omega) (by rw [hj];simpa using ew) ⟨rfl,fin⟩) hs
theorem Qaw:IxR X (Qhd X.K):=by
 intro value slice pins s σ H x y v u Q I rx ry h hs
 obtain⟨p,xs,i,z,rfl,rfl,hq,he,q⟩:=h
 cases rx
 obtain⟨t,rfl⟩:=ry
 obtain⟨its,r,pl,hz⟩:=I.tuple hq
 obtain⟨j,h1,h2,h3,h4,h5⟩:=Lb he
 obtain⟨w,ew,rw'⟩:=r.get h2
 have hl:=r.length
 have hn:=Gq
 have fin:EP X pins σ Q w s:=⟨z,H,I,rw',q⟩
 exact subscriptTail_builtinR (x:=w) pl.typeIs slot_tuple_getitem.lookup
  (getItem_tuple (j:=j) (Q:=λr s'=>r=w/\EP X pins σ Q r s') pl (by omega) (by omega) (by rw [List.size_toArray,<- hl];exact h1) (by simpa using ew) ⟨rfl,fin⟩) hs
theorem Qax:IxR X Qhe:=by
 intro value slice pins s σ H x y v u Q I rx ry h hs
 obtain⟨z,i,c,rfl,rfl,hz,he,q⟩:=h
 obtain⟨t,rfl⟩:=rx
 obtain⟨t',rfl⟩:=ry
 obtain⟨j,h1,h2,h3,h4,h5⟩:=Lb he
 have hl:z.cps.toList.length=z.length:=by simp [Str.length]
 rw [hl]at h1 h4 h5
 have hn:=Gq
 exact tail_any (typeIs_str s z t) slot_str_getitem.lookup (getItem_str (c:=c) (by
  have e1:decide (i < -(2 ^ 63:Int))=false:=decide_eq_false (by omega)
  have e2:decide (i>=2 ^ 63)=false:=decide_eq_false (by omega)
  rw [e1,e2,Bool.or_false]) (by rw [h1];simpa using h2) ⟨.str ⟨#[c]⟩,H,I.tok _,⟨_,rfl⟩,q⟩) hs
theorem Ob(its:List Value)(n j:Nat)(u:Value):Obj.mapSeq (·.setIfInBounds j u) { cls:=.type "list",data:=.seq its.toArray n }={ cls:=.type "list",data:=.seq (its.set j u).toArray n }:=by
 simp [Obj.mapSeq]
theorem Inv.lst{pins:List (Addr×Obj)}{σ:St}{H:Hp}{s:Shared}{p:Addr}{xs:List V}(I:Inv X pins σ H s)(h:H p=some (.lst xs)) :
  ∃(its:List Value) (n:Nat),Vals xs its/\s.heap.get? p=some { cls:=.type "list",data:=.seq its.toArray n }/\xs.length<=sizeLine:=by
 obtain⟨z,its,n,r,e⟩:=I.hok p _ h
 exact⟨its,n,r,e,z⟩
theorem Inv.lstUpd{pins:List (Addr×Obj)}{σ:St}{H:Hp}{s:Shared}{p:Addr}{xs ys:List V}{its its':List Value}{n n':Nat}{f:Obj->Obj}(I:Inv X pins σ H s)(h:H p=some (.lst xs))
  (ho:s.heap.get? p=some { cls:=.type "list",data:=.seq its.toArray n }) (hf:f { cls:=.type "list",data:=.seq its.toArray n }={ cls:=.type "list",data:=.seq its'.toArray n' }) (r:Vals ys its') (hz:ys.length<=sizeLine) (t:Nat) :
  Inv X pins σ (upd H p (.lst ys)) { s with heap:=s.heap.update p f,toks:=t }:=by
 have e:(s.heap.update p f).get? p=some { cls:=.type "list",data:=.seq its'.toArray n' }:=by
  rw [Heap.get?_update_self f ho (by rw [hf] <;> rfl),hf]
 refine I.write (x:=p) (e:=p) (by rw [h];trivial) (.inl rfl) (λb u hb q=>(Heap.get?_update_other _ _ (Ne.symm hb)).trans q) ⟨_,e⟩ ?_
 exact⟨hz,its',n',r,e⟩
def Qdr:V->V->V->Hp->(Hp->Prop)->Prop:=λo i v H Q=>∃p xs k j,o=.ref p/\i=.int k/\H p=some (.lst xs)/\V3 xs.length k=some j/\Q (upd H p (.lst (xs.set j v)))
theorem Te:PSet X Qdr:=by
 intro pins s σ H o i v ov iv u Q I ro ri rv h
 obtain⟨p,xs,k,j,rfl,rfl,hp,hj,q⟩:=h
 cases ro
 obtain⟨t,rfl⟩:=ri
 obtain⟨its,n,r,ho,hz⟩:=I.lst hp
 obtain⟨h1,h2,h3,h4⟩:=Pk hj
 have hl:=r.length
 have hn:=Gq
 have I':Inv X pins σ (upd H p (.lst (xs.set j v))) { s with heap:=s.heap.update p (Obj.mapSeq (·.setIfInBounds j u)) } :=
  I.lstUpd hp ho (Ob its n j u) (r.set rv j) (by rw [List.length_set];exact hz) s.toks
 by_cases h0:0<=k
 ·have hk:k.toNat=j:=by
   rw [seqIndex_of h0 h4]at h1
   exact Option.some.inj h1
  exact PySem.W.ki_setAt ho h0 (by omega) (by rw [List.size_toArray,<- hl];exact h4) (by rw [hk];exact⟨_,I',q⟩)
 ·have hk:(k+(its.toArray.size:Int)).toNat=j:=by
   rw [seqIndex_neg (by omega) h3]at h1
   rw [List.size_toArray,<- hl]
   exact Option.some.inj h1
  exact PySem.W.ki_setBack ho (by omega) (by rw [List.size_toArray,<- hl];exact h3) (by omega) (by rw [hk];exact⟨_,I',q⟩)
theorem Lc(lo hi:Option Int)(n:Nat):(sliceBounds lo hi none n).1=((HT.sIx n 0 lo:Nat):Int)/\(sliceBounds lo hi none n).2.1=((HT.sIx n n hi:Nat):Int)/\(sliceBounds lo hi none n).2.2=1:=by
 refine⟨?_,?_,rfl⟩
 ·cases lo with
  | none=>simp [sliceBounds,HT.sIx]
  | some i =>
   simp only [sliceBounds,HT.sIx,Option.getD_none,show(1:Int) > 0 by decide,if_true]
   by_cases h:i < 0
   ·simp only [h,if_true] <;> omega
   ·simp only [h,if_false] <;> omega
 ·cases hi with
  | none=>simp [sliceBounds,HT.sIx]
  | some i =>
   simp only [sliceBounds,HT.sIx,Option.getD_none,show(1:Int) > 0 by decide,if_true]
   by_cases h:i < 0
   ·simp only [h,if_true] <;> omega
   ·simp only [h,if_false] <;> omega
theorem Jy(its:List Value)(lo hi:Option Int):slicePick its.toArray lo hi none=((its.drop (HT.sIx its.length 0 lo)).take (HT.sIx its.length its.length hi - HT.sIx its.length 0 lo)).toArray:=by
 obtain⟨h1,h2,h3⟩:=Lc lo hi its.toArray.size
 unfold slicePick
 rw [h1,h2,h3]
 simp only [sliceRange_one,pick_run,List.size_toArray] <;> rfl
def Qhf(K:PySem.W.Frag):V->Option Int->Option Int->Hp->VK->Prop:=λx lo hi H Q=>∃a xs,x=.ref a/\Ec K H a xs/\∀p,H p=none->Q (.ref p) (upd H p (.lst (Jx xs lo hi)))
theorem Wn:SlR X (Qhf X.K):=by
 intro pins s σ H x v vl vu lo hi sl Q I rx hs pl pu h
 obtain⟨a,xs,rfl,hx,q⟩:=h
 cases rx
 obtain⟨its,r,ht,hz⟩:=I.list hx
 have hlen:=r.length
 refine⟨"list",_,slot_list_getitem.lookup,ht.isList.typeIs,?_⟩
 refine wpAny_getItem_list_slice ht.isList hs pl pu .none (by simp) ?_ (by rw [List.size_toArray] <;> omega)
 rw [Jy,<- hlen]
 refine⟨.ref s.heap.objs.size,_,I.laid (t':=s.toks) (o:=.lst (Jx xs lo hi)) (λb ob q=>Heap.get?_push_of_some _ q) (Nat.le_refl _) ?_,rfl,q _ (I.hok.fresh (Nat.le_refl _))⟩
 exact⟨Nat.le_trans (Hc xs lo hi) hz,_,0,(r.drop (HT.sIx xs.length 0 lo)).take (HT.sIx xs.length xs.length hi - HT.sIx xs.length 0 lo),Heap.get?_push_size _ rfl⟩
theorem Ld:Ij X (compareOp .NotIn) (λx y H Q=>∃i j,x=.str i/\y=.str j/\Q (.bl (!(!(Builtin.Str.occurrences j i 0 j.length 1).isEmpty))) H):=by
 intro pins s σ H x y v u Q I rx ry h
 obtain⟨i,j,rfl,rfl,q⟩:=h
 obtain⟨t,rfl⟩:=rx
 obtain⟨t',rfl⟩:=ry
 exact notIn_str ⟨.bl _,H,I,rfl,q⟩
theorem Ee:Eo X (.builtin "len") (λxs H Q=>∃p ys,xs=[.ref p]/\(Ec X.K H p ys\/Jv X.K H p ys)/\Q (.int ys.length) H):=by
 intro pins s σ H xs us Q I r h
 obtain⟨p,ys,rfl,hq,q⟩:=h
 obtain⟨u,rfl,rx⟩:=Dx r
 cases rx
 have hn:=Gq
 rcases hq with hq | hq
 ·obtain⟨its,r',pl,hz⟩:=I.list hq
  have hlen:=r'.length
  exact Calls.call_len_list pl.isList (by simp only [List.size_toArray] <;> omega) ⟨.int ys.length,H,I.tok _,⟨s.toks+1,by rw [List.size_toArray,hlen]⟩,q⟩
 ·obtain⟨its,r',pl,hz⟩:=I.tuple hq
  have hlen:=r'.length
  exact len_tuple pl (by simp only [List.size_toArray] <;> omega) ⟨.int ys.length,H,I.tok _,⟨s.toks+1,by rw [List.size_toArray,hlen]⟩,q⟩
theorem Le:Eo X (.builtin "len") (λxs H Q=>∃z,xs=[.str z]/\z.length<=sizeLine/\Q (.int z.length) H):=by
 intro pins s σ H xs us Q I r h
 obtain⟨z,rfl,hz,q⟩:=h
 obtain⟨u,rfl,t,rfl⟩:=Dx r
 have hn:=Gq
 exact len_str (by omega) ⟨.int z.length,H,I.tok _,⟨_,rfl⟩,q⟩
theorem Lf:Eo X (.type "list") (λxs H Q=>∃p ys,xs=[.ref p]/\(Ec X.K H p ys\/Jv X.K H p ys)/\∀l,H l=none->Q (.ref l) (upd H l (.lst ys))):=by
 intro pins s σ H xs us Q I r h
 obtain⟨p,ys,rfl,hq,q⟩:=h
 obtain⟨u,rfl,rx⟩:=Dx r
 cases rx
 have fin:∀(its:List Value),Vals ys its->ys.length<=sizeLine->∀(h':Heap) (c':Nat),(∀b o',s.heap.get? b=some o'->h'.get? b=some o') ->
   h'.get? s.heap.objs.size=some { cls:=.type "list",dict:=none,data:=.seq its.toArray c',slots:=#[] }->EP X pins σ Q (.ref s.heap.objs.size) { s with heap:=h' }:=λits r' hz h' c' kp e =>
  ⟨.ref s.heap.objs.size,_,I.laid (t':=s.toks) kp (Nat.le_refl _) (show Ch X.prog X.w _ h' _ (.lst ys) from⟨hz,its,c',r',e⟩),rfl,q _ (I.hok.fresh (Nat.le_refl _))⟩
 rcases hq with hq | hq
 ·obtain⟨its,r',pl,hz⟩:=I.list hq
  have hlen:=r'.length
  obtain⟨o,ho,hc,n,hd⟩:=pl.isList
  exact call_list_seq p (.inl rfl) ho hc hd (λh' c' kp e=>fin its r' hz h' c' kp e) (by simp only [List.size_toArray] <;> omega)
 ·obtain⟨its,r',pl,hz⟩:=I.tuple hq
  have hlen:=r'.length
  obtain⟨o,ho,hc,n,hd⟩:=pl
  exact call_list_seq p (.inr rfl) ho hc hd (λh' c' kp e=>fin its r' hz h' c' kp e) (by simp only [List.size_toArray] <;> omega)
theorem Fk:Eo X (.type "tuple") (λxs H Q=>∃p ys,xs=[.ref p]/\((Ec X.K H p ys/\∀l,H l=none->Q (.ref l) (upd H l (.tup ys)))\/(Jv X.K H p ys/\Q (.ref p) H))):=by
 intro pins s σ H xs us Q I r h
 obtain⟨p,ys,rfl,h⟩:=h
 obtain⟨u,rfl,rx⟩:=Dx r
 cases rx
 rcases h with⟨hq,q⟩ | ⟨hq,q⟩
 ·obtain⟨its,r',pl,hz⟩:=I.list hq
  have hlen:=r'.length
  refine call_tuple_list pl.isList (λh' kp=>?_) (by simp only [List.size_toArray] <;> omega)
  have I1:Inv X pins σ H { s with heap:=h' }:=I.kept (t':=s.toks) kp
  have I2:Inv X pins σ (upd H h'.objs.size (.tup ys)) { s with heap:=h'.push { cls:=.type "tuple",data:=.seq its.toArray } } :=
   I1.laid (t':=s.toks) (λb o e=>Heap.get?_push_of_some _ e) (Nat.le_refl _) (show Ch X.prog X.w _ _ _ (.tup ys) from⟨hz,its,r',IsTup.new _ _⟩)
  exact⟨.ref h'.objs.size,_,I2,rfl,q _ (I1.hok.fresh (Nat.le_refl _))⟩
 ·obtain⟨its,r',pl,hz⟩:=I.tuple hq
  exact call_tuple_same pl ⟨.ref p,H,I,rfl,q⟩
def tyV(K:PySem.W.Frag)(T:String)(x:V)(H:Hp):Prop:=match x with
 | .str _=>T = "str"
 | .int _=>T = "int"
 | .ref p=>(T = "list" /\ ∃xs,Ec K H p xs)\/(T = "tuple" /\ ∃o,K.lookup p=some o/\o.cls=.type "tuple" /\ o.dict=none) \/
   (T = "dict" /\ ((∃kvs,H p=some (.dK kvs))\/∃kvs,H p=some (.dT kvs)))\/(T = "set" /\ ∃S n,H p=some (.set S n))
 | _=>False
theorem Qay{pins:List (Addr×Obj)}{σ:St}{H:Hp}{s:Shared}{T:String}{x:V}{v:Value}(I:Inv X pins σ H s)(r:B4 x v)(ty:tyV X.K T x H) :
  s.TypeIs v T/\∀a,v=.ref a->∃ob,s.heap.get? a=some ob/\ob.dict=none:=by
 cases x with
 | str z =>
  obtain⟨t,rfl⟩:=r
  cases (show T = "str" from ty)
  exact⟨typeIs_str s z t,λ_ e=>nomatch e⟩
 | int i =>
  obtain⟨t,rfl⟩:=r
  cases (show T = "int" from ty)
  exact⟨typeIs_int s i t,λ_ e=>nomatch e⟩
 | ref p =>
  cases r
  rcases ty with⟨rfl,xs,hq⟩ | ⟨rfl,o,hk,hc,hd⟩ | ⟨rfl,hk⟩ | ⟨rfl,S,n,hk⟩
  ·obtain⟨its,_,pl,_⟩:=I.list hq
   refine⟨pl.isList.typeIs,λa e=>?_⟩
   cases e
   obtain⟨o,n,e,c,hd,_⟩:=pl
   exact⟨o,e,hd⟩
  ·refine⟨⟨o,I.kIn p o hk,hc⟩,λa e=>?_⟩
   cases e
   exact⟨o,I.kIn _ o hk,hd⟩
  ·have z:∃o,s.heap.get? p=some o/\o.ExactDict:=by
    rcases hk with⟨kvs,hk⟩ | ⟨kvs,hk⟩
    ·obtain⟨_,_,_,_,o,_,_,e,ex,_⟩:=I.hok p _ hk
     exact⟨o,e,ex⟩
    ·obtain⟨_,_,_,_,o,_,_,e,ex,_⟩:=I.hok p _ hk
     exact⟨o,e,ex⟩
   obtain⟨o,e,ex⟩:=z
   refine⟨⟨o,e,ex.1⟩,λa e2=>?_⟩
   cases e2
   exact⟨o,e,ex.2.1⟩
  ·obtain⟨o,_,_,_,e,ex,_⟩:=I.hok p _ hk
   refine⟨⟨o,e,ex.1⟩,λa e2=>?_⟩
   cases e2
   exact⟨o,e,ex.2.1⟩
 | _=>exact False.elim ty
def tBM(K:PySem.W.Frag)(T:String)(r:V->List V->Hp->VK->Prop)(to:TE)(t:TA):TE:=fun σ H Q=>to σ H λx H1=>tyV K T x H1/\t σ H1 λxs H2=>r x xs H2 Q
variable {o e:Expr}{es:List Expr}{to:TE}{t:TA}{name:Str}{apos cpos:Pos}{T id:String}{r:V->List V->Hp->VK->Prop}
theorem Yo(pa:PlainAttrs T)(slot:Slot T name id)(hty:typeOf (.builtin id)=pure (.type "method_descriptor")) (hm:MtR X id r) (ho:PE X o to) (ha:PA X (e :: es) t)
  (hbase:attributeBase o name X.env (eval o X.env)=eval o X.env:=by rfl)
  (hfew:((backTo cpos (starEach (e :: es) X.env)).all (λx=>!x.1) && (backToKw cpos (keywordEach [] X.env)).all (λx=>x.1.isSome)
   && decide ((e :: es).length+([]:List Keyword).length+(if([]:List Keyword).isEmpty then 0 else 1) < 30))=true:=by rfl)
  (hline:(apos.endLine==cpos.line)=true:=by rfl) (hs:starEach (e :: es) X.env=(false,eval e X.env) :: starEach es X.env:=by rfl) (hplain:(backTo cpos (starEach es X.env)).any (·.1)=false:=by rfl) :
  PE X (.Call (.Attribute o name apos) (e :: es) [] cpos) (tBM X.K T r to t):=by
 intro pins s σ H Q I h
 refine wpAny_Call_method_late hbase hfew hline rfl (thn (ho pins s σ H _ I h) λv s1 zz514=>?_)
 obtain⟨x,H1,I1,r1,ty,q1⟩:=zz514
 obtain⟨h1,h2⟩:=Qay I1 r1 ty
 refine⟨T,id,pa,slot,hty,h1,h2,?_⟩
 have hA:=ha cpos pins s1 σ H1 _ I1 q1
 rw [hs]at hA ⊢
 refine Calls.callWith_builtin (by show(false || (backTo cpos (starEach es X.env)).any (·.1))=false;rw [hplain] <;> rfl) (Calls.evalArgs_plain ?_)
 exact thn hA λus s2 zz257=>De zz257 λvs H2 I2 r2 q2=>hm pins s2 σ H2 x vs v us Q I2 r1 r2 q2
end
def MtM(X:Cx)(id:String)(r:V->List V->Hp->VK->Prop):Prop :=
 ∀(pins:List (Addr×Obj)) (s:Shared) (σ:St) (H:Hp) (x:V) (xs:List V) (v:Value) (us:List Value) (Q:VK),Inv X pins σ H s->B4 x v->Vals xs us->r x xs H Q ->
  wpAny (model X.prog X.w) X.A (call (.builtin id) (v :: us)) (EP X pins σ Q) X.xe s
theorem Vals.one:∀{x:V} {us:List Value},Vals [x] us->∃u,us=[u]/\B4 x u
 | _,_,.cons r .nil=>⟨_,rfl,r⟩
section
variable {X:Cx}{pins:List (Addr×Obj)}{σ:St}{H:Hp}{s:Shared}{l b:Addr}{xs ys zs:List V}
theorem Inv.lset{its its':List Value}{n:Nat}{f:Array Value->Array Value}{t':Nat}(I:Inv X pins σ H s)(hH:H l=some (.lst xs))
  (e:s.heap.get? l=some { cls:=.type "list",data:=.seq its.toArray n }) (hf:f its.toArray=its'.toArray) (hv:Vals ys its') (hz:ys.length<=sizeLine) :
  Inv X pins σ (upd H l (.lst ys)) { s with heap:=s.heap.update l (Obj.mapSeq f),toks:=t' }:=by
 have q:=PySem.IsL.update e f
 rw [hf]at q
 refine I.write (x:=l) (e:=l) (by rw [hH];exact trivial) (.inl rfl) (λb' u hb hu=>(Heap.get?_update_other s.heap (Obj.mapSeq f) (Ne.symm hb)).trans hu) ⟨_,q⟩ ?_
 exact⟨hz,its',_,hv,q⟩
theorem Inv.lnew{its:List Value}{t':Nat}(I:Inv X pins σ H s)(hv:Vals ys its)(hz:ys.length<=sizeLine) :
  Inv X pins σ (upd H s.heap.objs.size (.lst ys)) { s with heap:=s.heap.push { cls:=.type "list",data:=.seq its.toArray },toks:=t' } :=
 I.laid (λ_ _ q=>Heap.get?_push_of_some _ q) (Nat.le_refl _) ⟨hz,its,0,hv,Heap.get?_push_size _ rfl⟩
theorem Inv.fresh(I:Inv X pins σ H s):H s.heap.objs.size=none:=I.hok.fresh (Nat.le_refl _)
theorem Inv.lstM(I:Inv X pins σ H s)(hH:H l=some (.lst xs)):xs.length<=sizeLine/\∃(its:List Value) (n:Nat),Vals xs its/\xs.length=its.length/\s.heap.get? l=some { cls:=.type "list",data:=.seq its.toArray n }:=by
 obtain⟨z,its,n,r,e⟩:=I.hok l _ hH
 exact⟨z,its,n,r,r.length,e⟩
theorem Tf{n:Nat}(h:n<=sizeLine):Builtin.List.listTooLong n=false:=by
 unfold Builtin.List.listTooLong
 exact decide_eq_false (by omega)
end
section
variable {X:Cx}
def Wo:V->List V->Hp->VK->Prop:=λx vs H Q=>∃l xs y,x=.ref l/\vs=[y]/\H l=some (.lst xs)/\xs.length < sizeLine/\Q .non (upd H l (.lst (xs++[y])))
theorem Kd:MtM X "list.append" Wo:=by
 intro pins s σ H x vs v us Q I rx rv h
 obtain⟨l,xs,y,rfl,rfl,hH,hz,q⟩:=h
 cases rx
 obtain⟨u,rfl,ru⟩:=rv.one
 obtain⟨z,its,n,r,hl,e⟩:=I.lstM hH
 refine call_meets F.slot_list_append ⟨_,e,rfl⟩ F.entry_list_append (F.args_list_append_2 _ _) (PySem.list_append l its.toArray n u (by rw [List.size_toArray];omega)) ⟨e,?_⟩
 refine⟨.non,_,I.lset (its':=its++[u]) hH e (by simp) (r.append (.cons ru .nil)) ?_,rfl,q⟩
 rw [List.length_append,List.length_singleton]
 omega
def Wp:V->List V->Hp->VK->Prop:=λx vs H Q=>∃l b xs zs,x=.ref l/\vs=[.ref b]/\H l=some (.lst xs)/\H b=some (.lst zs)/\xs.length+zs.length<=sizeLine/\Q .non (upd H l (.lst (xs++zs)))
theorem Rc:MtM X "list.extend" Wp:=by
 intro pins s σ H x vs v us Q I rx rv h
 obtain⟨l,b,xs,zs,rfl,rfl,hH,hB,hz,q⟩:=h
 cases rx
 obtain⟨u,rfl,ru⟩:=rv.one
 cases ru
 obtain⟨z,its,n,r,hl,e⟩:=I.lstM hH
 obtain⟨z2,its2,n2,r2,hl2,e2⟩:=I.lstM hB
 have hsz:its.toArray.size+its2.toArray.size<=sizeLine:=by rw [List.size_toArray,List.size_toArray];omega
 have hlong:¬(!its.toArray.isEmpty && Builtin.List.listTooLong (its.toArray.size+its2.toArray.size))=true:=by
  rw [Tf hsz,Bool.and_false]
  exact Bool.false_ne_true
 refine call_meets F.slot_list_extend ⟨_,e,rfl⟩ F.entry_list_extend (F.args_list_extend_2 _ _)
  (AutoSeq1.list_extend_list_list_0 l its.toArray n b its2.toArray n2 hlong (by rw [List.size_toArray];omega) (by omega)) ⟨e,e2,?_⟩
 refine⟨.non,_,I.lset (its':=its++its2) hH e (by simp) (r.append r2) ?_,rfl,q⟩
 rw [List.length_append]
 omega
def Qhh:R2:=λx y H Q=>∃l b xs zs,x=.ref l/\y=.ref b/\H l=some (.lst xs)/\H b=some (.lst zs)/\xs.length+zs.length<=sizeLine/\∀p,H p=none->Q (.ref p) (upd H p (.lst (xs++zs)))
theorem Qaz:Ij X (binaryOp .Add) Qhh:=by
 intro pins s σ H x y v u Q I rx ry h
 obtain⟨l,b,xs,zs,rfl,rfl,hH,hB,hz,q⟩:=h
 cases rx
 cases ry
 obtain⟨z,its,n,r,hl,e⟩:=I.lstM hH
 obtain⟨z2,its2,n2,r2,hl2,e2⟩:=I.lstM hB
 refine PySem.P.add_list e e2 ?_ (by rw [List.size_toArray,List.size_toArray];omega)
 have ea:its.toArray++its2.toArray=(its++its2).toArray:=by simp
 rw [ea]
 exact⟨.ref _,_,I.lnew (t':=s.toks) (r.append r2) (by rw [List.length_append];omega),rfl,q _ I.fresh⟩
end
section
variable {prog:Program}{w:World}{A:Around}{E:Value->Shared->Prop}{s:Shared}
end
section
variable {X:Cx}
end
section
variable {κ:Type} [DecidableEq κ]
theorem KV.length{kvs:List (κ×V)}{vs:List (κ×Value)}(r:KV kvs vs):kvs.length=vs.length:=Paired.length r
end
section
variable {P:Program}{w:World}{H:Hp}{h:Heap}{a:Addr}
theorem Qds{u:HO}(ok:HOk P w H h)(e:Rd H a u):Ch P w H h a u:=e.ok ok
theorem Qdt{kvs:List (Key×V)}(ok:HOk P w H h)(e:Rd H a (.dK kvs)):kvs.length<=sizeLine/\(a==sysModules)=false/\∃vs,KV kvs vs/\h.DictOf (Bv P w) a vs :=
 show Ch P w H h a (.dK kvs) from Qds ok e
end
section
variable {X:Cx}{pins:List (Addr×Obj)}{σ:St}{H:Hp}{s:Shared}{a:Addr}{y v:V}{u r:Value}{o:Option V}{A:Around}{E:Value->Shared->Prop}
end
section
variable {X:Cx}{pins:List (Addr×Obj)}{σ:St}{H:Hp}{s:Shared}{a:Addr}{kvs:List (Key×V)}{k:Key}{u:Value}{A:Around}{E:Value->Shared->Prop}
theorem Qdu{Q:Value->Shared->Prop}(I:Inv X pins σ H s)(e:Rd H a (.dK kvs))(h:∀t s',Inv X pins σ H s'->Q (.int kvs.length t) s'):wpAny (model X.prog X.w) A (call (.builtin "len") [.ref a]) Q E s:=by
 obtain⟨z,hd,vs,rel,dd⟩:=Qdt I.hok e
 refine call_len_dict hd dd (by rw [<- rel.length];rw [sizeLine_eq]at z;omega) ?_
 rw [<- rel.length]
 exact h _ _ (I.tok _)
end
section
variable {X:Cx}{o i e value:Expr}{pos pos' tpos:Pos}{td ty tv:TE}
end
section
variable {X:Cx}{pos:Pos}
end
structure M1(X:Cx)(o:Expr)(m:Str)(apos:Pos)(e:Expr)(cpos:Pos):Prop where
 base:attributeBase o m X.env (eval o X.env)=eval o X.env
 few:((backTo cpos (starEach [e] X.env)).all (λx=>!x.1) && (backToKw cpos (keywordEach [] X.env)).all (λx=>x.1.isSome)
  && decide (([e]:List Expr).length+([]:List Keyword).length+(if([]:List Keyword).isEmpty then 0 else 1) < 30))=true
 line:(apos.endLine==cpos.line)=true
 trees:backTo cpos (starEach [e] X.env)=[(false,eval e X.env)]
structure M2(X:Cx)(o:Expr)(m:Str)(apos:Pos)(e f:Expr)(cpos:Pos):Prop where
 base:attributeBase o m X.env (eval o X.env)=eval o X.env
 few:((backTo cpos (starEach [e,f] X.env)).all (λx=>!x.1) && (backToKw cpos (keywordEach [] X.env)).all (λx=>x.1.isSome)
  && decide (([e,f]:List Expr).length+([]:List Keyword).length+(if([]:List Keyword).isEmpty then 0 else 1) < 30))=true
 line:(apos.endLine==cpos.line)=true
 trees:backTo cpos (starEach [e,f] X.env)=[(false,eval e X.env),(false,eval f X.env)]
section
variable {X:Cx}{pins:List (Addr×Obj)}{σ:St}{H:Hp}{s:Shared}{a:Addr}{y d:V}{u r:Value}{o:Option V}{A:Around}{E:Value->Shared->Prop}
end
section
variable {X:Cx}{o e f:Expr}{apos cpos:Pos}{td ty tx:TE}
end
section
variable {X:Cx}{pins:List (Addr×Obj)}{σ:St}{H:Hp}{s:Shared}{a:Addr}{kvs:List (Key×V)}{A:Around}{E:Value->Shared->Prop}
end
section
variable {X:Cx}{pins:List (Addr×Obj)}{σ:St}{H:Hp}{s:Shared}{a:Addr}{y:V}{u:Value}{A:Around}{E:Value->Shared->Prop}
end
end L2
namespace Att
open PySem PySem.W PySem.Calls PyProof.Rows
theorem Hm{P:Params}{h:Heap}:∀(ns:List Int) (vs:List Value),WellAll P h vs (ns.map WData.int)->IntsAre vs ns:=by
 intro ns
 induction ns with
 | nil =>
  intro vs w
  rw [List.map_nil]at w
  cases w
  exact .nil
 | cons n ns ih =>
  intro vs w
  rw [List.map_cons]at w
  cases w with
  | cons a b =>
   cases a
   exact .cons _ _ (ih _ b)
theorem Re{l:OpenLaw}{n:Nat}(hn:l.most=some n){P:Params}{h:Heap}{args:List WData}{vals:List Value}
  (hpre:l.row.toRowW.claim.pre args=true) (hwl:WellAll P h vals args) :
  ∃a vs ns,vals=[Value.ref a]/\args=[WData.list (ns.map WData.int)]/\h.get? a=some { cls:=.type "list",data:=.seq vs.toArray }/\IntsAre vs ns/\ns.length<=n:=by
 have hsh:WShape.hasAll [] args [.list .int]=true:=(pre_splitW hpre).1
 have hc:l.pre.holds [] { args:=args }=true:=(pre_splitW hpre).2
 obtain⟨d,r,rfl,h1,h2⟩:=hasAllW_cons hsh
 obtain rfl:=hasAllW_nil h2
 obtain⟨xs,rfl,h3⟩:=hasW_list h1
 obtain⟨ns,rfl⟩:=items_int h3
 have hlen:ns.length<=n:=by
  unfold OpenLaw.pre at hc
  have h4:(WTm.not (.lt (.lit (.int (n:Int))) (.len (.arg 0)))).holds [] { args:=[.list (ns.map .int)] }=true:=by
   have h4:=(holds_andW hc).1
   rw [hn]at h4
   exact h4
  have h5:=condW_of h4 (w_not (w_lt w_lit (w_len_list (w_arg rfl))))
  rw [List.length_map]at h5
  refine Nat.le_of_not_lt λq=>?_
  have q':(n:Int) < ((ns.length:Nat):Int):=by omega
  first
   | (rw [decide_eq_true q']at h5;exact absurd h5 (by decide))
   | (simp at h5;omega)
 cases hwl with
 | cons w1 w2 =>
  cases w2
  cases w1 with
  | list ho hall=>exact⟨_,_,ns,rfl,rfl,ho,Hm ns _ hall,hlen⟩
theorem Rf(l:OpenLaw)(args:List WData):l.row.toRowW.claim.post args (.bool true) args=true :=
 postW_of (r:=l.row.toRowW) (X:=(true==true))
  (show WShape.has [] (.bool true) .bool=true by first | rfl | decide | simp [WShape.has,WShape.arms,WShape.armsAll])
  (show(WTm.eq .res (.lit (.bool true))).value [] { args:=args,res:=some (.bool true),after:=args }=some (.bool (true==true)) from w_eq_bool (w_res rfl) w_lit) rfl
theorem attach_call{l:OpenLaw}{n:Nat}{q:Program}{loose:List Str}{XP:(Str->Option Value)->Heap->Prop}{YP:World->Heap->Prop}{d:DefRec}
  (hn:l.most=some n) (hdf:d.params.defaults=[])
  (call:∀(w:World) (s₀ s₁:Shared) (mg mb:Str->Option Value) (fa:Addr) (o:Obj) (pm cd doc:Value) (a:Addr) (vs:List Value) (ns:List Int),
   Ground q loose [] XP w s₀ mg mb s₁.heap->YP w s₁.heap ->
   s₁.heap.get? fa=some o->o.data=.func (docDef d.name d.params d.body d.scope pm cd doc)->s₁.heap.CodeRec cd d.name->mg d.name=some (.ref fa) ->
   s₁.heap.get? a=some { cls:=.type "list",data:=.seq vs.toArray }->IntsAre vs ns->ns.length<=n->s₁.gens=#[] ->
   codeAny (model l.prog w) callerA (.call (.ref fa) ⟨[.ref a],[]⟩) (λr s'=>r=.ok (.ret (.bool true))/\OldK s₁.heap s'.heap/\s'.os=s₁.os/\AllBare s'.gens) s₁) :
  WalkO q loose XP YP l.row.toRowW d [] (λf vs=>PySem.call f vs):=by
 intro w s₀ s₁ mg mb G Y fa o pm cd doc dV kV ho hd hcd hD hmg hg args vals as hpre hlay hrd hwl hlo
 obtain rfl:dV=.none:=Dflts.none hD hdf
 obtain rfl:kV=.none:=Dflts.noKw hD
 obtain⟨a,vs,ns,rfl,rfl,hobj,hints,hlen⟩:=Re hn hpre hwl
 refine enter_call (codeAny_mono (call w s₀ s₁ mg mb fa o pm cd doc a vs ns G Y ho (fd_plain hd) hcd hmg hobj hints hlen hg) λr s' hq=>?_)
 obtain⟨rfl,h2,h3,h4⟩:=hq
 exact⟨.inl ⟨.bool true,.bool true,[],rfl,λ_=>rfl,.bool true,Rf l _,λ_=>⟨List.Pairwise.nil,λ_ hm=>(nomatch hm)⟩⟩,h2,h3,h4⟩
section
variable {prog:Program}{w:World}{A:Around}{E:Value->Shared->Prop}{s:Shared}{K:Frag}
end
end Att
namespace L2
open PySem PySem.Spec PyProof.Rows
theorem Ke:∀{vs:List Value} {ns:List Int},IntsAre vs ns->Vals (ns.map V.int) vs
 | _,_,.nil=>.nil
 | _,_,.cons n t h=>.cons ⟨t,rfl⟩ (Ke h)
def Only(H:Hp):Prop:=∀b,H b=none\/∃o xs,H b=some (.frz o (.lst xs))
theorem Tg{P:Program}{w:World}{K:PySem.W.Frag}{mg mb:Str->Option Value}{CX:CXT}{k:Nat}{fa a:Addr}{fd:FuncData}{x:Str}{sp:Sp}{s₁:Shared}{vs:List Value}{ns:List Int}
  (KX:K.In s₁.heap) (hns:s₁.heap.Ns mainGlobals mg) (hb:s₁.heap.Ns builtinsNs mb) (hbb:∀x:Str,x ≠ "__name__" -> mb x=bootBuiltins x) (hlim:s₁.heap.NoLimit) (hg:s₁.gens=#[])
  (ha:s₁.heap.get? a=some { cls:=.type "list",data:=.seq vs.toArray }) (hi:IntsAre vs ns) (hl:ns.length<=sizeLine) (hr:Room k callerA)
  (F:∀base:Heap,K.In base->base.Ns mainGlobals mg->FnOk P w K mg base CX k fa fd [x] sp) (hbind:∀(s:Shared) (u:Value),BindsTo s fd ⟨[u],[]⟩ [(x,u)])
  (hsp:∀H:Hp,Only H->Ec K H a (ns.map V.int)->sp [.ref a] H (λv _=>v=.bl true) λ_ _ _=>False)
  (hCX:∀H e s',CX [] H s₁ (λ_ _ _=>False) e s'->False) :
  codeAny (model P w) callerA (.call (.ref fa) ⟨[.ref a],[]⟩) (λr s'=>r=.ok (.ret (.bool true))/\OldK s₁.heap s'.heap/\s'.os=s₁.os/\AllBare s'.gens) s₁:=by
 have rv:=Ke hi
 have lenV:=hi.length
 have core:∀H:Hp,Only H->Ec K H a (ns.map V.int)->HOk P w H s₁.heap->(∀b,H b≠none->b=a)->(H a≠none->K.lookup a=none) ->
   codeAny (model P w) callerA (.call (.ref fa) ⟨[.ref a],[]⟩) (λr s'=>r=.ok (.ret (.bool true))/\OldK s₁.heap s'.heap/\s'.os=s₁.os/\AllBare s'.gens) s₁:=by
  intro H hO hS hok hA hK
  have base_of:∀{b:Addr} {o:Obj},s₁.heap.get? b=some o->H b=none->(La s₁.heap H).get? b=some o:=λe n=>Su e n
  have noA:∀{b:Addr} {o:Obj} {es:Array DictEntry} {ep:Nat},s₁.heap.get? b=some o->o.data=.dict es ep->H b=none:=λ{b o es ep} e d=>by
   cases q:H b with
   | none=>rfl
   | some u =>
    have e':b=a:=hA b (by rw [q];simp)
    subst e'
    rw [ha]at e;cases e
    have d':Data.seq vs.toArray _=Data.dict es ep:=d
    cases d'
  have nsK:∀{b:Addr} {m:Str->Option Value},s₁.heap.Ns b m->(La s₁.heap H).Ns b m:=λ{b m} ⟨o,es,ep,e,d,r⟩=>⟨o,es,ep,base_of e (noA e d),d,r⟩
  have hKb:K.In (La s₁.heap H):=λb o e=>base_of (KX b o e) (by
   cases q:H b with
   | none=>rfl
   | some u =>
    have e':b=a:=hA b (by rw [q];simp)
    subst e'
    rw [hK (by rw [q];simp)]at e;cases e)
  have hM:Mod K mg (La s₁.heap H):=⟨hKb,nsK hns,⟨mb,nsK hb,hbb⟩,let⟨mc,h1,h2⟩:=hlim;⟨mc,nsK h1,h2⟩⟩
  have e0:Env0 P w K mg (La s₁.heap H) callerA [] s₁ H:=⟨rfl,hM,λb o e=>V5 e,Nat.le_of_eq (Q4 _ _),trivial,λb hb=>absurd (show b∈([]:List Addr) from hb) (by simp),hok,.of_eq hg⟩
  refine codeAny_mono ((F _ hKb (nsK hns)).run callerA [] s₁ H ⟨[.ref a],[]⟩ [.ref a] [.ref a] _ _ hr e0 (hbind s₁ (.ref a)) (.cons rfl .nil) (hsp H hO hS)) λr s' h=>?_
  cases r with
  | error e=>exact(hCX H e s' h).elim
  | ok fl =>
   cases fl with
   | next=>exact False.elim h
   | brk=>exact False.elim h
   | cont=>exact False.elim h
   | ret u =>
    obtain⟨v,H',os,bare,un,hok',r',q⟩:=h
    have q':v=.bl true:=q
    subst q'
    obtain rfl:u=Value.bool true:=r'
    refine⟨rfl,OldK.of_keep λb o e=>?_,os,bare⟩
    cases q:H b with
    | none=>exact un.keep b o e q (by intro z;exact absurd (show b∈([]:List Addr) from z) (by simp)) (by simp)
    | some u =>
     rcases hO b with z | ⟨ob,xs,z⟩
     ·rw [q]at z;cases z
     ·have z2:=un.frzs b ob _ z
      obtain⟨e1,_⟩:=hok b _ z
      obtain⟨e2,_⟩:=hok' b _ z2
      rw [e]at e1;cases e1
      exact e2
 cases hk:K.lookup a with
 | some o =>
  have e:=KX a o hk
  rw [ha]at e
  cases e
  refine core (λ_=>none) (λ_=>.inl rfl) (.inr ⟨_,vs.toArray,_,hk,rfl,rfl,rfl,by rw [List.size_toArray,lenV];exact hl,by simpa using rv⟩) (λb u z=>by have z':(none:Option HO)=some u:=z;cases z') (λb z=>absurd rfl z) λz=>absurd rfl z
 | none =>
  refine core (λb=>if b=a then some (.frz { cls:=.type "list",data:=.seq vs.toArray } (.lst (ns.map V.int))) else none) (λb=>?_) (.inl (.inr ⟨{ cls:=.type "list",data:=.seq vs.toArray },if_pos rfl⟩)) (λb u z=>?_) (λb z=>?_) λ_=>hk
  ·by_cases hb:b=a
   ·exact .inr ⟨_,_,if_pos hb⟩
   ·exact .inl (if_neg hb)
  ·by_cases hb:b=a
   ·have z':=(if_pos hb).symm.trans z
    cases z'
    subst hb
    exact⟨ha,by rw [List.length_map];exact hl,vs,_,rv,ha⟩
   ·have z':=(if_neg hb).symm.trans z
    cases z'
  ·by_cases hb:b=a
   ·exact hb
   ·exact absurd (if_neg hb) z
theorem walk_of{l:PySem.W.OpenLaw}{n k:Nat}{q:Program}{loose:List Str}{XP:(Str->Option Value)->Heap->Prop}{YP:World->Heap->Prop}{d:DefRec}{K:Params->PySem.W.Frag}{CX:World->CXT}{sp:World->Sp}{x:Str}
  (hn:l.most=some n) (hn2:n<=sizeLine) (hdf:d.params.defaults=[]) (hr:Room k callerA)
  (hY:∀(w:World) (h:Heap),YP w h->(K w.params).In h)
  (F:∀(w:World) (mg:Str->Option Value) (fa:Addr) (h:Heap),(K w.params).In h->h.Ns mainGlobals mg->mg d.name=some (.ref fa) ->
   ∃fd:FuncData,(∀(s:Shared) (u:Value),BindsTo s fd ⟨[u],[]⟩ [(x,u)]) /\
    ∀base:Heap,(K w.params).In base->base.Ns mainGlobals mg->FnOk l.prog w (K w.params) mg base (CX w) k fa fd [x] (sp w))
  (hsp:∀(w:World) (H:Hp) (a:Addr) (ns:List Int),ns.length<=n->Only H->Ec (K w.params) H a (ns.map V.int)->sp w [.ref a] H (λv _=>v=.bl true) λ_ _ _=>False)
  (hCX:∀(w:World) (H:Hp) (s:Shared) (e:Value) (s':Shared),CX w [] H s (λ_ _ _=>False) e s'->False) :
  PySem.W.WalkO q loose XP YP l.row.toRowW d [] (λf vs=>PySem.call f vs):=by
 refine Att.attach_call hn hdf λw s₀ s₁ mg mb fa o pm cd doc a vs ns G Y ho hd hcd hmg hobj hints hlen hg=>?_
 have KX:=hY w _ Y
 obtain⟨fd,hb,hF⟩:=F w mg fa _ KX G.T.g hmg
 exact Tg KX G.T.g G.T.b G.T.builtins G.T.nolimit hg hobj hints (Nat.le_trans hlen hn2) hr hF hb (λH hO hS=>hsp w H a ns hlen hO hS) λH e s'=>hCX w H s₁ e s'
def Bi(s:Stmt):Arguments:=match s with
 | .FunctionDef _ a _ _ _ _ _ _ _ _=>a
 | _=>{ posonlyargs:=[],args:=[],vararg:=none,kwonlyargs:=[],kw_defaults:=[],kwarg:=none,defaults:=[] }
def Be(s:Stmt):List Stmt:=match s with
 | .FunctionDef _ _ b _ _ _ _ _ _ _=>b
 | _=>[]
def Ah(s:Stmt):Scope:=match s with
 | .FunctionDef _ _ _ _ _ _ sc _ _ _=>sc
 | _=>{ kind:=.function,names:=[],isGenerator:=false,isCoroutine:=false }
abbrev Fl:CXT:=λ_ _ _ _ _ _=>False
abbrev E0:XK:=λ_ _ _=>False
theorem Qdv{X:Cx}:Passes Fl X E0:=λ_ _ _ _ _ _ _ h=>h.elim
structure Fun(K:PySem.W.Frag)(x qual:Str)(st:Stmt)(f:Addr)(fd:FuncData):Prop where
 ex:∃(oc:Value) (od:Option Addr) (kV doc pm:Value) (an:Option Addr) (cdv ct:Value) (osl:Array (Option Value)),
  fd=PySem.W.fnOf x qual (Bi st) (Be st) (Ah st) .none kV doc pm an cdv ct/\K.lookup f=some ⟨oc,od,.func fd,osl⟩/\PySem.W.codeIn K cdv qual=true
 kp:PySem.W.keepIn K (.ref f)=true
section
variable {P:Program}{w:World}{K:PySem.W.Frag}{mg:Str->Option Value}{base:Heap}
theorem Fun.ok{x qual:Str}{st:Stmt}{f:Addr}{fd:FuncData}{N ps:List Str}{k:Nat}{sp:Sp}(F:Fun K x qual st f fd)(S:FnScope N ps (Ah st))(len:∀vs H Q E,sp vs H Q E->vs.length=ps.length)
  (hbody:∀(cdv:Value) (A:Around) (outer:List Env) (s:Shared) (H:Hp) (vs:List V) (Q:VK) (E:XK),Room k (A.deeper (envOfC qual (Ah st) s.heap.objs.size f cdv))->sp vs H Q E ->
   ∃t,PSs (N8 Fl P w K mg base N qual (Ah st) f cdv A outer s H E).nox (Be st) t/\t { nx:=λ_ H'=>Q .non H',rt:=Q } (start N vs) H):FnOk P w K mg base Fl (k+1) f fd ps sp:=by
 obtain⟨oc,od,kV,doc,pm,an,cdv,ct,osl,rfl,lk,hcd⟩:=F.ex
 refine Qdm lk hcd S len λA outer s H vs Q E hr hsp=>?_
 obtain⟨t,h,q⟩:=hbody cdv A outer s H vs Q E hr hsp
 exact⟨t,h.nox,q⟩
theorem Fun.binds{x qual:Str}{st:Stmt}{f:Addr}{fd:FuncData}{ps:List Str}(F:Fun K x qual st f fd)
  (h:∀(kV doc pm:Value) (an:Option Addr) (cdv ct:Value) (us:List Value),us.length=ps.length->bindArgs (PySem.W.fnOf x qual (Bi st) (Be st) (Ah st) .none kV doc pm an cdv ct) ⟨us,[]⟩=pure (ps.zip us)):Binds K fd ps []:=by
 obtain⟨oc,od,kV,doc,pm,an,cdv,ct,osl,rfl,lk,hcd⟩:=F.ex
 exact .all (h kV doc pm an cdv ct)
theorem Ca{x qual:Str}{st:Stmt}{f:Addr}{oc:Value}{od an:Option Addr}{osl:Array (Option Value)}{kV doc pm cdv ct:Value}(l:K.lookup f=some ⟨oc,od,.func (PySem.W.fnOf x qual (Bi st) (Be st) (Ah st) .none kV doc pm an cdv ct),osl⟩)
  (c:PySem.W.codeIn K cdv qual=true) (k:PySem.W.keepIn K (.ref f)=true):Fun K x qual st f (PySem.W.fnOf x qual (Bi st) (Be st) (Ah st) .none kV doc pm an cdv ct):=⟨⟨oc,od,kV,doc,pm,an,cdv,ct,osl,rfl,l,c⟩,k⟩
end
theorem Bg{n:Nat}(h:n<=1000):n < sizeLine:=Nat.lt_of_le_of_lt h (by decide)
section
variable {X:Cx}
theorem Rg:Eo X (.builtin "len") (λxs H Q=>∃a kvs,xs=[V.ref a]/\H a=some (.dK kvs)/\Q (.int kvs.length) H):=by
 intro pins s σ H xs us Q I r h
 obtain⟨a,kvs,rfl,ha,q⟩:=h
 obtain⟨u,rfl,ru⟩:=Dx r
 cases ru
 exact Qdu I (.inl ha) λt s' I'=>⟨.int kvs.length,H,I',⟨t,rfl⟩,q⟩
end
section
variable {κ:Type} [DecidableEq κ]
end
end L2
set_option maxHeartbeats 4000000
namespace L2
open PySem
def Ep(cells:List (Str×Addr)):List (Str×NameKind)->List (Str×Addr)->List (Str×Addr)
 | [],acc=>acc
 | (n,k) :: r,acc=>if k=NameKind.free then Ep cells r ((n,(cells.lookup n).getD 0) :: acc) else Ep cells r acc
theorem Fm{scope:Scope}{env:Env}(h:∀x∈scope.names,x.2=.free->∃c,env.cells.lookup x.1=some c) :
  closureFor scope env=pure (Ep env.cells scope.names []):=by
 have key:∀(names:List (Str×NameKind)) (acc:List (Str×Addr)),(∀x∈names,x.2=.free->∃c,env.cells.lookup x.1=some c) ->
   (do
     let mut cs:=acc
     for (name,kind) in names do
      if kind==.free then cs:=(name,<- cellOf env name) :: cs
     return cs:Sem (List (Str×Addr)))=pure (Ep env.cells names acc):=by
  intro names
  induction names with
  | nil=>intro acc _;rfl
  | cons x r ih =>
   intro acc h
   obtain⟨n,k⟩:=x
   have hr:∀y∈r,y.2=.free->∃c,env.cells.lookup y.1=some c:=λy hy=>h y (List.mem_cons_of_mem _ hy)
   by_cases hk:k=.free
   ·subst hk
    obtain⟨c,hc⟩:=h (n,.free) List.mem_cons_self rfl
    have e:cellOf env n=pure c:=by unfold cellOf;rw [hc]
    have q:=ih ((n,c) :: acc) hr
    simp only [List.forIn_cons,beq_self_eq_true,if_true,e]
    unfold Ep
    rw [if_pos rfl,hc]
    exact q
   ·have hb:(k==NameKind.free)=false:=by simpa using hk
    have q:=ih acc hr
    simp only [List.forIn_cons,hb,Bool.false_eq_true,if_false]
    unfold Ep
    rw [if_neg hk]
    exact q
 exact key scope.names [] h
theorem Il{cells:List (Str×Addr)}:∀{names:List (Str×NameKind)} {acc:List (Str×Addr)},
  (∀x∈names,x.2=.free->∃c,cells.lookup x.1=some c)->(∀x c,acc.lookup x=some c->cells.lookup x=some c) ->
  ∀x c,(Ep cells names acc).lookup x=some c->cells.lookup x=some c
 | [],_,_,h,x,c,e=>h x c e
 | (n,k) :: r,acc,hf,h,x,c,e=>by
  unfold Ep at e
  have hr:∀y∈r,y.2=.free->∃c,cells.lookup y.1=some c:=λy hy=>hf y (List.mem_cons_of_mem _ hy)
  by_cases hk:k=.free
  ·rw [if_pos hk]at e
   refine Il hr (λy d q=>?_) x c e
   obtain⟨c',hc'⟩:=hf (n,k) List.mem_cons_self hk
   have hc':cells.lookup n=some c':=hc'
   rw [List.lookup_cons]at q
   cases hy:y==n with
   | true =>
    rw [hy,hc']at q
    have e1:y=n:=by simpa using hy
    rw [e1,hc']
    exact q
   | false=>rw [hy]at q;exact h y d q
  ·rw [if_neg hk]at e
   exact Il hr h x c e
theorem Ft{cells:List (Str×Addr)}{x:Str}:∀{names:List (Str×NameKind)} {acc:List (Str×Addr)},
  (∃c,acc.lookup x=some c)->∃c,(Ep cells names acc).lookup x=some c
 | [],_,h=>h
 | (n,k) :: r,acc,⟨c,h⟩=>by
  unfold Ep
  split
  ·refine Ft ?_
   rw [List.lookup_cons]
   cases x==n with
   | true=>exact⟨_,rfl⟩
   | false=>exact⟨c,h⟩
  ·exact Ft ⟨c,h⟩
theorem F0{cells:List (Str×Addr)}{x:Str}:∀{names:List (Str×NameKind)} {acc:List (Str×Addr)},
  (x,NameKind.free)∈names->∃c,(Ep cells names acc).lookup x=some c
 | (n,k) :: r,acc,h=>by
  unfold Ep
  rcases List.mem_cons.mp h with e | e
  ·cases e
   rw [if_pos rfl]
   refine Ft ?_
   rw [List.lookup_cons,beq_self_eq_true]
   exact⟨_,rfl⟩
  ·split
   ·exact F0 e
   ·exact F0 e
end L2
namespace PySem
open Sem (wp)
section
variable {prog:Program}{w:World}{A:Around}{E:Value->Shared->Prop}{R:Result->Shared->Prop}{s:Shared}
theorem Mi{elt target iter:Expr}{ifs:List Expr}{scope:Scope}{pos:Pos}{it acc:Value}{env:Env}(I:Nat->Shared->Prop)
  (turn:∀n s,I n s->wpAny (model prog w) A (pyNext it) (λr s₁=>match r with
   | none=>R (.ok .next) s₁
   | some v=>wpAny (model prog w) A (letOwnedTupleGo target it v) (λ_ s₁'=>wpAny (model prog w) A (assign target env v) (λ_ s₂ =>
     wpAny (model prog w) A (forIn ifs true λc r=>if r=true then do let ok <- isTrue c env (eval c env);pure (ForInStep.yield ok) else pure (ForInStep.yield r)) (λok s₃ =>
      if ok=true then wpAny (model prog w) A (eval elt env) (λx s₄ =>
       wpAny (model prog w) A (call (.builtin "list.append") [acc,x]) (λ_ s₅=>∃m,m < n/\I m s₅) (λ_ _=>False) s₄) (λ_ _=>False) s₃
      else ∃m,m < n/\I m s₃) (λ_ _=>False) s₂) (λ_ _=>False) s₁') (λ_ _=>False) s₁) (λ_ _=>False) s)
  (n:Nat) (h:I n s) :
  codeAny (model prog w) A (.compLoop (.ListComp elt [⟨target,iter,ifs,0⟩] scope pos) 0 it acc env) R s:=by
 refine codeAny_loop rfl I (λn s hI=>?_) n h
 show wpAny _ A ((compTurn (.ListComp elt [⟨target,iter,ifs,0⟩] scope pos) 0 it acc env).onRaise (λx=>do noteFrame x env;theTreesLotGoes x)) _ _ s
 refine wpAny_noted ?_
 rw [compTurn_list]
 refine wpAny_bind (wpAny_standAt (wpAny_bind (wpAny_mono (turn n s hI) (λr s₁ h₁=>?_) λ_ _ h'=>h'.elim)))
 cases r with
 | none=>exact wpAny_pure h₁
 | some v =>
  refine wpAny_bind (wpAny_mono h₁ (λ_ s₁' h₁'=>?_) λ_ _ h'=>h'.elim)
  refine wpAny_bind (wpAny_mono h₁' (λ_ s₂ h₂=>wpAny_bind (wpAny_mono h₂ (λok s₃ h₃=>?_) λ_ _ h'=>h'.elim)) λ_ _ h'=>h'.elim)
  cases ok with
  | false=>exact wpAny_pure ⟨rfl,h₃⟩
  | true =>
   exact wpAny_bind (wpAny_bind (wpAny_mono h₃ (λx s₄ h₄=>wpAny_bind (wpAny_mono h₄ (λ_ s₅ h₅=>wpAny_pure (wpAny_pure ⟨rfl,h₅⟩)) λ_ _ h'=>h'.elim)) λ_ _ h'=>h'.elim))
end
end PySem
namespace L2
open PySem PySem.Spec PyProof.Rows
def Mj(mp:List (Option Nat))(σ:St):St:=mp.map λo=>match o with | some i=>(σ[i]?).join | none=>none
def Wq(pn:List (Str×NameKind))(x:Str):Bool:=decide (pn.lookup x=some .cell) || decide (pn.lookup x=some .free)
def Th(N:List Str)(pn cn:List (Str×NameKind))(N':List Str)(mp:List (Option Nat)):Bool :=
 decide (N'.length=mp.length) && decide N'.Nodup &&
 (List.range N'.length).all (λk=>match mp[k]?,N'[k]? with
  | some (some i),some x=>decide (N[i]?=some x) && Wq pn x && decide ((x,NameKind.free)∈cn) && decide (cn.lookup x=some .free)
  | _,_=>true) &&
 cn.all (λp=>decide (p.2≠.cell)) && cn.all (λp=>decide (p.2≠.free) || Wq pn p.1) && cn.all (λp=>decide (p.2≠.local) || decide (cn.lookup p.1=some .local))
structure CompOk(N:List Str)(pn cn:List (Str×NameKind))(N':List Str)(mp:List (Option Nat)):Prop where
 len:N'.length=mp.length
 nd:N'.Nodup
 map:∀(k i:Nat) (x:Str),mp[k]?=some (some i)->N'[k]?=some x->N[i]?=some x/\(pn.lookup x=some .cell\/pn.lookup x=some .free)/\(x,NameKind.free)∈cn/\cn.lookup x=some .free
 nocell:∀p∈cn,p.2≠.cell
 free:∀p∈cn,p.2=.free->(pn.lookup p.1=some .cell\/pn.lookup p.1=some .free)
 loc:∀p∈cn,p.2=.local->cn.lookup p.1=some .local
theorem Mk{pn:List (Str×NameKind)}{x:Str}(h:Wq pn x=true):pn.lookup x=some .cell\/pn.lookup x=some .free:=by
 unfold Wq at h
 rcases(Bool.or_eq_true _ _).mp h with h | h
 ·exact .inl (of_decide_eq_true h)
 ·exact .inr (of_decide_eq_true h)
theorem A5{N:List Str}{pn cn:List (Str×NameKind)}{N':List Str}{mp:List (Option Nat)}(h:Th N pn cn N' mp=true):CompOk N pn cn N' mp:=by
 unfold Th at h
 obtain⟨h,h6⟩:=(Bool.and_eq_true _ _).mp h
 obtain⟨h,h5⟩:=(Bool.and_eq_true _ _).mp h
 obtain⟨h,h4⟩:=(Bool.and_eq_true _ _).mp h
 obtain⟨h,h3⟩:=(Bool.and_eq_true _ _).mp h
 obtain⟨h1,h2⟩:=(Bool.and_eq_true _ _).mp h
 refine⟨of_decide_eq_true h1,of_decide_eq_true h2,λk i x e1 e2=>?_,λp hp=>of_decide_eq_true (List.all_eq_true.mp h4 p hp),λp hp e=>?_,λp hp e=>?_⟩
 ·have hk:k < N'.length:=(List.getElem?_eq_some_iff.mp e2).1
  have q:=List.all_eq_true.mp h3 k (List.mem_range.mpr hk)
  simp only [e1,e2]at q
  obtain⟨q,q4⟩:=(Bool.and_eq_true _ _).mp q
  obtain⟨q,q3⟩:=(Bool.and_eq_true _ _).mp q
  obtain⟨q1,q2⟩:=(Bool.and_eq_true _ _).mp q
  exact⟨of_decide_eq_true q1,Mk q2,of_decide_eq_true q3,of_decide_eq_true q4⟩
 ·rcases(Bool.or_eq_true _ _).mp (List.all_eq_true.mp h5 p hp) with z | z
  ·exact absurd e (of_decide_eq_true z)
  ·exact Mk z
 ·rcases(Bool.or_eq_true _ _).mp (List.all_eq_true.mp h6 p hp) with z | z
  ·exact absurd e (of_decide_eq_true z)
  ·exact of_decide_eq_true z
theorem Lg{env:Env}:∀{names:List (Str×NameKind)} {x:Str},names.lookup x=some .free ->
  (names.map λ(n,k)=>if(k==NameKind.free && env.scope.kind==.function && env.kindOf n==some .cell) then(n,NameKind.cell) else(n,k)).lookup x=some .cell \/
  (names.map λ(n,k)=>if(k==NameKind.free && env.scope.kind==.function && env.kindOf n==some .cell) then(n,NameKind.cell) else(n,k)).lookup x=some .free
 | [],_,h=>by simp at h
 | (n,k) :: r,x,h=>by
  have ih:=@Lg env r x
  rw [List.map_cons]
  cases hx:x==n with
  | true =>
   simp only [List.lookup_cons,hx]at h
   cases h
   by_cases hc:(NameKind.free==NameKind.free && env.scope.kind==.function && env.kindOf n==some .cell)=true
   ·refine .inl ?_
    simp only [hc,if_true,List.lookup_cons,hx]
   ·refine .inr ?_
    simp only [if_neg hc,List.lookup_cons,hx]
  | false =>
   simp only [List.lookup_cons,hx]at h
   by_cases hc:(k==NameKind.free && env.scope.kind==.function && env.kindOf n==some .cell)=true
   ·simp only [hc,if_true,List.lookup_cons,hx];exact ih h
   ·simp only [if_neg hc,List.lookup_cons,hx];exact ih h
theorem Lh{env:Env}:∀{names:List (Str×NameKind)} {x:Str},(∀p∈names,p.2≠.cell) ->
  ((names.map λ(n,k)=>if(k==NameKind.free && env.scope.kind==.function && env.kindOf n==some .cell) then(n,NameKind.cell) else(n,k)).lookup x=some .cell \/
  (names.map λ(n,k)=>if(k==NameKind.free && env.scope.kind==.function && env.kindOf n==some .cell) then(n,NameKind.cell) else(n,k)).lookup x=some .free)->(x,NameKind.free)∈names
 | [],_,_,h=>by simp at h
 | (n,k) :: r,x,hn,h=>by
  have ih:=@Lh env r x λp hp=>hn p (List.mem_cons_of_mem _ hp)
  rw [List.map_cons]at h
  cases hx:x==n with
  | true =>
   have e:x=n:=by simpa using hx
   subst e
   have hk:=hn (x,k) List.mem_cons_self
   by_cases hc:(k==NameKind.free && env.scope.kind==.function && env.kindOf x==some .cell)=true
   ·have:k=.free:=by
     simp only [Bool.and_eq_true]at hc
     simpa using hc.1.1
    rw [this];exact List.mem_cons_self
   ·simp only [if_neg hc,List.lookup_cons,hx]at h
    rcases h with h | h
    ·exact absurd (Option.some.inj h) hk
    ·rw [Option.some.inj h];exact List.mem_cons_self
  | false =>
   by_cases hc:(k==NameKind.free && env.scope.kind==.function && env.kindOf n==some .cell)=true
   ·simp only [hc,if_true,List.lookup_cons,hx]at h;exact List.mem_cons_of_mem _ (ih h)
   ·simp only [if_neg hc,List.lookup_cons,hx]at h;exact List.mem_cons_of_mem _ (ih h)
end L2
namespace PySem
open Sem (wp)
section
variable {prog:Program}{w:World}{A:Around}{E:Value->Shared->Prop}{R:Result->Shared->Prop}{s:Shared}
variable {I:Addr}{fp wr:List Addr}{G:Array GenState->Array GenState->Prop}{n:Nat}{P:Nat->Value->Prop}{St:Nat->Shared->Prop}
end
end PySem
namespace L2
open PySem PySem.Spec PyProof.Rows
def B2(X:Cx)(N':List Str)(scope:Scope)(C:Addr)(s:Shared)(H:Hp)(fp:List Addr):Cx :=
 { X with N:=N',s₀:=s,H₀:=H,env:=compEnvC scope (Ep X.env.cells scope.names []) C X.env,outer:=X.stack,stack:=X.stack,ex:=fp,fn:=λ_=>false,pn:=[],xe:=λ_ _=>False }
def PIfs(X:Cx)(ifs:List Expr)(t:TT):Prop :=
 ∀(pins:List (Addr×Obj)) (s:Shared) (σ:St) (H:Hp) (Q:Bool->Hp->Prop),Inv X pins σ H s->t σ H Q ->
  wpAny (model X.prog X.w) X.A (forIn ifs true λc r=>if r=true then do let ok <- isTrue c X.env (eval c X.env);pure (ForInStep.yield ok) else pure (ForInStep.yield r)) (TP X pins σ Q) X.xe s
def Qhi:TT:=λ_ H Q=>Q true H
theorem Ti{X:Cx}:PIfs X [] Qhi:=λ_ _ _ H _ I h=>wpAny_tests_nil ⟨H,I,h⟩
theorem Tj{X:Cx}{c:Expr}{t:TT}(h:PT X c t):PIfs X [c] t:=λpins s σ H Q I hw=>wpAny_tests_one (h pins s σ H Q I hw)
def Tk(p:Addr)(J:It)(g:TG)(tst:TT)(te:TE)(Q:Hp->Prop)(σ:St)(H:Hp):Prop :=
 ∃W:Nat->Nat->List V->St->Hp->Prop,(∃m,W 0 m [] σ H)/\∀i m acc σ' H',W i m acc σ' H' ->
  (J.stop i H'/\Q H')\/(J.go i H'/\∃N:List V->St->Hp->Prop,(∀acc σ H,N acc σ H->∃m',m' < m/\W (i+1) m' acc σ H)/\∀x H2,J.yld i H' x H2->g x σ' H2 fun σ3 H3=>tst σ3 H3 λb H4 =>
   if b=true then te σ3 H4 λv H5=>∃ac,H5 p=some (.lst ac)/\ac.length < sizeLine/\N (ac++[v]) σ3 (upd H5 p (.lst (ac++[v])))
   else N acc σ3 H4)
def Tl(mp:List (Option Nat))(wi:TI)(g:TG)(tst:TT)(te:TE):TE:=fun σ H Q=>wi σ H λJ H1=>∀p,H1 p=none ->
 Tk p J g tst te (λH'=>Q (.ref p) H') (Mj mp σ) (upd H1 p (.lst []))
section
variable {X:Cx}{N':List Str}{mp:List (Option Nat)}{elt tg iter:Expr}{ifs:List Expr}{scope:Scope}{pos:Pos}{wi:TI}{g:TG}{tst:TT}{te:TE}
theorem Inv.comp0{pins:List (Addr×Obj)}{σ:St}{H:Hp}{s:Shared}{fp:List Addr}{tn:Heap->Prop}{h₁:Heap}{tk:Nat}{C:Addr}(ok:CompOk X.N X.env.scope.names scope.names N' mp)(hk:scope.kind=.function)
  (I:Inv X pins σ H s) (hf:∀b∈fp,Fr X pins H b) (hob:∀b∈fp,∃o,s.heap.get? b=some o) (hC:C=s.heap.objs.size+1)
  (hns:∃m,h₁.Ns C m) (keep:∀b o,s.heap.get? b=some o->h₁.get? b=some o) (hacc:∃n,h₁.get? s.heap.objs.size=some { cls:=.type "list",data:=.seq #[] n }) :
  Inv (B2 X N' scope C s H fp) [] (Mj mp σ) (upd H s.heap.objs.size (.lst [])) { s with heap:=h₁,toks:=tk }:=by
 subst hC
 have hcl:∀x∈scope.names,x.2=.free->∃c,X.env.cells.lookup x.1=some c:=λx hx e=>I.ok.has x.1 (ok.free x hx e)
 have sub:∀x c,(Ep X.env.cells scope.names []).lookup x=some c->X.env.cells.lookup x=some c:=Il hcl (λx c e=>by simp at e)
 have hlt:∀b∈fp,b < s.heap.objs.size:=λb hb=>let⟨_,e⟩:=hob b hb;Heap.lt_size e
 have hnC:H (s.heap.objs.size+1)=none:=I.hok.fresh (Nat.le_succ _)
 have hnp:H s.heap.objs.size=none:=I.hok.fresh (Nat.le_refl _)
 have fpfs:∀b∈fp,b∉frs X.stack:=λb hb z=>by
  obtain⟨_,f1,f2,_⟩:=hf b hb
  rcases List.mem_cons.mp (I.stkSub b z) with e | e
  ·exact f1 e
  ·exact f2 e
 refine⟨⟨I.ok.mod,hk,I.ok.glob,I.ok.blt,Nat.le_succ _,λx y c e1 e2=>I.ok.inj x y c (sub x c e1) (sub y c e2),λx e=>?_,λx c e=>(nomatch e),I.ok.hd,I.ok.frames,.inl rfl,λb hb=>⟨?_,λx c e=>?_⟩,I.bs,Nat.le_trans I.ok.bsz I.sz,λb o e hb=>?_,fpfs,I.stack,I.stkFree⟩,
  rfl,I.bare,Un.laid keep (Nat.le_refl _) hnp,?_,λx c e=>?_,?_,λx c e=>?_,λp hp=>(nomatch hp),I.hok.laid keep (Nat.le_refl _) ?_,?_⟩
 ·exact F0 (Lh ok.nocell e)
 ·exact Nat.ne_of_lt (Nat.lt_succ_of_lt (hlt b hb))
 ·exact(hf b hb).2.2.2.2.1 x c (sub x c e)
 ·rcases(hf b hb).2.2.2.1 with z | z
  ·exact I.ok.noex b o e z
  ·exact absurd (Nat.lt_of_lt_of_le (Heap.lt_size e) (Nat.le_trans I.ok.bsz z)) (Nat.lt_irrefl _)
 ·obtain⟨m,hm⟩:=hns
  refine⟨m,hm,λi x v e1 e2 e3=>?_⟩
  have e2':(Mj mp σ)[i]?=some (some v):=e2
  unfold Mj at e2'
  rw [List.getElem?_map]at e2'
  cases hmp:mp[i]? with
  | none=>rw [hmp]at e2';cases e2'
  | some o =>
   rw [hmp]at e2'
   cases o with
   | none=>cases e2'
   | some j =>
    have e4:σ[j]?=some (some v):=by
     have q:(σ[j]?).join=some v:=Option.some.inj e2'
     cases hj:σ[j]? with
     | none=>rw [hj]at q;cases q
     | some y=>rw [hj]at q;exact congrArg some q
    obtain⟨a1,a2,a3,a4⟩:=ok.map i j x hmp e1
    obtain⟨m0,hn0,hl0⟩:=I.loc
    obtain⟨u,r,l⟩:=hl0 j x v a1 e4 (a2.elim (λz=>.inr (.inl z)) λz=>.inr (.inr z))
    refine⟨u,r,.inr ⟨?_,?_⟩⟩
    ·exact Lg a4
    ·rcases l with⟨l1,_⟩ | ⟨_,c,l2,l3⟩
     ·have l1:X.env.scope.names.lookup x=some .local:=l1
      rcases a2 with a2 | a2 <;> rw [a2]at l1 <;> cases l1
     ·obtain⟨c',hc'⟩:∃c',(Ep X.env.cells scope.names []).lookup x=some c':=F0 a3
      have:c'=c:=Option.some.inj ((sub x c' hc').symm.trans l2)
      subst this
      exact⟨c',hc',l3.keeps keep⟩
 ·obtain⟨v,z⟩:=I.cell x c (sub x c e)
  exact⟨v,z.keeps keep⟩
 ·show upd H s.heap.objs.size (.lst []) (s.heap.objs.size+1)=none
  rw [Bn (Nat.succ_ne_self _)];exact hnC
 ·obtain⟨v,z⟩:=I.cell x c (sub x c e)
  show upd H s.heap.objs.size (.lst []) c=none
  rw [Bn (Nat.ne_of_lt z.lt)];exact I.freeC x c (sub x c e)
 ·obtain⟨n,e⟩:=hacc
  exact⟨Nat.zero_le _,[],n,.nil,e⟩
 ·show(Mj mp σ).length=N'.length
  unfold Mj
  rw [List.length_map,ok.len]
theorem Ml{pins:List (Addr×Obj)}{σ:St}{H:Hp}{s:Shared}{it:Addr}{fp:List Addr}{tn:Nat->Heap->Prop}{J:It}{Q:Addr->Hp->Prop}{E:Value->Shared->Prop}{RR:Value->Addr->Result->Shared->Prop}
  (ok:CompOk X.N X.env.scope.names scope.names N' mp) (hk:scope.kind=.function) (hc:X.calm=true) (I:Inv X pins σ H s) (T:Turn X.prog X.w X.K tg J fp it tn) (st:tn 0 s.heap) (hf:∀b∈fp,Fr X pins H b)
  (hg:∀C s H fp,PG (B2 X N' scope C s H fp) tg g) (ht:∀C s H fp,PIfs (B2 X N' scope C s H fp) ifs tst) (he:∀C s H fp,PE (B2 X N' scope C s H fp) elt te)
  (h:∀p,H p=none->Tk p J g tst te (Q p) (Mj mp σ) (upd H p (.lst [])))
  (hRR:∀C s' H',Inv X pins σ H' s'->(∃m,s'.heap.Ns C m)->H' C=none->X.s₀.heap.objs.size<=C->C≠X.env.locals->(∀x c,X.env.cells.lookup x=some c->c≠C)->(∀q∈X.pn++pins,q.1≠C)->Q s.heap.objs.size H'->RR (.ref s.heap.objs.size) C (.ok .next) s') :
  wpAny (model X.prog X.w) X.A (newList []) (λacc s₃=>wpAny (model X.prog X.w) X.A (newFunctionEnv scope X.env.globals (Ep X.env.cells scope.names []) [] X.env.qual none .none (some X.env)) (λcenv s₄ =>
   codeAny (model X.prog X.w) X.A (.compStart (.ListComp elt [⟨tg,iter,ifs,0⟩] scope pos) 0 (.ref it) acc { cenv with scope:=relabel scope X.env }) (RR acc cenv.locals) s₄) E s₃) E s:=by
 refine wpAny_newObj_type (wpAny_newFunctionEnv ok.nocell (by intro y hy;simp at hy) (λh₁ hns₁ hsb₁=>?_) hk)
 dsimp only at hns₁ hsb₁ ⊢
 generalize hH2:s.heap.push { cls:=.type "list",dict:=none,data:=.seq ([]:List Value).toArray }=H2 at hns₁ hsb₁ ⊢
 have hC:H2.objs.size=s.heap.objs.size+1:=by rw [<- hH2,Heap.size_push]
 have keep:∀b o,s.heap.get? b=some o->h₁.get? b=some o:=λb o e =>
  hsb₁.extBut b o (by rw [hC];exact Nat.ne_of_lt (Nat.lt_succ_of_lt (Heap.lt_size e))) (Heap.get?_push_of_some _ (hH2 ▸ Heap.get?_push_of_some _ e))
 have hacc:∃n,h₁.get? s.heap.objs.size=some { cls:=.type "list",data:=.seq #[] n } :=
  ⟨_,hsb₁.extBut _ _ (by rw [hC];exact Nat.ne_of_lt (Nat.lt_succ_self _)) (Heap.get?_push_of_some _ (hH2 ▸ Heap.get?_push_size _ rfl))⟩
 have hob:∀b∈fp,∃o,s.heap.get? b=some o:=λb hb=>let⟨o,e,_⟩:=T.obj _ _ st b hb;⟨o,e⟩
 have hltC:s.heap.objs.size<=H2.objs.size:=by rw [hC];exact Nat.le_succ _
 have I0:=I.comp0 (tn:=tn 0) (C:=H2.objs.size) (tk:=s.toks+([]:List (Str×Value)).length) ok hk hf hob hC ⟨_,hns₁⟩ keep hacc
 have st0:tn 0 h₁:=T.keep _ _ _ st λb hb o e=>keep b o e
 obtain⟨W,⟨m0,w0⟩,turn⟩:=h _ (I.hok.fresh (Nat.le_refl _))
 have fpfs:∀b∈fp,b∉frs X.stack:=I0.ok.exfs
 have stat:∀{H':Hp},(∀b∈fp,H' b=none)->∀b∈fp,Fr (B2 X N' scope H2.objs.size s H fp) [] H' b:=λhn b hb =>
  ⟨hn b hb,(I0.ok.exf b hb).1,fpfs b hb,.inl hb,(I0.ok.exf b hb).2,λq hq=>(nomatch hq)⟩
 have loop:∀s₃:Shared,s₃={ s with heap:=h₁,toks:=s.toks+([]:List (Str×Value)).length } ->
   codeAny (model X.prog X.w) X.A (.compLoop (.ListComp elt [⟨tg,iter,ifs,0⟩] scope pos) 0 (.ref it) (.ref s.heap.objs.size) (compEnvC scope (Ep X.env.cells scope.names []) H2.objs.size X.env)) (RR (.ref s.heap.objs.size) H2.objs.size) s₃:=by
  rintro s₃ rfl
  refine Mi (λn s'=>∃i acc σ' H',Inv (B2 X N' scope H2.objs.size s H fp) [] σ' H' s'/\tn i s'.heap/\(∀b∈fp,H' b=none)/\W i n acc σ' H') ?_ m0
   ⟨0,[],_,_,I0,st0,λb hb=>by rw [Bn (Nat.ne_of_lt (let⟨_,e⟩:=hob b hb;Heap.lt_size e))];exact(hf b hb).1,w0⟩
  rintro n s3 ⟨i,acc,σ3,H3,I3,st3,fr3,w3⟩
  rcases turn i n acc σ3 H3 w3 with⟨stop,qn⟩ | ⟨go,N,hN,step⟩
  ·refine thn (T.done (B2 X N' scope H2.objs.size s H fp) rfl rfl rfl hc i [] s3 σ3 H3 _ I3 (stat fr3) st3 stop) λr s4 ⟨hr,I4⟩=>?_
   subst hr
   refine hRR _ s4 H3 ?_ (let⟨m,hm,_⟩:=I4.loc;⟨m,hm⟩) I4.free (Nat.le_trans I.sz hltC) (Nat.ne_of_gt (Nat.lt_of_lt_of_le I.lt hltC)) (λx c e=>?_) (λq hq=>?_) qn
   ·exact I.call' I4.os I4.base I4.hok I4.bare λb hb=>let⟨_,f1,_,f3,f4,f5⟩:=hf b hb;⟨f3,f1,f4,f5⟩
   ·obtain⟨v,z⟩:=I.cell x c e
    exact Nat.ne_of_lt (Nat.lt_of_lt_of_le z.lt hltC)
   ·exact Nat.ne_of_lt (Nat.lt_of_lt_of_le (Heap.lt_size (I.pin q hq).1) hltC)
  ·refine thn (T.item (B2 X N' scope H2.objs.size s H fp) rfl rfl rfl hc i [] s3 σ3 H3 _ I3 (stat fr3) st3 go) λr s4 ⟨u,hr,h4⟩=>?_
   subst hr
   refine thn h4 λ_ s5 zz529=>?_
   obtain⟨x,H5,I5,r5,y5,st5,fr5⟩:=zz529
   have I5':=I5.pinned (stat fr5) (T.obj _ _ st5)
   refine thn (hg _ _ _ _ _ s5 σ3 H5 x u _ I5' r5 (step x H5 y5)) λ_ s6 zz530=>?_
   obtain⟨σ6,H6,I6,q6⟩:=zz530
   refine thn (ht _ _ _ _ _ s6 σ6 H6 _ I6 q6) λb s7 ⟨H7,I7,q7⟩=>?_
   have again:∀{σ8:St} {H8:Hp} {acc8:List V} {s8:Shared},Inv (B2 X N' scope H2.objs.size s H fp) ([]++Ii fp s5.heap) σ8 H8 s8->(∃m',m' < n/\W (i+1) m' acc8 σ8 H8) ->
     ∃m,m < n/\∃i acc σ' H',Inv (B2 X N' scope H2.objs.size s H fp) [] σ' H' s8/\tn i s8.heap/\(∀b∈fp,H' b=none)/\W i m acc σ' H':=λ{σ8 H8 acc8 s8} I8 hw=>by
    obtain⟨m',hm,w8⟩:=hw
    refine⟨m',hm,i+1,acc8,σ8,H8,I8.unpinned,T.keep _ _ _ st5 λb hb o e=>(I8.pin (b,o) (List.mem_append_right _ (List.mem_append_right _ (Ed hb e)))).1,λb hb=>?_,w8⟩
    obtain⟨o,e,d⟩:=T.obj _ _ st5 b hb
    exact(I8.pin (b,o) (List.mem_append_right _ (List.mem_append_right _ (Ed hb e)))).2.1
   cases b with
   | false =>
    rw [if_neg Bool.false_ne_true]
    rw [if_neg Bool.false_ne_true]at q7
    exact again I7 (hN _ _ _ q7)
   | true =>
    rw [if_pos rfl]
    rw [if_pos rfl]at q7
    refine thn (he _ _ _ _ _ s7 σ6 H7 _ I7 q7) λy s8 zz531=>?_
    obtain⟨v,H8,I8,r8,ac,e8,z8,w8⟩:=zz531
    refine thn (Kd (X:=B2 X N' scope H2.objs.size s H fp) _ s8 σ6 H8 (.ref s.heap.objs.size) [v] (.ref s.heap.objs.size) [y] (λ_ H9=>H9=upd H8 s.heap.objs.size (.lst (ac++[v]))) I8 rfl (.cons r8 .nil) ⟨_,ac,v,rfl,rfl,e8,z8,rfl⟩) λ_ s9 zz532=>?_
    obtain⟨_,H9,I9,_,e9⟩:=zz532
    subst e9
    exact again I9 (hN _ _ _ w8)
 exact codeAny_compStart_list (loop _ rfl) (T.self _ 0 _ _ _ st0 (loop _ rfl))
theorem Inv.letgo{pins:List (Addr×Obj)}{σ:St}{H:Hp}{s:Shared}{C:Addr}{h':Heap}(I:Inv X pins σ H s)(hn:H C=none)(h1:X.s₀.heap.objs.size<=C)(hL:C≠X.env.locals)(h2:∀x c,X.env.cells.lookup x=some c->c≠C)
  (h3:∀q∈X.pn++pins,q.1≠C) (hs:Heap.SameBut C s.heap h'):Inv X pins σ H { s with heap:=h' } :=
 I.turned (t':=s.toks) (λb o hb e=>(hs.2 b hb).trans e) hn hL (.inr h1) h2 h3
theorem Wr(hc:X.calm=true)(hi:PI X tg iter wi)(hg:∀C s H fp,PG (B2 X N' scope C s H fp) tg g)(ht:∀C s H fp,PIfs (B2 X N' scope C s H fp) ifs tst)(he:∀C s H fp,PE (B2 X N' scope C s H fp) elt te)
  (ok:CompOk X.N X.env.scope.names scope.names N' mp) (hk:scope.kind=.function:=by rfl) (hs:∀x,foldedSetIterable iter X.env x=pure x:=by intro _;rfl) :
  PE X (.ListComp elt [⟨tg,iter,ifs,0⟩] scope pos) (Tl mp wi g tst te):=by
 intro pins s σ H Q I h
 rw [eval_ListComp]
 refine wpAny_comprehension_free (use:=none) rfl hs (Fm λx hx e=>I.ok.has x.1 (ok.free x hx e)) hk ok.loc (thn (hi pins s σ H _ I h) λv s1 h1=>thn h1 λitv s2 h2=>?_)
 obtain⟨it,fp,tn,J,H2,e,I2,T,st2,f2,hw⟩:=h2
 subst e
 refine Ml (Q:=λp H'=>Q (.ref p) H') (RR:=λacc C=>compPost (model X.prog X.w) X.A X.xe none (EP X pins σ Q) acc C) ok hk hc I2 T st2 f2 hg ht he hw ?_
 intro C s' H' I' hns hn h1 hL hcl hpin q
 obtain⟨m,hm⟩:=hns
 exact⟨m,hm,λh' hs'=>⟨.ref s2.heap.objs.size,H',I'.letgo hn h1 hL hcl hpin hs',rfl,q⟩⟩
theorem Ws{i:Nat}{y:Str}{py spos:Pos}(hc:X.calm=true)(hN:X.N.Nodup)(hi':X.N[i]?=some y)(hy:X.env.scope.names.lookup y=some .local)
  (hi:PI X tg iter wi) (hg:∀C s H fp,PG (B2 X N' scope C s H fp) tg g) (ht:∀C s H fp,PIfs (B2 X N' scope C s H fp) ifs tst) (he:∀C s H fp,PE (B2 X N' scope C s H fp) elt te)
  (ok:CompOk X.N X.env.scope.names scope.names N' mp) (hsw:swapsWith (.ListComp elt [⟨tg,iter,ifs,0⟩] scope pos) (some (.Name y py)) spos.line X.env=pure true:=by rfl)
  (hk:scope.kind=.function:=by rfl) (hs:∀x,foldedSetIterable iter X.env x=pure x:=by intro _;rfl) :
  PS X (.Assign [.Name y py] (.ListComp elt [⟨tg,iter,ifs,0⟩] scope pos) spos) (We (Tl mp wi g tst te) (Sx i)):=by
 intro pins s σ H D I h
 rw [exec_Assign_Name_used _ _ _ _ hsw]
 refine wpAny_bind (wpAny_standAt (wpAny_bind ?_))
 show wpAny _ _ (do let _ <- comprehension (.ListComp elt [⟨tg,iter,ifs,0⟩] scope pos) scope X.env _ (newList []) false (eval iter X.env) (some (assign (.Name y py) X.env))) _ _ s
 refine wpAny_bind (wpAny_mono (wpAny_comprehension_free (use:=some (assign (.Name y py) X.env)) (Q:=λ_ s'=>SP X pins D .next s') rfl hs (Fm λx hx e=>I.ok.has x.1 (ok.free x hx e)) hk ok.loc
  (thn (hi pins s σ H _ I h) λv s1 h1=>thn h1 λitv s2 h2=>?_)) (λ_ s' hq=>wpAny_pure (wpAny_pure hq)) λ_ _ e=>e)
 obtain⟨it,fp,tn,J,H2,e,I2,T,st2,f2,hw⟩:=h2
 subst e
 refine Ml (Q:=λp H'=>D.nx (σ.set i (some (.ref p))) H') (RR:=λacc C=>compPost (model X.prog X.w) X.A X.xe (some (assign (.Name y py) X.env)) (λ_ s'=>SP X pins D .next s') acc C) ok hk hc I2 T st2 f2 hg ht he hw ?_
 intro C s' H' I' hns hn h1 hL hcl hpin q
 obtain⟨m,hm⟩:=hns
 show wpAny _ _ (assign (.Name y py) X.env (.ref s2.heap.objs.size)) _ _ s'
 refine wpAny_assign_Name (J6 I' hN hi' (.inl hy) (v:=.ref s2.heap.objs.size) rfl (λs'' I'' hch=>?_) (.inr hy))
 obtain⟨a,hsb,ha⟩:=hch
 have hCa:C≠a:=by
  rcases ha with rfl | ha
  ·exact hL
  ·exact(hcl _ _ ha).symm
 refine⟨m,hm.sameBut hsb hCa,λh' hs'=>?_⟩
 exact⟨_,H',I''.letgo hn h1 hL hcl hpin hs',q⟩
end
section
variable {K:PySem.W.Frag}{a p:Addr}{xs:List V}{g:TG}{tst:TT}{te:TE}{Q:Hp->Prop}{σ:St}{H:Hp}
theorem Wt{J:It}(n:Nat)(Pv:Nat->List V->St->Hp->Prop)(h0:Pv 0 [] σ H)
  (hgo:∀i acc σ H,i < n->Pv i acc σ H->J.go i H) (hstop:∀acc σ H,Pv n acc σ H->J.stop n H/\Q H)
  (hs:∀i x acc σ H H2,i < n->Pv i acc σ H->J.yld i H x H2->g x σ H2 fun σ3 H3=>tst σ3 H3 λb H4 =>
   if b=true then te σ3 H4 λv H5=>∃ac,H5 p=some (.lst ac)/\ac.length < sizeLine/\Pv (i+1) (ac++[v]) σ3 (upd H5 p (.lst (ac++[v]))) else Pv (i+1) acc σ3 H4) :
  Tk p J g tst te Q σ H:=by
 refine⟨λi m acc σ H=>m=n - i/\i<=n/\Pv i acc σ H,⟨n,by simp,Nat.zero_le _,h0⟩,?_⟩
 rintro i m acc σ H ⟨rfl,hi,pv⟩
 by_cases hlt:i < n
 ·exact .inr ⟨hgo i acc σ H hlt pv,Pv (i+1),λacc σ H q=>⟨n - (i+1),by omega,rfl,hlt,q⟩,λx H2 y=>hs i x acc σ H H2 hlt pv y⟩
 ·have e:i=n:=by omega
  subst e
  exact .inl (hstop acc σ H pv)
end
section
variable {X:Cx}
def Qhj:V->Option Int->Option Int->Hp->VK->Prop:=λx lo hi H Q=>∃z,x=.str z/\z.length<=sizeLine/\Q (.str (Txt.slice z lo hi)) H
theorem Qa0:SlR X Qhj:=by
 intro pins s σ H x v vl vu lo hi sl Q I rx hs pl pu h
 obtain⟨z,rfl,hz,q⟩:=h
 obtain⟨t,rfl⟩:=rx
 refine⟨"str",_,F.slot_str_getitem.lookup,typeIs_str _ _ _,?_⟩
 have fin:∀t' k,EP X pins σ Q (.str (Txt.slice z lo hi) t') { s with toks:=k }:=λt' k=>⟨.str _,H,I.tok _,⟨_,rfl⟩,q⟩
 cases pl with
 | none =>
  cases pu with
  | none=>exact wpAny_getItem_str_slice (l:=none) (u:=none) (st:=none) hs rfl (post_val_or_str ⟨Nat.le_trans (Txt.slice_le z _ _) hz,fin⟩)
  | int j tj=>exact wpAny_getItem_str_slice (l:=none) (u:=some (j,tj)) (st:=none) hs rfl (post_val_or_str ⟨Nat.le_trans (Txt.slice_le z _ _) hz,fin⟩)
 | int i ti =>
  cases pu with
  | none=>exact wpAny_getItem_str_slice (l:=some (i,ti)) (u:=none) (st:=none) hs rfl (post_val_or_str ⟨Nat.le_trans (Txt.slice_le z _ _) hz,fin⟩)
  | int j tj=>exact wpAny_getItem_str_slice (l:=some (i,ti)) (u:=some (j,tj)) (st:=none) hs rfl (post_val_or_str ⟨Nat.le_trans (Txt.slice_le z _ _) hz,fin⟩)
theorem Tm(hc:X.calm=true):Eo X (.builtin "all") (λxs H Q=>∃(p:Addr) (bs:List Bool),xs=[.ref p]/\Ec X.K H p (bs.map V.bl)/\Q (.bl (bs.all id)) H):=by
 intro pins s σ H xs us Q I r h
 obtain⟨p,bs,rfl,hq,q⟩:=h
 obtain⟨u,rfl,rx⟩:=Dx r
 cases rx
 obtain⟨its,r',pl,hz⟩:=I.list hq
 have hlen:=r'.length
 rw [List.length_map]at hlen
 refine call_all_walk (wpAny_pyIter_list pl.isList ?_)
 have hne:p≠s.heap.objs.size:=Nat.ne_of_lt (let⟨_,ho,_⟩:=pl.isList;Heap.lt_size ho)
 refine⟨s.heap.objs.size,_,_,_,_,_,λi=>bs.getD i true,rfl,Walks.list (show X.A.in1.handled=none from I.ok.hd hc) s.heap.objs.size p hne its.toArray,?_,?_,λh' tk k=>?_⟩
 ·exact⟨⟨_,Heap.get?_push_size _ rfl,rfl,rfl⟩,pl.isList.at λo e=>Heap.get?_push_of_some _ e⟩
 ·intro i v s' Q' E' hP hQ'
  have hv:its[i]?=some v:=by simpa using hP
  have hi:i < bs.length:=by rw [hlen];exact(List.getElem?_eq_some_iff.mp hv).1
  obtain⟨u,hu,ru⟩:=r'.get (i:=i) (x:=V.bl bs[i]) (by simp [hi])
  rw [hv]at hu
  cases hu
  cases (show v=Value.bool bs[i] from ru)
  refine wpAny_truthy_bool ?_
  have e:bs.getD i true=bs[i]:=by simp [hi]
  have hQ2:Q' (bs.getD i true) s':=hQ'
  rw [e]at hQ2
  exact hQ2
 ·have e:(List.range its.toArray.size).all (λi=>bs.getD i true)=bs.all id:=by
   rw [List.size_toArray,<- hlen]
   rw [Bool.eq_iff_iff,List.all_eq_true,List.all_eq_true]
   constructor
   ·intro a x hx
    obtain⟨i,hi,rfl⟩:=List.mem_iff_getElem.mp hx
    have:=a i (List.mem_range.mpr hi)
    simpa [hi] using this
   ·intro a i hi
    have hi:=List.mem_range.mp hi
    have:=a bs[i] (List.getElem_mem hi)
    simpa [hi] using this
  rw [e]
  exact⟨.bl _,H,I.kept λb o e=>k b o (by
   intro hb
   have:b=s.heap.objs.size:=by simpa using hb
   exact absurd (Heap.lt_size e) (by rw [this];exact Nat.lt_irrefl _)) (Heap.get?_push_of_some _ e),rfl,q⟩
theorem Oc{ys:List Str}{us:List Value}(h:Vals (ys.map V.str) us):StrsAre us ys:=by
 induction ys generalizing us with
 | nil=>cases h;exact .nil
 | cons y ys ih =>
  cases h with
  | cons r t =>
   obtain⟨tk,rfl⟩:=r
   exact .cons y tk (ih t)
theorem Wu:MtR X "str.join" (λx xs H Q=>∃z p ys,x=.str z/\xs=[.ref p]/\Ec X.K H p (ys.map V.str)/\(ys.map (·.length)).sum+ys.length * z.length<=16777216/\Q (.str (Txt.join z ys)) H):=by
 intro pins s σ H x xs v us Q I rx r h
 obtain⟨z,p,ys,rfl,rfl,hq,hz,q⟩:=h
 obtain⟨t,rfl⟩:=rx
 obtain⟨u,rfl,ru⟩:=Dx r
 cases ru
 obtain⟨its,r',pl,_⟩:=I.list hq
 exact join_list pl.isList (Oc (by simpa using r')) hz λt' k=>⟨.str _,H,I.tok _,⟨_,rfl⟩,q⟩
def Its(x:Str):It:=⟨λi _=>i < x.cps.size,λi H v H'=>H'=H/\∃c,x.cps[i]?=some c/\v=.str ⟨#[c]⟩,λi _=>i=x.cps.size⟩
theorem Tn{P:Program}{w:World}{K:PySem.W.Frag}{tg:Expr}(it:Addr)(x:Str)(t:Tok)(n:String)(hn:n = "str_ascii_iterator" \/ n = "str_iterator") :
  Turn P w K tg (Its x) [it] it (λi h=>h.IsStrIter it n x t i) where
 mem:=by simp
 obj:=λi h st b hb=>by
  have e:b=it:=by simpa using hb
  subst e
  obtain⟨o,e,c,d⟩:=st
  exact⟨o,e,λv z=>by rw [d]at z;cases z⟩
 keep:=λi h h' st k=>let⟨o,ho,r⟩:=st;⟨o,k it (by simp) o ho,r⟩
 item:=by
  intro X hP hw hK hc i pins s σ H E I hf st hg
  subst hP hw hK
  obtain⟨f0,f1,f2,f3,f4,f5⟩:=hf it (by simp)
  have hg:i < x.cps.size:=hg
  have W:Walks X.prog X.w X.A it [it] [it] x.cps.size (SignAt x) (λi h=>h.IsStrIter it n x t i):=by
   rcases hn with rfl | rfl
   ·exact Walks.strAscii (I.ok.hd hc) it x t
   ·exact Walks.strWide (I.ok.hd hc) it x t
  refine W.item i s _ _ hg st λv h' tk hv st' kk=>?_
  obtain⟨c,u,hcx,rfl⟩:=hv
  have I1:Inv X pins σ H { s with heap:=h',toks:=tk }:=I.turned (λb o hb e=>kk b o (by simpa using hb) e) f0 f1 f3 f4 f5
  obtain⟨o,e,oc,od⟩:=id st'
  refine⟨_,rfl,Pi (s:={ s with heap:=h',toks:=tk }) (n:=n) e oc od (by rcases hn with rfl | rfl <;> decide) ⟨.str ⟨#[c]⟩,H,I1,⟨u,rfl⟩,⟨rfl,c,hcx,rfl⟩,st',λb hb=>(hf b hb).1⟩⟩
 done:=by
  intro X hP hw hK hc i pins s σ H E I hf st hg
  subst hP hw hK
  obtain⟨f0,f1,f2,f3,f4,f5⟩:=hf it (by simp)
  have hg:i=x.cps.size:=hg
  subst hg
  have W:Walks X.prog X.w X.A it [it] [it] x.cps.size (SignAt x) (λi h=>h.IsStrIter it n x t i):=by
   rcases hn with rfl | rfl
   ·exact Walks.strAscii (I.ok.hd hc) it x t
   ·exact Walks.strWide (I.ok.hd hc) it x t
  exact W.done s _ _ st λh' tk kk=>⟨rfl,I.turned (t':=tk) (λb o hb e=>kk b o (by simpa using hb) e) f0 f1 f3 f4 f5⟩
 self:=λA i s Q E st h=>by
  rcases hn with rfl | rfl
  ·exact wpAny_pyIter_striter_ascii st h
  ·exact wpAny_pyIter_striter_wide st h
def Qhk(tl:TE):TI:=fun σ H R=>tl σ H λx H1=>∃z,x=.str z/\R (Its z) H1
theorem Qa1{tg l:Expr}{tl:TE}(hl:PE X l tl):PI X tg l (Qhk tl):=by
 intro pins s σ H R I h
 refine thn (hl pins s σ H _ I h) λv s1 zz533=>?_
 obtain⟨x,H1,I1,r1,q1⟩:=zz533
 obtain⟨z,e,q⟩:=q1
 subst e
 obtain⟨t,rfl⟩:=r1
 refine wpAny_pyIter_strU ?_
 refine⟨s1.heap.objs.size,[s1.heap.objs.size],_,_,H1,rfl,I1.kept (t':=s1.toks) λb o e=>Heap.get?_push_of_some _ e,Tn _ z t (strIterType z) (by unfold strIterType;split <;> simp),⟨_,Heap.get?_push_size _ rfl,rfl,rfl⟩,λb hb=>?_,q⟩
 have e:b=s1.heap.objs.size:=by simpa using hb
 subst e
 exact I1.fpOk (Nat.le_refl _) (I1.hok.fresh (Nat.le_refl _))
end
section
variable {H H':Hp}{d l p:Addr}{s n:Int}{ns:List Int}{o:HO}
end
theorem seven{n:Nat}(h:n<=1000):n<=sizeLine:=Nat.le_of_lt (Bg h)
end L2
namespace PySem
open Sem (wp)
open AutoSeq1 (wpAny_loadPart')
set_option maxRecDepth 100000
section
variable {prog:Program}{w:World}{A:Around}{E:Value->Shared->Prop}{s:Shared}
theorem Er{it t:Addr}{i:Nat}{items}{x:Value}{Q:Value->Shared->Prop}(hit:s.heap.IsTupleIter it t i)
  (ht:s.heap.IsTuple t items) (hx:items[i]?=some x)
  (hQ:∀h',h'.IsTupleIter it t (i+1)->Heap.SameBut it s.heap h'->Q x { s with heap:=h' }) :
  wpAny (model prog w) A (Builtin.SmallTypes.nextOf (.ref it)) Q E s:=by
 obtain⟨o,ho,hc,hd⟩:=id hit
 obtain⟨ol,hol,_,nl,hdl⟩:=ht
 unfold Builtin.SmallTypes.nextOf
 refine wpAny_bind (wpAny_callSpecial?_slot (name:=Str.ofString "__next__") hit.typeIs F.slot_tuple_iterator_next
  (wpAny_call_entry F.slot_tuple_iterator_next hit.typeIs F.entry_tuple_iterator_next ?_ (F.args_tuple_iterator_next_1 _)))
 show wpAny _ _ (field (.ref it) 0 >>= _) _ _ s
 refine wpAny_bind (wpAny_field ho hd (x:=.ref t) rfl ?_)
 show wpAny _ _ (if(Value.ref t==Value.none)=true then _ else _) _ _ s
 rw [if_neg (show ¬((Value.ref t==Value.none)=true) from Bool.false_ne_true)]
 show wpAny _ _ (field (.ref it) 1 >>= _) _ _ s
 refine wpAny_bind (wpAny_field ho hd (x:=.int i 0) rfl ?_)
 show wpAny _ _ (seqItems? (.ref t) >>= _) _ _ s
 refine wpAny_bind (wpAny_seqItems hol hdl ?_)
 simp only [Int.toNat_natCast,hx]
 refine wpAny_bind (wpAny_setField ho hd (by simp) (wpAny_pure ⟨x,rfl,wpAny_pure (hQ _ ?_ (Heap.SameBut.update ..))⟩))
 exact⟨_,Heap.get?_update_self _ ho (Obj.isFreed_of_fields (Obj.data_mapFields hd _)),(Obj.cls_mapFields ..).trans hc,by
  rw [Obj.data_mapFields hd];simp [rawInt]⟩
theorem Fj{it t:Addr}{i:Nat}{items}{Q:Value->Shared->Prop}(hh:A.handled=none)
  (hit:s.heap.IsTupleIter it t i) (ht:s.heap.IsTuple t items) (hx:items[i]?=none)
  (hE:∀h' e,Heap.ExtBut it s.heap h'->(∃o,h'.get? e=some o/\o.cls=.type "StopIteration")->E (.ref e) { s with heap:=h' }) :
  wpAny (model prog w) A (Builtin.SmallTypes.nextOf (.ref it)) Q E s:=by
 obtain⟨o,ho,hc,hd⟩:=id hit
 obtain⟨ol,hol,_,nl,hdl⟩:=ht
 unfold Builtin.SmallTypes.nextOf
 refine wpAny_bind (wpAny_callSpecial?_slot (name:=Str.ofString "__next__") hit.typeIs F.slot_tuple_iterator_next
  (wpAny_call_entry F.slot_tuple_iterator_next hit.typeIs F.entry_tuple_iterator_next ?_ (F.args_tuple_iterator_next_1 _)))
 show wpAny _ _ (field (.ref it) 0 >>= _) _ _ s
 refine wpAny_bind (wpAny_field ho hd (x:=.ref t) rfl ?_)
 show wpAny _ _ (if(Value.ref t==Value.none)=true then _ else _) _ _ s
 rw [if_neg (show ¬((Value.ref t==Value.none)=true) from Bool.false_ne_true)]
 show wpAny _ _ (field (.ref it) 1 >>= _) _ _ s
 refine wpAny_bind (wpAny_field ho hd (x:=.int i 0) rfl ?_)
 show wpAny _ _ (seqItems? (.ref t) >>= _) _ _ s
 refine wpAny_bind (wpAny_seqItems hol hdl ?_)
 simp only [Int.toNat_natCast,hx]
 refine wpAny_bind (wpAny_rule (wpAny_bind (wpAny_setField ho hd (by simp) ?_)))
 show wpAny _ _ (newExc (.type "StopIteration") [] >>= _) _ _ _
 refine wpAny_bind ?_
 simp only [newExc,newTuple]
 refine wpAny_bind (wpAny_newObj_type ?_ (by size_fits))
 refine wpAny_bind (m:=firstArgMember _ _) (wpAny_of_eq (a:=Value.none) (by first | rfl | (simp only [firstArgMember];rfl)) ?_)
 refine wpAny_newObj_type ?_ (by size_fits)
 simp only [raiseNew]
 refine wpAny_bind (wpAny_handled ?_)
 first | rw [show A.in1.handled=none from hh] | rw [hh]
 refine wpAny_bind (wpAny_pure (wpAny_throw ?_))
 exact hE _ _ (((Heap.SameBut.update ..).extBut.push _).push _) ⟨_,Heap.get?_push_size _ rfl,rfl⟩
end
theorem Im{prog:Program}{w:World}{A:Around}(hh:A.handled=none)(it l:Addr)(hne:l≠it)(items:Array Value) :
  Draws prog w A it [it,l] items.size (λi v=>items[i]?=some v) (λi h=>h.IsTupleIter it l i/\h.IsTuple l items) where
 live:=λ_ _ st=>let⟨o,ho,_⟩:=st.1;⟨o,ho⟩
 frame:=λ_ _ _ st hk=>⟨st.1.at λo e=>hk it (by simp) o e,st.2.at λo e=>hk l (by simp) o e⟩
 item:=λi s Q E hi st hQ=>by
  refine Er st.1 st.2 (x:=items[i]) (by simp [hi]) λh' hit' hs'=>?_
  exact hQ _ h' s.toks (by simp [hi]) ⟨hit',st.2.extBut hs'.extBut hne⟩ hs'
 done:=λs Q E st hE=>Fj hh st.1 st.2 (by simp) hE
section
variable {prog:Program}{w:World}{A:Around}{E:Value->Shared->Prop}{s:Shared}
end
end PySem
namespace L2
open PySem PySem.Spec PyProof.Rows
def To(ds:List PyData)(lo hi:Option Int):List PyData:=(ds.drop (HT.sIx ds.length 0 lo)).take (HT.sIx ds.length ds.length hi - HT.sIx ds.length 0 lo)
structure OkB(dep wt:Nat)(d:PyData):Prop where
 lay:d.canLay0=true
 dp:d.depth<=dep
 wt:d.weight<=wt
 sh:d.intsShort 13=true
 sw:d.showable=true
structure OkBs(dep wt:Nat)(ds:List PyData):Prop where
 lay:PyData.canLayAll0 ds=true
 dp:PyData.depthAll ds<=dep
 wt:PyData.weightAll ds<=wt
 sh:PyData.intsShortAll 13 ds=true
 sw:PyData.showableAll ds=true
theorem OkBs.nil{dep wt:Nat}:OkBs dep wt []:=⟨rfl,by simp [PyData.depthAll],by simp [PyData.weightAll],rfl,rfl⟩
theorem OkBs.cons{dep w1 w2:Nat}{d:PyData}{ds:List PyData}(h:OkB dep w1 d)(r:OkBs dep w2 ds):OkBs dep (w1+1+w2) (d :: ds):=by
 refine⟨?_,?_,?_,?_,?_⟩
 ·simp only [PyData.canLayAll0,h.lay,r.lay,Bool.and_self]
 ·simp only [PyData.depthAll];exact Nat.max_le.mpr ⟨h.dp,r.dp⟩
 ·simp only [PyData.weightAll];have:=h.wt;have:=r.wt;omega
 ·simp only [PyData.intsShortAll,h.sh,r.sh,Bool.and_self]
 ·simp only [PyData.showableAll,h.sw,r.sw,Bool.and_self]
theorem OkBs.mono{dep wt d' w':Nat}{ds:List PyData}(h:OkBs dep wt ds)(h1:dep<=d')(h2:wt<=w'):OkBs d' w' ds:=⟨h.lay,Nat.le_trans h.dp h1,Nat.le_trans h.wt h2,h.sh,h.sw⟩
theorem OkB.mono{dep wt d' w':Nat}{d:PyData}(h:OkB dep wt d)(h1:dep<=d')(h2:wt<=w'):OkB d' w' d:=⟨h.lay,Nat.le_trans h.dp h1,Nat.le_trans h.wt h2,h.sh,h.sw⟩
theorem OkBs.cons'{dep w1 w2 w3:Nat}{d:PyData}{ds:List PyData}(h:OkB dep w1 d)(r:OkBs dep w2 ds)(e:w1+1+w2<=w3):OkBs dep w3 (d :: ds):=(OkBs.cons h r).mono (Nat.le_refl _) e
theorem OkBs.all{dep w n:Nat}{ds:List PyData}(h:∀d∈ds,OkB dep w d)(hn:ds.length<=n):OkBs dep (n * (w+1)) ds:=by
 induction ds generalizing n with
 | nil=>exact OkBs.nil
 | cons d ds ih =>
  cases n with
  | zero=>simp at hn
  | succ m =>
   refine OkBs.cons' (h d List.mem_cons_self) (ih (n:=m) (λe he=>h e (List.mem_cons_of_mem _ he)) (by simp at hn;omega)) ?_
   rw [Nat.succ_mul];omega
theorem OkBs.tup{dep w:Nat}{ds:List PyData}(h:OkBs dep w ds):OkB (dep+1) w (.tuple ds) :=
 ⟨by simp only [PyData.canLay0,h.lay],by simp only [PyData.depth];exact Nat.succ_le_succ h.dp,by simp only [PyData.weight];exact h.wt,by simp only [PyData.intsShort,h.sh],by simp only [PyData.showable,h.sw]⟩
theorem Wv{i:Int}(h0:-1000000000<=i)(h1:i<=1000000000):OkB 0 40 (.int i):=by
 have hn:i.natAbs<=1000000000:=by omega
 have hl:i.natAbs.log2<=30:=by
  rcases Nat.eq_zero_or_pos i.natAbs with z | z
  ·rw [z];decide
  ·exact Nat.le_of_lt ((Nat.log2_lt (by omega)).mpr (Nat.lt_of_le_of_lt hn (by decide)))
 refine⟨rfl,Nat.le_refl _,?_,?_,?_⟩
 ·simp only [PyData.weight];split <;> omega
 ·have:=int_text_length_le10 (a:=i) (k:=10) (by decide) (Nat.lt_of_le_of_lt hn (by decide))
  simp only [PyData.intsShort,PyData.shown]
  refine decide_eq_true ?_
  show(Str.ofString (toString i)).length<=13
  rw [PySem.ofString_length];omega
 ·simp only [PyData.showable];exact decide_eq_true (by omega)
structure OkD(d:PyData):Prop where
 lay:d.layable0=true
 sh:d.intsShort 13=true
 sw:d.showable=true
theorem OkB.ok{dep w:Nat}{d:PyData}(h:OkB dep w d)(h1:dep<=64)(h2:w<=1048576):OkD d:=by
 refine⟨?_,h.sh,h.sw⟩
 show(d.canLay0 && decide (d.depth<=64) && decide (d.weight<=2 ^ 20))=true
 rw [h.lay,decide_eq_true (Nat.le_trans h.dp h1),decide_eq_true (Nat.le_trans h.wt (show w<=2 ^ 20 by simpa using h2))]
 rfl
theorem OkD.depth{d:PyData}(h:OkD d):d.depth<=64:=SeqAt.depth_of_layable h.lay
section
variable {X:Cx}{k:Nat}
noncomputable def N3(h:Heap)(e:PyData)(u:Value):Bool:=@decide (∃d as,Reads h u d as/\d.canLay0=true/\PyData.eqv d e=true) (Classical.propDecidable _)
theorem Qa2{h:Heap}{e d:PyData}{u:Value}{as:List Addr}(r:Reads h u d as)(c:d.canLay0=true):N3 h e u=PyData.eqv d e:=by
 unfold N3
 cases q:PyData.eqv d e with
 | true=>exact @decide_eq_true _ (Classical.propDecidable _) ⟨d,as,r,c,q⟩
 | false =>
  refine @decide_eq_false _ (Classical.propDecidable _) λzz536=>?_
  obtain⟨d',as',r',_,q'⟩:=zz536
  rw [SeqAt.Reads.unique d d' u as as' c r r',q']at q
  cases q
theorem Dz{A:Around}{s:Shared}{e:PyData}{v:Value}{bs:List Addr}(rv:Reads s.heap v e bs)(ce:e.canLay0=true)(hu:A.units+64 < cLine):∀{ds:List PyData} {us:List Value} {as:List Addr},ReadsAll s.heap us ds as ->
  PyData.canLayAll0 ds=true->PyData.depthAll ds<=64->(∀u∈us,SeqAt.EqAt A s u v (N3 s.heap e u))/\us.any (N3 s.heap e)=ds.any λd=>PyData.eqv d e
 | [],_,_,r,_,_=>by
  cases r
  exact⟨(λ_ z=>nomatch z),rfl⟩
 | d :: ds,_,_,r,c,dp=>by
  cases r with
  | cons r1 r2 =>
   simp only [PyData.canLayAll0,Bool.and_eq_true]at c
   simp only [PyData.depthAll]at dp
   obtain⟨i1,i2⟩:=Dz rv ce hu r2 c.2 (by omega)
   have e1:=Qa2 (e:=e) r1 c.1
   refine⟨λu hu'=>?_,?_⟩
   ·rcases List.mem_cons.mp hu' with rfl | z
    ·rw [e1]
     exact SeqAt.eqAt_reads d e A s _ v _ _ r1 rv c.1 ce (by omega)
    ·exact i1 u z
   ·rw [List.any_cons,List.any_cons,e1,i2]
end
section
variable {X:Cx}{pins:List (Addr×Obj)}{σ:St}{H:Hp}{s:Shared}{h':Heap}
theorem Inv.turnedL{t':Nat}{fp:List Addr}(I:Inv X pins σ H s)(k:∀b o,b∉fp->s.heap.get? b=some o->h'.get? b=some o)(hf:∀b∈fp,Fr X pins H b):Inv X pins σ H { s with heap:=h',toks:=t' }:=by
 have nit:∀b u,H b=some u->b∉fp:=λb u e z=>by rw [(hf b z).1]at e;cases e
 have nL:X.env.locals∉fp:=λz=>(hf _ z).2.1 rfl
 refine I.step (g':=s.gens) (d':=s.drawn) (ch:=fp) (λb hb=>?_) (λb o _ _ hc e _=>k b o hc e) (λb o _ _ hc e _=>⟨o.slots,k b o hc e⟩) (λ_ _ _ _ n=>n)
  (λb o hc e=>⟨o,k b o hc e⟩) (λ_ _ e=>e) (λ_ _ _ e=>e) (λb ps e=>⟨#[],by rw [e];simp⟩) (λm hm=>?_) (λb u e=>?_) I.bare
 ·obtain⟨_,f1,_,f3,f4,f5⟩:=hf b hb
  exact⟨f3,f1,f4,f5⟩
 ·obtain⟨o,es,ep,ho,r⟩:=hm
  exact⟨o,es,ep,k _ o nL ho,r⟩
 ·refine(I.hok b u e).stay (λc v hc q=>k c v ?_ q) (λ_ q=>q) λ_ _ q=>q
  rcases hc with z | z
  ·rw [z];exact nit b u e
  ·exact nit c _ z
theorem Inv.track{T:Addr}{o:HO}(I:Inv X pins σ H s)(hT:Fr X pins H T)(new:Ch X.prog X.w (upd H T o) s.heap T o):Inv X pins σ (upd H T o) s:=by
 obtain⟨f0,f1,_,f3,f4,f5⟩:=hT
 have nT:∀b u,H b=some u->b≠T:=λb u e z=>by rw [z,f0]at e;cases e
 refine I.step (H':=upd H T o) (h':=s.heap) (g':=s.gens) (d':=s.drawn) (t':=s.toks) (ch:=[T]) (λb hb=>?_) (λb o _ _ _ e _=>e) (λb o _ _ _ e _=>⟨o.slots,e⟩)
  (λb u hc _ n=>by rw [Bn (λz=>hc (by simp [z]))];exact n) (λb o _ e=>⟨o,e⟩) (λb xs e=>by rw [Bn (nT b _ e)];exact e) (λb u v e=>by rw [Bn (nT b _ e)];exact e)
  (λb ps e=>⟨#[],by rw [Bn (nT b _ e),e];simp⟩) (λm hm=>hm) (λb u e=>?_) I.bare
 ·have e:b=T:=by simpa using hb
  subst e
  exact⟨f3,f1,f4,f5⟩
 ·by_cases hb:b=T
  ·subst hb
   rw [Cq]at e
   cases e
   exact new
  ·rw [Bn hb]at e
   exact(I.hok b u e).stay (λ_ _ _ q=>q) (λc q=>by rw [Bn (nT c _ q)];exact q) λc xs q=>by rw [Bn (nT c _ q)];exact q
end
section
variable {X:Cx}
theorem Qa3{J:It}{g:TG}{tb:TS}{D:Ends}{σ:St}{H:Hp}(n:Nat)(Pv:Nat->St->Hp->Prop)(h0:Pv 0 σ H)(hgo:∀i σ H,i < n->Pv i σ H->J.go i H)(hstop:∀ σ H,Pv n σ H->J.stop n H/\D.nx σ H)
  (hs:∀i x σ H H2,i < n->Pv i σ H->J.yld i H x H2->g x σ H2 fun σ2 H3=>tb { D with nx:=Pv (i+1),ct:=Pv (i+1),bk:=D.nx } σ2 H3) :
  ∃W:Nat->Nat->St->Hp->Prop,(∃m,W 0 m σ H)/\∀i m σ H,W i m σ H ->
   (J.stop i H/\D.nx σ H)\/(J.go i H/\∃N:St->Hp->Prop,(∀ σ' H',N σ' H'->∃m',m' < m/\W (i+1) m' σ' H')/\∀x H',J.yld i H x H'->g x σ H' fun σ2 H2=>tb { D with nx:=N,ct:=N,bk:=D.nx } σ2 H2):=by
 refine⟨λi m σ H=>m=n - i/\i<=n/\Pv i σ H,⟨n,by simp,Nat.zero_le _,h0⟩,?_⟩
 rintro i m σ H ⟨rfl,hi,p⟩
 by_cases hlt:i < n
 ·exact .inr ⟨hgo i σ H hlt p,Pv (i+1),fun σ' H' p'=>⟨n - (i+1),by omega,rfl,hlt,p'⟩,λx H' y=>hs i x σ H H' hlt p y⟩
 ·have e:i=n:=by omega
  subst e
  exact .inl (hstop σ H p)
theorem Li:Ij X (binaryOp .Mult) (λx y H Q=>∃z n,x=.str z/\y=.int n/\(n=0\/n=1)/\Q (.str (if n=0 then Str.empty else z)) H):=by
 intro pins s σ H x y v u Q I rx ry h
 obtain⟨z,n,rfl,rfl,hn,q⟩:=h
 obtain⟨t,rfl⟩:=rx
 obtain⟨t',rfl⟩:=ry
 rcases hn with rfl | rfl
 ·exact P.mul_str_none (by decide) (by decide) ⟨.str Str.empty,H,I.tok _,⟨_,rfl⟩,by simpa using q⟩
 ·refine P.mul_str (by decide) (λ_ z=>by simp at z) (λ_ z=>by simp at z) ?_
  rw [if_neg (by decide),if_pos (by simp)]
  exact⟨.str z,H,I,⟨_,rfl⟩,by simpa using q⟩
end
section
variable {X:Cx}
end
end L2
namespace HT
open PySem PySem.Spec PyProof.Rows
section
variable {prog:Program}{w:World}{A:Around}{E:Value->Shared->Prop}{s:Shared}
theorem getItem_tuple_all{t sl:Addr}{items:Array Value}{vl vu:Value}{lo hi:Option Int}{Q:Value->Shared->Prop}(ht:IsTup s.heap t items)(hs:s.heap.IsSliceOf sl vl vu .none)(pl:IsPart vl lo)(pu:IsPart vu hi)
  (hw:sIx items.size 0 lo=0/\sIx items.size items.size hi=items.size)
  (h:Q (.ref t) s):wpAny (model prog w) A (getItem (.ref t) (.ref sl)) Q E s:=by
 obtain⟨os,hos,hcs,hds⟩:=id hs
 have hTs:s.TypeIs (.ref sl) "slice" := ⟨os,hos,hcs⟩
 unfold getItem
 try with_reducible refine wpAny_holding ?_
 first | refine wpAny_bind (wpAny_pure ?_) | skip
 refine wpAny_bind (wpAny_sequenceKey ht.typeIs (by decide) ?_)
 refine wpAny_bind (wpAny_callSpecial?_slot (name:=Str.ofString "__getitem__") ht.typeIs PyProof.Rows.slot_tuple_getitem
  (wpAny_call_entry PyProof.Rows.slot_tuple_getitem ht.typeIs entry_tuple_getitem ?_ (args_tuple_getitem _ _)))
 show wpAny _ _ (Builtin.Tuple.tupleItemsOf (.ref t) >>= _) _ _ s
 refine wpAny_bind (tupleItemsOf_ ht ?_)
 refine wpAny_bind (wpAny_typeOf hTs ?_)
 rw [if_pos (by decide)]
 refine wpAny_bind (Dy hs pl pu ?_)
 have hyes:(((sIx items.size 0 lo:Nat):Int)==0 && (1:Int)==1 && (sIx items.size items.size hi - sIx items.size 0 lo)==items.size)=true:=by
  rw [hw.1,hw.2];simp
 show wpAny _ _ (if(((sIx items.size 0 lo:Nat):Int)==0 && (1:Int)==1 && (sIx items.size items.size hi - sIx items.size 0 lo)==items.size)=true then _ else _) _ _ s
 rw [if_pos hyes]
 unfold Builtin.Tuple.tupleIsExact
 refine wpAny_bind (wpAny_bind (wpAny_typeOf ht.typeIs (wpAny_pure ?_)))
 rw [if_pos (by decide)]
 refine wpAny_bind (wpAny_rule ?_)
 first
  | exact wpAny_pure ⟨_,rfl,wpAny_pure h⟩
  | exact wpAny_bind (wpAny_pure (wpAny_pure ⟨_,rfl,wpAny_pure h⟩))
  | exact wpAny_bind (wpAny_pure ⟨_,rfl,wpAny_pure h⟩)
end
end HT
namespace L2
open PySem PySem.Spec PyProof.Rows
section
variable {X:Cx}
theorem Tp{ds:List PyData}{lo hi:Option Int}(h:HT.sIx ds.length 0 lo=0/\HT.sIx ds.length ds.length hi=ds.length):To ds lo hi=ds:=by
 unfold To
 rw [h.1,h.2,List.drop_zero,Nat.sub_zero,List.take_of_length_le (Nat.le_refl _)]
end
section
variable {X:Cx}
end
end L2
namespace PySem
open Sem (wp)
open AutoSeq1 (wpAny_loadPart')
set_option maxRecDepth 100000
section
variable {prog:Program}{w:World}{K:Type} [DecidableEq K]
end
end PySem
namespace L2
open PySem PySem.Spec PyProof.Rows
section
variable {X:Cx}
end
section
variable {X:Cx}{K:PySem.W.Frag}
variable {o e:Expr}{es:List Expr}{to:TE}{t:TA}{name:Str}{apos cpos:Pos}{T id:String}{r:V->List V->Hp->VK->Prop}
theorem Rh:MtR X "str.join" (λx xs H Q=>∃z p ys,x=.str z/\xs=[.ref p]/\H p=some (.lst (ys.map V.str))/\(ys.map (·.length)).sum+ys.length * z.length<=16777216/\Q (.str (Txt.join z ys)) H):=by
 intro pins s σ H x xs v us Q I rx r h
 obtain⟨z,p,ys,e1,e2,hp,hz,q⟩:=h
 exact Wu pins s σ H x xs v us Q I rx r ⟨z,p,ys,e1,e2,Ec.of hp,hz,q⟩
end
def Cal(P:Program)(w:World)(K:PySem.W.Frag)(mg:Str->Option Value)(base:Heap)(n:Nat)(x:Str)(ps:List Str)(sp:Sp):Prop :=
 ∃g gd,FnOk P w K mg base Fl n g gd ps sp/\Binds K gd ps []/\PySem.W.keepIn K (.ref g)=true/\mg x=some (.ref g)
theorem Cal.mono{P:Program}{w:World}{K:PySem.W.Frag}{mg:Str->Option Value}{base:Heap}{n m:Nat}{x:Str}{ps:List Str}{sp:Sp}(c:Cal P w K mg base n x ps sp)(h:n<=m):Cal P w K mg base m x ps sp :=
 let⟨g,gd,G,r⟩:=c;⟨g,gd,G.mono h,r⟩
end L2
namespace L2
open PySem PySem.Spec PySem.Calls PyProof.Rows
section
variable {prog:Program}{w:World}{A:Around}{E:Value->Shared->Prop}{s:Shared}{K:PySem.W.Frag}{x C:Addr}{ox:Obj}{od:Option Obj}{name:Str}
end
abbrev bmV:List Value:=[.type "ValueError",.type "Exception",.type "BaseException",.type "object"]
def Qjp(K:PySem.W.Frag)(C:Addr)(cd:ClassData)(sl:Array (Option Value)):Bool:=cd.mro.head?==some (.ref C) && !cd.hasDel && PySem.W.tailIn K bmV cd.mro.tail && sl.size==6 && sl[4]?==some (some (.builtin "ValueError.__new__"))
theorem Qhl{sl:Array (Option Value)}{v:Option Value}(h:sl.size=6)(e:sl[4]?=some v):∃k0 k1 k2 k3 k5,sl=#[k0,k1,k2,k3,v,k5]:=by
 obtain⟨l⟩:=sl
 match l,h with
 | [k0,k1,k2,k3,k4,k5],_ =>
  have:k4=v:=by simpa using e
  subst this
  exact⟨k0,k1,k2,k3,k5,rfl⟩
section
variable {prog:Program}{w:World}{A:Around}{E:Value->Shared->Prop}{h:Heap}{g:Array GenState}{d:Drawn}{t:Nat}{os:OsState}{K:PySem.W.Frag}{C:Addr}
end
section
open Builtin Builtin.ObjectAttr
variable {prog:Program}{w:World}{A:Around}{E:Value->Shared->Prop}{s:Shared}{K:PySem.W.Frag}{x C:Addr}{ox:Obj}{od:Option Obj}{name:Str}{v:Value}{R:Result->Shared->Prop}
end
end L2
namespace L2
open PySem PySem.Spec PySem.Calls PyProof.Rows
def XD(dx:Addr)(fs:List (Str×V)):HO:=.ext λh=>∃mA,h.Ns1 dx mA/\(∀f,Zx (fs.lookup f) (mA f))/\PySem.Within mA (fs.map (·.1))
section
variable {P:Program}{w:World}{H:Hp}{h:Heap}{e C t dx:Addr}{d:Option Addr}{fs:List (Str×V)}
end
section
variable {X:Cx}{pins:List (Addr×Obj)}{σ:St}{H:Hp}{s:Shared}{e C t dx:Addr}{fs:List (Str×V)}{f:Str}{v:V}{A:Around}{E:Value->Shared->Prop}
end
section
variable {X:Cx}{CX:CXT}{k:Nat}{f C:Addr}{fd:FuncData}{ps:List Str}{sp:Sp}{E:XK}{x:Str}{p pos pos' apos:Pos}{e o value:Expr}{es:List Expr}{t:TA}{ta tv:TE}{fl:Str}
end
section
variable {X:Cx}
end
section
variable {M:Model}{A:Around}{E:Value->Shared->Prop}{s:Shared}{base:Heap}{env:Env}{outer:List Env}{L e:Addr}{cls:Value}{d:Option Addr}{vs:Array Value}
end
section
variable {prog:Program}{w:World}{A:Around}{E:Value->Shared->Prop}{s:Shared}{K:PySem.W.Frag}{env:Env}{e C:Addr}{d:Option Addr}{vs:Array Value}
end
def XR(e C:Addr)(d:Option Addr):HO:=.ext λh=>∃vs:Array Value,h.get? e=some ⟨.ref C,d,.fields vs,#[]⟩/\vs.size=6
section
variable {X:Cx}{pins:List (Addr×Obj)}{σ:St}{H:Hp}{s:Shared}{a C:Addr}{d:Option Addr}{h':Heap}
end
section
variable {M:Model}{A:Around}{E:Value->Shared->Prop}{s:Shared}{base:Heap}{env:Env}{outer:List Env}{L e:Addr}{cls:Value}{d:Option Addr}{vs:Array Value}
end
section
variable {prog:Program}{w:World}{A:Around}{E:Value->Shared->Prop}{s:Shared}{K:PySem.W.Frag}{e C D:Addr}{d:Option Addr}{vs:Array Value}
end
section
variable {X:Cx}{pins:List (Addr×Obj)}{σ:St}{H:Hp}{s:Shared}
end
end L2
namespace L2
open PySem PySem.Spec PyProof.Rows
inductive AV where
 | D (d:PyData) | R (a:Addr) | C (ds:List PyData) | X (C:Addr) (fs:List (Str×PyData))
 deriving Inhabited
mutual
def Cano:PyData->Bool
 | .int _=>true
 | .str _=>true
 | .tuple xs=>Aq xs
 | _=>false
def Aq:List PyData->Bool
 | []=>true
 | x :: xs=>Cano x && Aq xs
end
structure KeyTree(d:PyData):Prop where
 can:Cano d=true
 lay:d.canLay0=true
 dep:d.depth<=6
def Ww(K:PySem.W.Frag)(H:Hp)(a:Addr)(xs:List V):Prop :=
 (∃o,H a=some (.frz o (.lst xs))) \/
  ∃(o:Obj) (its:Array Value) (n:Nat),K.lookup a=some o/\o.cls=.type "list" /\ o.dict=none/\o.data=.seq its n/\its.size<=sizeLine/\Vals xs its.toList
theorem Ww.sq{K:PySem.W.Frag}{H:Hp}{a:Addr}{xs:List V}(h:Ww K H a xs):Ec K H a xs:=by
 rcases h with⟨o,h⟩ | h
 ·exact .inl (.inr ⟨o,h⟩)
 ·exact .inr h
def Lit:List PyData->Bool
 | .str _ :: _=>true
 | .tuple _ :: _=>true
 | _=>false
def Yp(K:PySem.W.Frag)(H:Hp)(a:Addr)(ds:List PyData)(xs:List V):Prop :=
 H a=some (.tup xs)\/(Lit ds=true/\∃(o:Obj) (its:Array Value) (n:Nat),K.lookup a=some o/\o.cls=.type "tuple" /\ o.data=.seq its n/\its.size<=sizeLine/\Vals xs its.toList)
theorem Yp.sq{K:PySem.W.Frag}{H:Hp}{a:Addr}{ds:List PyData}{xs:List V}(h:Yp K H a ds xs):Jv K H a xs:=by
 rcases h with h | h
 ·exact Jv.of h
 ·exact .inr h.2
mutual
def Dk(K:PySem.W.Frag)(H:Hp):PyData->V->Prop
 | .none,x=>x=.non
 | .bool b,x=>x=.bl b
 | .int i,x=>x=.int i
 | .str z,x=>x=.str z
 | .list ds,x=>∃a xs,x=.ref a/\Ww K H a xs/\Ao K H ds xs
 | .tuple ds,x=>∃a xs,x=.ref a/\Yp K H a ds xs/\Ao K H ds xs
 | .dict _,_=>False
def Ao(K:PySem.W.Frag)(H:Hp):List PyData->List V->Prop
 | [],xs=>xs=[]
 | d :: ds,xs=>∃x r,xs=x :: r/\Dk K H d x/\Ao K H ds r
end
structure Kp(H H':Hp):Prop where
 t:∀b xs,H b=some (.tup xs)->H' b=some (.tup xs)
 f:∀b o u,H b=some (.frz o u)->H' b=some (.frz o u)
theorem Kp.refl{H:Hp}:Kp H H:=⟨λ_ _ h=>h,λ_ _ _ h=>h⟩
theorem Kp.trans{H H1 H2:Hp}(a:Kp H H1)(b:Kp H1 H2):Kp H H2:=⟨λc xs h=>b.t c xs (a.t c xs h),λc o u h=>b.f c o u (a.f c o u h)⟩
theorem Kp.new{H:Hp}{p:Addr}(h:H p=none)(o:HO):Kp H (upd H p o) :=
 ⟨λb xs e=>by rw [Bn (Ci e h)];exact e,λb o' u e=>by rw [Bn (Ci e h)];exact e⟩
def Mt:HO->Prop
 | .lst _=>True
 | .dK _=>True
 | .dT _=>True
 | .dd _=>True
 | _=>False
theorem Kp.put{H:Hp}{p:Addr}{o0:HO}(h:H p=some o0)(m:Mt o0)(o:HO):Kp H (upd H p o) :=
 ⟨λb xs e=>by rw [Bn (Yl e h (by intro z;subst z;exact m))];exact e,λb o' u e=>by rw [Bn (Yl e h (by intro z;subst z;exact m))];exact e⟩
theorem Ww.kp{K:PySem.W.Frag}{H H':Hp}{a:Addr}{xs:List V}(S:Kp H H')(h:Ww K H a xs):Ww K H' a xs:=by
 rcases h with⟨o,h⟩ | h
 ·exact .inl ⟨o,S.f _ _ _ h⟩
 ·exact .inr h
theorem Yp.kp{K:PySem.W.Frag}{H H':Hp}{a:Addr}{ds:List PyData}{xs:List V}(S:Kp H H')(h:Yp K H a ds xs):Yp K H' a ds xs:=by
 rcases h with h | h
 ·exact .inl (S.t _ _ h)
 ·exact .inr h
section
variable {K:PySem.W.Frag}{H H':Hp}
mutual
theorem Dk.kp(S:Kp H H'):∀(d:PyData) (x:V),Dk K H d x->Dk K H' d x
 | .none,x,h=>by simp only [Dk]at h ⊢;exact h
 | .bool b,x,h=>by simp only [Dk]at h ⊢;exact h
 | .int i,x,h=>by simp only [Dk]at h ⊢;exact h
 | .str z,x,h=>by simp only [Dk]at h ⊢;exact h
 | .list ds,x,h=>by
  simp only [Dk]at h ⊢
  obtain⟨a,xs,e,q,r⟩:=h
  exact⟨a,xs,e,q.kp S,Ao.kp S ds xs r⟩
 | .tuple ds,x,h=>by
  simp only [Dk]at h ⊢
  obtain⟨a,xs,e,q,r⟩:=h
  exact⟨a,xs,e,q.kp S,Ao.kp S ds xs r⟩
 | .dict _,x,h=>by simp only [Dk]at h
theorem Ao.kp(S:Kp H H'):∀(ds:List PyData) (xs:List V),Ao K H ds xs->Ao K H' ds xs
 | [],xs,h=>by simp only [Ao]at h ⊢;exact h
 | d :: ds,xs,h=>by
  simp only [Ao]at h ⊢
  obtain⟨x,r,e,h1,h2⟩:=h
  exact⟨x,r,e,Dk.kp S d x h1,Ao.kp S ds r h2⟩
end
theorem Fu{i:Int}:Dk K H (.int i) (.int i):=by simp only [Dk]
theorem Mm{b:Bool}:Dk K H (.bool b) (.bl b):=by simp only [Dk]
theorem Od{z:Str}:Dk K H (.str z) (.str z):=by simp only [Dk]
theorem Qa4:Dk K H .none .non:=by simp only [Dk]
theorem Dk.int{x:V}{i:Int}(h:Dk K H (.int i) x):x=.int i:=by simp only [Dk]at h;exact h
theorem Dk.bl{x:V}{i:Bool}(h:Dk K H (.bool i) x):x=.bl i:=by simp only [Dk]at h;exact h
theorem Dk.str{x:V}{i:Str}(h:Dk K H (.str i) x):x=.str i:=by simp only [Dk]at h;exact h
theorem Dk.non{x:V}(h:Dk K H .none x):x=.non:=by simp only [Dk]at h;exact h
theorem Dk.tup{x:V}{ds:List PyData}(h:Dk K H (.tuple ds) x):∃a xs,x=.ref a/\Yp K H a ds xs/\Ao K H ds xs:=by simp only [Dk]at h;exact h
theorem Dk.lst{x:V}{ds:List PyData}(h:Dk K H (.list ds) x):∃a xs,x=.ref a/\Ww K H a xs/\Ao K H ds xs:=by simp only [Dk]at h;exact h
theorem Oe{a:Addr}{xs:List V}{ds:List PyData}(h:H a=some (.tup xs))(r:Ao K H ds xs):Dk K H (.tuple ds) (.ref a):=by simp only [Dk];exact⟨a,xs,rfl,.inl h,r⟩
theorem Qa5{a:Addr}{xs:List V}{ds:List PyData}(h:Ww K H a xs)(r:Ao K H ds xs):Dk K H (.list ds) (.ref a):=by simp only [Dk];exact⟨a,xs,rfl,h,r⟩
theorem Ds:Ao K H [] []:=by simp only [Ao]
theorem Dc{d:PyData}{ds:List PyData}{x:V}{xs:List V}(h:Dk K H d x)(r:Ao K H ds xs):Ao K H (d :: ds) (x :: xs):=by simp only [Ao];exact⟨x,xs,rfl,h,r⟩
theorem Ao.cons{d:PyData}{ds:List PyData}{xs:List V}(h:Ao K H (d :: ds) xs):∃x r,xs=x :: r/\Dk K H d x/\Ao K H ds r:=by simp only [Ao]at h;exact h
theorem Ao.nil{xs:List V}(h:Ao K H [] xs):xs=[]:=by simp only [Ao]at h;exact h
theorem Ao.length:∀{ds:List PyData} {xs:List V},Ao K H ds xs->xs.length=ds.length
 | [],_,h=>by rw [h.nil];rfl
 | _ :: ds,_,h=>by
  obtain⟨x,r,rfl,_,h2⟩:=h.cons
  rw [List.length_cons,List.length_cons,Ao.length h2]
theorem Ao.get:∀{ds:List PyData} {xs:List V} {i:Nat} {d:PyData},Ao K H ds xs->ds[i]?=some d->∃x,xs[i]?=some x/\Dk K H d x
 | [],_,_,_,_,e=>by simp at e
 | _ :: ds,_,0,d,h,e=>by
  obtain⟨x,r,rfl,h1,_⟩:=h.cons
  simp at e;subst e
  exact⟨x,rfl,h1⟩
 | _ :: ds,_,i+1,d,h,e=>by
  obtain⟨x,r,rfl,_,h2⟩:=h.cons
  obtain⟨y,e1,e2⟩:=Ao.get (i:=i) (d:=d) h2 (by simpa using e)
  exact⟨y,by simpa using e1,e2⟩
theorem Ao.append:∀{ds es:List PyData} {xs ys:List V},Ao K H ds xs->Ao K H es ys->Ao K H (ds++es) (xs++ys)
 | [],_,_,_,h,k=>by rw [h.nil];exact k
 | _ :: ds,_,_,_,h,k=>by
  obtain⟨x,r,rfl,h1,h2⟩:=h.cons
  exact Dc h1 (Ao.append h2 k)
theorem Ao.drop:∀(n:Nat) {ds:List PyData} {xs:List V},Ao K H ds xs->Ao K H (ds.drop n) (xs.drop n)
 | 0,_,_,h=>h
 | _+1,[],_,h=>by rw [h.nil];exact Ds
 | n+1,_ :: ds,_,h=>by
  obtain⟨x,r,rfl,_,h2⟩:=h.cons
  exact Ao.drop n h2
theorem Ao.take:∀(n:Nat) {ds:List PyData} {xs:List V},Ao K H ds xs->Ao K H (ds.take n) (xs.take n)
 | 0,_,_,_=>Ds
 | _+1,[],_,h=>by rw [h.nil];exact Ds
 | n+1,_ :: ds,_,h=>by
  obtain⟨x,r,rfl,h1,h2⟩:=h.cons
  exact Dc h1 (Ao.take n h2)
theorem Ao.cut{ds:List PyData}{xs:List V}(h:Ao K H ds xs)(lo hi:Option Int):Ao K H (To ds lo hi) (Jx xs lo hi):=by
 unfold To Jx
 rw [h.length]
 exact(h.drop _).take _
theorem Ao.atI{ds:List PyData}{xs:List V}{i:Int}{d:PyData}(h:Ao K H ds xs)(e:atI ds i=some d):∃x,L2.atI xs i=some x/\Dk K H d x:=by
 unfold L2.atI at e ⊢
 rw [h.length]
 cases q:V3 ds.length i with
 | none=>rw [q]at e;cases e
 | some j =>
  rw [q]at e
  obtain⟨x,hx,hd⟩:=h.get (show ds[j]?=some d from e)
  exact⟨x,hx,hd⟩
def Wx(K:PySem.W.Frag)(H:Hp):List (Str×PyData)->List (Str×V)->Prop:=Paired λp q=>p.1=q.1/\Dk K H p.2 q.2
theorem Wx.kp{fs:List (Str×PyData)}{vs:List (Str×V)}(S:Kp H H')(h:Wx K H fs vs):Wx K H' fs vs:=Paired.mapP h λp q r=>⟨r.1,Dk.kp S _ _ r.2⟩
def XFs(K:PySem.W.Frag)(H:Hp)(d:Option Addr)(fs:List (Str×PyData)):Prop:=match d with
 | none=>fs=[]
 | some d=>∃od kvs,H d=some (.frz od (XD d kvs))/\Wx K H fs kvs
theorem XFs.kp{d:Option Addr}{fs:List (Str×PyData)}(S:Kp H H')(h:XFs K H d fs):XFs K H' d fs:=by
 cases d with
 | none=>exact h
 | some d=>obtain⟨od,kvs,q,r⟩:=h;exact⟨od,kvs,S.f _ _ _ q,r.kp S⟩
def RelA(K:PySem.W.Frag)(H:Hp):AV->V->Prop
 | .D d,v=>Dk K H d v
 | .R a,v=>v=.ref a
 | .C ds,v=>∃a xs,v=.ref a/\(∀H,Jv K H a xs)/\Ao K H ds xs
 | .X C fs,v=>∃a o d,v=.ref a/\H a=some (.frz o (XR a C d))/\XFs K H d fs
theorem C1{i:Int}:RelA K H (.D (.int i)) (.int i):=Fu (K:=K) (H:=H)
theorem El{i:Bool}:RelA K H (.D (.bool i)) (.bl i):=Mm (K:=K) (H:=H)
theorem Fv{i:Str}:RelA K H (.D (.str i)) (.str i):=Od (K:=K) (H:=H)
theorem Of:RelA K H (.D .none) .non:=Qa4 (K:=K) (H:=H)
theorem RelA.int{x:V}{i:Int}(h:RelA K H (.D (.int i)) x):x=.int i:=Dk.int (K:=K) (H:=H) h
theorem RelA.bl{x:V}{i:Bool}(h:RelA K H (.D (.bool i)) x):x=.bl i:=Dk.bl (K:=K) (H:=H) h
theorem RelA.str{x:V}{i:Str}(h:RelA K H (.D (.str i)) x):x=.str i:=Dk.str (K:=K) (H:=H) h
theorem RelA.non{x:V}(h:RelA K H (.D .none) x):x=.non:=Dk.non (K:=K) (H:=H) h
theorem RelA.tup{x:V}{ds:List PyData}(h:RelA K H (.D (.tuple ds)) x):∃a xs,x=.ref a/\Yp K H a ds xs/\Ao K H ds xs:=Dk.tup (K:=K) (H:=H) h
theorem RelA.lst{x:V}{ds:List PyData}(h:RelA K H (.D (.list ds)) x):∃a xs,x=.ref a/\Ww K H a xs/\Ao K H ds xs:=Dk.lst (K:=K) (H:=H) h
theorem Di{a:Addr}:RelA K H (.R a) (.ref a):=rfl
theorem Og{d:PyData}{v:V}(h:Dk K H d v):RelA K H (.D d) v:=h
theorem Oh{a:Addr}{xs:List V}{ds:List PyData}(h:H a=some (.tup xs))(r:Ao K H ds xs):RelA K H (.D (.tuple ds)) (.ref a):=Oe (K:=K) (H:=H) h r
abbrev A9(K:PySem.W.Frag)(H:Hp):List AV->List V->Prop:=Paired (RelA K H)
theorem RelA.kp(S:Kp H H'):∀{x:AV} {v:V},RelA K H x v->RelA K H' x v
 | .D d,v,h=>Dk.kp S d v h
 | .R a,_,h=>h
 | .C ds,v,⟨a,xs,e,q,r⟩=>⟨a,xs,e,q,Ao.kp S ds xs r⟩
 | .X C fs,v,⟨a,o,d,e,q,r⟩=>⟨a,o,d,e,S.f _ _ _ q,r.kp S⟩
theorem A9.kp(S:Kp H H'){xs:List AV}{vs:List V}(h:A9 K H xs vs):A9 K H' xs vs:=Paired.mapP h λ_ _ q=>q.kp S
theorem A9.length{xs:List AV}{vs:List V}(h:A9 K H xs vs):xs.length=vs.length:=Paired.length h
theorem A9.append{xs ys:List AV}{us ws:List V}(h:A9 K H xs us)(s:A9 K H ys ws):A9 K H (xs++ys) (us++ws):=by
 induction h with
 | nil=>exact s
 | cons r t ih=>exact .cons r ih
theorem A9.get:∀{xs:List AV} {us:List V} {i:Nat} {x:AV},A9 K H xs us->xs[i]?=some x->∃u,us[i]?=some u/\RelA K H x u
 | _,_,_,_,.nil,e=>by simp at e
 | _,_,0,_,.cons r _,e=>by simp at e;subst e;exact⟨_,rfl,r⟩
 | _,_,i+1,x,.cons _ t,e=>by
  obtain⟨u,h1,h2⟩:=A9.get (i:=i) (x:=x) t (by simpa using e)
  exact⟨u,by simpa using h1,h2⟩
theorem A9.set{x:AV}{u:V}(r:RelA K H x u):∀{xs:List AV} {us:List V} (i:Nat),A9 K H xs us->A9 K H (xs.set i x) (us.set i u)
 | _,_,_,.nil=>.nil
 | _,_,0,.cons _ t=>.cons r t
 | _,_,i+1,.cons q t=>.cons q (A9.set r i t)
theorem A9.drop:∀{xs:List AV} {us:List V} (n:Nat),A9 K H xs us->A9 K H (xs.drop n) (us.drop n)
 | _,_,0,r=>r
 | _,_,_+1,.nil=>.nil
 | _,_,n+1,.cons _ t=>A9.drop n t
theorem A9.take:∀{xs:List AV} {us:List V} (n:Nat),A9 K H xs us->A9 K H (xs.take n) (us.take n)
 | _,_,0,_=>.nil
 | _,_,_+1,.nil=>.nil
 | _,_,n+1,.cons r t=>.cons r (A9.take n t)
def Qa6(xs:List AV)(lo hi:Option Int):List AV:=(xs.drop (HT.sIx xs.length 0 lo)).take (HT.sIx xs.length xs.length hi - HT.sIx xs.length 0 lo)
theorem A9.cut{xs:List AV}{us:List V}(h:A9 K H xs us)(lo hi:Option Int):A9 K H (Qa6 xs lo hi) (Jx us lo hi):=by
 unfold Qa6 Jx
 rw [h.length]
 exact(h.drop _).take _
theorem A9.atI{xs:List AV}{us:List V}{i:Int}{x:AV}(h:A9 K H xs us)(e:atI xs i=some x):∃u,L2.atI us i=some u/\RelA K H x u:=by
 unfold L2.atI at e ⊢
 rw [<- h.length]
 cases q:V3 xs.length i with
 | none=>rw [q]at e;cases e
 | some j =>
  rw [q]at e
  obtain⟨x,hx,hd⟩:=h.get (show xs[j]?=some x from e)
  exact⟨x,hx,hd⟩
def dats:List AV->Option (List PyData)
 | []=>some []
 | .D d :: r=>match dats r with
  | some ds=>some (d :: ds)
  | none=>none
 | .R _ :: _=>none
 | .C _ :: _=>none
 | .X _ _ :: _=>none
@[simp] theorem dats_nil:dats []=some []:=rfl
theorem B5:∀(ds:List PyData),dats (ds.map .D)=some ds
 | []=>rfl
 | d :: ds=>by simp only [List.map_cons,dats,B5 ds]
theorem Hs:∀{xs:List AV} {ds:List PyData},dats xs=some ds->xs=ds.map .D
 | [],ds,h=>by cases h;rfl
 | .D d :: r,ds,h=>by
  simp only [dats]at h
  cases q:dats r with
  | none=>rw [q]at h;cases h
  | some es=>rw [q]at h;cases h;rw [Hs q];rfl
 | .R _ :: _,_,h=>by simp [dats]at h
 | .C _ :: _,_,h=>by simp [dats]at h
 | .X _ _ :: _,_,h=>by simp [dats]at h
theorem A9.dk:∀{ds:List PyData} {vs:List V},A9 K H (ds.map .D) vs->Ao K H ds vs
 | [],_,h=>by cases h;exact Ds
 | _ :: _,_,h=>by
  rw [List.map_cons]at h
  cases h with
  | cons r t=>exact Dc r (A9.dk t)
theorem Ao.rel:∀{ds:List PyData} {vs:List V},Ao K H ds vs->A9 K H (ds.map .D) vs
 | [],_,h=>by rw [h.nil];exact .nil
 | _ :: _,_,h=>by
  obtain⟨x,r,rfl,h1,h2⟩:=h.cons
  exact .cons h1 (Ao.rel h2)
theorem A9.dats{xs:List AV}{vs:List V}{ds:List PyData}(h:A9 K H xs vs)(e:dats xs=some ds):Ao K H ds vs:=by rw [Hs e]at h;exact h.dk
inductive MO where
 | lst (xs:List AV) | dk (kvs:List (Key×AV)) | dt (kvs:List (List Key×AV)) | dd (kvs:List (PyData×AV))
abbrev M:=Addr->Option MO
def Ar(μ:M)(a:Addr)(m:MO):M:=λb=>if b=a then some m else μ b
theorem Ad{μ:M}{a:Addr}{m:MO}:Ar μ a m a=some m:=by unfold Ar;rw [if_pos rfl]
theorem Ab{μ:M}{a b:Addr}{m:MO}(h:b≠a):Ar μ a m b=μ b:=by unfold Ar;rw [if_neg h]
theorem Fb{μ:M}{a:Addr}{m n:MO}:Ar (Ar μ a m) a n=Ar μ a n:=by funext b;unfold Ar;split <;> rfl
def Tq{κ:Type}(K:PySem.W.Frag)(H:Hp):List (κ×AV)->List (κ×V)->Prop:=Paired λp q=>p.1=q.1/\RelA K H p.2 q.2
theorem Tq.kp{κ:Type}(S:Kp H H'){xs:List (κ×AV)}{vs:List (κ×V)}(h:Tq K H xs vs):Tq K H' xs vs:=Paired.mapP h λ_ _ q=>⟨q.1,q.2.kp S⟩
def Wy(K:PySem.W.Frag)(H:Hp):List (PyData×AV)->List (PyData×Addr×Value)->Prop:=Paired λp q=>p.1=q.1/\KeyTree p.1/\Dk K H p.1 (.ref q.2.1)/\∃v,RelA K H p.2 v/\B4 v q.2.2
theorem Wy.kp(S:Kp H H'){xs:List (PyData×AV)}{vs:List (PyData×Addr×Value)}(h:Wy K H xs vs):Wy K H' xs vs:=Paired.mapP h λ_ _ ⟨a,b,c,v,r,q⟩=>⟨a,b,Dk.kp S _ _ c,v,r.kp S,q⟩
def Oi(K:PySem.W.Frag)(H:Hp):MO->HO->Prop
 | .lst xs,o=>∃vs,o=.lst vs/\A9 K H xs vs
 | .dk kvs,o=>∃vs,o=.dK vs/\Tq K H kvs vs
 | .dt kvs,o=>∃vs,o=.dT vs/\Tq K H kvs vs
 | .dd kvs,o=>∃xs,o=.dd xs/\Wy K H kvs xs
theorem Oi.kp(S:Kp H H'){m:MO}{o:HO}(h:Oi K H m o):Oi K H' m o:=by
 cases m with
 | lst xs=>obtain⟨vs,e,r⟩:=h;exact⟨vs,e,r.kp S⟩
 | dk xs=>obtain⟨vs,e,r⟩:=h;exact⟨vs,e,r.kp S⟩
 | dt xs=>obtain⟨vs,e,r⟩:=h;exact⟨vs,e,r.kp S⟩
 | dd xs=>obtain⟨vs,e,r⟩:=h;exact⟨vs,e,r.kp S⟩
theorem Cz{xs:List AV}{vs:List V}(h:A9 K H xs vs):Oi K H (.lst xs) (.lst vs):=⟨vs,rfl,h⟩
def Cn(K:PySem.W.Frag)(μ:M)(H:Hp):Prop:=∀a m,μ a=some m->∃o,H a=some o/\Oi K H m o
theorem Cn.none{μ:M}{p:Addr}(c:Cn K μ H)(h:H p=none):μ p=none:=by
 cases q:μ p with
 | none=>rfl
 | some m=>obtain⟨o,e,_⟩:=c p m q;rw [h]at e;cases e
theorem Cn.over{μ:M}{p:Addr}{o:HO}(c:Cn K μ H)(h:H p=Option.none):Cn K μ (upd H p o):=λa m e=>by
 obtain⟨o',e',r⟩:=c a m e
 exact⟨o',by rw [Bn (Ci e' h)];exact e',r.kp (Kp.new h o)⟩
theorem Cn.new{μ:M}{p:Addr}{m:MO}{o:HO}(c:Cn K μ H)(h:H p=Option.none)(r:Oi K H m o):Cn K (Ar μ p m) (upd H p o):=λa m' e=>by
 by_cases ha:a=p
 ·subst ha;rw [Ad]at e;cases e;exact⟨o,Cq,r.kp (Kp.new h o)⟩
 ·rw [Ab ha]at e;exact c.over h a m' e
theorem Cn.put{μ:M}{p:Addr}{m:MO}{o o0:HO}(c:Cn K μ H)(h:H p=some o0)(hm:Mt o0)(r:Oi K H m o):Cn K (Ar μ p m) (upd H p o):=λa m' e=>by
 by_cases ha:a=p
 ·subst ha;rw [Ad]at e;cases e;exact⟨o,Cq,r.kp (Kp.put h hm o)⟩
 ·rw [Ab ha]at e
  obtain⟨o',e',r'⟩:=c a m' e
  exact⟨o',by rw [Bn ha];exact e',r'.kp (Kp.put h hm o)⟩
def Sub(μ ν:M):Prop:=∀a m,μ a=some m->ν a=some m
theorem Sub.refl{μ:M}:Sub μ μ:=λ_ _ h=>h
theorem Sub.new{μ ν:M}{p:Addr}{m:MO}(h:Sub μ ν)(e:μ p=none):Sub μ (Ar ν p m):=λa m' e'=>by
 rw [Ab (by intro z;subst z;rw [e]at e';cases e')];exact h a m' e'
theorem Sub.none{μ ν:M}{p:Addr}(h:Sub μ ν)(e:ν p=none):μ p=none:=by
 cases q:μ p with
 | none=>rfl
 | some m=>rw [h p m q]at e;cases e
theorem Cn.sub{μ ν:M}(c:Cn K ν H)(h:Sub μ ν):Cn K μ H:=λa m e=>c a m (h a m e)
abbrev ASt:=List (Option AV)
def Kf(K:PySem.W.Frag)(H:Hp)(a:Option AV)(b:Option V):Prop:=∀x,a=some x->∃v,b=some v/\RelA K H x v
abbrev Dv(K:PySem.W.Frag)(H:Hp):ASt->St->Prop:=Paired (Kf K H)
theorem Kf.kp{a:Option AV}{b:Option V}(S:Kp H H')(h:Kf K H a b):Kf K H' a b:=λx e=>let⟨v,e2,r⟩:=h x e;⟨v,e2,r.kp S⟩
theorem Dv.kp{τ:ASt}{σ:St}(S:Kp H H')(h:Dv K H τ σ):Dv K H' τ σ:=Paired.mapP h λ_ _ q=>q.kp S
theorem Dv.get:∀{τ:ASt} {σ:St} {i:Nat} {x:AV},Dv K H τ σ->τ[i]?=some (some x)->∃v,σ[i]?=some (some v)/\RelA K H x v
 | _,_,_,_,.nil,e=>by simp at e
 | _,_,0,_,.cons r _,e=>by simp at e;subst e;obtain⟨v,rfl,q⟩:=r _ rfl;exact⟨v,rfl,q⟩
 | _,_,i+1,x,.cons _ t,e=>by
  obtain⟨u,h1,h2⟩:=Dv.get (i:=i) (x:=x) t (by simpa using e)
  exact⟨u,by simpa using h1,h2⟩
theorem Io{x:AV}{v:V}(r:RelA K H x v):Kf K H (some x) (some v):=λy e=>by cases e;exact⟨v,rfl,r⟩
theorem Ip{b:Option V}:Kf K H none b:=λy e=>nomatch e
theorem Dv.set{x:AV}{v:V}(r:RelA K H x v):∀{τ:ASt} {σ:St} (i:Nat),Dv K H τ σ->Dv K H (τ.set i (some x)) (σ.set i (some v))
 | _,_,_,.nil=>.nil
 | _,_,0,.cons _ t=>.cons (Io r) t
 | _,_,i+1,.cons q t=>.cons q (Dv.set r i t)
def Lj(N:List Str)(xs:List AV):ASt:=xs.map some++List.replicate (N.length - xs.length) none
theorem Dv.rep:∀(n:Nat),Dv K H (List.replicate n none) (List.replicate n none)
 | 0=>.nil
 | n+1=>.cons Ip (Dv.rep n)
theorem Dv.somes:∀{xs:List AV} {vs:List V},A9 K H xs vs->Dv K H (xs.map some) (vs.map some)
 | _,_,.nil=>.nil
 | _,_,.cons r t=>.cons (Io r) (Dv.somes t)
theorem Dv.append{τ τ':ASt}{σ σ':St}(h:Dv K H τ σ)(s:Dv K H τ' σ'):Dv K H (τ++τ') (σ++σ'):=by
 induction h with
 | nil=>exact s
 | cons r t ih=>exact .cons r ih
theorem Dv.begin{N:List Str}{xs:List AV}{vs:List V}(h:A9 K H xs vs):Dv K H (Lj N xs) (start N vs):=by
 unfold Lj start
 rw [h.length]
 exact(Dv.somes h).append (Dv.rep _)
def Qdw(mp:List (Option Nat))(τ:ASt):ASt:=mp.map λo=>match o with
 | none=>none
 | some j=>match τ[j]? with
  | some x=>x
  | none=>none
theorem Dv.sub{τ:ASt}{σ:St}(h:Dv K H τ σ):∀(mp:List (Option Nat)),Dv K H (Qdw mp τ) (Mj mp σ)
 | []=>.nil
 | none :: mp=>.cons Ip (Dv.sub h mp)
 | some j :: mp=>by
  refine .cons (λx e=>?_) (Dv.sub h mp)
  have e':τ[j]?=some (some x):=by
   dsimp only at e
   cases q:τ[j]? with
   | none=>rw [q]at e;cases e
   | some y=>rw [q]at e;exact congrArg some e
  obtain⟨v,hv,r⟩:=h.get e'
  refine⟨v,?_,r⟩
  show(σ[j]?).join=some v
  rw [hv];rfl
end
abbrev AE:=ASt->M->(AV->M->Prop)->Prop
abbrev AT:=ASt->M->(Bool->M->Prop)->Prop
abbrev AA:=ASt->M->(List AV->M->Prop)->Prop
abbrev AO:=ASt->M->(Option Int->M->Prop)->Prop
abbrev AS:=(ASt->M->Prop)->(AV->M->Prop)->(ASt->M->Prop)->(ASt->M->Prop)->ASt->M->Prop
abbrev AG:=AV->ASt->M->(ASt->M->Prop)->Prop
abbrev AGs:=List AV->ASt->M->(ASt->M->Prop)->Prop
abbrev A2:=AV->AV->M->(AV->M->Prop)->Prop
abbrev AC:=List AV->M->(AV->M->Prop)->Prop
@[irreducible] def brP (b:Bool) (T F:Prop):Prop:=match b with
 | true=>T
 | false=>F
@[irreducible] def opt {α:Type} (o:Option α) (k:α->Prop):Prop:=match o with
 | some x=>k x
 | none=>False
theorem br{b:Bool}{T F:Prop}(h1:b=true->T)(h2:b=false->F):brP b T F:=by
 unfold brP;cases b with
 | true=>exact h1 rfl
 | false=>exact h2 rfl
theorem Ri{b:Bool}{T F:Prop}(hb:b=true)(h:T):brP b T F:=by subst hb;unfold brP;exact h
theorem Oj{b:Bool}{T F:Prop}(hb:b=false)(h:F):brP b T F:=by subst hb;unfold brP;exact h
theorem Tr{T F:Prop}:brP true T F=T:=by unfold brP;rfl
theorem br_e{b:Bool}{T F:Prop}(h:brP b T F):(b=true/\T)\/(b=false/\F):=by
 unfold brP at h;cases b with
 | true=>exact .inl ⟨rfl,h⟩
 | false=>exact .inr ⟨rfl,h⟩
theorem Ac{α:Type}{o:Option α}{x:α}{k:α->Prop}(h:o=some x)(q:k x):opt o k:=by subst h;unfold opt;exact q
theorem Bj{α:Type}{o:Option α}{k:α->Prop}(h:opt o k):∃x,o=some x/\k x:=by
 unfold opt at h;cases o with
 | none=>exact h.elim
 | some x=>exact⟨x,rfl,h⟩
theorem dif{p:Prop} [Decidable p]{T F:Prop}(h1:p->T)(h2:¬p->F):brP (decide p) T F:=br (λh=>h1 (of_decide_eq_true h)) (λh=>h2 (of_decide_eq_false h))
def LV(K:PySem.W.Frag)(H:Hp)(R:AV->M->Prop)(Q:VK):Prop:=∀x μ v H',Kp H H'->Cn K μ H'->RelA K H' x v->R x μ->Q v H'
def LB(K:PySem.W.Frag)(H:Hp)(R:Bool->M->Prop)(Q:Bool->Hp->Prop):Prop:=∀b μ H',Kp H H'->Cn K μ H'->R b μ->Q b H'
def LA(K:PySem.W.Frag)(n:Nat)(H:Hp)(R:List AV->M->Prop)(Q:List V->Hp->Prop):Prop:=∀xs μ vs H',Kp H H'->Cn K μ H'->A9 K H' xs vs->xs.length=n->R xs μ->Q vs H'
def LO(K:PySem.W.Frag)(H:Hp)(R:Option Int->M->Prop)(Q:Option Int->Hp->Prop):Prop:=∀b μ H',Kp H H'->Cn K μ H'->R b μ->Q b H'
def LS(K:PySem.W.Frag)(H:Hp)(R:ASt->M->Prop)(Q:St->Hp->Prop):Prop:=∀ τ μ σ H',Kp H H'->Dv K H' τ σ->Cn K μ H'->R τ μ->Q σ H'
theorem LV.kp{K:PySem.W.Frag}{H H':Hp}{R:AV->M->Prop}{Q:VK}(h:LV K H R Q)(S:Kp H H'):LV K H' R Q:=λx μ v H2 S2=>h x μ v H2 (S.trans S2)
theorem LB.kp{K:PySem.W.Frag}{H H':Hp}{R:Bool->M->Prop}{Q:Bool->Hp->Prop}(h:LB K H R Q)(S:Kp H H'):LB K H' R Q:=λx μ H2 S2=>h x μ H2 (S.trans S2)
theorem LS.kp{K:PySem.W.Frag}{H H':Hp}{R:ASt->M->Prop}{Q:St->Hp->Prop}(h:LS K H R Q)(S:Kp H H'):LS K H' R Q:=λx μ v H2 S2=>h x μ v H2 (S.trans S2)
structure LE'(K:PySem.W.Frag)(H:Hp)(k:ASt->M->Prop)(r:AV->M->Prop)(b c:ASt->M->Prop)(D:Ends):Prop where
 nx:LS K H k D.nx
 rt:LV K H r D.rt
 bk:LS K H b D.bk
 ct:LS K H c D.ct
theorem LE'.kp{K:PySem.W.Frag}{H H':Hp}{k:ASt->M->Prop}{r:AV->M->Prop}{b c:ASt->M->Prop}{D:Ends}(h:LE' K H k r b c D)(S:Kp H H'):LE' K H' k r b c D:=⟨h.nx.kp S,h.rt.kp S,h.bk.kp S,h.ct.kp S⟩
def cE(K:PySem.W.Frag)(t:AE):TE:=fun σ H Q=>∃ τ μ R,Dv K H τ σ/\Cn K μ H/\t τ μ R/\LV K H R Q
def cT(K:PySem.W.Frag)(t:AT):TT:=fun σ H Q=>∃ τ μ R,Dv K H τ σ/\Cn K μ H/\t τ μ R/\LB K H R Q
def cA(K:PySem.W.Frag)(n:Nat)(t:AA):TA:=fun σ H Q=>∃ τ μ R,Dv K H τ σ/\Cn K μ H/\t τ μ R/\LA K n H R Q
def cO(K:PySem.W.Frag)(t:AO):TO:=fun σ H Q=>∃ τ μ R,Dv K H τ σ/\Cn K μ H/\t τ μ R/\LO K H R Q
def cS(K:PySem.W.Frag)(t:AS):TS:=λD σ H=>∃ τ μ k r b c,Dv K H τ σ/\Cn K μ H/\t k r b c τ μ/\LE' K H k r b c D
def cG(K:PySem.W.Frag)(t:AG):TG:=λv σ H Q=>∃x τ μ R,RelA K H x v/\Dv K H τ σ/\Cn K μ H/\t x τ μ R/\LS K H R Q
def cGs(K:PySem.W.Frag)(t:AGs):TGs:=λvs σ H Q=>∃xs τ μ R,A9 K H xs vs/\Dv K H τ σ/\Cn K μ H/\t xs τ μ R/\LS K H R Q
def cR(K:PySem.W.Frag)(r:A2):R2:=λx y H Q=>∃a b μ R,RelA K H a x/\RelA K H b y/\Cn K μ H/\r a b μ R/\LV K H R Q
def cC(K:PySem.W.Frag)(r:AC):List V->Hp->VK->Prop:=λxs H Q=>∃as μ R,A9 K H as xs/\Cn K μ H/\r as μ R/\LV K H R Q
def cM(K:PySem.W.Frag)(r:AV->AC):V->List V->Hp->VK->Prop:=λx xs H Q=>∃a as μ R,RelA K H a x/\A9 K H as xs/\Cn K μ H/\r a as μ R/\LV K H R Q
def VE(X:Cx)(e:Expr)(t:AE):Prop:=PE X e (cE X.K t)
def VT(X:Cx)(e:Expr)(t:AT):Prop:=PT X e (cT X.K t)
def VW(X:Cx)(e:Expr)(t:AT):Prop:=PW X e (cT X.K t)
def VA(X:Cx)(es:List Expr)(t:AA):Prop:=PA X es (cA X.K es.length t)
def VO(X:Cx)(e:Option Expr)(t:AO):Prop:=PO X e (cO X.K t)
def VS(X:Cx)(st:Stmt)(t:AS):Prop:=PS X st (cS X.K t)
def VSs(X:Cx)(st:List Stmt)(t:AS):Prop:=PSs X st (cS X.K t)
def VG(X:Cx)(e:Expr)(t:AG):Prop:=PG X e (cG X.K t)
def VGs(X:Cx)(es:List Expr)(t:AGs):Prop:=PGs X es (cGs X.K t)
def VOp(X:Cx)(f:Value->Value->Sem Value)(r:A2):Prop:=Ij X f (cR X.K r)
def VIx(X:Cx)(r:A2):Prop:=IxR X (cR X.K r)
def VCall(X:Cx)(f:Value)(r:AC):Prop:=Eo X f (cC X.K r)
def VMt(X:Cx)(id:String)(r:AV->AC):Prop:=MtR X id (cM X.K r)
section
variable {X:Cx}
theorem PE.imp{e:Expr}{t u:TE}(h:PE X e t)(i:∀ σ H Q,u σ H Q->t σ H Q):PE X e u:=λpins s σ H Q I q=>h pins s σ H Q I (i σ H Q q)
theorem PT.imp{e:Expr}{t u:TT}(h:PT X e t)(i:∀ σ H Q,u σ H Q->t σ H Q):PT X e u:=λpins s σ H Q I q=>h pins s σ H Q I (i σ H Q q)
theorem PW.imp{e:Expr}{t u:TT}(h:PW X e t)(i:∀ σ H Q,u σ H Q->t σ H Q):PW X e u:=λwh pins s σ H Q I q=>h wh pins s σ H Q I (i σ H Q q)
theorem PA.imp{e:List Expr}{t u:TA}(h:PA X e t)(i:∀ σ H Q,u σ H Q->t σ H Q):PA X e u:=λpos pins s σ H Q I q=>h pos pins s σ H Q I (i σ H Q q)
theorem PO.imp{e:Option Expr}{t u:TO}(h:PO X e t)(i:∀ σ H Q,u σ H Q->t σ H Q):PO X e u:=λpins s σ H Q I q=>h pins s σ H Q I (i σ H Q q)
theorem PS.imp{e:Stmt}{t u:TS}(h:PS X e t)(i:∀D σ H,u D σ H->t D σ H):PS X e u:=λpins s σ H D I q=>h pins s σ H D I (i D σ H q)
theorem PSs.imp{e:List Stmt}{t u:TS}(h:PSs X e t)(i:∀D σ H,u D σ H->t D σ H):PSs X e u:=λpins s σ H D I q=>h pins s σ H D I (i D σ H q)
theorem PG.imp{e:Expr}{t u:TG}(h:PG X e t)(i:∀v σ H Q,u v σ H Q->t v σ H Q):PG X e u:=λpins s σ H v w Q I r q=>h pins s σ H v w Q I r (i v σ H Q q)
theorem PGs.imp{e:List Expr}{t u:TGs}(h:PGs X e t)(i:∀v σ H Q,u v σ H Q->t v σ H Q):PGs X e u:=λpins s σ H v w Q I r q=>h pins s σ H v w Q I r (i v σ H Q q)
def Ol(i:Nat):AE:=fun τ μ R=>match τ[i]? with
 | some (some x)=>R x μ
 | _=>False
theorem Ts{K:PySem.W.Frag}{i:Nat}{σ:St}{H:Hp}{Q:VK}(h:cE K (Ol i) σ H Q):Qc2 i σ H Q:=by
 obtain⟨τ,μ,R,hs,hc,h,hq⟩:=h
 unfold Ol at h
 split at h
 ·rename_i x e
  obtain⟨v,ev,r⟩:=hs.get e
  exact⟨v,ev,hq _ _ _ _ Kp.refl hc r h⟩
 ·exact h.elim
theorem vv(i:Nat){x:Str}{pos:Pos}(hN:X.N[i]?=some x:=by rfl)(hv:Vis X.env.scope x:=by first | exact Or.inl rfl | exact Or.inr (Or.inl rfl) | exact Or.inr (Or.inr rfl))(hd:(x==("__debug__" : Str))=false:=by decide)
  (hcd:(x==("__classdict__" : Str))=false:=by decide):VE X (.Name x pos) (Ol i):=(Zy hN hv hd hcd).imp λ_ _ _ h=>Ts h
def vC(x:AV):AE:=λ_ μ R=>R x μ
theorem Iq{e:Expr}{v:V}{d:PyData}(h:PE X e (tC v))(r:∀H,Dk X.K H d v):VE X e (vC (.D d)):=h.imp fun σ H Q zz1=>Ce zz1 fun τ μ R hs hc h hq=>hq _ _ _ _ Kp.refl hc (Og (r H)) h
theorem Af{i j pos}:VE X (.Constant (.int i) j pos) (vC (.D (.int i))):=Iq Zz λ_=>Fu
theorem Mn{b j pos}:VE X (.Constant (.bool b) j pos) (vC (.D (.bool b))):=Iq Qc3 λ_=>Mm
theorem Bu{x j pos}:VE X (.Constant (.str x) j pos) (vC (.D (.str x))):=Iq Z0 λ_=>Od
def Wz(r:A2)(ta tb:AE):AE:=fun τ μ R=>ta τ μ λx μ1=>tb τ μ1 λy μ2=>r x y μ2 R
theorem Ht{K:PySem.W.Frag}{r:A2}{ta tb:AE}{σ:St}{H:Hp}{Q:VK}(h:cE K (Wz r ta tb) σ H Q):tOp (cR K r) (cE K ta) (cE K tb) σ H Q:=by
 obtain⟨τ,μ,R,hs,hc,h,hq⟩:=h
 exact⟨τ,μ,_,hs,hc,h,λx μ1 v H1 S1 c1 rx hx=>⟨τ,μ1,_,hs.kp S1,c1,hx,λy μ2 u H2 S2 c2 ry hy=>⟨x,y,μ2,R,rx.kp S2,ry,c2,hy,hq.kp (S1.trans S2)⟩⟩⟩
variable {a b c:Expr}{ta tb tc:AE}{pos:Pos}
theorem A0{op:Operator}{r:A2}(ho:VOp X (binaryOp op) r)(ha:VE X a ta)(hb:VE X b tb):VE X (.BinOp a op b pos) (Wz r ta tb):=(Qdd ho ha hb).imp λ_ _ _ h=>Ht h
theorem Lk{op:CmpOp}{r:A2}(ho:VOp X (compareOp op) r)(ha:VE X a ta)(hb:VE X b tb)(hm:behindInMarks op b=false):VE X (.Compare a [op] [b] pos) (Wz r ta tb):=(Wg ho ha hb hm).imp λ_ _ _ h=>Ht h
def Pp(t:AE):AT:=fun τ μ R=>t τ μ λx μ1=>match x with
 | .D (.bool k)=>R k μ1
 | _=>False
theorem Kg{K:PySem.W.Frag}{t:AE}{u:TE}(hu:∀ σ H Q,cE K t σ H Q->u σ H Q){σ:St}{H:Hp}{Q:Bool->Hp->Prop}(h:cT K (Pp t) σ H Q):Yn u σ H Q:=by
 obtain⟨τ,μ,R,hs,hc,h,hq⟩:=h
 refine hu _ _ _ ⟨τ,μ,_,hs,hc,h,λx μ1 v H1 S1 c1 rx hx=>?_⟩
 split at hx
 ·cases RelA.bl rx
  exact⟨_,rfl,hq _ _ _ S1 c1 hx⟩
 ·exact hx.elim
theorem Bd{op:CmpOp}{r:A2}(ho:VOp X (compareOp op) r)(ha:VE X a ta)(hb:VE X b tb)(hm:behindInMarks op b=false):VT X (.Compare a [op] [b] pos) (Pp (Wz r ta tb)) :=
 (Wh ho ha hb hm).imp λ_ _ _ h=>Kg (λ_ _ _ q=>Ht q) h
theorem Gr{e:Expr}{t:AE}(h:VE X e t)(he:∀whole,isTrue e X.env whole=(do let v <- whole;standAt e.pos;holding [v] (truthy v)):=by intro _;rfl):VT X e (Pp t) :=
 (Z5 h he).imp λ_ _ _ h=>by
  have h:=Kg (λ_ _ _ q=>q) h
  exact h
def Qhm(t u:AT):AT:=fun τ μ R=>t τ μ λk μ1=>brP k (u τ μ1 R) (R false μ1)
def vOr(t u:AT):AT:=fun τ μ R=>t τ μ λk μ1=>brP k (R true μ1) (u τ μ1 R)
def Qhn(t:AT):AT:=fun τ μ R=>t τ μ λk μ1=>R (!k) μ1
theorem VW.pt{e:Expr}{t:AT}(h:VW X e t):VT X e t:=PW.pt h
variable {rest:List Expr}{tA tB':AT}
theorem Fc(ha:VT X a tA):VW X (.BoolOp .And [a] pos) tA:=V8 ha
theorem Ll(ha:VT X a tA):VW X (.BoolOp .Or [a] pos) tA:=Z6 ha
theorem Fw(ha:VT X a tA)(hb:VW X (.BoolOp .And (b :: rest) pos) tB'):VW X (.BoolOp .And (a :: b :: rest) pos) (Qhm tA tB') :=
 (Z7 ha hb).imp fun σ H Q zz3=>Ce zz3 fun τ μ R hs hc h hq=>⟨τ,μ,_,hs,hc,h,λk μ1 H1 S1 c1 hk=>by
  rcases br_e hk with⟨rfl,hk'⟩ | ⟨rfl,hk'⟩
  ·exact⟨τ,μ1,R,hs.kp S1,c1,hk',hq.kp S1⟩
  ·exact hq _ _ _ S1 c1 hk'⟩
theorem Pq(ha:VT X a tA)(hb:VW X (.BoolOp .Or (b :: rest) pos) tB'):VW X (.BoolOp .Or (a :: b :: rest) pos) (vOr tA tB') :=
 (Qc4 ha hb).imp fun σ H Q zz4=>Ce zz4 fun τ μ R hs hc h hq=>⟨τ,μ,_,hs,hc,h,λk μ1 H1 S1 c1 hk=>by
  rcases br_e hk with⟨rfl,hk'⟩ | ⟨rfl,hk'⟩
  ·exact hq _ _ _ S1 c1 hk'
  ·exact⟨τ,μ1,R,hs.kp S1,c1,hk',hq.kp S1⟩⟩
theorem Lm(ha:VT X a tA):VT X (.UnaryOp .Not a pos) (Qhn tA):=(Z8 ha).imp fun σ H Q zz5=>Ce zz5 fun τ μ R hs hc h hq=>⟨τ,μ,_,hs,hc,h,λk μ1 H1 S1 c1 hk=>hq _ _ _ S1 c1 hk⟩
theorem Tt{op}{t:AE}(h:VE X a t):VE X (.BoolOp op [a] pos) t:=Z9 h
def Qdx(ta tb:AE):AE:=fun τ μ R=>ta τ μ λx μ1=>match x with
 | .D (.bool k)=>brP k (tb τ μ1 R) (R (.D (.bool false)) μ1)
 | _=>False
def Qdy(ta:AE):AE:=fun τ μ R=>ta τ μ λx μ1=>match x with
 | .D (.bool k)=>R (.D (.bool (!k))) μ1
 | _=>False
theorem Om(ha:VE X a ta)(hb:VE X (.BoolOp .And (b :: rest) pos) tb):VE X (.BoolOp .And (a :: b :: rest) pos) (Qdx ta tb) :=
 (Qaa ha hb).imp fun σ H Q zz6=>Ce zz6 fun τ μ R hs hc h hq=>⟨τ,μ,_,hs,hc,h,λx μ1 v H1 S1 c1 rx hk=>by
  split at hk
  ·cases RelA.bl rx
   rcases br_e hk with⟨rfl,hk'⟩ | ⟨rfl,hk'⟩
   ·exact⟨true,rfl,⟨τ,μ1,R,hs.kp S1,c1,hk',hq.kp S1⟩⟩
   ·exact⟨false,rfl,hq _ _ _ _ S1 c1 El hk'⟩
  ·exact hk.elim⟩
theorem Qa7(ha:VE X a ta):VE X (.UnaryOp .Not a pos) (Qdy ta) :=
 (Qab ha).imp fun σ H Q zz8=>Ce zz8 fun τ μ R hs hc h hq=>⟨τ,μ,_,hs,hc,h,λx μ1 v H1 S1 c1 rx hk=>by
  split at hk
  ·cases RelA.bl rx
   exact⟨_,rfl,hq _ _ _ _ S1 c1 El hk⟩
  ·exact hk.elim⟩
def vIf(t:AT)(ta tb:AE):AE:=fun τ μ R=>t τ μ λk μ1=>brP k (ta τ μ1 R) (tb τ μ1 R)
theorem Tu(hc:VT X c tA)(ha:VE X a ta)(hb:VE X b tb):VE X (.IfExp c a b pos) (vIf tA ta tb) :=
 (Sv hc ha hb).imp fun σ H Q zz9=>Ce zz9 fun τ μ R hs hc h hq=>⟨τ,μ,_,hs,hc,h,λk μ1 H1 S1 c1 hk=>by
  rcases br_e hk with⟨rfl,hk'⟩ | ⟨rfl,hk'⟩
  ·exact⟨τ,μ1,R,hs.kp S1,c1,hk',hq.kp S1⟩
  ·exact⟨τ,μ1,R,hs.kp S1,c1,hk',hq.kp S1⟩⟩
def Qho:AA:=λ_ μ R=>R [] μ
def Qdz(ta:AE)(tr:AA):AA:=fun τ μ R=>ta τ μ λx μ1=>tr τ μ1 λxs μ2=>R (x :: xs) μ2
theorem Ae:VA X [] Qho:=Qaq.imp fun σ H Q zz10=>Ce zz10 fun τ μ R hs hc h hq=>hq [] μ [] H Kp.refl hc .nil rfl h
theorem Aa{e:Expr}{es:List Expr}{te:AE}{t:AA}(ha:VE X e te)(hr:VA X es t)(hs:starEach (e :: es) X.env=(false,eval e X.env) :: starEach es X.env:=by rfl):VA X (e :: es) (Qdz te t) :=
 (Wi ha hr hs).imp fun σ H Q zz11=>Ce zz11 fun τ μ R hs hc h hq=>⟨τ,μ,_,hs,hc,h,λx μ1 v H1 S1 c1 rx hx=>⟨τ,μ1,_,hs.kp S1,c1,hx,λxs μ2 vs H2 S2 c2 rs hl hxs =>
  hq (x :: xs) μ2 (v :: vs) H2 (S1.trans S2) c2 (.cons (rx.kp S2) rs) (by rw [List.length_cons,hl];rfl) hxs⟩⟩
def Qhp(t:AA):AE:=fun τ μ R=>t τ μ λxs μ1=>match dats xs with
 | some ds=>R (.D (.tuple ds)) μ1
 | none=>False
def Qhq(t:AA):AE:=fun τ μ R=>t τ μ λxs μ1=>∀p,μ1 p=none->R (.R p) (Ar μ1 p (.lst xs))
variable {es:List Expr}{t:AA}
theorem Cb{k:Nat}(h:VA X es t)(hn:es.length<=sizeLine:=by decide):VE X (.Tuple es k pos) (Qhp t) :=
 (Qar h).imp fun σ H Q zz12=>Ce zz12 fun τ μ R hs hc h hq=>⟨τ,μ,_,hs,hc,h,λxs μ1 vs H1 S1 c1 rs hl hx=>⟨by rw [<- rs.length,hl];exact hn,λp hp=>by
  split at hx
  ·rename_i ds e
   refine hq _ _ _ _ (S1.trans (Kp.new hp _)) (c1.over hp) ?_ hx
   exact Oe Cq (Ao.kp (Kp.new hp _) _ _ (rs.dats e))
  ·exact hx.elim⟩⟩
theorem Cc(h:VA X es t)(hn:es.length<=sizeLine:=by decide):VE X (.List es pos) (Qhq t) :=
 (Qas h).imp fun σ H Q zz13=>Ce zz13 fun τ μ R hs hc h hq=>⟨τ,μ,_,hs,hc,h,λxs μ1 vs H1 S1 c1 rs hl hx=>⟨by rw [<- rs.length,hl];exact hn,λp hp =>
  hq _ _ _ _ (S1.trans (Kp.new hp _)) (c1.new hp (Cz (rs))) Di (hx p (c1.none hp))⟩⟩
mutual
theorem Dk.reads{pins:List (Addr×Obj)}{σ:St}{H:Hp}{s:Shared}(I:Inv X pins σ H s):∀(d:PyData) (x:V) (u:Value),Dk X.K H d x->B4 x u->∃as,Reads s.heap u d as
 | .none,x,u,h,r=>by cases h.non;cases r;exact⟨_,.none⟩
 | .bool b,x,u,h,r=>by cases h.bl;cases r;exact⟨_,.bool b⟩
 | .int i,x,u,h,r=>by cases h.int;obtain⟨t,rfl⟩:=r;exact⟨_,.int i t⟩
 | .str z,x,u,h,r=>by cases h.str;obtain⟨t,rfl⟩:=r;exact⟨_,.str z t⟩
 | .list ds,x,u,h,r=>by
  obtain⟨a,xs,rfl,q,k⟩:=h.lst
  cases r
  obtain⟨its,rv,⟨o,n,e,c,_,d⟩,_⟩:=I.list q.sq
  obtain⟨as,ra⟩:=Ao.reads I ds xs its k rv
  exact⟨_,.list e c d (by simpa using ra)⟩
 | .tuple ds,x,u,h,r=>by
  obtain⟨a,xs,rfl,q,k⟩:=h.tup
  cases r
  obtain⟨its,rv,⟨o,e,c,n,d⟩,_⟩:=I.tuple q.sq
  obtain⟨as,ra⟩:=Ao.reads I ds xs its k rv
  exact⟨_,.tuple e c d (by simpa using ra)⟩
 | .dict _,x,u,h,_=>by simp only [Dk]at h
theorem Ao.reads{pins:List (Addr×Obj)}{σ:St}{H:Hp}{s:Shared}(I:Inv X pins σ H s):∀(ds:List PyData) (xs:List V) (us:List Value),Ao X.K H ds xs->Vals xs us->∃as,ReadsAll s.heap us ds as
 | [],xs,us,h,r=>by
  have e:=h.nil
  subst e
  cases r
  exact⟨_,.nil⟩
 | d :: ds,xs,us,h,r=>by
  obtain⟨x,xr,rfl,h1,h2⟩:=h.cons
  cases r with
  | cons r1 r2 =>
   obtain⟨as,ra⟩:=Dk.reads I d x _ h1 r1
   obtain⟨bs,rb⟩:=Ao.reads I ds xr _ h2 r2
   exact⟨_,.cons ra rb⟩
end
def see(μ:M):AV->Option PyData
 | .X _ _=>none
 | .D d=>some d
 | .C ds=>some (.tuple ds)
 | .R a=>match μ a with
  | some (.lst xs)=>match dats xs with
   | some ds=>some (.list ds)
   | none=>none
  | _=>none
@[simp] theorem see_D {μ:M} {d:PyData}:see μ (.D d)=some d:=rfl
theorem C7{pins:List (Addr×Obj)}{σ:St}{H:Hp}{s:Shared}{μ:M}{x:AV}{v:V}{u:Value}{d:PyData}(I:Inv X pins σ H s)(hc:Cn X.K μ H)(rx:RelA X.K H x v)(r:B4 v u)(e:see μ x=some d):∃as,Reads s.heap u d as:=by
 cases x with
 | X C fs=>cases e
 | D d'=>cases e;exact Dk.reads I _ _ _ rx r
 | C ds =>
  cases e
  obtain⟨a,xs,rfl,q,k⟩:=rx
  cases r
  obtain⟨its,rv,⟨o,e,c,n,d⟩,_⟩:=I.tuple (q H)
  obtain⟨as,ra⟩:=Ao.reads I ds xs its k rv
  exact⟨_,.tuple e c d (by simpa using ra)⟩
 | R a =>
  dsimp only [see]at e
  split at e
  ·rename_i xs ex
   split at e
   ·rename_i ds ed
    cases e
    cases (show v=.ref a from rx)
    cases r
    obtain⟨o,ho,vs,rfl,rs⟩:=hc a _ ex
    obtain⟨its,rv,⟨o,n,e,c,_,dd⟩,_⟩:=I.list (Ec.of ho)
    obtain⟨as,ra⟩:=Ao.reads I ds vs its (rs.dats ed) rv
    exact⟨_,.list e c dd (by simpa using ra)⟩
   ·cases e
  ·cases e
def Cf(d:PyData):Prop:=d.canLay0=true/\d.depth<=64
def aEq:A2:=λx y μ R=>match x,y with
 | .D d,.D e=>Cf d/\Cf e/\R (.D (.bool (PyData.eqv d e))) μ
 | x,y=>opt (see μ x) λd=>opt (see μ y) λe=>Cf d/\Cf e/\R (.D (.bool (PyData.eqv d e))) μ
theorem W0{x y:AV}{μ:M}{R:AV->M->Prop}(h:aEq x y μ R):∃d e,see μ x=some d/\see μ y=some e/\Cf d/\Cf e/\R (.D (.bool (PyData.eqv d e))) μ:=by
 have g:∀(h:opt (see μ x) λd=>opt (see μ y) λe=>Cf d/\Cf e/\R (.D (.bool (PyData.eqv d e))) μ),∃d e,see μ x=some d/\see μ y=some e/\Cf d/\Cf e/\R (.D (.bool (PyData.eqv d e))) μ:=by
  intro h
  obtain⟨d,ed,h⟩:=Bj h
  obtain⟨e,ee,h⟩:=Bj h
  exact⟨d,e,ed,ee,h⟩
 cases x with
 | D d =>
  cases y with
  | D e=>exact⟨_,_,rfl,rfl,h⟩
  | _=>exact g h
 | _=>exact g h
def aNe:A2:=λx y μ R=>match x,y with
 | .D d,.D e=>Cf d/\Cf e/\R (.D (.bool (!PyData.eqv d e))) μ
 | x,y=>opt (see μ x) λd=>opt (see μ y) λe=>Cf d/\Cf e/\R (.D (.bool (!PyData.eqv d e))) μ
theorem W1{x y:AV}{μ:M}{R:AV->M->Prop}(h:aNe x y μ R):∃d e,see μ x=some d/\see μ y=some e/\Cf d/\Cf e/\R (.D (.bool (!PyData.eqv d e))) μ:=by
 unfold aNe at h
 split at h
 ·exact⟨_,_,rfl,rfl,h⟩
 ·obtain⟨d,ed,h⟩:=Bj h
  obtain⟨e,ee,h⟩:=Bj h
  exact⟨d,e,ed,ee,h⟩
variable {k:Nat}
theorem Hn(hr:Room k X.A):VOp X (compareOp .Eq) aEq:=by
 intro pins s σ H x y v u Q I rx ry zz14
 refine Dw zz14 λa b μ R ra rb hc h hq=>?_
 obtain⟨d,e,ed,ee,h⟩:=W0 h
 ·obtain⟨as,r1⟩:=C7 I hc ra rx ed
  obtain⟨bs,r2⟩:=C7 I hc rb ry ee
  have hu:=hr.un
  have:=h.1.2
  exact SeqAt.compareEq_reads r1 r2 h.1.1 h.2.1.1 (by omega) ⟨.bl _,H,I,rfl,hq _ _ _ _ Kp.refl hc El h.2.2⟩
theorem Qhs(hr:Room k X.A):VOp X (compareOp .NotEq) aNe:=by
 intro pins s σ H x y v u Q I rx ry zz15
 refine Dw zz15 λa b μ R ra rb hc h hq=>?_
 obtain⟨d,e,ed,ee,h⟩:=W1 h
 ·obtain⟨as,r1⟩:=C7 I hc ra rx ed
  obtain⟨bs,r2⟩:=C7 I hc rb ry ee
  have hu:=hr.un
  have:=h.1.2
  exact SeqAt.compareNe_reads r1 r2 h.1.1 h.2.1.1 (by omega) ⟨.bl _,H,I,rfl,hq _ _ _ _ Kp.refl hc El h.2.2⟩
def Qi9:PyData->Option Key
 | .int i=>some (.inl i)
 | .str z=>some (.inr z)
 | _=>none
def items(μ:M):AV->Option (List AV)
 | .D (.tuple ds)=>some (ds.map .D)
 | .C ds=>some (ds.map .D)
 | .D (.list ds)=>some (ds.map .D)
 | .R a=>match μ a with
  | some (.lst xs)=>some xs
  | _=>none
 | _=>none
theorem Gu{H:Hp}{μ:M}{x:AV}{v:V}{xs:List AV}(hc:Cn X.K μ H)(rx:RelA X.K H x v)(e:items μ x=some xs):∃p vs,v=.ref p/\(Ec X.K H p vs\/Jv X.K H p vs)/\A9 X.K H xs vs:=by
 unfold items at e
 split at e
 ·cases e;obtain⟨a,vs,rfl,q,r⟩:=RelA.tup rx;exact⟨a,vs,rfl,.inr q.sq,r.rel⟩
 ·cases e;obtain⟨a,vs,rfl,q,r⟩:=rx;exact⟨a,vs,rfl,.inr (q H),r.rel⟩
 ·cases e;obtain⟨a,vs,rfl,q,r⟩:=RelA.lst rx;exact⟨a,vs,rfl,.inl q.sq,r.rel⟩
 ·split at e
  ·rename_i ys ey
   cases e
   obtain⟨o,ho,vs,rfl,rs⟩:=hc _ _ ey
   exact⟨_,vs,rx,.inl (Ec.of ho),rs⟩
  ·cases e
 ·cases e
def Rj:AV->Bool
 | .D (.tuple _)=>true
 | .C _=>true
 | _=>false
theorem B3{H:Hp}{μ:M}{x:AV}{v:V}{xs:List AV}(hc:Cn X.K μ H)(rx:RelA X.K H x v)(e:items μ x=some xs):∃p vs,v=.ref p/\((Rj x=false/\Ec X.K H p vs)\/(Rj x=true/\Jv X.K H p vs))/\A9 X.K H xs vs:=by
 unfold items at e
 split at e
 ·cases e;obtain⟨a,vs,rfl,q,r⟩:=RelA.tup rx;exact⟨a,vs,rfl,.inr ⟨rfl,q.sq⟩,r.rel⟩
 ·cases e;obtain⟨a,vs,rfl,q,r⟩:=rx;exact⟨a,vs,rfl,.inr ⟨rfl,q H⟩,r.rel⟩
 ·cases e;obtain⟨a,vs,rfl,q,r⟩:=RelA.lst rx;exact⟨a,vs,rfl,.inl ⟨rfl,q.sq⟩,r.rel⟩
 ·split at e
  ·rename_i ys ey
   cases e
   obtain⟨o,ho,vs,rfl,rs⟩:=hc _ _ ey
   exact⟨_,vs,rx,.inl ⟨rfl,Ec.of ho⟩,rs⟩
  ·cases e
 ·cases e
def aIn(nb:Bool->Bool):A2:=λx y μ R=>match y with
 | .D (.str j)=>match x with
  | .D (.str i)=>R (.D (.bool (nb (!(Builtin.Str.occurrences j i 0 j.length 1).isEmpty)))) μ
  | _=>False
 | .C ds=>opt (see μ x) λd=>Cf d/\Cf (.tuple ds)/\R (.D (.bool (nb (ds.any λe=>PyData.eqv e d)))) μ
 | .D (.tuple ds)=>opt (see μ x) λd=>Cf d/\Cf (.tuple ds)/\R (.D (.bool (nb (ds.any λe=>PyData.eqv e d)))) μ
 | y=>opt (see μ x) λd=>opt (items μ y) λys=>opt (dats ys) λds=>Cf d/\Cf (.tuple ds)/\R (.D (.bool (nb (ds.any λe=>PyData.eqv e d)))) μ
theorem Pr{nb:Bool->Bool}{x y:AV}{μ:M}{R:AV->M->Prop}(h:aIn nb x y μ R)(hn:∀z,y≠.D (.str z)):∃d ys ds,see μ x=some d/\items μ y=some ys/\dats ys=some ds/\Cf d/\Cf (.tuple ds)/\R (.D (.bool (nb (ds.any λe=>PyData.eqv e d)))) μ:=by
 unfold aIn at h
 split at h
 ·exact absurd rfl (hn _)
 ·obtain⟨d,ed,h⟩:=Bj h
  exact⟨d,_,_,ed,rfl,B5 _,h⟩
 ·obtain⟨d,ed,h⟩:=Bj h
  exact⟨d,_,_,ed,rfl,B5 _,h⟩
 ·obtain⟨d,ed,h⟩:=Bj h
  obtain⟨ys,ey,h⟩:=Bj h
  obtain⟨ds,eds,h⟩:=Bj h
  exact⟨d,ys,ds,ed,ey,eds,h⟩
theorem Mo{ds:List PyData}(h:Cf (.tuple ds)):PyData.canLayAll0 ds=true/\PyData.depthAll ds<=64:=by
 obtain⟨h1,h2⟩:=h
 simp only [PyData.canLay0]at h1
 simp only [PyData.depth]at h2
 exact⟨h1,by omega⟩
theorem Tv(hr:Room k X.A):VOp X (compareOp .In) (aIn λb=>b):=by
 intro pins s σ H x y v u Q I rx ry zz16
 refine Dw zz16 λa b μ R ra rb hc h hq=>?_
 by_cases hb:∃z,b=.D (.str z)
 ·obtain⟨z,rfl⟩:=hb
  unfold aIn at h
  dsimp only at h
  split at h
  ·cases RelA.str ra;cases RelA.str rb
   exact Q8 pins s σ H _ _ v u Q I rx ry ⟨_,_,rfl,rfl,hq _ _ _ _ Kp.refl hc El h⟩
  ·exact h.elim
 ·obtain⟨d,ys,ds,ed,ey,eds,h⟩:=Pr h λz e=>hb ⟨z,e⟩
  ·skip
   obtain⟨ok1,ok2,h⟩:=h
   obtain⟨as,r1⟩:=C7 I hc ra rx ed
   obtain⟨p,vs,rfl,hp,rs⟩:=Gu hc rb ey
   cases ry
   obtain⟨c1,c2⟩:=Mo ok2
   have hs:=rs.dats eds
   have hu:=hr.un
   have q:=hq _ _ _ _ Kp.refl hc El h
   rcases hp with hp | hp
   ·obtain⟨its,r,pl,hz⟩:=I.list hp
    obtain⟨bs,rb⟩:=Ao.reads I ds vs its hs r
    have e:=λA=>Dz (A:=A) r1 ok1.1
    refine SeqAt.in_listAt (N3 s.heap d) pl.isList (λw hw=>(e _ (by first | (show X.A.units+64 < _;omega) | (show X.A.units+1+64 < _;omega) | (show X.A.units+1+1+64 < _;omega)) rb c1 c2).1 w (by simpa using hw)) ⟨.bl _,H,I,rfl,?_⟩
    rw [show its.toArray.any (N3 s.heap d)=its.any (N3 s.heap d) by simp,(e X.A (by omega) rb c1 c2).2]
    exact q
   ·obtain⟨its,r,pl,hz⟩:=I.tuple hp
    obtain⟨bs,rb⟩:=Ao.reads I ds vs its hs r
    have e:=λA=>Dz (A:=A) r1 ok1.1
    refine SeqAt.in_tupleAt (N3 s.heap d) pl (λw hw=>(e _ (by first | (show X.A.units+64 < _;omega) | (show X.A.units+1+64 < _;omega) | (show X.A.units+1+1+64 < _;omega)) rb c1 c2).1 w (by simpa using hw)) ⟨.bl _,H,I,rfl,?_⟩
    rw [show its.toArray.any (N3 s.heap d)=its.any (N3 s.heap d) by simp,(e X.A (by omega) rb c1 c2).2]
    exact q
theorem Hu(hr:Room k X.A):VOp X (compareOp .NotIn) (aIn λb=>!b):=by
 intro pins s σ H x y v u Q I rx ry zz17
 refine Dw zz17 λa b μ R ra rb hc h hq=>?_
 by_cases hb:∃z,b=.D (.str z)
 ·obtain⟨z,rfl⟩:=hb
  unfold aIn at h
  dsimp only at h
  split at h
  ·cases RelA.str ra;cases RelA.str rb
   exact Ld pins s σ H _ _ v u Q I rx ry ⟨_,_,rfl,rfl,hq _ _ _ _ Kp.refl hc El h⟩
  ·exact h.elim
 ·obtain⟨d,ys,ds,ed,ey,eds,h⟩:=Pr h λz e=>hb ⟨z,e⟩
  ·skip
   obtain⟨ok1,ok2,h⟩:=h
   obtain⟨as,r1⟩:=C7 I hc ra rx ed
   obtain⟨p,vs,rfl,hp,rs⟩:=Gu hc rb ey
   cases ry
   obtain⟨c1,c2⟩:=Mo ok2
   have hs:=rs.dats eds
   have hu:=hr.un
   have q:=hq _ _ _ _ Kp.refl hc El h
   rcases hp with hp | hp
   ·obtain⟨its,r,pl,hz⟩:=I.list hp
    obtain⟨bs,rb⟩:=Ao.reads I ds vs its hs r
    have e:=λA=>Dz (A:=A) r1 ok1.1
    refine SeqAt.notIn_listAt (N3 s.heap d) pl.isList (λw hw=>(e _ (by first | (show X.A.units+64 < _;omega) | (show X.A.units+1+64 < _;omega) | (show X.A.units+1+1+64 < _;omega)) rb c1 c2).1 w (by simpa using hw)) ⟨.bl _,H,I,rfl,?_⟩
    rw [show its.toArray.any (N3 s.heap d)=its.any (N3 s.heap d) by simp,(e X.A (by omega) rb c1 c2).2]
    exact q
   ·obtain⟨its,r,pl,hz⟩:=I.tuple hp
    obtain⟨bs,rb⟩:=Ao.reads I ds vs its hs r
    have e:=λA=>Dz (A:=A) r1 ok1.1
    refine SeqAt.notIn_tupleAt (N3 s.heap d) pl (λw hw=>(e _ (by first | (show X.A.units+64 < _;omega) | (show X.A.units+1+64 < _;omega) | (show X.A.units+1+1+64 < _;omega)) rb c1 c2).1 w (by simpa using hw)) ⟨.bl _,H,I,rfl,?_⟩
    rw [show its.toArray.any (N3 s.heap d)=its.any (N3 s.heap d) by simp,(e X.A (by omega) rb c1 c2).2]
    exact q
def aI(C:Int->Int->Prop)(g:Int->Int->PyData):A2:=λx y μ R=>match x,y with
 | .D (.int i),.D (.int j)=>C i j/\R (.D (g i j)) μ
 | _,_=>False
def aI0(g:Int->Int->PyData):A2:=λx y μ R=>match x,y with
 | .D (.int i),.D (.int j)=>R (.D (g i j)) μ
 | _,_=>False
theorem o_I{f:Value->Value->Sem Value}{C:Int->Int->Prop}{g:Int->Int->V}{g':Int->Int->PyData}(h:Ij X f (rI C g))(hg:∀i j H,Dk X.K H (g' i j) (g i j)):VOp X f (aI C g'):=by
 intro pins s σ H x y v u Q I rx ry zz20
 refine Dw zz20 λa b μ R ra rb hc h' hq=>?_
 cases a with
 | D d =>
  cases d with
  | int i =>
   cases b with
   | D e =>
    cases e with
    | int j =>
     cases RelA.int ra;cases RelA.int rb
     exact h pins s σ H _ _ v u Q I rx ry ⟨_,_,rfl,rfl,h'.1,hq _ _ _ _ Kp.refl hc (Og (hg _ _ _)) h'.2⟩
    | _=>exact False.elim h'
   | _=>exact False.elim h'
  | _=>exact False.elim h'
 | _=>exact False.elim h'
theorem W5{f:Value->Value->Sem Value}{g:Int->Int->V}{g':Int->Int->PyData}(h:Ij X f (Ym g))(hg:∀i j H,Dk X.K H (g' i j) (g i j)):VOp X f (aI0 g'):=by
 intro pins s σ H x y v u Q I rx ry zz21
 refine Dw zz21 λa b μ R ra rb hc h' hq=>?_
 cases a with
 | D d =>
  cases d with
  | int i =>
   cases b with
   | D e =>
    cases e with
    | int j =>
     cases RelA.int ra;cases RelA.int rb
     exact h pins s σ H _ _ v u Q I rx ry ⟨_,_,rfl,rfl,hq _ _ _ _ Kp.refl hc (Og (hg _ _ _)) h'⟩
    | _=>exact False.elim h'
   | _=>exact False.elim h'
  | _=>exact False.elim h'
 | _=>exact False.elim h'
abbrev Qhu:A2:=aI0 λi j=>.int (i - j)
abbrev Qd1:A2:=aI CDiv λi j=>.int (i / j)
abbrev Qhv:A2:=aI (λ_ j=>0 < j) λi j=>.int (i % j)
abbrev Qhw:A2:=aI CPow λi j=>.int (i ^ j.toNat)
abbrev aLt:A2:=aI0 λi j=>.bool (decide (i < j))
abbrev aGt:A2:=aI0 λi j=>.bool (decide (j < i))
abbrev aGe:A2:=aI0 λi j=>.bool (decide (j<=i))
theorem Qd2:VOp X (binaryOp .Sub) Qhu:=W5 Qal λ_ _ _=>Fu
theorem Tw:VOp X (binaryOp .FloorDiv) Qd1:=o_I Wf λ_ _ _=>Fu
theorem Ga:VOp X (binaryOp .Mod) Qhv:=o_I Qan λ_ _ _=>Fu
theorem Qd3:VOp X (binaryOp .Pow) Qhw:=o_I Qao λ_ _ _=>Fu
theorem Mp:VOp X (compareOp .Lt) aLt:=W5 Qdg λ_ _ _=>Mm
theorem Qd4:VOp X (compareOp .Gt) aGt:=W5 Qdh λ_ _ _=>Mm
theorem Rk:VOp X (compareOp .GtE) aGe:=W5 Qdi λ_ _ _=>Mm
def Qhx:A2:=λx y μ R=>match x,y with
 | .D (.int i),.D (.int j)=>CMul i j/\R (.D (.int (i * j))) μ
 | .D (.str z),.D (.int n)=>(n=0\/n=1)/\R (.D (.str (if n=0 then Str.empty else z))) μ
 | _,_=>False
theorem Ir:VOp X (binaryOp .Mult) Qhx:=by
 intro pins s σ H x y v u Q I rx ry zz22
 refine Dw zz22 λa b μ R ra rb hc h hq=>?_
 cases a with
 | D d =>
  cases d with
  | int i =>
   cases b with
   | D e =>
    cases e with
    | int j =>
     cases RelA.int ra;cases RelA.int rb
     exact Qam pins s σ H _ _ v u Q I rx ry ⟨_,_,rfl,rfl,h.1,hq _ _ _ _ Kp.refl hc C1 h.2⟩
    | _=>exact False.elim h
   | _=>exact False.elim h
  | str z =>
   cases b with
   | D e =>
    cases e with
    | int j =>
     cases RelA.str ra;cases RelA.int rb
     exact Li pins s σ H _ _ v u Q I rx ry ⟨_,_,rfl,rfl,h.1,hq _ _ _ _ Kp.refl hc Fv h.2⟩
    | _=>exact False.elim h
   | _=>exact False.elim h
  | _=>exact False.elim h
 | _=>exact False.elim h
def Qa9:A2:=λx y μ R=>match x,y with
 | .D (.int i),.D (.int j)=>R (.D (.int (i+j))) μ
 | .D (.str i),.D (.str j)=>i.length+j.length<=sizeLine/\R (.D (.str (i++j))) μ
 | .D (.tuple i),.D (.tuple j)=>i.length+j.length<=sizeLine/\R (.D (.tuple (i++j))) μ
 | .R i,.R j=>opt (μ i) λm=>opt (μ j) λn=>match m,n with
  | .lst xs,.lst ys=>xs.length+ys.length<=sizeLine/\∀p,μ p=none->R (.R p) (Ar μ p (.lst (xs++ys)))
  | _,_=>False
 | _,_=>False
theorem Qhy{K:PySem.W.Frag}{pins:List (Addr×Obj)}{σ:St}{H:Hp}{s:Shared}{v u:Value}{x y:V}{ds es:List PyData}{Q:VK}(hK:X.K=K)(I:Inv X pins σ H s)(rx:B4 x v)(ry:B4 y u)(hx:Dk K H (.tuple ds) x)(hy:Dk K H (.tuple es) y)
  (hz:ds.length+es.length<=sizeLine) (q:∀z H',Kp H H'->(∀ μ,Cn K μ H->Cn K μ H')->Dk K H' (.tuple (ds++es)) z->Q z H'):wpAny (model X.prog X.w) X.A (binaryOp .Add v u) (EP X pins σ Q) X.xe s:=by
 subst hK
 obtain⟨a,xs,rfl,ha,hxs⟩:=hx.tup
 obtain⟨b,ys,rfl,hb,hys⟩:=hy.tup
 cases rx
 cases ry
 obtain⟨its,r1,p1,_⟩:=I.tuple ha.sq
 obtain⟨its2,r2,p2,_⟩:=I.tuple hb.sq
 have l1:=hxs.length
 have l2:=hys.length
 by_cases hv:xs=[]
 ·subst hv
  have e:its=[]:=r1.nil_iff.mpr rfl
  subst e
  have ed:ds=[]:=List.length_eq_zero_iff.mp l1.symm
  subst ed
  obtain⟨⟨cls,dd,data,sl⟩,ho,hc,n,hd⟩:=id p1
  obtain⟨⟨cls2,dd2,data2,sl2⟩,ho2,hc2,n2,hd2⟩:=id p2
  simp only at hc hd hc2 hd2
  subst hc hd hc2 hd2
  exact concat_meets ⟨_,ho,rfl⟩ ⟨_,ho2,rfl⟩ noFill_tuple_add seq_tuple_add PySem.F.slot_tuple_add PySem.F.entry_tuple_add (PySem.F.args_tuple_add_2 _ _)
   (tuple_addW0 a b [].toArray its2.toArray n n2 dd dd2 sl sl2 rfl) ⟨ho,ho2,.ref b,H,I,rfl,q _ _ Kp.refl (λ_ c=>c) (by simpa using hy)⟩
 ·refine HT.cat_tup p1 p2 (λz=>hv (r1.nil_iff.mp z)) (λz=>⟨.ref a,H,I,rfl,q _ _ Kp.refl (λ_ c=>c) ?_⟩) (λz=>?_) (by rw [<- r1.length,<- r2.length,l1,l2];exact hz)
  ·have e:ys=[]:=r2.nil_iff.mp z
   subst e
   have ed:es=[]:=List.length_eq_zero_iff.mp l2.symm
   subst ed
   simpa using hx
  ·have hf:=I.hok.fresh (Nat.le_refl s.heap.objs.size)
   refine⟨.ref s.heap.objs.size,_,I.laid (t':=s.toks) (o:=.tup (xs++ys)) (λb ob q=>Heap.get?_push_of_some _ q) (Nat.le_refl _) ?_,rfl,q _ _ (Kp.new hf _) (λ_ c=>c.over hf) ?_⟩
   ·exact⟨by rw [List.length_append,l1,l2];exact hz,_,r1.append r2,IsTup.new _ _⟩
   ·exact Oe Cq (Ao.kp (Kp.new hf _) _ _ (hxs.append hys))
theorem Bl:VOp X (binaryOp .Add) Qa9:=by
 intro pins s σ H x y v u Q I rx ry zz23
 refine Dw zz23 λa b μ R ra rb hc h hq=>?_
 cases a with
 | D d =>
  cases d with
  | int i =>
   cases b with
   | D e =>
    cases e with
    | int j =>
     cases RelA.int ra;cases RelA.int rb
     exact Qak pins s σ H _ _ v u Q I rx ry ⟨_,_,rfl,rfl,hq _ _ _ _ Kp.refl hc C1 h⟩
    | _=>exact False.elim h
   | _=>exact False.elim h
  | str z =>
   cases b with
   | D e =>
    cases e with
    | str j =>
     cases RelA.str ra;cases RelA.str rb
     exact N7 pins s σ H _ _ v u Q I rx ry ⟨_,_,rfl,rfl,h.1,hq _ _ _ _ Kp.refl hc Fv h.2⟩
    | _=>exact False.elim h
   | _=>exact False.elim h
  | tuple ds =>
   cases b with
   | D e =>
    cases e with
    | tuple es=>exact Qhy rfl I rx ry ra rb h.1 λz H' S c hd=>hq _ _ _ _ S (c _ hc) (Og hd) h.2
    | _=>exact False.elim h
   | _=>exact False.elim h
  | _=>exact False.elim h
 | R i =>
  cases b with
  | R j =>
   obtain⟨m,ei,h⟩:=Bj h
   obtain⟨n,ej,h⟩:=Bj h
   cases m with
   | lst xs =>
    cases n with
    | lst ys =>
     cases (show x=.ref i from ra);cases (show y=.ref j from rb)
     obtain⟨o,ho,vs,rfl,rs⟩:=hc i _ ei
     obtain⟨o',ho',ws,rfl,rs'⟩:=hc j _ ej
     exact Qaz pins s σ H _ _ v u Q I rx ry ⟨i,j,vs,ws,rfl,rfl,ho,ho',by rw [<- rs.length,<- rs'.length];exact h.1,λp hp=>hq _ _ _ _ (Kp.new hp _) (hc.new hp (Cz (rs.append rs'))) Di (h.2 p (hc.none hp))⟩
    | _=>exact False.elim h
   | _=>exact False.elim h
  | _=>exact False.elim h
 | _=>exact False.elim h
end
section
variable {X:Cx}{a b c:Expr}{ta tb tc:AE}{pos:Pos}
def aIx:A2:=λx y μ R=>match x,y with
 | .D (.str z),.D (.int i)=>z.length<=sizeLine/\opt (atI z.cps.toList i) λc=>R (.D (.str ⟨#[c]⟩)) μ
 | .D (.tuple ds),.D (.int i)=>opt (atI ds i) λd=>R (.D d) μ
 | .D (.list ds),.D (.int i)=>opt (atI ds i) λd=>R (.D d) μ
 | .R a,.D (.int i)=>opt (μ a) λm=>match m with
  | .lst xs=>opt (atI xs i) λw=>R w μ
  | _=>False
 | _,_=>False
theorem W6{x y:AV}{μ:M}{R:AV->M->Prop}(h:aIx x y μ R):∃i,y=.D (.int i):=by
 have no:(∀d,aIx (.D d) y μ R->False)->(∀a,aIx (.R a) y μ R->False)->False:=λh1 h2=>by
  cases x with
  | D d=>exact h1 d h
  | R a=>exact h2 a h
  | _=>exact h
 cases y with
 | D e =>
  cases e with
  | int i=>exact⟨i,rfl⟩
  | _=>exact(no (λd q=>by cases d <;> exact q) λa q=>q).elim
 | _=>exact(no (λd q=>by cases d <;> exact q) λa q=>q).elim
theorem Ay:VIx X aIx:=by
 intro value slice pins s σ H x y v u Q I rx ry zq hs
 refine Dw zq λa b μ R ra rb hc h hq=>?_
 obtain⟨i,rfl⟩:=W6 h
 cases RelA.int rb
 cases a with
 | D d =>
  cases d with
  | str z =>
   cases RelA.str ra
   obtain⟨h1,h⟩:=h
   obtain⟨c,e,h⟩:=Bj h
   exact Qax value slice pins s σ H _ _ v u Q I rx ry ⟨_,_,_,rfl,rfl,h1,e,hq _ _ _ _ Kp.refl hc Fv h⟩ hs
  | tuple ds =>
   obtain⟨d,ed,h⟩:=Bj h
   obtain⟨p,vs,rfl,hp,rs⟩:=RelA.tup ra
   obtain⟨z,ez,rz⟩:=rs.atI ed
   exact Qaw value slice pins s σ H _ _ v u Q I rx ry ⟨_,_,_,_,rfl,rfl,hp.sq,ez,hq _ _ _ _ Kp.refl hc (Og rz) h⟩ hs
  | list ds =>
   obtain⟨d,ed,h⟩:=Bj h
   obtain⟨p,vs,rfl,hp,rs⟩:=RelA.lst ra
   obtain⟨z,ez,rz⟩:=rs.atI ed
   exact Po value slice pins s σ H _ _ v u Q I rx ry ⟨_,_,_,_,rfl,rfl,hp.sq,ez,hq _ _ _ _ Kp.refl hc (Og rz) h⟩ hs
  | _=>exact False.elim h
 | R a =>
  obtain⟨m,em,h⟩:=Bj h
  cases m with
  | lst xs =>
   obtain⟨w,ew,h⟩:=Bj h
   obtain⟨o,ho,vs,rfl,rs⟩:=hc _ _ em
   cases (show x=.ref _ from ra)
   obtain⟨z,ez,rz⟩:=rs.atI ew
   exact Po value slice pins s σ H _ _ v u Q I rx ry ⟨_,_,_,_,rfl,rfl,Ec.of ho,ez,hq _ _ _ _ Kp.refl hc rz h⟩ hs
  | _=>exact False.elim h
 | _=>exact False.elim h
theorem Ak{r:A2}(hr:VIx X r)(ha:VE X a ta)(hb:VE X b tb)(hs:Pn b:=by intro _ _;rfl):VE X (.Subscript a b pos) (Wz r ta tb):=(Qdq hr ha hb hs).imp λ_ _ _ h=>Ht h
def W7:AO:=λ_ μ R=>R none μ
def Qd6(t:AE):AO:=fun τ μ R=>t τ μ λx μ1=>match x with
 | .D (.int i)=>R (some i) μ1
 | _=>False
theorem Fd:VO X none W7:=Wl.imp fun σ H Q zz24=>Ce zz24 fun τ μ R hs hc h hq=>hq _ _ _ Kp.refl hc h
theorem Fe(h:VE X a ta):VO X (some a) (Qd6 ta):=(Wm h).imp fun σ H Q zz25=>Ce zz25 fun τ μ R hs hc h hq=>⟨τ,μ,_,hs,hc,h,λx μ1 v H1 S1 c1 rx hx=>by
 split at hx
 ·cases RelA.int rx
  exact⟨_,rfl,hq _ _ _ S1 c1 hx⟩
 ·exact hx.elim⟩
def aSl(x:AV)(lo hi:Option Int):M->(AV->M->Prop)->Prop:=fun μ R=>match x with
 | .D (.str z)=>z.length<=sizeLine/\R (.D (.str (Txt.slice z lo hi))) μ
 | .D (.tuple ds)=>R (.D (.tuple (To ds lo hi))) μ
 | .C _=>False
 | x=>opt (items μ x) λxs=>∀p,μ p=none->R (.R p) (Ar μ p (.lst (Qa6 xs lo hi)))
def cSl(K:PySem.W.Frag):V->Option Int->Option Int->Hp->VK->Prop:=λx lo hi H Q=>∃a μ R,RelA K H a x/\Cn K μ H/\aSl a lo hi μ R/\LV K H R Q
theorem Qh0:SlR X (cSl X.K):=by
 intro pins s σ H x v vl vu lo hi sl Q I rx hs pl pu ⟨a,μ,R,ra,hc,h,hq⟩
 unfold aSl at h
 split at h
 ·cases RelA.str ra
  exact Qa0 pins s σ H _ v vl vu lo hi sl Q I rx hs pl pu ⟨_,rfl,h.1,hq _ _ _ _ Kp.refl hc Fv h.2⟩
 ·rename_i ds
  by_cases hw:HT.sIx ds.length 0 lo=0/\HT.sIx ds.length ds.length hi=ds.length
  ·obtain⟨a,xs,rfl,ha,hx⟩:=RelA.tup ra
   cases rx
   obtain⟨its,r,ht,hz⟩:=I.tuple ha.sq
   have hlen:its.toArray.size=ds.length:=by rw [List.size_toArray,<- r.length,hx.length]
   refine⟨"tuple",_,PyProof.Rows.slot_tuple_getitem.lookup,ht.typeIs,?_⟩
   refine HT.getItem_tuple_all ht hs pl pu (by rw [hlen];exact hw) ⟨.ref a,H,I,rfl,hq _ _ _ _ Kp.refl hc ?_ h⟩
   rw [Tp hw]
   exact ra
  ·obtain⟨a,xs,rfl,ha,hx⟩:=RelA.tup ra
   refine Qav pins s σ H (.ref a) v vl vu lo hi sl Q I rx hs pl pu ⟨a,xs,rfl,ha.sq,by rw [hx.length];exact hw,λp hp=>?_⟩
   exact hq _ _ _ _ (Kp.new hp _) (hc.over hp) (Oh Cq (Ao.kp (Kp.new hp _) _ _ (hx.cut lo hi))) h
 ·exact h.elim
 ·rename_i n1 n2 n3
  obtain⟨xs,ex,h⟩:=Bj h
  ·obtain⟨p,vs,rfl,hp,rs⟩:=B3 hc ra ex
   rcases hp with⟨_,hp⟩ | ⟨ht,hp⟩
   ·exact Wn pins s σ H _ v vl vu lo hi sl Q I rx hs pl pu ⟨_,_,rfl,hp,λp hp=>hq _ _ _ _ (Kp.new hp _) (hc.new hp (Cz (rs.cut lo hi))) Di (h p (hc.none hp))⟩
   ·exfalso
    unfold Rj at ht
    split at ht
    ·exact n2 _ rfl
    ·exact n3 _ rfl
    ·cases ht
def vSl(te:AE)(tl th:AO):AE:=fun τ μ R=>te τ μ λx μ1=>tl τ μ1 λl μ2=>th τ μ2 λu μ3=>aSl x l u μ3 R
theorem D3{lo hi:Option Expr}{tl th:AO}{p2:Pos}(he:VE X a ta)(hl:VO X lo tl)(hu:VO X hi th):VE X (.Subscript a (.Slice lo hi none p2) pos) (vSl ta tl th) :=
 (Td Qh0 he hl hu).imp fun σ H Q zz26=>Ce zz26 fun τ μ R hs hc h hq=>⟨τ,μ,_,hs,hc,h,λx μ1 v H1 S1 c1 rx hx=>⟨τ,μ1,_,hs.kp S1,c1,hx,λl μ2 H2 S2 c2 hl=>⟨τ,μ2,_,hs.kp (S1.trans S2),c2,hl,λu μ3 H3 S3 c3 hu =>
  ⟨x,μ3,R,rx.kp (S2.trans S3),c3,hu,hq.kp (S1.trans (S2.trans S3))⟩⟩⟩⟩
variable {x:Str}{p:Pos}{e:Expr}{es:List Expr}{t:AA}{fid T:String}{r:AC}
def vCB(r:AC)(t:AA):AE:=fun τ μ R=>t τ μ λxs μ1=>r xs μ1 R
theorem Ps{K:PySem.W.Frag}{n:Nat}{r:AC}{t:AA}{σ:St}{H:Hp}{Q:VK}(h:cE K (vCB r t) σ H Q):tCB (cC K r) (cA K n t) σ H Q:=by
 obtain⟨τ,μ,R,hs,hc,h,hq⟩:=h
 exact⟨τ,μ,_,hs,hc,h,λxs μ1 vs H1 S1 c1 rs hl hx=>⟨xs,μ1,R,rs,c1,hx,hq.kp S1⟩⟩
theorem Ba(hc:VCall X (.builtin fid) r)(hg:Gl X x)(hm:X.mg x=none)(hv:bootBuiltins x=some (.builtin fid))(ha:VA X (e :: es) t)(hn:x ≠ "__name__" := by decide) (hd:(x==("__debug__" : Str))=false:=by decide)
  (hst:starEach (e :: es) X.env=(false,eval e X.env) :: starEach es X.env:=by rfl) (hpl:(backTo pos (starEach es X.env)).any (·.1)=false:=by rfl):VE X (.Call (.Name x p) (e :: es) [] pos) (vCB r t) :=
 (Tb hc hg hm hv ha hn hd hst hpl).imp λ_ _ _ h=>Ps h
theorem Az(hc:VCall X (.type T) r)(hg:Gl X x)(hm:X.mg x=none)(hv:bootBuiltins x=some (.type T))(ha:VA X (e :: es) t)(hn:x ≠ "__name__" := by decide) (hd:(x==("__debug__" : Str))=false:=by decide)
  (hst:starEach (e :: es) X.env=(false,eval e X.env) :: starEach es X.env:=by rfl) (hpl:(backTo pos (starEach es X.env)).any (·.1)=false:=by rfl):VE X (.Call (.Name x p) (e :: es) [] pos) (vCB r t) :=
 (Rb hc hg hm hv ha hn hd hst hpl).imp λ_ _ _ h=>Ps h
def Qd7:AC:=λxs μ R=>match xs with
 | [.D (.str z)]=>z.length<=sizeLine/\R (.D (.int z.length)) μ
 | [.D (.tuple ds)]=>R (.D (.int ds.length)) μ
 | [.D (.list ds)]=>R (.D (.int ds.length)) μ
 | [.R a]=>opt (μ a) λm=>match m with
  | .lst ys=>R (.D (.int ys.length)) μ
  | .dk kvs=>R (.D (.int kvs.length)) μ
  | _=>False
 | _=>False
theorem Co:VCall X (.builtin "len") Qd7:=by
 intro pins s σ H xs us Q I r zz27
 refine Ce zz27 λas μ R ra hc h hq=>?_
 have no:∀{y:AV} {t:List AV} {x:AV},Qd7 (x :: y :: t) μ R->False:=λ{y t x} q=>by
  cases x with
  | D d=>cases d <;> exact q
  | _=>exact q
 cases ra with
 | nil=>exact False.elim h
 | @cons x v xs' vs' r1 r2 =>
  cases r2 with
  | cons _ _=>exact(no h).elim
  | nil =>
   cases x with
   | D d =>
    cases d with
    | str z =>
     cases RelA.str r1
     exact Le pins s σ H _ us Q I r ⟨_,rfl,h.1,hq _ _ _ _ Kp.refl hc C1 h.2⟩
    | tuple ds =>
     obtain⟨p,vs,rfl,hp,rs⟩:=RelA.tup r1
     refine Ee pins s σ H _ us Q I r ⟨p,vs,rfl,.inr hp.sq,hq _ _ _ _ Kp.refl hc ?_ h⟩
     rw [rs.length];exact C1
    | list ds =>
     obtain⟨p,vs,rfl,hp,rs⟩:=RelA.lst r1
     refine Ee pins s σ H _ us Q I r ⟨p,vs,rfl,.inl hp.sq,hq _ _ _ _ Kp.refl hc ?_ h⟩
     rw [rs.length];exact C1
    | _=>exact False.elim h
   | R a =>
    obtain⟨m,em,h⟩:=Bj h
    cases (show _=V.ref _ from r1)
    obtain⟨o,ho,rm⟩:=hc _ _ em
    cases m with
    | lst ys =>
     obtain⟨vs,rfl,rs⟩:=rm
     refine Ee pins s σ H _ us Q I r ⟨_,vs,rfl,.inl (Ec.of ho),hq _ _ _ _ Kp.refl hc ?_ h⟩
     rw [rs.length];exact C1
    | dk kvs =>
     obtain⟨vs,rfl,rs⟩:=rm
     refine Rg pins s σ H _ us Q I r ⟨_,vs,rfl,ho,hq _ _ _ _ Kp.refl hc ?_ h⟩
     rw [Paired.length rs];exact C1
    | _=>exact False.elim h
   | _=>exact False.elim h
def Ln:AC:=λxs μ R=>match xs with
 | [.D (.tuple ds)]=>R (.D (.tuple ds)) μ
 | [.C _]=>False
 | [y]=>opt (items μ y) λys=>opt (dats ys) λds=>R (.D (.tuple ds)) μ
 | _=>False
theorem On{x:AV}{t:List AV}{μ:M}{R:AV->M->Prop}(h:Ln (x :: t) μ R):t=[]:=by
 cases t with
 | nil=>rfl
 | cons y t =>
  refine False.elim ?_
  cases x with
  | D d=>cases d <;> exact h
  | _=>exact h
theorem Rl{x:AV}{μ:M}{R:AV->M->Prop}(ht:Rj x=false)(h:Ln [x] μ R):opt (items μ x) λys=>opt (dats ys) λds=>R (.D (.tuple ds)) μ:=by
 cases x with
 | D d=>cases d <;> first | exact h | cases ht
 | C ds=>cases ht
 | _=>exact h
theorem Tx{x:AV}{μ:M}{R:AV->M->Prop}(ht:Rj x=true)(h:Ln [x] μ R):∃ds,x=.D (.tuple ds)/\R (.D (.tuple ds)) μ:=by
 cases x with
 | D d =>
  cases d with
  | tuple ds=>exact⟨ds,rfl,h⟩
  | _=>cases ht
 | C ds=>exact False.elim h
 | _=>cases ht
theorem B6:VCall X (.type "tuple") Ln:=by
 intro pins s σ H xs us Q I r zz28
 refine Ce zz28 λas μ R ra hc h hq=>?_
 cases ra with
 | nil=>exact False.elim h
 | @cons y v ys' vs' r1 r2 =>
  have hn:=On h
  subst hn
  cases r2
  cases ht:Rj y with
  | true =>
   obtain⟨ds,rfl,h⟩:=Tx ht h
   obtain⟨p,vs,rfl,hp,rs⟩:=RelA.tup r1
   exact Fk pins s σ H _ us Q I r ⟨p,vs,rfl,.inr ⟨hp.sq,hq _ _ _ _ Kp.refl hc r1 h⟩⟩
  | false =>
   obtain⟨ys,ey,h⟩:=Bj (Rl ht h)
   obtain⟨ds,ed,h⟩:=Bj h
   obtain⟨p,vs,rfl,hp,rs⟩:=B3 hc r1 ey
   rcases hp with⟨_,hp⟩ | ⟨ht2,_⟩
   ·exact Fk pins s σ H _ us Q I r ⟨p,vs,rfl,.inl ⟨hp,λl hl=>hq _ _ _ _ (Kp.new hl _) (hc.over hl) (Oh Cq (Ao.kp (Kp.new hl _) _ _ (rs.dats ed))) h⟩⟩
   ·rw [ht]at ht2;cases ht2
def Yq:AC:=λxs μ R=>match xs with
 | [y]=>opt (items μ y) λys=>∀p,μ p=none->R (.R p) (Ar μ p (.lst ys))
 | _=>False
theorem Is:VCall X (.type "list") Yq:=by
 intro pins s σ H xs us Q I r zz29
 refine Ce zz29 λas μ R ra hc h hq=>?_
 unfold Yq at h
 split at h
 ·cases ra with
  | cons r1 r2 =>
   cases r2
   obtain⟨ys,ey,h⟩:=Bj h
   obtain⟨p,vs,rfl,hp,rs⟩:=Gu hc r1 ey
   exact Lf pins s σ H _ us Q I r ⟨p,vs,rfl,hp,λl hl=>hq _ _ _ _ (Kp.new hl _) (hc.new hl (Cz (rs))) Di (h l (hc.none hl))⟩
 ·exact h.elim
def bools:List AV->Option (List Bool)
 | []=>some []
 | .D (.bool b) :: r=>match bools r with
  | some bs=>some (b :: bs)
  | none=>none
 | _ :: _=>none
theorem Kh:∀(bs:List Bool),bools (bs.map λb=>.D (.bool b))=some bs
 | []=>rfl
 | b :: bs=>by simp only [List.map_cons,bools,Kh bs]
theorem A9.bools{K:PySem.W.Frag}{H:Hp}{xs:List AV}{vs:List V}{bs:List Bool}(h:A9 K H xs vs)(e:L2.bools xs=some bs):vs=bs.map V.bl:=by
 induction h generalizing bs with
 | nil=>cases e;rfl
 | @cons x v xs vs r t ih =>
  cases x with
  | D d =>
   cases d with
   | bool b =>
    simp only [L2.bools]at e
    cases q:L2.bools xs with
    | none=>rw [q]at e;cases e
    | some cs=>rw [q]at e;cases e;cases RelA.bl r;rw [ih q];rfl
   | _=>simp [L2.bools]at e
  | _=>simp [L2.bools]at e
def Qba:AC:=λxs μ R=>match xs with
 | [.R a]=>opt (μ a) λm=>match m with
  | .lst ys=>opt (bools ys) λbs=>R (.D (.bool (bs.all id))) μ
  | _=>False
 | _=>False
theorem Qd8(hcm:X.calm=true):VCall X (.builtin "all") Qba:=by
 intro pins s σ H xs us Q I r zz30
 refine Ce zz30 λas μ R ra hc h hq=>?_
 unfold Qba at h
 split at h
 ·cases ra with
  | cons r1 r2 =>
   cases r2
   obtain⟨m,em,h⟩:=Bj h
   split at h
   ·obtain⟨bs,eb,h⟩:=Bj h
    obtain⟨o,ho,vs,rfl,rs⟩:=hc _ _ em
    cases (show _=V.ref _ from r1)
    exact Tm hcm pins s σ H _ us Q I r ⟨_,bs,rfl,Ec.of (by rw [ho,rs.bools eb]),hq _ _ _ _ Kp.refl hc El h⟩
   ·exact h.elim
 ·exact h.elim
def Qja:AC:=λxs μ R=>match xs with
 | [.D (.int i),.D (.int j)]=>R (.D (.int (if j > i then j else i))) μ
 | _=>False
def Yr:AC:=λxs μ R=>match xs with
 | [.D (.int i),.D (.int j)]=>R (.D (.int (if j < i then j else i))) μ
 | _=>False
theorem Qbb(hcm:X.calm=true):VCall X (.builtin "min") Yr:=by
 intro pins s σ H xs us Q I r zz32
 refine Ce zz32 λas μ R ra hc h hq=>?_
 unfold Yr at h
 split at h
 ·cases ra with
  | cons r1 r2 =>
   cases r2 with
   | cons r2 r3 =>
    cases r3
    cases RelA.int r1;cases RelA.int r2
    exact Q9 hcm pins s σ H _ us Q I r ⟨_,_,rfl,hq _ _ _ _ Kp.refl hc C1 h⟩
 ·exact h.elim
variable {o:Expr}{to:AE}{name:Str}{apos cpos:Pos}{m:AV->AC}
def Mq(μ:M):AV->Prop
 | .R a=>opt (μ a) λm=>match m with
  | .lst _=>True
  | _=>False
 | .D (.list _)=>True
 | _=>False
def Ys:AV->Prop
 | .D (.str _)=>True
 | _=>False
theorem Mq.ty{H:Hp}{μ:M}{x:AV}{v:V}(hc:Cn X.K μ H)(rx:RelA X.K H x v)(h:Mq μ x):tyV X.K "list" v H:=by
 unfold Mq at h
 split at h
 ·obtain⟨m,e,h⟩:=Bj h
  split at h
  ·obtain⟨o,ho,vs,rfl,_⟩:=hc _ _ e
   cases (show v=.ref _ from rx)
   exact .inl ⟨rfl,vs,Ec.of ho⟩
  ·exact h.elim
 ·obtain⟨a,xs,rfl,q,_⟩:=RelA.lst rx
  exact .inl ⟨rfl,xs,q.sq⟩
 ·exact h.elim
def vBL(m:AV->AC)(to:AE)(t:AA):AE:=fun τ μ R=>to τ μ λx μ1=>Mq μ1 x/\t τ μ1 λxs μ2=>m x xs μ2 R
def vBS(m:AV->AC)(to:AE)(t:AA):AE:=fun τ μ R=>to τ μ λx μ1=>Ys x/\t τ μ1 λxs μ2=>m x xs μ2 R
theorem Em(slot:Slot "list" name fid) (hty:typeOf (.builtin fid)=pure (.type "method_descriptor")) (hm:VMt X fid m) (ho:VE X o to) (ha:VA X (e :: es) t)
  (hbase:attributeBase o name X.env (eval o X.env)=eval o X.env:=by rfl)
  (hfew:((backTo cpos (starEach (e :: es) X.env)).all (λx=>!x.1) && (backToKw cpos (keywordEach [] X.env)).all (λx=>x.1.isSome)
   && decide ((e :: es).length+([]:List Keyword).length+(if([]:List Keyword).isEmpty then 0 else 1) < 30))=true:=by rfl)
  (hline:(apos.endLine==cpos.line)=true:=by rfl) (hs:starEach (e :: es) X.env=(false,eval e X.env) :: starEach es X.env:=by rfl) (hplain:(backTo cpos (starEach es X.env)).any (·.1)=false:=by rfl) :
  VE X (.Call (.Attribute o name apos) (e :: es) [] cpos) (vBL m to t) :=
 (Yo PySem.F.plainAttrs_list slot hty hm ho ha hbase hfew hline hs hplain).imp fun σ H Q zz34=>Ce zz34 fun τ μ R hs hc h hq=>⟨τ,μ,_,hs,hc,h,λx μ1 v H1 S1 c1 rx hx=>⟨hx.1.ty c1 rx,τ,μ1,_,hs.kp S1,c1,hx.2,λxs μ2 vs H2 S2 c2 rs hl hxs =>
  ⟨x,xs,μ2,R,rx.kp S2,rs,c2,hxs,hq.kp (S1.trans S2)⟩⟩⟩
theorem Ki(slot:Slot "str" name fid) (hty:typeOf (.builtin fid)=pure (.type "method_descriptor")) (hm:VMt X fid m) (ho:VE X o to) (ha:VA X (e :: es) t)
  (hbase:attributeBase o name X.env (eval o X.env)=eval o X.env:=by rfl)
  (hfew:((backTo cpos (starEach (e :: es) X.env)).all (λx=>!x.1) && (backToKw cpos (keywordEach [] X.env)).all (λx=>x.1.isSome)
   && decide ((e :: es).length+([]:List Keyword).length+(if([]:List Keyword).isEmpty then 0 else 1) < 30))=true:=by rfl)
  (hline:(apos.endLine==cpos.line)=true:=by rfl) (hs:starEach (e :: es) X.env=(false,eval e X.env) :: starEach es X.env:=by rfl) (hplain:(backTo cpos (starEach es X.env)).any (·.1)=false:=by rfl) :
  VE X (.Call (.Attribute o name apos) (e :: es) [] cpos) (vBS m to t) :=
 (Yo PySem.F.plainAttrs_str slot hty hm ho ha hbase hfew hline hs hplain).imp fun σ H Q zz35=>Ce zz35 fun τ μ R hs hc h hq=>⟨τ,μ,_,hs,hc,h,λx μ1 v H1 S1 c1 rx hx=>⟨by
   obtain⟨hx,_⟩:=hx
   unfold Ys at hx
   split at hx
   ·cases RelA.str rx;rfl
   ·exact hx.elim,τ,μ1,_,hs.kp S1,c1,hx.2,λxs μ2 vs H2 S2 c2 rs hl hxs =>
  ⟨x,xs,μ2,R,rx.kp S2,rs,c2,hxs,hq.kp (S1.trans S2)⟩⟩⟩
def Lo:AV->AC:=λx xs μ R=>match x,xs with
 | .R a,[y]=>opt (μ a) λm=>match m with
  | .lst ys=>ys.length < sizeLine/\R (.D .none) (Ar μ a (.lst (ys++[y])))
  | _=>False
 | _,_=>False
theorem Cr:VMt X "list.append" Lo:=by
 intro pins s σ H x xs v us Q I rx r zz36
 refine Dw zz36 λa as μ R ra rs hc h hq=>?_
 unfold Lo at h
 split at h
 ·rename_i a y
  obtain⟨m,ey,h⟩:=Bj h
  split at h
  ·cases rs with
   | cons r1 r2 =>
    cases r2
    obtain⟨o,ho,vs,rfl,rl⟩:=hc _ _ ey
    cases (show x=.ref a from ra)
    exact Kd pins s σ H _ _ v us Q I rx r ⟨a,vs,_,rfl,rfl,ho,by rw [<- rl.length];exact h.1,hq _ _ _ _ (Kp.put ho trivial _) (hc.put ho trivial (Cz (rl.append (.cons r1 .nil)))) Of h.2⟩
  ·exact h.elim
 ·exact h.elim
def Pt:AV->AC:=λx xs μ R=>match x,xs with
 | .R a,[.R b]=>opt (μ a) λm=>opt (μ b) λn=>match m,n with
  | .lst ys,.lst zs=>ys.length+zs.length<=sizeLine/\R (.D .none) (Ar μ a (.lst (ys++zs)))
  | _,_=>False
 | _,_=>False
theorem Mr:VMt X "list.extend" Pt:=by
 intro pins s σ H x xs v us Q I rx r zz37
 refine Dw zz37 λa as μ R ra rs hc h hq=>?_
 unfold Pt at h
 split at h
 ·rename_i a b
  obtain⟨m,ey,h⟩:=Bj h
  obtain⟨n,ez,h⟩:=Bj h
  split at h
  ·cases rs with
   | cons r1 r2 =>
    cases r2
    obtain⟨o,ho,vs,rfl,rl⟩:=hc _ _ ey
    obtain⟨o',ho',ws,rfl,rl'⟩:=hc _ _ ez
    cases (show x=.ref a from ra)
    cases (show _=V.ref b from r1)
    exact Rc pins s σ H _ _ v us Q I rx r ⟨a,b,vs,ws,rfl,rfl,ho,ho',by rw [<- rl.length,<- rl'.length];exact h.1,hq _ _ _ _ (Kp.put ho trivial _) (hc.put ho trivial (Cz (rl.append rl'))) Of h.2⟩
  ·exact h.elim
 ·exact h.elim
end
section
variable {X:Cx}{a b c:Expr}{ta tb tc:AE}{pos:Pos}
def kit(S T:String):Bool:=S==T || (S == "bool" && T == "int")
def tyA(μ:M):AV->Option String
 | .D .none=>some "NoneType"
 | .D (.bool _)=>some "bool"
 | .D (.int _)=>some "int"
 | .D (.str _)=>some "str"
 | .D (.list _)=>some "list"
 | .D (.tuple _)=>some "tuple"
 | .D (.dict _)=>none
 | .C _=>some "tuple"
 | .X _ _=>none
 | .R a=>match μ a with
  | some (.lst _)=>some "list"
  | some (.dk _)=>some "dict"
  | some (.dt _)=>some "dict"
  | some (.dd _)=>some "dict"
  | none=>none
def Qh2(T:String)(te:AE):AE:=fun τ μ R=>te τ μ λx μ1=>opt (tyA μ1 x) λS=>R (.D (.bool (kit S T))) μ1
def Kits(K:PySem.W.Frag)(T:String):Prop:=∀S∈["NoneType","bool","int","str","list","tuple","dict"],PySem.W.kitOne K (.type S) (.type T)=some (kit S T)
theorem Qbc{pins:List (Addr×Obj)}{σ:St}{H:Hp}{s:Shared}{E:Value->Shared->Prop}{Q:Value->Shared->Prop}{μ:M}{x:AV}{v:V}{u:Value}{S T:String}(I:Inv X pins σ H s)(hc:Cn X.K μ H)(rx:RelA X.K H x v)(r:B4 v u)(e:tyA μ x=some S)(hk:Kits X.K T)
  (h:∀tk,Q (.bool (kit S T)) { s with toks:=tk }):wpAny (model X.prog X.w) X.A (call (.builtin "isinstance") [u,.type T]) Q E s:=by
 unfold tyA at e
 split at e
 ·cases e;cases RelA.non rx;cases r;exact PySem.W.kia_one PySem.W.kitx_none I.kIn True.intro (hk _ (by decide)) (λz=>nomatch z) h
 ·cases e;cases RelA.bl rx;cases r;exact PySem.W.kia_one PySem.W.kitx_bool I.kIn True.intro (hk _ (by decide)) (λz=>nomatch z) h
 ·cases e;cases RelA.int rx;obtain⟨t,rfl⟩:=r;exact PySem.W.kia_one PySem.W.kitx_int I.kIn True.intro (hk _ (by decide)) (λz=>nomatch z) h
 ·cases e;cases RelA.str rx;obtain⟨t,rfl⟩:=r;exact PySem.W.kia_one PySem.W.kitx_str I.kIn True.intro (hk _ (by decide)) (λz=>nomatch z) h
 ·cases e
  obtain⟨a,vs,rfl,q,_⟩:=RelA.lst rx
  cases r
  obtain⟨_,_,⟨o,n,e1,e2,_⟩,_⟩:=I.list q.sq
  exact PySem.W.kia_one PySem.W.kitx_list I.kIn ⟨o,e1,e2⟩ (hk _ (by decide)) (λz=>nomatch z) h
 ·cases e
  obtain⟨a,vs,rfl,q,_⟩:=RelA.tup rx
  cases r
  obtain⟨_,_,⟨o,e1,e2,_⟩,_⟩:=I.tuple q.sq
  exact PySem.W.kia_one PySem.W.kitx_tuple I.kIn ⟨o,e1,e2⟩ (hk _ (by decide)) (λz=>nomatch z) h
 ·cases e
 ·cases e
  obtain⟨a,vs,rfl,q,_⟩:=rx
  cases r
  obtain⟨_,_,⟨o,e1,e2,_⟩,_⟩:=I.tuple (q H)
  exact PySem.W.kia_one PySem.W.kitx_tuple I.kIn ⟨o,e1,e2⟩ (hk _ (by decide)) (λz=>nomatch z) h
 ·cases e
 ·rename_i a
  cases (show v=.ref a from rx)
  cases r
  split at e
  ·rename_i xs ex
   cases e
   obtain⟨o,ho,vs,rfl,_⟩:=hc _ _ ex
   obtain⟨_,_,⟨o,n,e1,e2,_⟩,_⟩:=I.list (Ec.of ho)
   exact PySem.W.kia_one PySem.W.kitx_list I.kIn ⟨o,e1,e2⟩ (hk _ (by decide)) (λz=>nomatch z) h
  ·rename_i xs ex
   cases e
   obtain⟨o,ho,vs,rfl,_⟩:=hc _ _ ex
   obtain⟨_,_,ws,_,p⟩:=(show Ch X.prog X.w H s.heap a (.dK vs) from I.hok a _ ho)
   obtain⟨o,es,ep,h1,h2,_⟩:=p
   exact PySem.W.kia_one PySem.W.kitx_dict I.kIn ⟨o,h1,h2.1⟩ (hk _ (by decide)) (λz=>nomatch z) h
  ·rename_i xs ex
   cases e
   obtain⟨o,ho,vs,rfl,_⟩:=hc _ _ ex
   obtain⟨_,_,xs,_,o,es,ep,h1,h2,_⟩:=(show Ch X.prog X.w H s.heap a (.dT vs) from I.hok a _ ho)
   exact PySem.W.kia_one PySem.W.kitx_dict I.kIn ⟨o,h1,h2.1⟩ (hk _ (by decide)) (λz=>nomatch z) h
  ·rename_i xs ex
   cases e
   obtain⟨o,ho,vs,rfl,_⟩:=hc _ _ ex
   obtain⟨o,es,ep,h1,h2,_⟩:=(show Ch X.prog X.w H s.heap a (.dd vs) from I.hok a _ ho)
   exact PySem.W.kia_one PySem.W.kitx_dict I.kIn ⟨o,h1,h2.1⟩ (hk _ (by decide)) (λz=>nomatch z) h
  ·cases e
theorem Gv{T:String}{x:Str}{p p2:Pos}(hg:Gl X "isinstance") (hm:X.mg "isinstance" = none) (hg2:Gl X x) (hm2:X.mg x=none) (hv2:bootBuiltins x=some (.type T)) (hk:Kits X.K T) (he:VE X a ta)
  (hn2:x ≠ "__name__" := by decide) (hd2:(x==("__debug__" : Str))=false:=by decide)
  (hs:starEach [a,.Name x p2] X.env=(false,eval a X.env) :: starEach [.Name x p2] X.env:=by rfl) (hs2:starEach [.Name x p2] X.env=[(false,eval (.Name x p2) X.env)]:=by rfl) (hpl:(backTo pos (starEach [.Name x p2] X.env)).any (·.1)=false:=by rfl) :
  VE X (.Call (.Name "isinstance" p) [a,.Name x p2] [] pos) (Qh2 T ta):=by
 intro pins s σ H Q I zz40
 refine Ce zz40 fun τ μ R hst hc h hq=>?_
 refine wpAny_Call_Name_kw (C0 I hg hm boot_isinstance ?_)
 refine PyProof.Rows.callWith_builtin1 ?_ hs hpl
 rw [hs]
 refine Calls.spliced_cons (thn (he pins s σ H (λv H1=>∃x μ1 S,Kp H H1/\Cn X.K μ1 H1/\RelA X.K H1 x v/\tyA μ1 x=some S/\R (.D (.bool (kit S T))) μ1) I ⟨τ,μ,_,hst,hc,h,λx μ1 v H1 S1 c1 rx hx=>?_⟩) λu s1 zz701=>?_)
 ·obtain⟨S,e,hx⟩:=Bj hx
  exact⟨x,μ1,S,S1,c1,rx,e,hx⟩
 obtain⟨v,H1,I1,r1,x,μ1,S,S1,c1,rx,ty,q1⟩:=zz701
 rw [hs2]
 refine Calls.spliced_cons (C0 I1 hg2 hm2 hv2 (Calls.spliced_nil ?_) hn2 hd2)
 exact Qbc I1 c1 rx r1 ty hk λtk=>⟨.bl _,H1,I1.tok _,rfl,hq _ _ _ _ S1 c1 El q1⟩
abbrev ASp:=List AV->M->(AV->M->Prop)->Prop
def Hv(K:PySem.W.Frag)(n:Nat)(sp:ASp):Sp:=λvs H Q _=>∃xs μ R,xs.length=n/\A9 K H xs vs/\Cn K μ H/\sp xs μ R/\LV K H R Q
def VCal(P:Program)(w:World)(K:PySem.W.Frag)(mg:Str->Option Value)(base:Heap)(k:Nat)(x:Str)(ps:List Str)(sp:ASp):Prop:=Cal P w K mg base k x ps (Hv K ps.length sp)
def Qd9(n:Nat)(sp:ASp)(t:AA):AE:=fun τ μ R=>t τ μ λxs μ1=>sp xs μ1 R
variable {x:Str}{p:Pos}{e:Expr}{es:List Expr}{t:AA}{k:Nat}{ps:List Str}{sp:ASp}
theorem Al(F:VCal X.prog X.w X.K X.mg X.base k x ps sp)(hr:Room k X.A)(hg:Gl X x)(ha:VA X (e :: es) t)(hl:(e :: es).length=ps.length:=by rfl)(hdb:(x==("__debug__" : Str))=false:=by decide)
  (hst:starEach (e :: es) X.env=(false,eval e X.env) :: starEach es X.env:=by rfl) (hpl:(backTo pos (starEach es X.env)).any (·.1)=false:=by rfl):VE X (.Call (.Name x p) (e :: es) [] pos) (Qd9 ps.length sp t):=by
 obtain⟨g,gd,G,gb,gk,gm⟩:=F
 refine PE.imp (Wj (E:=E0) G hr hg gm gk gb .nil Qdv ha (hdb:=hdb) (he:=hst) (hpl:=hpl)) fun σ H Q zz41=>Ce zz41 fun τ μ R hs hc h hq=>?_
 exact⟨τ,μ,_,hs,hc,h,λxs μ1 vs H1 S1 c1 rs hn hx=>⟨xs,μ1,R,hn.trans hl,by rw [List.append_nil];exact rs,c1,hx,hq.kp S1⟩⟩
def Qea:AS:=λk _ _ _ τ μ=>k τ μ
def W8(t u:AS):AS:=λk r b c τ μ=>t (u k r b c) r b c τ μ
variable {st:Stmt}{rest:List Stmt}{s1 s2:AS}
theorem Bt:VSs X [] Qea:=V9.imp λD σ H zz43=>Me zz43 fun τ μ nk nr nb nc hs hc h hq=>hq.nx _ _ _ _ Kp.refl hs hc h
theorem Ag(h1:VS X st s1)(h2:VSs X rest s2):VSs X (st :: rest) (W8 s1 s2):=(Sw h1 h2).imp λD σ H zz44=>Me zz44 fun τ μ nk nr nb nc hs hc h hq =>
 ⟨τ,μ,_,_,_,_,hs,hc,h,⟨fun τ' μ' σ' H' S' hs' hc' h'=>⟨τ',μ',nk,nr,nb,nc,hs',hc',h',hq.kp S'⟩,hq.rt,hq.bk,hq.ct⟩⟩
theorem An(h1:VS X st s1):VSs X [st] s1:=Wa h1
def Qeb(te:AE):AS:=λk _ _ _ τ μ=>te τ μ λ_ μ1=>k τ μ1
theorem Cw(he:VE X a ta)(hs:swapsWith a none pos.line X.env=pure false:=by rfl):VS X (.Expr a pos) (Qeb ta):=(Wb he hs).imp λD σ H zz48=>Me zz48 fun τ μ nk nr nb nc hs hc h hq =>
 ⟨τ,μ,_,hs,hc,h,λx μ1 v H1 S1 c1 rx hx=>hq.nx _ _ _ _ S1 (hs.kp S1) c1 hx⟩
def Qh3(te:AE):AS:=λ_ r _ _ τ μ=>te τ μ r
theorem Bo(he:VE X a ta):VS X (.Return (some a) pos) (Qh3 ta):=(Qac he).imp λD σ H zz49=>Me zz49 fun τ μ nk nr nb nc hs hc h hq=>⟨τ,μ,_,hs,hc,h,hq.rt⟩
def Qh4(ct:AT)(t u:AS):AS:=λk r b c τ μ=>ct τ μ λx μ1=>brP x (t k r b c τ μ1) (u k r b c τ μ1)
theorem Cs{c:Expr}{a b:List Stmt}{tc:AT}(hc:VT X c tc)(ha:VSs X a s1)(hb:VSs X b s2):VS X (.If c a b pos) (Qh4 tc s1 s2):=(Qc9 hc ha hb).imp λD σ H zz51=>Me zz51 fun τ μ nk nr nb nc hs hc h hq =>
 ⟨τ,μ,_,hs,hc,h,λk μ1 H1 S1 c1 hk=>by
  rcases br_e hk with⟨rfl,hk'⟩ | ⟨rfl,hk'⟩
  ·exact⟨τ,μ1,nk,nr,nb,nc,hs.kp S1,c1,hk',hq.kp S1⟩
  ·exact⟨τ,μ1,nk,nr,nb,nc,hs.kp S1,c1,hk',hq.kp S1⟩⟩
def Et(i:Nat):AG:=λv τ μ R=>R (τ.set i (some v)) μ
theorem Am{i:Nat}{x:Str}(hN:X.N.Nodup)(hi:X.N[i]?=some x)(hx:Loc X.env.scope x)(hf:X.fn x=true\/X.env.scope.names.lookup x=some .local:=by first | exact .inl rfl | exact .inr rfl | assumption):VG X (.Name x pos) (Et i) :=
 (Wc hN hi hx hf).imp λv σ H Q zz54=>Dw zz54 λx τ μ R rx hs hc h hq=>hq _ _ _ _ Kp.refl (hs.set rx i) hc h
def Qbd:AGs:=λvs τ μ R=>match vs with
 | []=>R τ μ
 | _ :: _=>False
def Kj(t:AG)(u:AGs):AGs:=λvs τ μ R=>match vs with
 | []=>False
 | v :: r=>t v τ μ fun τ' μ'=>u r τ' μ' R
theorem C2:VGs X [] Qbd:=Wd.imp λvs σ H Q zz55=>Dw zz55 λxs τ μ R rx hs hc h hq=>by
 cases rx with
 | nil=>exact⟨rfl,hq _ _ _ _ Kp.refl hs hc h⟩
 | cons=>exact h.elim
theorem Bb{e:Expr}{es:List Expr}{t:AG}{u:AGs}(h1:VG X e t)(h2:VGs X es u)
  (hs:(assignEach (e :: es) X.env).map (·.2)=assign e X.env :: (assignEach es X.env).map (·.2):=by rfl):VGs X (e :: es) (Kj t u):=(Sy h1 h2 hs).imp λvs σ H Q zz56=>Dw zz56 λxs τ μ R rx hs hc h hq=>by
 cases rx with
 | nil=>exact h.elim
 | cons r1 r2=>exact⟨_,_,rfl,_,τ,μ,_,r1,hs,hc,h,fun τ' μ' σ' H' S' hs' hc' h'=>⟨_,τ',μ',R,A9.kp S' r2,hs',hc',h',hq.kp S'⟩⟩
def Qec(n:Nat)(t:AGs):AG:=λv τ μ R=>match v with
 | .D (.tuple ds)=>ds.length=n/\t (ds.map .D) τ μ R
 | _=>False
theorem Eu{es:List Expr}{k:Nat}{t:AGs}{n:Nat}(hcm:X.calm=true)(h:VGs X es t)
  (hn:(assignEach es X.env).length=n:=by rfl) (hst:(assignEach es X.env).findIdx? (·.1)=none:=by rfl):VG X (.Tuple es k pos) (Qec n t):=(Qad hcm h hn hst).imp λv σ H Q zz57=>Dw zz57 λx τ μ R rx hs hc h hq=>by
 unfold Qec at h
 split at h
 ·obtain⟨a,vs,rfl,q,r⟩:=RelA.tup rx
  exact⟨a,vs,rfl,q.sq,by rw [r.length];exact h.1,_,τ,μ,R,r.rel,hs,hc,h.2,hq⟩
 ·exact h.elim
def Qbe(o i v:AV)(μ:M)(R:M->Prop):Prop:=match o,i with
 | .R a,.D (.int k)=>opt (μ a) λm=>match m with
  | .lst xs=>opt (V3 xs.length k) λj=>R (Ar μ a (.lst (xs.set j v)))
  | _=>False
 | _,_=>False
def Qh5(K:PySem.W.Frag):TSet:=λo i v H Q=>∃a b c μ R,RelA K H a o/\RelA K H b i/\RelA K H c v/\Cn K μ H/\Qbe a b c μ R/\∀ μ' H',Kp H H'->Cn K μ' H'->R μ'->Q H'
theorem Qed:PSet X (Qh5 X.K):=by
 intro pins s σ H o i v ov iv u Q I r1 r2 r3 ⟨a,b,c,μ,R,ra,rb,rc,hc,h,hq⟩
 unfold Qbe at h
 split at h
 ·rename_i q k
  obtain⟨m,ex,h⟩:=Bj h
  split at h
  ·obtain⟨j,ej,h⟩:=Bj h
   ·obtain⟨o',ho,vs,rfl,rs⟩:=hc _ _ ex
    cases (show o=.ref q from ra)
    cases RelA.int rb
    exact Te pins s σ H _ _ v ov iv u Q I r1 r2 r3 ⟨q,vs,k,j,rfl,rfl,ho,by rw [<- rs.length];exact ej,hq _ _ (Kp.put ho trivial _) (hc.put ho trivial (Cz (rs.set rc j))) h⟩
  ·exact h.elim
 ·exact h.elim
def Qh6(to ti:AE):AG:=λv τ μ R=>to τ μ λo μ1=>ti τ μ1 λi μ2=>Qbe o i v μ2 fun μ3=>R τ μ3
theorem Lp{o i:Expr}{to ti:AE}(ho:VE X o to)(hi:VE X i ti)
  (ha:∀v,assign (.Subscript o i pos) X.env v=(do
   let ov <- holding [v] (eval o X.env)
   let iv <- holding [v,ov] (eval i X.env)
   standAt pos
   holding [v,ov,iv] (setItem ov iv v)
   release [v,ov,iv] []):=by intro _;rfl):VG X (.Subscript o i pos) (Qh6 to ti):=(Qae ho hi Qed ha).imp λv σ H Q zz58=>Dw zz58 λx τ μ R rx hs hc h hq =>
 ⟨τ,μ,_,hs,hc,h,λo μ1 ov H1 S1 c1 ro h1=>⟨τ,μ1,_,hs.kp S1,c1,h1,λi μ2 iv H2 S2 c2 ri h2=>⟨o,i,x,μ2,_,ro.kp S2,ri,rx.kp (S1.trans S2),c2,h2,fun μ3 H3 S3 c3 h3=>hq _ _ _ _ (S1.trans (S2.trans S3)) (hs.kp (S1.trans (S2.trans S3))) c3 h3⟩⟩⟩
def Rm(te:AE)(g:AG):AS:=λk _ _ _ τ μ=>te τ μ λx μ1=>g x τ μ1 k
theorem Ty{K:PySem.W.Frag}{te:AE}{g:AG}{D:Ends}{σ:St}{H:Hp}(h:cS K (Rm te g) D σ H):We (cE K te) (cG K g) D σ H:=by
 obtain⟨τ,μ,nk,nr,nb,nc,hs,hc,h,hq⟩:=h
 exact⟨τ,μ,_,hs,hc,h,λx μ1 v H1 S1 c1 rx hx=>⟨x,τ,μ1,_,rx,hs.kp S1,c1,hx,hq.nx.kp S1⟩⟩
theorem Fx{tg:Expr}{g:AG}(he:VE X a ta)(hg:VG X tg g)(hs:swapsWithSole [tg] a pos.line X.env=pure false:=by rfl)(hw:swappedStores [tg] a X.env=pure none:=by rfl)
  (h1:(assignEach [tg] X.env).map (·.2)=[assign tg X.env]:=by rfl):VS X (.Assign [tg] a pos) (Rm ta g):=(Qaf he hg hs hw h1).imp λ_ _ _ h=>Ty h
theorem Aw{i:Nat}{x:Str}{pos':Pos}(hN:X.N.Nodup)(hi:X.N[i]?=some x)(hx:Loc X.env.scope x)(he:VE X a ta)(hs:swapsWith a (some (.Name x pos')) pos.line X.env=pure false:=by rfl)(hf:X.fn x=true\/X.env.scope.names.lookup x=some .local:=by first | exact .inl rfl | exact .inr rfl | assumption) :
  VS X (.Assign [.Name x pos'] a pos) (Rm ta (Et i)):=(Qag hN hi hx he hs hf).imp λD σ H zz59=>Me zz59 fun τ μ nk nr nb nc hs hc h hq =>
 ⟨τ,μ,_,hs,hc,h,λx μ1 v H1 S1 c1 rx hx=>hq.nx _ _ _ _ S1 ((hs.kp S1).set rx i) c1 hx⟩
def Qj0(i j:Nat)(t:AA):AS:=λk _ _ _ τ μ=>t τ μ λxs μ1=>match xs with
 | [v,w]=>k ((τ.set i (some v)).set j (some w)) μ1
 | _=>False
def wl(c:AT)(tb:AS)(k:ASt->M->Prop)(r:AV->M->Prop):Nat->ASt->M->Prop
 | 0=>λ_ _=>False
 | n+1=>fun τ μ=>c τ μ λx μ1=>brP x (tb (wl c tb k r n) r k (wl c tb k r n) τ μ1) (k τ μ1)
structure ItOk(K:PySem.W.Frag)(H0:Hp)(J:It)(xs:List AV)(kp:M->Prop):Prop where
 go:∀i H μ,Kp H0 H->Cn K μ H->kp μ->i < xs.length->J.go i H
 yld:∀i H μ v H' x,Kp H0 H->Cn K μ H->kp μ->xs[i]?=some x->J.yld i H v H'->Kp H H'/\Cn K μ H'/\RelA K H' x v
 stop:∀H μ,Kp H0 H->Cn K μ H->kp μ->J.stop xs.length H
abbrev AI:=ASt->M->(List AV->(M->Prop)->M->Prop)->Prop
def cI(K:PySem.W.Frag)(wi:AI):TI:=fun σ H R=>∃ τ μ R',Dv K H τ σ/\Cn K μ H/\wi τ μ R'/\∀xs kp μ' J H',Kp H H'->Cn K μ' H'->ItOk K H' J xs kp->R' xs kp μ'->R J H'
def VI(X:Cx)(tg iter:Expr)(wi:AI):Prop:=PI X tg iter (cI X.K wi)
theorem PI.imp{tg e:Expr}{t u:TI}(h:PI X tg e t)(i:∀ σ H Q,u σ H Q->t σ H Q):PI X tg e u:=λpins s σ H Q I q=>h pins s σ H Q I (i σ H Q q)
theorem Rn{K:PySem.W.Frag}{H0:Hp}{a:Addr}{xs:List AV}{kp:M->Prop}(h:∀H μ,Kp H0 H->Cn K μ H->kp μ->∃vs,Ec K H a vs/\A9 K H xs vs):ItOk K H0 (Itl K a) xs kp:=by
 refine⟨λi H μ S c k hi=>?_,λi H μ v H' x S c k e y=>?_,λH μ S c k=>?_⟩
 ·obtain⟨vs,q,r⟩:=h H μ S c k
  exact⟨vs,vs[i]'(by rw [<- r.length];exact hi),q,List.getElem?_eq_getElem _⟩
 ·obtain⟨vs,q,r⟩:=h H μ S c k
  obtain⟨rfl,y⟩:=y
  obtain⟨u,eu,ru⟩:=r.get e
  rw [y vs q]at eu
  cases eu
  exact⟨Kp.refl,c,ru⟩
 ·obtain⟨vs,q,r⟩:=h H μ S c k
  exact⟨vs,q,by rw [r.length];exact Nat.le_refl _⟩
theorem Tz{K:PySem.W.Frag}{H0:Hp}{a:Addr}{xs:List AV}{kp:M->Prop}(h:∀H μ,Kp H0 H->Cn K μ H->kp μ->∃vs,Jv K H a vs/\A9 K H xs vs):ItOk K H0 (Itt K a) xs kp:=by
 refine⟨λi H μ S c k hi=>?_,λi H μ v H' x S c k e y=>?_,λH μ S c k=>?_⟩
 ·obtain⟨vs,q,r⟩:=h H μ S c k
  exact⟨vs,vs[i]'(by rw [<- r.length];exact hi),q,List.getElem?_eq_getElem _⟩
 ·obtain⟨vs,q,r⟩:=h H μ S c k
  obtain⟨rfl,y⟩:=y
  obtain⟨u,eu,ru⟩:=r.get e
  rw [y vs q]at eu
  cases eu
  exact⟨Kp.refl,c,ru⟩
 ·obtain⟨vs,q,r⟩:=h H μ S c k
  exact⟨vs,q,by rw [r.length];exact Nat.le_refl _⟩
variable {tg:Expr}
def D4(lo:Int):Nat->List AV
 | 0=>[]
 | n+1=>.D (.int lo) :: D4 (lo+1) n
theorem B7:∀(n:Nat) (lo:Int),(D4 lo n).length=n
 | 0,_=>rfl
 | n+1,lo=>by rw [D4,List.length_cons,B7 n]
theorem Gb:∀(n:Nat) (lo:Int) (i:Nat) {x:AV},(D4 lo n)[i]?=some x->x=.D (.int (lo+i))
 | 0,_,_,_,h=>by simp [D4]at h
 | n+1,lo,0,_,h=>by simp [D4]at h;rw [<- h];simp
 | n+1,lo,i+1,_,h=>by
  rw [D4,List.getElem?_cons_succ]at h
  rw [Gb n (lo+1) i h]
  congr 2
  omega
theorem T0{K:PySem.W.Frag}{H0:Hp}{lo:Int}{n:Nat}:ItOk K H0 (Itr lo n) (D4 lo n) (λ_=>True):=by
 refine⟨λi H μ S c k hi=>?_,λi H μ v H' x S c k e y=>?_,λH μ S c k=>?_⟩
 ·show i < n
  rw [B7]at hi;exact hi
 ·obtain⟨rfl,rfl⟩:=y
  rw [Gb n lo i e]
  exact⟨Kp.refl,c,C1⟩
 ·show n<=_
  rw [B7];exact Nat.le_refl _
def Qee(t:AA):AI:=fun τ μ R=>t τ μ λxs μ1=>match xs with
 | [.D (.int j)]=>-(2 ^ 62)<=j/\j < 2 ^ 62/\R (D4 0 j.toNat) (λ_=>True) μ1
 | _=>False
theorem Dh{t:AA}{p:Pos}(hg:Gl X "range") (hm:X.mg "range" = none) (ha:VA X [a] t) (hs:starEach [a] X.env=[(false,eval a X.env)]:=by rfl):VI X tg (.Call (.Name "range" p) [a] [] pos) (Qee t) :=
 (Q6 hg hm ha hs).imp fun σ H Q zz62=>Ce zz62 fun τ μ R hs hc h hq=>⟨τ,μ,_,hs,hc,h,λxs μ1 vs H1 S1 c1 rs hl hx=>by
  split at hx
  ·cases rs with
   | cons r1 r2 =>
    cases r2
    cases RelA.int r1
    exact⟨_,rfl,hx.1,hx.2.1,hq _ _ _ _ _ S1 c1 T0 hx.2.2⟩
  ·exact hx.elim⟩
def fl(g:AG)(tb:AS)(k:ASt->M->Prop)(r:AV->M->Prop)(kp:M->Prop):List AV->ASt->M->Prop
 | []=>fun τ μ=>kp μ/\k τ μ
 | x :: xs=>fun τ μ=>kp μ/\g x τ μ fun τ2 μ2=>tb (fl g tb k r kp xs) r k (fl g tb k r kp xs) τ2 μ2
def Qh7(wi:AI)(g:AG)(tb:AS):AS:=λk r _ _ τ μ=>wi τ μ λxs kp μ1=>fl g tb k r kp xs τ μ1
theorem Qef{g:AG}{tb:AS}{k:ASt->M->Prop}{r:AV->M->Prop}{kp:M->Prop}{xs:List AV}{τ:ASt}{μ:M}(h:fl g tb k r kp xs τ μ):kp μ:=by
 cases xs with
 | nil=>exact h.1
 | cons x xs=>exact h.1
theorem Df{iter:Expr}{body:List Stmt}{wi:AI}{g:AG}{tb:AS}(hp:PassesOwn (model X.prog X.w) X.A X.env X.xe)(hcm:X.calm=true)(hi:VI X tg iter wi)(hg:VG X tg g)(hb:VSs X body tb)(hfs:∀x,foldedSetIterable iter X.env x=pure x:=by intro _;rfl) :
  VS X (.For tg iter body [] pos) (Qh7 wi g tb):=(Qah hp hcm hi hg hb hfs).imp λD σ H zz64=>Me zz64 fun τ μ nk nr nb nc hs hc h hq=>by
 refine⟨τ,μ,_,hs,hc,h,λxs kp μ0 J H0 S0 c0 it h0=>?_⟩
 refine Qa3 xs.length (λi σ1 H1=>∃ τ1 μ1,Kp H0 H1/\Dv X.K H1 τ1 σ1/\Cn X.K μ1 H1/\fl g tb nk nr kp (xs.drop i) τ1 μ1) ⟨τ,μ0,Kp.refl,hs.kp S0,c0,h0⟩ ?_ ?_ ?_
 ·rintro i σ1 H1 hi ⟨τ1,μ1,S1,hs1,hc1,h1⟩
  exact it.go i H1 μ1 S1 hc1 (Qef h1) hi
 ·rintro σ1 H1 ⟨τ1,μ1,S1,hs1,hc1,h1⟩
  rw [List.drop_length]at h1
  exact⟨it.stop H1 μ1 S1 hc1 h1.1,hq.nx _ _ _ _ (S0.trans S1) hs1 hc1 h1.2⟩
 ·rintro i v σ1 H1 H2 hi ⟨τ1,μ1,S1,hs1,hc1,h1⟩ y
  rw [List.drop_eq_getElem_cons hi]at h1
  obtain⟨hk,h1⟩:=h1
  obtain⟨S2,c2,rx⟩:=it.yld i H1 μ1 v H2 _ S1 hc1 hk (List.getElem?_eq_getElem hi) y
  refine⟨_,τ1,μ1,_,rx,hs1.kp S2,c2,h1,fun τ3 μ3 σ3 H3 S3 hs3 hc3 h3=>⟨τ3,μ3,_,_,_,_,hs3,hc3,h3,?_⟩⟩
  have S:Kp H0 H3:=S1.trans (S2.trans S3)
  exact⟨fun τ' μ' σ' H' S' hs' hc' h'=>⟨τ',μ',S.trans S',hs',hc',h'⟩,hq.rt.kp (S0.trans S),hq.nx.kp (S0.trans S),fun τ' μ' σ' H' S' hs' hc' h'=>⟨τ',μ',S.trans S',hs',hc',h'⟩⟩
def VIfs(X:Cx)(ifs:List Expr)(t:AT):Prop:=PIfs X ifs (cT X.K t)
def Qbf:AT:=λ_ μ R=>R true μ
theorem Bs:VIfs X [] Qbf:=λpins s σ H Q I zz65=>Ce zz65 fun τ μ R hs hc h hq=>Ti pins s σ H Q I (hq _ _ _ Kp.refl hc h)
theorem C3{t:AT}(h:VT X a t):VIfs X [a] t:=Tj h
def cl(p:Addr)(g:AG)(tst:AT)(te:AE)(kp:M->Prop)(R:M->Prop):List AV->List AV->ASt->M->Prop
 | []=>λ_ _ μ=>kp μ/\R μ
 | x :: xs=>λacc τ μ=>kp μ/\g x τ μ fun τ1 μ1=>tst τ1 μ1 λk μ2 =>
  brP k (te τ1 μ2 λv μ3=>μ3 p=some (.lst acc)/\acc.length < sizeLine/\cl p g tst te kp R xs (acc++[v]) τ1 (Ar μ3 p (.lst (acc++[v])))) (cl p g tst te kp R xs acc τ1 μ2)
def Pu(mp:List (Option Nat))(wi:AI)(g:AG)(tst:AT)(te:AE):AE:=fun τ μ R=>wi τ μ λxs kp μ1=>∀p,μ1 p=none->cl p g tst te kp (fun μ2=>R (.R p) μ2) xs [] (Qdw mp τ) (Ar μ1 p (.lst []))
theorem Qeg{p:Addr}{g:AG}{tst:AT}{te:AE}{kp:M->Prop}{R:M->Prop}{xs acc:List AV}{τ:ASt}{μ:M}(h:cl p g tst te kp R xs acc τ μ):kp μ:=by
 cases xs with
 | nil=>exact h.1
 | cons x xs=>exact h.1
theorem Kk{K:PySem.W.Frag}{mp:List (Option Nat)}{wi:AI}{g:AG}{tst:AT}{te:AE}{σ:St}{H:Hp}{Q:VK}(h:cE K (Pu mp wi g tst te) σ H Q):Tl mp (cI K wi) (cG K g) (cT K tst) (cE K te) σ H Q:=by
 obtain⟨τ,μ,R,hs,hc,h,hq⟩:=h
 refine⟨τ,μ,_,hs,hc,h,λxs kp μ0 J H0 S0 c0 it h0=>?_⟩
 intro p hp
 have h0:=h0 p (c0.none hp)
 have c0':Cn K (Ar μ0 p (.lst [])) (upd H0 p (.lst [])):=c0.new hp (Cz (.nil))
 have S0':Kp H0 (upd H0 p (.lst [])):=Kp.new hp _
 refine Wt xs.length (λi acc σ1 H1=>∃ τ1 μ1 as,Kp H0 H1/\Dv K H1 τ1 σ1/\Cn K μ1 H1/\A9 K H1 as acc/\cl p g tst te kp (fun μ2=>R (.R p) μ2) (xs.drop i) as τ1 μ1) ⟨_,_,[],S0',((hs.kp S0).kp S0').sub mp,c0',.nil,h0⟩ ?_ ?_ ?_
 ·rintro i acc σ1 H1 hi ⟨τ1,μ1,as,S1,hs1,hc1,ra,h1⟩
  exact it.go i H1 μ1 S1 hc1 (Qeg h1) hi
 ·rintro acc σ1 H1 ⟨τ1,μ1,as,S1,hs1,hc1,ra,h1⟩
  rw [List.drop_length]at h1
  exact⟨it.stop H1 μ1 S1 hc1 h1.1,hq _ _ _ _ (S0.trans S1) hc1 Di h1.2⟩
 ·rintro i v acc σ1 H1 H2 hi ⟨τ1,μ1,as,S1,hs1,hc1,ra,h1⟩ y
  rw [List.drop_eq_getElem_cons hi]at h1
  obtain⟨hk,h1⟩:=h1
  obtain⟨S2,c2,rx⟩:=it.yld i H1 μ1 v H2 _ S1 hc1 hk (List.getElem?_eq_getElem hi) y
  refine⟨_,τ1,μ1,_,rx,hs1.kp S2,c2,h1,fun τ3 μ3 σ3 H3 S3 hs3 hc3 h3=>⟨τ3,μ3,_,hs3,hc3,h3,λk μ4 H4 S4 c4 h4=>?_⟩⟩
  rcases br_e h4 with⟨rfl,h4'⟩ | ⟨rfl,h4'⟩
  ·rw [if_pos rfl]
   refine⟨τ3,μ4,_,hs3.kp S4,c4,h4',λw μ5 u H5 S5 c5 rw h5=>?_⟩
   obtain⟨e5,hl,h5⟩:=h5
   obtain⟨o,ho,vs,rfl,rs⟩:=c5 _ _ e5
   have S:Kp H1 H5:=S2.trans (S3.trans (S4.trans S5))
   exact⟨vs,ho,by rw [<- rs.length];exact hl,τ3,_,_,(S1.trans S).trans (Kp.put ho trivial _),(hs3.kp (S4.trans S5)).kp (Kp.put ho trivial _),c5.put ho trivial (Cz (rs.append (.cons rw .nil))),(rs.append (.cons rw .nil)).kp (Kp.put ho trivial _),h5⟩
  ·rw [if_neg Bool.false_ne_true]
   have S:Kp H1 H4:=S2.trans (S3.trans S4)
   exact⟨τ3,μ4,as,S1.trans S,hs3.kp S4,c4,ra.kp S,h4'⟩
variable {N':List Str}{mp:List (Option Nat)}{elt iter:Expr}{ifs:List Expr}{scope:Scope}{wi:AI}{g:AG}{tst:AT}{te:AE}
theorem Bw(hc:X.calm=true)(hi:VI X tg iter wi)(hg:∀C s H fp,VG (B2 X N' scope C s H fp) tg g)(ht:∀C s H fp,VIfs (B2 X N' scope C s H fp) ifs tst)(he:∀C s H fp,VE (B2 X N' scope C s H fp) elt te)
  (ok:CompOk X.N X.env.scope.names scope.names N' mp) (hk:scope.kind=.function:=by rfl) (hs:∀x,foldedSetIterable iter X.env x=pure x:=by intro _;rfl) :
  VE X (.ListComp elt [⟨tg,iter,ifs,0⟩] scope pos) (Pu mp wi g tst te):=(Wr (g:=cG X.K g) (tst:=cT X.K tst) (te:=cE X.K te) hc hi (λC s H fp=>hg C s H fp) (λC s H fp=>ht C s H fp) (λC s H fp=>he C s H fp) ok hk hs).imp λ_ _ _ h=>Kk h
theorem Ef{i:Nat}{y:Str}{py spos:Pos}(hc:X.calm=true)(hN:X.N.Nodup)(hi':X.N[i]?=some y)(hy:X.env.scope.names.lookup y=some .local)
  (hi:VI X tg iter wi) (hg:∀C s H fp,VG (B2 X N' scope C s H fp) tg g) (ht:∀C s H fp,VIfs (B2 X N' scope C s H fp) ifs tst) (he:∀C s H fp,VE (B2 X N' scope C s H fp) elt te)
  (ok:CompOk X.N X.env.scope.names scope.names N' mp) (hsw:swapsWith (.ListComp elt [⟨tg,iter,ifs,0⟩] scope pos) (some (.Name y py)) spos.line X.env=pure true:=by rfl)
  (hk:scope.kind=.function:=by rfl) (hs:∀x,foldedSetIterable iter X.env x=pure x:=by intro _;rfl) :
  VS X (.Assign [.Name y py] (.ListComp elt [⟨tg,iter,ifs,0⟩] scope pos) spos) (Rm (Pu mp wi g tst te) (Et i)):=(Ws (g:=cG X.K g) (tst:=cT X.K tst) (te:=cE X.K te) hc hN hi' hy hi (λC s H fp=>hg C s H fp) (λC s H fp=>ht C s H fp) (λC s H fp=>he C s H fp) ok hsw hk hs).imp λD σ H zz66=>Me zz66 fun τ μ nk nr nb nc hs hc h hq =>
 Kk (K:=X.K) ⟨τ,μ,_,hs,hc,h,λx μ1 v H1 S1 c1 rx hx=>hq.nx _ _ _ _ S1 ((hs.kp S1).set rx i) c1 hx⟩
end
section
variable {P:Program}{w:World}{K:PySem.W.Frag}{mg:Str->Option Value}{base:Heap}
def aNx(R:AV->M->Prop):ASt->M->Prop:=λ_ μ'=>∃ ν,Sub ν μ'/\R (.D .none) ν
def aRt(R:AV->M->Prop):AV->M->Prop:=λv μ'=>∃ ν,Sub ν μ'/\R v ν
def aNo:ASt->M->Prop:=λ_ _=>False
theorem Fun.vok{x qual:Str}{st:Stmt}{f:Addr}{fd:FuncData}{N ps:List Str}{k:Nat}{sp:ASp}(F:Fun K x qual st f fd)(S:FnScope N ps (Ah st))
  (hbody:∀(cdv:Value) (A:Around) (outer:List Env) (s:Shared) (H:Hp) (E:XK),Room k (A.deeper (envOfC qual (Ah st) s.heap.objs.size f cdv)) ->
   ∃t,VSs (N8 Fl P w K mg base N qual (Ah st) f cdv A outer s H E).nox (Be st) t/\∀xs μ R,xs.length=ps.length->sp xs μ R->t (aNx R) (aRt R) aNo aNo (Lj N xs) μ):FnOk P w K mg base Fl (k+1) f fd ps (Hv K ps.length sp):=by
 refine F.ok S (λvs H Q E h=>?_) (λcdv A outer s H vs Q E hr h=>?_)
 ·obtain⟨xs,μ,R,hl,rs,_⟩:=h
  rw [<- rs.length];exact hl
 ·obtain⟨xs,μ,R,hl,rs,hc,hsp,hq⟩:=h
  obtain⟨t,ht,h⟩:=hbody cdv A outer s H E hr
  refine⟨_,ht,Lj N xs,μ,_,_,_,_,Dv.begin rs,hc,h xs μ R hl hsp,⟨fun τ μ' σ H' S' _ c zz67=>Qc1 zz67 fun ν hν r=>?_,λv μ' u H' S' c rv zz68=>Qc1 zz68 fun ν hν r=>?_,λ_ _ _ _ _ _ _ h=>h.elim,λ_ _ _ _ _ _ _ h=>h.elim⟩⟩
  ·exact hq _ _ _ _ S' (c.sub hν) Of r
  ·exact hq _ _ _ _ S' (c.sub hν) rv r
end
section
variable {X:Cx}{a b c:Expr}{ta tb tc:AE}{pos:Pos}{tg:Expr}
def Qh8(t:AE):AI:=fun τ μ R=>t τ μ λx μ1=>opt (items μ1 x) λxs=>R xs (fun μ=>items μ x=some xs) μ1
theorem Bp(hl:VE X a ta):VI X tg a (Qh8 ta):=by
 intro pins s σ H R I zz69
 refine Ce zz69 fun τ μ R' hs hc h hq=>?_
 refine thn (hl pins s σ H (λv H1=>∃x μ1 xs,Kp H H1/\Cn X.K μ1 H1/\RelA X.K H1 x v/\items μ1 x=some xs/\R' xs (fun μ=>items μ x=some xs) μ1) I ⟨τ,μ,_,hs,hc,h,λx μ1 v H1 S1 c1 rx hx=>?_⟩) λv s1 zz702=>?_
 ·obtain⟨xs,e,hx⟩:=Bj hx
  exact⟨x,μ1,xs,S1,c1,rx,e,hx⟩
 obtain⟨xv,H1,I1,r1,x,μ1,xs,S1,c1,rx,e,hx⟩:=zz702
 obtain⟨p,vs,rfl,hp,rs⟩:=B3 c1 rx e
 cases r1
 rcases hp with⟨k,hp⟩ | ⟨k,hp⟩
 ·obtain⟨its,rv,pl,hz⟩:=I1.list hp
  refine wpAny_pyIter_list pl.isList ?_
  refine⟨s1.heap.objs.size,[s1.heap.objs.size],_,_,H1,rfl,I1.kept (t':=s1.toks) λb o e=>Heap.get?_push_of_some _ e,Q5 p _,⟨_,Heap.get?_push_size _ rfl,rfl,rfl⟩,λb hb=>?_,hq _ _ _ _ _ S1 c1 (Rn λH μ S c k2=>?_) hx⟩
  ·have e:b=s1.heap.objs.size:=by simpa using hb
   subst e
   exact I1.fpOk (Nat.le_refl _) (I1.hok.fresh (Nat.le_refl _))
  ·obtain⟨q,ws,e,hw,rw⟩:=B3 c (rx.kp S) k2
   cases e
   rcases hw with⟨_,hw⟩ | ⟨k3,_⟩
   ·exact⟨ws,hw,rw⟩
   ·rw [k]at k3;cases k3
 ·obtain⟨its,rv,pl,hz⟩:=I1.tuple hp
  refine wpAny_pyIter_tuple (show s1.heap.IsTuple p its.toArray from pl) ?_
  refine⟨s1.heap.objs.size,[s1.heap.objs.size],_,_,H1,rfl,I1.kept (t':=s1.toks) λb o e=>Heap.get?_push_of_some _ e,N4 p _,⟨_,Heap.get?_push_size _ rfl,rfl,rfl⟩,λb hb=>?_,hq _ _ _ _ _ S1 c1 (Tz λH μ S c k2=>?_) hx⟩
  ·have e:b=s1.heap.objs.size:=by simpa using hb
   subst e
   exact I1.fpOk (Nat.le_refl _) (I1.hok.fresh (Nat.le_refl _))
  ·obtain⟨q,ws,e,hw,rw⟩:=B3 c (rx.kp S) k2
   cases e
   rcases hw with⟨k3,_⟩ | ⟨_,hw⟩
   ·rw [k]at k3;cases k3
   ·exact⟨ws,hw,rw⟩
def Qh9(t:AE):AE:=fun τ μ R=>t τ μ λx μ1=>match x with
 | .D (.int i)=>R (.D (.int (-i))) μ1
 | _=>False
theorem Qbg(h:VE X a ta):VE X (.UnaryOp .USub a pos) (Qh9 ta):=(Qde Qap h).imp fun σ H Q zz70=>Ce zz70 fun τ μ R hs hc h hq=>⟨τ,μ,_,hs,hc,h,λx μ1 v H1 S1 c1 rx hx=>by
 cases x with
 | D d =>
  cases d with
  | int i =>
   cases RelA.int rx
   exact⟨_,rfl,hq _ _ _ _ S1 c1 C1 hx⟩
  | _=>exact False.elim hx
 | _=>exact False.elim hx⟩
end
section
variable {c:AT}{g:AG}{tb:AS}{k:ASt->M->Prop}{r:AV->M->Prop}{bb cc:ASt->M->Prop}{tst:AT}{te:AE}
theorem A8{t u:AS}{τ:ASt}{μ:M}(J:ASt->M->Prop)(h1:∀W:ASt->M->Prop,(∀ τ' μ',J τ' μ'->W τ' μ')->t W r bb cc τ μ)(h2:∀ τ' μ',J τ' μ'->u k r bb cc τ' μ'):W8 t u k r bb cc τ μ:=h1 (u k r bb cc) h2
theorem Fn{t u:AS}{τ:ASt}{μ:M}(h:t (u k r bb cc) r bb cc τ μ):W8 t u k r bb cc τ μ:=h
theorem En{kp:M->Prop}{xs:List AV}{τ:ASt}{μ:M}(I:Nat->ASt->M->Prop)(h0:I 0 τ μ)(hk:∀i τ μ,I i τ μ->kp μ)
  (step:∀i x τ μ (W:ASt->M->Prop),xs[i]?=some x->I i τ μ->(∀ τ' μ',I (i+1) τ' μ'->W τ' μ')->g x τ μ fun τ2 μ2=>tb W r k W τ2 μ2)
  (done:∀ τ μ,I xs.length τ μ->k τ μ):fl g tb k r kp xs τ μ:=by
 have key:∀n i τ μ,n+i=xs.length->I i τ μ->fl g tb k r kp (xs.drop i) τ μ:=by
  intro n
  induction n with
  | zero =>
   intro i τ μ h hI
   have e:i=xs.length:=by omega
   subst e
   rw [List.drop_length]
   exact⟨hk _ _ _ hI,done τ μ hI⟩
  | succ n ih =>
   intro i τ μ h hI
   have hi:i < xs.length:=by omega
   rw [List.drop_eq_getElem_cons hi]
   exact⟨hk _ _ _ hI,step i _ τ μ _ (List.getElem?_eq_getElem hi) hI fun τ' μ' q=>ih (i+1) τ' μ' (by omega) q⟩
 exact key xs.length 0 τ μ rfl h0
theorem Eg{p:Addr}{kp:M->Prop}{R:M->Prop}{xs:List AV}{τ:ASt}{μ:M}(I:Nat->List AV->ASt->M->Prop)(h0:I 0 [] τ μ)(hk:∀i acc τ μ,I i acc τ μ->kp μ)
  (step:∀i x acc τ μ (W:List AV->ASt->M->Prop),xs[i]?=some x->I i acc τ μ->(∀acc' τ' μ',I (i+1) acc' τ' μ'->W acc' τ' μ')->g x τ μ fun τ1 μ1=>tst τ1 μ1 λk μ2 =>
   brP k (te τ1 μ2 λv μ3=>μ3 p=some (.lst acc)/\acc.length < sizeLine/\W (acc++[v]) τ1 (Ar μ3 p (.lst (acc++[v])))) (W acc τ1 μ2))
  (done:∀acc τ μ,I xs.length acc τ μ->R μ):cl p g tst te kp R xs [] τ μ:=by
 have key:∀n i acc τ μ,n+i=xs.length->I i acc τ μ->cl p g tst te kp R (xs.drop i) acc τ μ:=by
  intro n
  induction n with
  | zero =>
   intro i acc τ μ h hI
   have e:i=xs.length:=by omega
   subst e
   rw [List.drop_length]
   exact⟨hk _ _ _ _ hI,done acc τ μ hI⟩
  | succ n ih =>
   intro i acc τ μ h hI
   have hi:i < xs.length:=by omega
   rw [List.drop_eq_getElem_cons hi]
   exact⟨hk _ _ _ _ hI,step i _ acc τ μ (λacc' τ' μ'=>cl p g tst te kp R (xs.drop (i+1)) acc' τ' μ') (List.getElem?_eq_getElem hi) hI λacc' τ' μ' q=>ih (i+1) acc' τ' μ' (by omega) q⟩
 exact key xs.length 0 [] τ μ rfl h0
end
theorem T1{z:Str}(h:PyData.canLay0 (.str z)=true):Cf (.str z):=⟨h,by simp [PyData.depth]⟩
theorem C4(i:Int):Cf (.int i):=⟨rfl,by simp [PyData.depth]⟩
theorem Gc(i j:Int):PyData.eqv (.int i) (.int j)=decide (i=j):=by
 rw [PyData.eqv];exact Bool.eq_iff_iff.mpr (by simp)
theorem ieq{i j:Int}{T F:Prop}(h1:i=j->T)(h2:i≠j->F):Cf (.int i)/\Cf (.int j)/\brP (PyData.eqv (.int i) (.int j)) T F:=by
 refine⟨C4 _,C4 _,?_⟩
 rw [Gc]
 exact dif h1 h2
theorem Ap{μ:M}{p:Addr}{xs:List AV}(h:μ p=some (.lst xs)):items μ (.R p)=some xs:=by
 show(match μ p with | some (.lst xs)=>some xs | _=>none)=_
 rw [h]
section
variable {X:Cx}{K:PySem.W.Frag}{H:Hp}
variable {o i e value:Expr}{pos pos':Pos}{td ty tv tx:AE}
end
end L2
namespace L2
theorem Ev{α:Type}{us:List α}{n:Nat}(h:us.length=n+1):∃a t,us=a :: t/\t.length=n:=match us,h with | a :: t,h=>⟨a,t,rfl,Nat.succ.inj h⟩
theorem W9{α:Type}{us:List α}(h:us.length=1):∃a,us=[a]:=by
 obtain⟨a,t,rfl,h2⟩:=Ev h
 rw [List.eq_nil_of_length_eq_zero h2];exact⟨a,rfl⟩
theorem Qgo{α:Type}{us:List α}(h:us.length=2):∃a b,us=[a,b]:=by
 obtain⟨a,t,rfl,h2⟩:=Ev h
 obtain⟨b,rfl⟩:=W9 h2
 exact⟨a,b,rfl⟩
open PySem PySem.Spec PySem.Calls PyProof.Rows
abbrev AX:=Addr->List (Str×PyData)->M->Prop
section
variable {K:PySem.W.Frag}{H H':Hp}
end
section
variable {X:Cx}{pins:List (Addr×Obj)}{σ:St}{H:Hp}{s:Shared}
end
section
variable {X:Cx}{x:Str}{p pos pos':Pos}{e:Expr}{es:List Expr}{t:AA}{k:Nat}{C:Addr}{fns:List Str}{EX:AX}
end
abbrev Qia:=List AV->M->(AV->M->Prop)->AX->Prop
section
variable {X:Cx}{x:Str}{p pos:Pos}{e:Expr}{es:List Expr}{t:AA}{k:Nat}{ps:List Str}{sp:Qia}{EX:AX}
end
section
variable {P:Program}{w:World}{K:PySem.W.Frag}{mg:Str->Option Value}{base:Heap}
end
section
variable {X:Cx}{pins:List (Addr×Obj)}{σ:St}{H:Hp}{s:Shared}{st:Stmt}{rest:List Stmt}{t s1 s2:AS}
end
section
variable {X:Cx}{a:Expr}{ta:AE}{pos p p2:Pos}{x:Str}
end
end L2
namespace L2
open PySem PySem.Spec PyProof.Rows
section
variable {X:Cx}{a:Expr}{ta:AE}{pos p:Pos}
end
section
variable {X:Cx}{pos:Pos}{keys:List (Option Expr)}{values:List Expr}{ks:List Key}{ts:List AE}
end
theorem T2{α:Type}(g:α->Bool)(xs:List α):bools (xs.map λx=>.D (.bool (g x)))=some (xs.map g):=by
 rw [show(xs.map λx=>AV.D (.bool (g x)))=(xs.map g).map λb=>.D (.bool b) by rw [List.map_map];rfl]
 exact Kh _
theorem Kl{μ:M}{p:Addr}{m:MO}(h:μ p=some m):Ar μ p m=μ:=by
 funext b
 unfold Ar
 split
 ·rename_i e;rw [e,h]
 ·rfl
theorem cmapf{α:Type}{p:Addr}{g:AG}{tst:AT}{te:AE}{kp:M->Prop}{R:M->Prop}{τ:ASt}{μ:M}(as:List α)(g0:α->AV)(b:α->Bool)(f:α->AV)(Sh:ASt->Prop)(h0:Sh τ)(hp:μ p=some (.lst []))(hn:as.length<=sizeLine)(hk:∀acc,kp (Ar μ p (.lst acc)))
  (step:∀(i:Nat) (x:α) (τ':ASt) (acc:List AV) (W:ASt->AV->M->Prop) (W2:ASt->M->Prop),as[i]?=some x->Sh τ'->(b x=true->∀ τ1,Sh τ1->W τ1 (f x) (Ar μ p (.lst acc)))->(b x=false->∀ τ1,Sh τ1->W2 τ1 (Ar μ p (.lst acc))) ->
   g (g0 x) τ' (Ar μ p (.lst acc)) fun τ1 μ1=>tst τ1 μ1 λk μ2=>brP k (te τ1 μ2 (W τ1)) (W2 τ1 μ2))
  (done:R (Ar μ p (.lst ((as.filter b).map f)))):cl p g tst te kp R (as.map g0) [] τ μ:=by
 refine Eg (λi acc τ' μ'=>Sh τ'/\acc=((as.take i).filter b).map f/\μ'=Ar μ p (.lst acc)) ⟨h0,by simp,(Kl hp).symm⟩ (λi acc τ μ' ⟨_,_,e⟩=>by rw [e];exact hk _) ?_ ?_
 ·rintro i y acc τ' μ' W hy ⟨sh,rfl,rfl⟩ hW
  rw [List.getElem?_map]at hy
  obtain⟨x,hx,rfl⟩:=Option.map_eq_some_iff.mp hy
  have hi:i < as.length:=(List.getElem?_eq_some_iff.mp hx).1
  have ht:as.take (i+1)=as.take i++[x]:=by rw [List.take_succ,hx];rfl
  refine step i x τ' _ (fun τ1 v μ3=>μ3 p=some (.lst (((as.take i).filter b).map f))/\(((as.take i).filter b).map f).length < sizeLine/\W ((((as.take i).filter b).map f)++[v]) τ1 (Ar μ3 p (.lst ((((as.take i).filter b).map f)++[v])))) (fun τ1 μ2=>W (((as.take i).filter b).map f) τ1 μ2) hx sh (λhb τ1 s1=>⟨Ad,?_,hW _ _ _ ⟨s1,?_,Fb⟩⟩) (λhb τ1 s1=>hW _ _ _ ⟨s1,?_,rfl⟩)
  ·rw [List.length_map]
   have h1:=List.length_filter_le b (as.take i)
   rw [List.length_take]at h1
   omega
  ·rw [ht,List.filter_append,List.map_append,List.filter_cons,if_pos hb];rfl
  ·rw [ht,List.filter_append,List.map_append,List.filter_cons,if_neg (by rw [hb];exact Bool.false_ne_true)];simp
 ·rintro acc τ' μ' ⟨_,rfl,rfl⟩
  rw [List.length_map,List.take_length]
  exact done
theorem cmap{α:Type}{p:Addr}{g:AG}{te:AE}{kp:M->Prop}{R:M->Prop}{τ:ASt}{μ:M}(as:List α)(g0 f:α->AV)(Sh:ASt->Prop)(h0:Sh τ)(hp:μ p=some (.lst []))(hn:as.length<=sizeLine)(hk:∀acc,kp (Ar μ p (.lst acc)))
  (step:∀(i:Nat) (x:α) (τ':ASt) (acc:List AV) (W:ASt->AV->M->Prop),as[i]?=some x->Sh τ'->(∀ τ1,Sh τ1->W τ1 (f x) (Ar μ p (.lst acc)))->g (g0 x) τ' (Ar μ p (.lst acc)) fun τ1 μ1=>te τ1 μ1 (W τ1))
  (done:R (Ar μ p (.lst (as.map f)))):cl p g Qbf te kp R (as.map g0) [] τ μ:=by
 refine cmapf as g0 (λ_=>true) f Sh h0 hp hn hk (λi x τ' acc W W2 hx sh h1 _=>?_) (by rw [List.filter_eq_self.mpr (λ_ _=>rfl)];exact done)
 have:=step i x τ' acc W hx sh (h1 rfl)
 simp only [Qbf,Tr]
 exact this
theorem Qeh{α:Type}{g:α->Bool}{as:List α}{μ:M}{p:Addr}{R:AV->M->Prop}(h:μ p=some (.lst (as.map λx=>.D (.bool (g x)))))(q:R (.D (.bool (as.all g))) μ):Qba [.R p] μ R:=by
 refine Ac h (Ac (T2 g as) ?_)
 rw [List.all_map]
 exact q
theorem Iu{K:PySem.W.Frag}:Kits K "tuple" := by
 intro S hS
 simp only [List.mem_cons,List.not_mem_nil,or_false]at hS
 rcases hS with rfl | rfl | rfl | rfl | rfl | rfl | rfl <;> rfl
theorem Ms{K:PySem.W.Frag}:Kits K "str" := by
 intro S hS
 simp only [List.mem_cons,List.not_mem_nil,or_false]at hS
 rcases hS with rfl | rfl | rfl | rfl | rfl | rfl | rfl <;> rfl
theorem T3{K:PySem.W.Frag}:Kits K "int" := by
 intro S hS
 simp only [List.mem_cons,List.not_mem_nil,or_false]at hS
 rcases hS with rfl | rfl | rfl | rfl | rfl | rfl | rfl <;> rfl
theorem Ro{K:PySem.W.Frag}:Kits K "bool" := by
 intro S hS
 simp only [List.mem_cons,List.not_mem_nil,or_false]at hS
 rcases hS with rfl | rfl | rfl | rfl | rfl | rfl | rfl <;> rfl
section
variable {X:Cx}{K:PySem.W.Frag}{a:Expr}{ta:AE}{pos p p2:Pos}{x:Str}
end
def rk:PyData->Nat
 | .none=>0 | .bool _=>1 | .int _=>2 | .str _=>3 | .list _=>4 | .tuple _=>5 | .dict _=>6
def Ge(a b:Str):Bool:=decide (a.cps.toList < b.cps.toList)
mutual
def Ff:PyData->PyData->Bool
 | .int a,.int b=>decide (a < b)
 | .str a,.str b=>Ge a b
 | .tuple xs,.tuple ys=>C8 xs ys
 | x,y=>decide (rk x < rk y)
def C8:List PyData->List PyData->Bool
 | [],[]=>false
 | [],_ :: _=>true
 | _ :: _,[]=>false
 | x :: xs,y :: ys=>if PyData.eqv x y then C8 xs ys else Ff x y
end
mutual
theorem Gw:∀(x y:PyData),Cano x=true->Cano y=true->PyData.eqv x y=true->x=y
 | .int a,.int b,_,_,h=>by simp [PyData.eqv]at h;rw [h]
 | .str a,.str b,_,_,h=>by simp [PyData.eqv]at h;rw [h]
 | .tuple xs,.tuple ys,h1,h2,h=>by
  simp only [Cano]at h1 h2
  rw [PyData.eqv]at h
  rw [Pw xs ys h1 h2 h]
 | .int _,.str _,_,_,h=>by simp [PyData.eqv]at h
 | .int _,.tuple _,_,_,h=>by simp [PyData.eqv]at h
 | .str _,.int _,_,_,h=>by simp [PyData.eqv]at h
 | .str _,.tuple _,_,_,h=>by simp [PyData.eqv]at h
 | .tuple _,.int _,_,_,h=>by simp [PyData.eqv]at h
 | .tuple _,.str _,_,_,h=>by simp [PyData.eqv]at h
 | .none,_,h,_,_=>by simp [Cano]at h
 | .bool _,_,h,_,_=>by simp [Cano]at h
 | .list _,_,h,_,_=>by simp [Cano]at h
 | .dict _,_,h,_,_=>by simp [Cano]at h
 | .int _,.none,_,h,_=>by simp [Cano]at h
 | .int _,.bool _,_,h,_=>by simp [Cano]at h
 | .int _,.list _,_,h,_=>by simp [Cano]at h
 | .int _,.dict _,_,h,_=>by simp [Cano]at h
 | .str _,.none,_,h,_=>by simp [Cano]at h
 | .str _,.bool _,_,h,_=>by simp [Cano]at h
 | .str _,.list _,_,h,_=>by simp [Cano]at h
 | .str _,.dict _,_,h,_=>by simp [Cano]at h
 | .tuple _,.none,_,h,_=>by simp [Cano]at h
 | .tuple _,.bool _,_,h,_=>by simp [Cano]at h
 | .tuple _,.list _,_,h,_=>by simp [Cano]at h
 | .tuple _,.dict _,_,h,_=>by simp [Cano]at h
theorem Pw:∀(xs ys:List PyData),Aq xs=true->Aq ys=true->PyData.eqvAll xs ys=true->xs=ys
 | [],[],_,_,_=>rfl
 | [],_ :: _,_,_,h=>by simp [PyData.eqvAll]at h
 | _ :: _,[],_,_,h=>by simp [PyData.eqvAll]at h
 | x :: xs,y :: ys,h1,h2,h=>by
  simp only [Aq,Bool.and_eq_true]at h1 h2
  rw [PyData.eqvAll,Bool.and_eq_true]at h
  rw [Gw x y h1.1 h2.1 h.1,Pw xs ys h1.2 h2.2 h.2]
end
mutual
theorem Ew:∀(x:PyData),Cano x=true->PyData.eqv x x=true
 | .int a,_=>by simp [PyData.eqv]
 | .str a,_=>by simp [PyData.eqv]
 | .tuple xs,h=>by rw [PyData.eqv];exact Km xs (by simpa only [Cano] using h)
 | .none,h=>by simp [Cano]at h
 | .bool _,h=>by simp [Cano]at h
 | .list _,h=>by simp [Cano]at h
 | .dict _,h=>by simp [Cano]at h
theorem Km:∀(xs:List PyData),Aq xs=true->PyData.eqvAll xs xs=true
 | [],_=>rfl
 | x :: xs,h=>by
  simp only [Aq,Bool.and_eq_true]at h
  rw [PyData.eqvAll,Ew x h.1,Km xs h.2];rfl
end
theorem Oo{x y:PyData}(hx:Cano x=true)(hy:Cano y=true):PyData.eqv x y=false↔x≠y:=by
 constructor
 ·rintro h rfl
  rw [Ew x hx]at h;cases h
 ·intro h
  cases e:PyData.eqv x y with
  | false=>rfl
  | true=>exact absurd (Gw x y hx hy e) h
theorem cano_cases{x:PyData}(h:Cano x=true):(∃i,x=.int i)\/(∃z,x=.str z)\/∃xs,x=.tuple xs/\Aq xs=true:=by
 cases x with
 | int i=>exact .inl ⟨i,rfl⟩
 | str z=>exact .inr (.inl ⟨z,rfl⟩)
 | tuple xs=>exact .inr (.inr ⟨xs,rfl,by simpa only [Cano] using h⟩)
 | none=>simp [Cano]at h
 | bool _=>simp [Cano]at h
 | list _=>simp [Cano]at h
 | dict _=>simp [Cano]at h
theorem T4{a b c:Str}(h1:Ge a b=true)(h2:Ge b c=true):Ge a c=true:=by
 unfold Ge at *
 exact decide_eq_true (List.lt_trans (of_decide_eq_true h1) (of_decide_eq_true h2))
theorem Xa{a b:Str}(h:a.cps.toList=b.cps.toList):a=b:=by
 cases a;cases b
 simp only [Array.toList_inj]at h
 rw [h]
theorem Rp{a b:Str}(h:a≠b)(h1:Ge a b=false):Ge b a=true:=by
 unfold Ge at *
 have h1:=of_decide_eq_false h1
 refine decide_eq_true ?_
 rcases Decidable.em (b.cps.toList < a.cps.toList) with z | z
 ·exact z
 ·exact absurd (Xa (List.le_antisymm (List.not_lt.mp z) (List.not_lt.mp h1))) h
mutual
theorem Op:∀(x y z:PyData),Cano x=true->Cano y=true->Cano z=true->Ff x y=true->Ff y z=true->Ff x z=true
 | .int a,y,z,_,hy,hz,h1,h2=>by
  rcases cano_cases hy with⟨b,rfl⟩ | ⟨b,rfl⟩ | ⟨ys,rfl,_⟩ <;> rcases cano_cases hz with⟨c,rfl⟩ | ⟨c,rfl⟩ | ⟨zs,rfl,_⟩ <;> simp [Ff,rk]at h1 h2 ⊢
  omega
 | .str a,y,z,_,hy,hz,h1,h2=>by
  rcases cano_cases hy with⟨b,rfl⟩ | ⟨b,rfl⟩ | ⟨ys,rfl,_⟩ <;> rcases cano_cases hz with⟨c,rfl⟩ | ⟨c,rfl⟩ | ⟨zs,rfl,_⟩ <;> simp [Ff,rk]at h1 h2 ⊢
  exact T4 h1 h2
 | .tuple xs,y,z,hx,hy,hz,h1,h2=>by
  rcases cano_cases hy with⟨b,rfl⟩ | ⟨b,rfl⟩ | ⟨ys,rfl,ky⟩ <;> rcases cano_cases hz with⟨c,rfl⟩ | ⟨c,rfl⟩ | ⟨zs,rfl,kz⟩ <;> simp [Ff,rk]at h1 h2 ⊢
  exact Px xs ys zs (by simpa only [Cano] using hx) ky kz h1 h2
 | .none,_,_,h,_,_,_,_=>by simp [Cano]at h
 | .bool _,_,_,h,_,_,_,_=>by simp [Cano]at h
 | .list _,_,_,h,_,_,_,_=>by simp [Cano]at h
 | .dict _,_,_,h,_,_,_,_=>by simp [Cano]at h
theorem Px:∀(xs ys zs:List PyData),Aq xs=true->Aq ys=true->Aq zs=true->C8 xs ys=true->C8 ys zs=true->C8 xs zs=true
 | [],[],_,_,_,_,h1,_=>by simp [C8]at h1
 | [],_ :: _,[],_,_,_,_,h2=>by simp [C8]at h2
 | [],_ :: _,_ :: _,_,_,_,_,_=>by simp [C8]
 | _ :: _,[],_,_,_,_,h1,_=>by simp [C8]at h1
 | _ :: _,_ :: _,[],_,_,_,_,h2=>by simp [C8]at h2
 | x :: xs,y :: ys,z :: zs,hx,hy,hz,h1,h2=>by
  simp only [Aq,Bool.and_eq_true]at hx hy hz
  simp only [C8]at h1 h2 ⊢
  cases e1:PyData.eqv x y with
  | true =>
   have e:=Gw x y hx.1 hy.1 e1
   subst e
   rw [e1]at h1
   cases e2:PyData.eqv x z with
   | true =>
    rw [e2]at h2
    exact Px xs ys zs hx.2 hy.2 hz.2 h1 h2
   | false=>rw [e2]at h2;exact h2
  | false =>
   rw [e1]at h1
   cases e2:PyData.eqv y z with
   | true =>
    have e:=Gw y z hy.1 hz.1 e2
    subst e
    rw [e1];exact h1
   | false =>
    rw [e2]at h2
    have h3:=Op x y z hx.1 hy.1 hz.1 h1 h2
    cases e3:PyData.eqv x z with
    | false=>exact h3
    | true =>
     have e:=Gw x z hx.1 hz.1 e3
     subst e
     exact absurd h3 (by rw [Gf x hx.1];exact Bool.false_ne_true)
theorem Gf:∀(x:PyData),Cano x=true->Ff x x=false
 | .int a,_=>by simp [Ff]
 | .str a,_=>by simp [Ff,Ge,List.lt_irrefl]
 | .tuple xs,h=>by simp only [Ff];exact Mu xs (by simpa only [Cano] using h)
 | .none,h=>by simp [Cano]at h
 | .bool _,h=>by simp [Cano]at h
 | .list _,h=>by simp [Cano]at h
 | .dict _,h=>by simp [Cano]at h
theorem Mu:∀(xs:List PyData),Aq xs=true->C8 xs xs=false
 | [],_=>by simp [C8]
 | x :: xs,h=>by
  simp only [Aq,Bool.and_eq_true]at h
  simp only [C8,Ew x h.1,if_true]
  exact Mu xs h.2
end
mutual
theorem Py:∀(x y:PyData),Cano x=true->Cano y=true->x≠y->Ff x y=false->Ff y x=true
 | .int a,y,_,hy,hn,h=>by
  rcases cano_cases hy with⟨b,rfl⟩ | ⟨b,rfl⟩ | ⟨ys,rfl,_⟩ <;> simp [Ff,rk]at h ⊢
  have:a≠b:=λz=>hn (by rw [z])
  omega
 | .str a,y,_,hy,hn,h=>by
  rcases cano_cases hy with⟨b,rfl⟩ | ⟨b,rfl⟩ | ⟨ys,rfl,_⟩ <;> simp [Ff,rk]at h ⊢
  exact Rp (λz=>hn (by rw [z])) h
 | .tuple xs,y,hx,hy,hn,h=>by
  rcases cano_cases hy with⟨b,rfl⟩ | ⟨b,rfl⟩ | ⟨ys,rfl,ky⟩ <;> simp [Ff,rk]at h ⊢
  exact Mv xs ys (by simpa only [Cano] using hx) ky (λz=>hn (by rw [z])) h
 | .none,_,h,_,_,_=>by simp [Cano]at h
 | .bool _,_,h,_,_,_=>by simp [Cano]at h
 | .list _,_,h,_,_,_=>by simp [Cano]at h
 | .dict _,_,h,_,_,_=>by simp [Cano]at h
theorem Mv:∀(xs ys:List PyData),Aq xs=true->Aq ys=true->xs≠ys->C8 xs ys=false->C8 ys xs=true
 | [],[],_,_,hn,_=>absurd rfl hn
 | [],_ :: _,_,_,_,h=>by simp [C8]at h
 | _ :: _,[],_,_,_,_=>by simp [C8]
 | x :: xs,y :: ys,hx,hy,hn,h=>by
  simp only [Aq,Bool.and_eq_true]at hx hy
  simp only [C8]at h ⊢
  cases e:PyData.eqv x y with
  | true =>
   have e':=Gw x y hx.1 hy.1 e
   subst e'
   rw [e]at h ⊢
   exact Mv xs ys hx.2 hy.2 (λz=>hn (by rw [z])) h
  | false =>
   rw [e]at h
   have hne:=(Oo hx.1 hy.1).mp e
   rw [(Oo hy.1 hx.1).mpr (Ne.symm hne)]
   exact Py x y hx.1 hy.1 hne h
end
end L2
namespace L2
open PySem PySem.W PyProof.Rows
section
variable {n:Nat}{lt:Nat->Nat->Bool}
structure StrictOrd(n:Nat)(lt:Nat->Nat->Bool):Prop where
 tr:∀a b c,a < n->b < n->c < n->lt a b=true->lt b c=true->lt a c=true
 tot:∀a b,a < n->b < n->a≠b->lt a b=false->lt b a=true
 irr:∀a,a < n->lt a a=false
structure Pm(n:Nat)(p:Array Nat):Prop where
 size:p.size=n
 lt:∀i,i < n->p.getD i 0 < n
 inj:∀i j,i < n->j < n->i≠j->p.getD i 0≠p.getD j 0
 perm:p.toList.Perm (List.range n)
theorem Yt{p:Array Nat}(h:p.toList.Perm (List.range n)):Pm n p:=by
 have hs:p.size=n:=by
  have:=h.length_eq
  simpa using this
 have hg:∀i,(hi:i < n)->p.getD i 0=p[i]'(by omega):=λi hi=>by simp [Array.getD,show i < p.size by omega]
 refine⟨hs,λi hi=>?_,λi j hi hj hij e=>?_,h⟩
 ·rw [hg i hi]
  have:p[i]'(by omega)∈p.toList:=by simp
  exact List.mem_range.mp (h.mem_iff.mp this)
 ·rw [hg i hi,hg j hj]at e
  have nd:p.toList.Nodup:=h.nodup_iff.mpr List.nodup_range
  have e1:p.toList[i]?=p.toList[j]?:=by
   rw [Array.getElem?_toList,Array.getElem?_toList,Array.getElem?_eq_getElem (by omega),Array.getElem?_eq_getElem (by omega),e]
  exact hij ((List.getElem?_inj (by simpa using (by omega:i < p.size)) nd).mp e1)
def Up(lt:Nat->Nat->Bool)(p:Array Nat)(k:Nat):Prop:=∀i j,i < j->j < k->lt (p.getD i 0) (p.getD j 0)=true
variable {p:Array Nat}{s:Shared}
end
section
variable {n:Nat}{lt:Nat->Nat->Bool}
structure WeakOrd(n:Nat)(lt:Nat->Nat->Bool):Prop where
 tr:∀a b c,a < n->b < n->c < n->lt b a=false->lt c b=false->lt c a=false
 asy:∀a b,a < n->b < n->lt a b=true->lt b a=false
theorem WeakOrd.irr{a:Nat}(O:WeakOrd n lt)(ha:a < n):lt a a=false:=by
 cases c:lt a a with
 | false=>rfl
 | true=>have:=O.asy a a ha ha c;rw [c]at this;cases this
theorem WeakOrd.low{a b c:Nat}(O:WeakOrd n lt)(ha:a < n)(hb:b < n)(hc:c < n)(h1:lt a b=true)(h2:lt c b=false):lt a c=true:=by
 cases e:lt a c with
 | true=>rfl
 | false=>rw [O.tr b c a hb hc ha h2 e]at h1;cases h1
theorem WeakOrd.high{a b c:Nat}(O:WeakOrd n lt)(ha:a < n)(hb:b < n)(hc:c < n)(h1:lt b a=false)(h2:lt b c=true):lt a c=true:=by
 cases e:lt a c with
 | true=>rfl
 | false=>rw [O.tr c a b hc ha hb e h1]at h2;cases h2
def UpW(lt:Nat->Nat->Bool)(p:Array Nat)(k:Nat):Prop:=∀i j,i < j->j < k->lt (p.getD j 0) (p.getD i 0)=false
variable {p:Array Nat}{s:Shared}
end
def gallop':Bool->Keyed->Array Keyed->Nat->Nat->Nat->StateT SortSt Sem (Option Nat):=sortPriv% PySem.Builtin.gallop
def setMinGallop':Nat->StateT SortSt Sem Unit:=sortPriv% PySem.Builtin.setMinGallop
theorem Oq(left:Bool)(key:Keyed)(arr:Array Keyed)(base n hint:Nat):gallop' left key arr base n hint=(do
 let beyond (i:Nat):StateT SortSt Sem (Option Bool):=do
  let x <- elem' arr (base+i)
  if left then lt' x key else return (<- lt' key x).map (!·)
 let mut lastofs:=0
 let mut ofs:=1
 let mut lo:=0
 let mut hi:=0
 let some right <- beyond hint | return none
 if right then
  let maxofs:=n - hint
  for _ in [0:n] do
   if ofs>=maxofs then break
   let some more <- beyond (hint+ofs) | return none
   if !more then break
   lastofs:=ofs
   ofs:=2 * ofs+1
  lo:=hint+lastofs+1
  hi:=hint+min ofs maxofs
 else
  let maxofs:=hint+1
  for _ in [0:n] do
   if ofs>=maxofs then break
   let some found <- beyond (hint - ofs) | return none
   if found then break
   lastofs:=ofs
   ofs:=2 * ofs+1
  lo:=hint+1 - min ofs maxofs
  hi:=hint - lastofs
 for _ in [0:n] do
  if lo>=hi then break
  let m:=lo+(hi - lo) / 2
  let some more <- beyond m | return none
  if more then lo:=m+1 else hi:=m
 return some hi):=rfl
section
variable {prog:Program}{w:World}{A:Around}{E:Value->Shared->Prop}{s:Shared}{κ:SortKind}{it:Array Keyed}{n:Nat}{lt:Nat->Nat->Bool}
def Cmp(prog:Program)(w:World)(A:Around)(κ:SortKind)(it:Array Keyed)(n:Nat)(lt:Nat->Nat->Bool)(s:Shared):Prop :=
 ∀(i j:Nat) (C:Bool->Shared->Prop),i < n->j < n->C (lt i j) s->kas_cmp prog w A κ it i j C s
theorem T5(hc:Cmp prog w A κ it n lt s){st:SortSt}(hk:kindOf st=κ){i j:Nat}(hi:i < n)(hj:j < n){Q:Option Bool->SortSt->Prop}(h:Q (some (lt i j)) st):wpS (model prog w) A E s (lt' (kas_item it i) (kas_item it j)) Q st:=by
 rw [lt'_eq]
 refine wpS_bind (wpS_get ?_)
 rw [hk]
 refine wpS_bind (wpS_lift (wpAny_attempt (wpAny_mono (hc i j (λc s'=>s'=s/\c=lt i j) hi hj ⟨rfl,rfl⟩) (λc s' hc'=>?_) λ_ _ hF=>hF.elim)))
 obtain⟨rfl,rfl⟩:=hc'
 exact⟨rfl,wpS_pure h⟩
theorem Bx{st:SortSt}{p:Array Nat}{i:Nat}(hi:i < p.size){Q:Keyed->SortSt->Prop}(h:Q (kas_item it (p.getD i 0)) st):wpS (model prog w) A E s (elem' (p.map (kas_item it)) i) Q st:=by
 rw [elem'_eq]
 have e:(p.map (kas_item it))[i]?=some (kas_item it (p.getD i 0)):=by
  rw [Array.getElem?_map,Array.getElem?_eq_getElem hi]
  simp [Array.getD,hi]
 rw [e]
 exact wpS_pure h
structure Step(f:Nat->Bool)(n k:Nat):Prop where
 le:k<=n
 yes:∀i,i < k->f i=true
 no:∀i,k<=i->i < n->f i=false
def byd(left:Bool)(key:Keyed)(arr:Array Keyed)(base i:Nat):StateT SortSt Sem (Option Bool):=do
 let x <- elem' arr (base+i)
 if left then lt' x key else return (<- lt' key x).map (!·)
theorem Mw{left:Bool}{key:Keyed}{arr:Array Keyed}{base m hint:Nat}{f:Nat->Bool}{st:SortSt}(hm:hint < m)
  (hf:∀i Q,i < m->Q (some (f i)) st->wpS (model prog w) A E s (byd left key arr base i) Q st)
  (mono:∀i j,i<=j->j < m->f j=true->f i=true) {Q:Option Nat->SortSt->Prop} (h:∀k,Step f m k->Q (some k) st):wpS (model prog w) A E s (gallop' left key arr base m hint) Q st:=by
 rw [Oq]
 dsimp only
 have monof:∀i j,i<=j->j < m->f i=false->f j=false:=λi j hij hj e=>by
  cases c:f j with
  | false=>rfl
  | true=>rw [mono i j hij hj c]at e;cases e
 refine wpS_bind (hf hint _ hm ?_)
 dsimp only
 cases e0:f hint with
 | true =>
  rw [if_pos rfl]
  refine wpS_bind (wpS_mono (wpS_forRange (I:=λx c st'=>st'=st/\∃la ofs,c=(none,la,ofs)/\la < ofs/\la < m - hint/\x+1<=ofs/\f (hint+la)=true) (Q:=λc st'=>st'=st/\∃la ofs,c=(none,la,ofs)/\la < ofs/\la < m - hint/\f (hint+la)=true/\(ofs < m - hint->f (hint+ofs)=false)) ?_ ?_ ⟨rfl,0,1,rfl,by omega,by omega,by omega,e0⟩) ?_)
  ·rintro x c st' _ hx ⟨rfl,la,ofs,rfl,h1,h2,h3,h4⟩
   dsimp only
   by_cases c:ofs>=m - hint
   ·rw [if_pos c]
    exact wpS_pure ⟨rfl,la,ofs,rfl,h1,h2,h4,λz=>by omega⟩
   ·rw [if_neg c]
    refine wpS_bind (hf _ _ (by omega) ?_)
    dsimp only
    cases e:f (hint+ofs) with
    | false =>
     rw [if_pos (show(!false)=true from rfl)]
     exact wpS_pure ⟨rfl,la,ofs,rfl,h1,h2,h4,λ_=>e⟩
    | true =>
     rw [if_neg (show ¬(!true)=true by decide)]
     exact wpS_pure ⟨rfl,ofs,_,rfl,by omega,by omega,by omega,e⟩
  ·rintro c st' ⟨rfl,la,ofs,rfl,h1,h2,h3,h4⟩
   exact⟨rfl,la,ofs,rfl,h1,h2,h4,λz=>by omega⟩
  ·rintro c st' ⟨rfl,la,ofs,rfl,h1,h2,h4,h5⟩
   have no:∀i,hint+min ofs (m - hint)<=i->i < m->f i=false:=λi hi him=>by
    rcases Nat.lt_or_ge ofs (m - hint) with c | c
    ·exact monof _ i (by omega) him (h5 c)
    ·omega
   dsimp only
   refine wpS_bind (wpS_mono (wpS_forRange (I:=λx c st''=>st''=st'/\∃lo hi,c=(none,lo,hi)/\lo<=hi/\hi<=m/\hi - lo<=m - x/\(∀i,i < lo->f i=true)/\(∀i,hi<=i->i < m->f i=false)) (Q:=λc st''=>st''=st'/\∃k,c=(none,k,k)/\Step f m k) ?_ ?_ ⟨rfl,_,_,rfl,by omega,by omega,by omega,λi hi=>mono i _ (by omega) (by omega) h4,no⟩) ?_)
   ·rintro x c st'' _ hx ⟨rfl,lo,hi,rfl,h1,h2,h3,yes,no⟩
    dsimp only
    by_cases c:lo>=hi
    ·rw [if_pos c]
     have:lo=hi:=by omega
     subst this
     exact wpS_pure ⟨rfl,lo,rfl,h2,yes,no⟩
    ·rw [if_neg c]
     refine wpS_bind (hf _ _ (by omega) ?_)
     dsimp only
     cases e:f (lo+(hi - lo) / 2) with
     | true =>
      rw [if_pos rfl]
      refine wpS_pure ⟨rfl,_,_,rfl,by omega,h2,by omega,λi hi'=>mono i _ (by omega) (by omega) e,no⟩
     | false =>
      rw [if_neg Bool.false_ne_true]
      exact wpS_pure ⟨rfl,_,_,rfl,by omega,by omega,by omega,yes,λi hi' him=>monof _ i hi' him e⟩
   ·rintro c st'' ⟨rfl,lo,hi,rfl,h1,h2,h3,yes,no⟩
    have:lo=hi:=by omega
    subst this
    exact⟨rfl,lo,rfl,h2,yes,no⟩
   ·rintro c st'' ⟨rfl,k,rfl,hk⟩
    exact wpS_pure (h k hk)
 | false =>
  rw [if_neg Bool.false_ne_true]
  refine wpS_bind (wpS_mono (wpS_forRange (I:=λx c st'=>st'=st/\∃la ofs,c=(none,la,ofs)/\la < ofs/\la<=hint/\x+1<=ofs/\f (hint - la)=false) (Q:=λc st'=>st'=st/\∃la ofs,c=(none,la,ofs)/\la < ofs/\la<=hint/\f (hint - la)=false/\(ofs < hint+1->f (hint - ofs)=true)) ?_ ?_ ⟨rfl,0,1,rfl,by omega,by omega,by omega,e0⟩) ?_)
  ·rintro x c st' _ hx ⟨rfl,la,ofs,rfl,h1,h2,h3,h4⟩
   dsimp only
   by_cases c:ofs>=hint+1
   ·rw [if_pos c]
    exact wpS_pure ⟨rfl,la,ofs,rfl,h1,h2,h4,λz=>by omega⟩
   ·rw [if_neg c]
    refine wpS_bind (hf _ _ (by omega) ?_)
    dsimp only
    cases e:f (hint - ofs) with
    | true =>
     rw [if_pos rfl]
     exact wpS_pure ⟨rfl,la,ofs,rfl,h1,h2,h4,λ_=>e⟩
    | false =>
     rw [if_neg Bool.false_ne_true]
     exact wpS_pure ⟨rfl,ofs,_,rfl,by omega,by omega,by omega,e⟩
  ·rintro c st' ⟨rfl,la,ofs,rfl,h1,h2,h3,h4⟩
   exact⟨rfl,la,ofs,rfl,h1,h2,h4,λz=>by omega⟩
  ·rintro c st' ⟨rfl,la,ofs,rfl,h1,h2,h4,h5⟩
   have yes:∀i,i < hint+1 - min ofs (hint+1)->f i=true:=λi hi=>by
    rcases Nat.lt_or_ge ofs (hint+1) with c | c
    ·exact mono i (hint - ofs) (by omega) (by omega) (h5 c)
    ·omega
   dsimp only
   refine wpS_bind (wpS_mono (wpS_forRange (I:=λx c st''=>st''=st'/\∃lo hi,c=(none,lo,hi)/\lo<=hi/\hi<=m/\hi - lo<=m - x/\(∀i,i < lo->f i=true)/\(∀i,hi<=i->i < m->f i=false)) (Q:=λc st''=>st''=st'/\∃k,c=(none,k,k)/\Step f m k) ?_ ?_ ⟨rfl,_,_,rfl,by omega,by omega,by omega,yes,λi hi him=>monof _ i hi him h4⟩) ?_)
   ·rintro x c st'' _ hx ⟨rfl,lo,hi,rfl,h1,h2,h3,yes,no⟩
    dsimp only
    by_cases c:lo>=hi
    ·rw [if_pos c]
     have:lo=hi:=by omega
     subst this
     exact wpS_pure ⟨rfl,lo,rfl,h2,yes,no⟩
    ·rw [if_neg c]
     refine wpS_bind (hf _ _ (by omega) ?_)
     dsimp only
     cases e:f (lo+(hi - lo) / 2) with
     | true =>
      rw [if_pos rfl]
      refine wpS_pure ⟨rfl,_,_,rfl,by omega,h2,by omega,λi hi'=>mono i _ (by omega) (by omega) e,no⟩
     | false =>
      rw [if_neg Bool.false_ne_true]
      exact wpS_pure ⟨rfl,_,_,rfl,by omega,by omega,by omega,yes,λi hi' him=>monof _ i hi' him e⟩
   ·rintro c st'' ⟨rfl,lo,hi,rfl,h1,h2,h3,yes,no⟩
    have:lo=hi:=by omega
    subst this
    exact⟨rfl,lo,rfl,h2,yes,no⟩
   ·rintro c st'' ⟨rfl,k,rfl,hk⟩
    exact wpS_pure (h k hk)
end
def mergeLo':Array Keyed->Array Keyed->StateT SortSt Sem (Array Keyed):=sortPriv% PySem.Builtin.mergeLo
def mergeHi':Array Keyed->Array Keyed->StateT SortSt Sem (Array Keyed):=sortPriv% PySem.Builtin.mergeHi
theorem Cl(g:Nat):setMinGallop' g=modify λst=>SortSt.mk' (kindOf st) (arrOf st) (pendingOf st) g (failedOf st):=rfl
theorem Mx(a b:Array Keyed):mergeLo' a b=(do
 rule "list.sort.merge-lo"
 let total:=a.size+b.size
 let done (out:Array Keyed) (ia ib:Nat):=out++a.extract ia a.size++b.extract ib b.size
 let lastOfA (out:Array Keyed) (ia ib:Nat):=out++b.extract ib b.size++a.extract ia a.size
 let mut out:Array Keyed:=#[<- elem' b 0]
 let mut ia:=0
 let mut ib:=1
 if ib==b.size then return done out ia ib
 if ia+1==a.size then return lastOfA out ia ib
 let mut minGallop:=gallopOf (<- get)
 for _ in [0:total] do
  let mut acount:=0
  let mut bcount:=0
  for _ in [0:total] do
   let some bWins <- lt' (<- elem' b ib) (<- elem' a ia) | return done out ia ib
   if bWins then
    out:=out.push (<- elem' b ib);ib:=ib+1;bcount:=bcount+1;acount:=0
    if ib==b.size then return done out ia ib
    if bcount>=minGallop then break
   else
    out:=out.push (<- elem' a ia);ia:=ia+1;acount:=acount+1;bcount:=0
    if ia+1==a.size then return lastOfA out ia ib
    if acount>=minGallop then break
  rule "list.sort.gallop"
  minGallop:=minGallop+1
  for _ in [0:total] do
   if minGallop > 1 then minGallop:=minGallop - 1
   setMinGallop' minGallop
   let some k <- gallop' false (<- elem' b ib) a ia (a.size - ia) 0 | return done out ia ib
   acount:=k
   if k > 0 then
    out:=out++a.extract ia (ia+k);ia:=ia+k
    if ia+1==a.size then return lastOfA out ia ib
    if ia==a.size then return done out ia ib
   out:=out.push (<- elem' b ib);ib:=ib+1
   if ib==b.size then return done out ia ib
   let some k <- gallop' true (<- elem' a ia) b ib (b.size - ib) 0 | return done out ia ib
   bcount:=k
   if k > 0 then
    out:=out++b.extract ib (ib+k);ib:=ib+k
    if ib==b.size then return done out ia ib
   out:=out.push (<- elem' a ia);ia:=ia+1
   if ia+1==a.size then return lastOfA out ia ib
   if acount < 7 && bcount < 7 then break
  minGallop:=minGallop+1
  setMinGallop' minGallop
 unsupported "internal:list.sort.merge-bound"):=rfl
section
variable {prog:Program}{w:World}{A:Around}{E:Value->Shared->Prop}{s:Shared}{κ:SortKind}{it:Array Keyed}{n:Nat}{lt:Nat->Nat->Bool}
abbrev at0(p:Array Nat)(i:Nat):Nat:=p.getD i 0
theorem Qbh(O:WeakOrd n lt)(hc:Cmp prog w A κ it n lt s){st:SortSt}(hk:kindOf st=κ){p:Array Nat}{key base m hint:Nat}(hm:hint < m)(hb:base+m<=p.size)(hp:∀i,i < p.size->at0 p i < n)(hkey:key < n)
  (srt:∀i j,base<=i->i < j->j < base+m->lt (at0 p j) (at0 p i)=false) {Q:Option Nat->SortSt->Prop}
  (h:∀k,k<=m->(∀i,i < k->lt key (at0 p (base+i))=false)->(∀i,k<=i->i < m->lt key (at0 p (base+i))=true)->Q (some k) st):wpS (model prog w) A E s (gallop' false (kas_item it key) (p.map (kas_item it)) base m hint) Q st:=by
 refine Mw (f:=λi=>!lt key (at0 p (base+i))) hm (λi Q' hi q=>?_) (λi j hij hj e=>?_) λk hk'=>h k hk'.le (λi hi=>by simpa using hk'.yes i hi) (λi h1 h2=>by simpa using hk'.no i h1 h2)
 ·unfold byd
  refine wpS_bind (Bx (by omega) ?_)
  rw [if_neg Bool.false_ne_true]
  exact wpS_bind (T5 hc hk hkey (hp _ (by omega)) (wpS_pure q))
 ·rcases Nat.eq_or_lt_of_le hij with rfl | hlt
  ·exact e
  ·have e':lt key (at0 p (base+j))=false:=by simpa using e
   have:=O.tr _ _ _ (hp (base+i) (by omega)) (hp (base+j) (by omega)) hkey (srt (base+i) (base+j) (by omega) (by omega) (by omega)) e'
   simpa using this
theorem Qbi(O:WeakOrd n lt)(hc:Cmp prog w A κ it n lt s){st:SortSt}(hk:kindOf st=κ){p:Array Nat}{key base m hint:Nat}(hm:hint < m)(hb:base+m<=p.size)(hp:∀i,i < p.size->at0 p i < n)(hkey:key < n)
  (srt:∀i j,base<=i->i < j->j < base+m->lt (at0 p j) (at0 p i)=false) {Q:Option Nat->SortSt->Prop}
  (h:∀k,k<=m->(∀i,i < k->lt (at0 p (base+i)) key=true)->(∀i,k<=i->i < m->lt (at0 p (base+i)) key=false)->Q (some k) st):wpS (model prog w) A E s (gallop' true (kas_item it key) (p.map (kas_item it)) base m hint) Q st:=by
 refine Mw (f:=λi=>lt (at0 p (base+i)) key) hm (λi Q' hi q=>?_) (λi j hij hj e=>?_) λk hk'=>h k hk'.le hk'.yes hk'.no
 ·unfold byd
  refine wpS_bind (Bx (by omega) ?_)
  rw [if_pos rfl]
  exact T5 hc hk (hp _ (by omega)) hkey q
 ·rcases Nat.eq_or_lt_of_le hij with rfl | hlt
  ·exact e
  ·exact O.high (hp (base+i) (by omega)) (hp (base+j) (by omega)) hkey (srt (base+i) (base+j) (by omega) (by omega) (by omega)) e
def Kn(lt:Nat->Nat->Bool)(p:Array Nat):Prop:=∀i j,i < j->j < p.size->lt (at0 p j) (at0 p i)=false
def In(n:Nat)(p:Array Nat):Prop:=∀i,i < p.size->at0 p i < n
structure MI(lt:Nat->Nat->Bool)(a b out:Array Nat)(ia ib:Nat):Prop where
 ha:ia<=a.size
 hb:ib<=b.size
 sz:out.size=ia+ib
 perm:out.toList.Perm (a.toList.take ia++b.toList.take ib)
 srt:out.toList.Pairwise λx y=>lt y x=false
 lea:∀x∈out.toList,∀j,ia<=j->j < a.size->lt (at0 a j) x=false
 leb:∀x∈out.toList,∀j,ib<=j->j < b.size->lt (at0 b j) x=false
theorem B8(a:Array Nat)(i k:Nat):(a.extract i (i+k)).toList=(a.toList.drop i).take k:=by
 rw [Array.toList_extract,List.extract_eq_take_drop,Nat.add_sub_cancel_left]
theorem Ko(l:List Nat)(i k:Nat):l.take (i+k)=l.take i++(l.drop i).take k:=List.take_add ..
theorem Eh{a:Array Nat}{i k x:Nat}(h:x∈(a.toList.drop i).take k):∃j,i<=j/\j < i+k/\j < a.size/\x=at0 a j:=by
 obtain⟨m,hm,e⟩:=List.getElem_of_mem h
 rw [List.length_take,List.length_drop,Array.length_toList]at hm
 rw [List.getElem_take,List.getElem_drop]at e
 refine⟨i+m,by omega,by omega,by omega,?_⟩
 rw [<- e]
 simp [at0,Array.getD,show i+m < a.size by omega]
theorem Pz{a:Array Nat}(h:Kn lt a)(i k:Nat):((a.toList.drop i).take k).Pairwise λx y=>lt y x=false:=by
 have:a.toList.Pairwise λx y=>lt y x=false:=by
  rw [List.pairwise_iff_getElem]
  intro x y hx hy hxy
  have:=h x y hxy (by simpa using hy)
  simp only [Array.length_toList]at hx hy
  simpa [at0,Array.getD,hx,hy] using this
 exact(this.sublist (List.drop_sublist ..)).sublist (List.take_sublist ..)
theorem MI.chunkA{a b out:Array Nat}{ia ib k:Nat}(h:MI lt a b out ia ib)(ua:Kn lt a)(hk:ia+k<=a.size)(hle:∀i,i < k->∀j,ib<=j->j < b.size->lt (at0 b j) (at0 a (ia+i))=false):MI lt a b (out++a.extract ia (ia+k)) (ia+k) ib:=by
 refine⟨hk,h.hb,?_,?_,?_,?_,?_⟩
 ·rw [Array.size_append,h.sz,Array.size_extract];omega
 ·rw [Array.toList_append,B8,Ko]
  refine(List.Perm.append_right _ h.perm).trans ?_
  rw [List.append_assoc,List.append_assoc]
  exact List.Perm.append_left _ List.perm_append_comm
 ·rw [Array.toList_append,B8,List.pairwise_append]
  refine⟨h.srt,Pz ua _ _,λx hx y hy=>?_⟩
  obtain⟨j,j1,j2,j3,rfl⟩:=Eh hy
  exact h.lea x hx j j1 j3
 ·intro x hx j j1 j2
  rw [Array.toList_append,B8]at hx
  rcases List.mem_append.mp hx with hx | hx
  ·exact h.lea x hx j (by omega) j2
  ·obtain⟨m,m1,m2,m3,rfl⟩:=Eh hx
   exact ua m j (by omega) j2
 ·intro x hx j j1 j2
  rw [Array.toList_append,B8]at hx
  rcases List.mem_append.mp hx with hx | hx
  ·exact h.leb x hx j j1 j2
  ·obtain⟨m,m1,m2,m3,rfl⟩:=Eh hx
   have:=hle (m - ia) (by omega) j j1 j2
   rwa [show ia+(m - ia)=m by omega]at this
theorem MI.chunkB{a b out:Array Nat}{ia ib k:Nat}(h:MI lt a b out ia ib)(ub:Kn lt b)(hk:ib+k<=b.size)(hle:∀i,i < k->∀j,ia<=j->j < a.size->lt (at0 a j) (at0 b (ib+i))=false):MI lt a b (out++b.extract ib (ib+k)) ia (ib+k):=by
 refine⟨h.ha,hk,?_,?_,?_,?_,?_⟩
 ·rw [Array.size_append,h.sz,Array.size_extract];omega
 ·rw [Array.toList_append,B8,Ko,<- List.append_assoc]
  exact List.Perm.append_right _ h.perm
 ·rw [Array.toList_append,B8,List.pairwise_append]
  refine⟨h.srt,Pz ub _ _,λx hx y hy=>?_⟩
  obtain⟨j,j1,j2,j3,rfl⟩:=Eh hy
  exact h.leb x hx j j1 j3
 ·intro x hx j j1 j2
  rw [Array.toList_append,B8]at hx
  rcases List.mem_append.mp hx with hx | hx
  ·exact h.lea x hx j j1 j2
  ·obtain⟨m,m1,m2,m3,rfl⟩:=Eh hx
   have:=hle (m - ib) (by omega) j j1 j2
   rwa [show ib+(m - ib)=m by omega]at this
 ·intro x hx j j1 j2
  rw [Array.toList_append,B8]at hx
  rcases List.mem_append.mp hx with hx | hx
  ·exact h.leb x hx j (by omega) j2
  ·obtain⟨m,m1,m2,m3,rfl⟩:=Eh hx
   exact ub m j (by omega) j2
theorem Lq{a:Array Nat}{i:Nat}(h:i < a.size)(out:Array Nat):out.push (at0 a i)=out++a.extract i (i+1):=by
 apply Array.toList_inj.mp
 rw [Array.toList_push,Array.toList_append,B8,List.drop_eq_getElem_cons (by simpa using h)]
 simp [at0,Array.getD,h]
theorem MI.pushA{a b out:Array Nat}{ia ib:Nat}(h:MI lt a b out ia ib)(ua:Kn lt a)(hk:ia < a.size)(hle:∀j,ib<=j->j < b.size->lt (at0 b j) (at0 a ia)=false):MI lt a b (out.push (at0 a ia)) (ia+1) ib:=by
 rw [Lq hk]
 exact h.chunkA ua hk λi hi j j1 j2=>by rw [show ia+i=ia by omega];exact hle j j1 j2
theorem MI.pushB{a b out:Array Nat}{ia ib:Nat}(h:MI lt a b out ia ib)(ub:Kn lt b)(hk:ib < b.size)(hle:∀j,ia<=j->j < a.size->lt (at0 a j) (at0 b ib)=false):MI lt a b (out.push (at0 b ib)) ia (ib+1):=by
 rw [Lq hk]
 exact h.chunkB ub hk λi hi j j1 j2=>by rw [show ib+i=ib by omega];exact hle j j1 j2
structure Mgd(lt:Nat->Nat->Bool)(a b R:Array Nat):Prop where
 perm:R.toList.Perm (a.toList++b.toList)
 srt:R.toList.Pairwise λx y=>lt y x=false
theorem MI.end_{a b out:Array Nat}(h:MI lt a b out a.size b.size):Mgd lt a b out:=by
 refine⟨?_,h.srt⟩
 have:=h.perm
 rwa [List.take_of_length_le (by simp),List.take_of_length_le (by simp)]at this
theorem MI.doneB{a b out:Array Nat}{ia:Nat}(h:MI lt a b out ia b.size)(ua:Kn lt a):Mgd lt a b (out++a.extract ia a.size++b.extract b.size b.size):=by
 have h1:=h.chunkA (k:=a.size - ia) ua (by have:=h.ha;omega) λi _ j j1 j2=>by omega
 rw [show ia+(a.size - ia)=a.size by have:=h.ha;omega]at h1
 have:=h1.end_
 rwa [show b.extract b.size b.size=#[] by simp,Array.append_empty]
theorem MI.doneA{a b out:Array Nat}{ib:Nat}(h:MI lt a b out a.size ib)(ub:Kn lt b):Mgd lt a b (out++a.extract a.size a.size++b.extract ib b.size):=by
 have h1:=h.chunkB (k:=b.size - ib) ub (by have:=h.hb;omega) λi _ j j1 j2=>by omega
 rw [show ib+(b.size - ib)=b.size by have:=h.hb;omega]at h1
 have:=h1.end_
 rwa [show a.extract a.size a.size=#[] by simp,Array.append_empty]
theorem MI.lastA{a b out:Array Nat}{ia ib:Nat}(h:MI lt a b out ia ib)(ua:Kn lt a)(ub:Kn lt b)(hl:ia+1=a.size)(hle:∀j,j < b.size->lt (at0 a (a.size - 1)) (at0 b j)=false):Mgd lt a b (out++b.extract ib b.size++a.extract ia a.size):=by
 have h1:=h.chunkB (k:=b.size - ib) ub (by have:=h.hb;omega) λi _ j j1 j2=>by
  rw [show j=a.size - 1 by omega];exact hle _ (by omega)
 rw [show ib+(b.size - ib)=b.size by have:=h.hb;omega]at h1
 have h2:=h1.chunkA (k:=1) ua (by omega) λi _ j j1 j2=>by omega
 rw [hl]at h2
 exact h2.end_
theorem Yu(out a:Array Nat)(i k:Nat):out.map (kas_item it)++(a.map (kas_item it)).extract i k=(out++a.extract i k).map (kas_item it):=by
 rw [Array.map_append,Array.map_extract]
theorem Yv(out:Array Nat)(x:Nat):(out.map (kas_item it)).push (kas_item it x)=(out.push x).map (kas_item it):=Array.map_push.symm
abbrev LoS:=Option (Array Keyed)×Array Keyed×Nat×Nat×Nat×Nat×Nat
abbrev Cd(st:SortSt)(g:Nat):SortSt:=SortSt.mk' (kindOf st) (arrOf st) (pendingOf st) g (failedOf st)
def Xb(a b out:Array Keyed)(ia ib mg ac bc:Nat):StateT SortSt Sem (ForInStep LoS) :=
 elem' a ia >>= λy =>
  if(ia+1+1==a.size)=true then pure (ForInStep.done (some (out.push y++b.extract ib b.size++a.extract (ia+1) a.size),out.push y,ia+1,ib,mg,ac,bc))
  else if(decide (ac < 7) && decide (bc < 7))=true then pure (ForInStep.done (none,out.push y,ia+1,ib,mg,ac,bc))
  else pure (ForInStep.yield (none,out.push y,ia+1,ib,mg,ac,bc))
def Xc(a b out:Array Keyed)(ia ib mg ac bc:Nat):StateT SortSt Sem (ForInStep LoS) :=
 elem' b ib >>= λy =>
  if(ib+1==b.size)=true then pure (ForInStep.done (some (out.push y++a.extract ia a.size++b.extract (ib+1) b.size),out.push y,ia,ib+1,mg,ac,bc))
  else elem' a ia >>= λz=>gallop' true z b (ib+1) (b.size - (ib+1)) 0 >>= λx =>
   match x with
   | some k=>if k > 0 then
     (if(ib+1+k==b.size)=true then pure (ForInStep.done (some (out.push y++b.extract (ib+1) (ib+1+k)++a.extract ia a.size++b.extract (ib+1+k) b.size),out.push y++b.extract (ib+1) (ib+1+k),ia,ib+1+k,mg,ac,k))
     else Xb a b (out.push y++b.extract (ib+1) (ib+1+k)) ia (ib+1+k) mg ac k)
    else Xb a b (out.push y) ia (ib+1) mg ac k
   | _=>pure (ForInStep.done (some (out.push y++a.extract ia a.size++b.extract (ib+1) b.size),out.push y,ia,ib+1,mg,ac,bc))
def Qbj(a b out:Array Keyed)(ia ib mg ac bc:Nat):StateT SortSt Sem (ForInStep LoS) :=
 setMinGallop' mg >>= λ_=>elem' b ib >>= λy=>gallop' false y a ia (a.size - ia) 0 >>= λx =>
  match x with
  | some k=>if k > 0 then
    (if(ia+k+1==a.size)=true then pure (ForInStep.done (some (out++a.extract ia (ia+k)++b.extract ib b.size++a.extract (ia+k) a.size),out++a.extract ia (ia+k),ia+k,ib,mg,k,bc))
    else if(ia+k==a.size)=true then pure (ForInStep.done (some (out++a.extract ia (ia+k)++a.extract (ia+k) a.size++b.extract ib b.size),out++a.extract ia (ia+k),ia+k,ib,mg,k,bc))
    else Xc a b (out++a.extract ia (ia+k)) (ia+k) ib mg k bc)
   else Xc a b out ia ib mg k bc
  | _=>pure (ForInStep.done (some (out++a.extract ia a.size++b.extract ib b.size),out,ia,ib,mg,ac,bc))
structure Mid(lt:Nat->Nat->Bool)(it:Array Keyed)(a b:Array Nat)(q:Nat)(o:Array Keyed)(ia ib:Nat):Prop where
 m:∃out:Array Nat,o=out.map (kas_item it)/\MI lt a b out ia ib
 ha:ia+1 < a.size
 hb:ib < b.size
 q:q<=ia+ib
structure MPre(n:Nat)(lt:Nat->Nat->Bool)(a b:Array Nat):Prop where
 na:0 < a.size
 nb:0 < b.size
 ia:In n a
 ib:In n b
 ua:Kn lt a
 ub:Kn lt b
 h0:lt (at0 b 0) (at0 a 0)=true
 hl:∀j,j < b.size->lt (at0 b j) (at0 a (a.size - 1))=true
theorem MPre.le{a b:Array Nat}(O:WeakOrd n lt)(p:MPre n lt a b):∀j,j < b.size->lt (at0 a (a.size - 1)) (at0 b j)=false:=λj hj=>O.asy _ _ (p.ib j hj) (p.ia _ (by have:=p.na;omega)) (p.hl j hj)
section
variable {a b:Array Nat}{st:SortSt}{Qd Qy:LoS->SortSt->Prop}{out:Array Nat}{ia ib mg ac bc:Nat}
theorem Yw(O:WeakOrd n lt)(p:MPre n lt a b)(M:MI lt a b out ia ib)(ha:ia+1 < a.size)(hb:ib < b.size)(hle:∀j,ib<=j->j < b.size->lt (at0 b j) (at0 a ia)=false)
  (fin:∀R c,Mgd lt a b R->c.1=some (R.map (kas_item it))->Qd c st) (go:∀o i j m x y,Mid lt it a b (ia+ib+1) o i j->Qd (none,o,i,j,m,x,y) st/\Qy (none,o,i,j,m,x,y) st) :
  wpS (model prog w) A E s (Xb (a.map (kas_item it)) (b.map (kas_item it)) (out.map (kas_item it)) ia ib mg ac bc) (λr st'=>match r with | .done c'=>Qd c' st' | .yield c'=>Qy c' st') st:=by
 unfold Xb
 refine wpS_bind (Bx (by omega) ?_)
 have M1:=M.pushA p.ua (by omega) hle
 simp only [Array.size_map,Yv,Yu]
 by_cases e:ia+1+1=a.size
 ·rw [if_pos (by simpa using e)]
  exact wpS_pure (fin _ _ (M1.lastA p.ua p.ub e (p.le O)) rfl)
 ·rw [if_neg (by simpa using e)]
  have g:=go _ _ _ mg ac bc (⟨⟨_,rfl,M1⟩,by omega,hb,by omega⟩:Mid lt it a b (ia+ib+1) _ (ia+1) ib)
  split
  ·exact wpS_pure g.1
  ·exact wpS_pure g.2
theorem Yx(O:WeakOrd n lt)(hc:Cmp prog w A κ it n lt s)(hk:kindOf st=κ)(p:MPre n lt a b)(M:MI lt a b out ia ib)(ha:ia+1 < a.size)(hb:ib < b.size)(hle:∀j,ia<=j->j < a.size->lt (at0 a j) (at0 b ib)=false)
  (fin:∀R c,Mgd lt a b R->c.1=some (R.map (kas_item it))->Qd c st) (go:∀o i j m x y,Mid lt it a b (ia+ib+1) o i j->Qd (none,o,i,j,m,x,y) st/\Qy (none,o,i,j,m,x,y) st) :
  wpS (model prog w) A E s (Xc (a.map (kas_item it)) (b.map (kas_item it)) (out.map (kas_item it)) ia ib mg ac bc) (λr st'=>match r with | .done c'=>Qd c' st' | .yield c'=>Qy c' st') st:=by
 unfold Xc
 refine wpS_bind (Bx hb ?_)
 have M1:=M.pushB p.ub hb hle
 have go':∀k,∀o i j m x y,Mid lt it a b (ia+(ib+1+k)+1) o i j->Qd (none,o,i,j,m,x,y) st/\Qy (none,o,i,j,m,x,y) st:=λk o i j m x y h=>go o i j m x y ⟨h.m,h.ha,h.hb,by have:=h.q;omega⟩
 simp only [Array.size_map,Yv]
 by_cases e:ib+1=b.size
 ·rw [if_pos (by simpa using e)]
  refine wpS_pure (fin _ _ (show Mgd lt a b (out.push (at0 b ib)++a.extract ia a.size++b.extract (ib+1) b.size) from ?_) (by simp only [Yu]))
  have:=(show MI lt a b (out.push (at0 b ib)) ia b.size by rw [<- e];exact M1).doneB p.ua
  rw [e];exact this
 ·rw [if_neg (by simpa using e)]
  refine wpS_bind (Bx (by omega) ?_)
  refine wpS_bind (Qbi O hc hk (by omega) (by omega) p.ib (p.ia ia (by omega)) (λi j h1 h2 h3=>p.ub i j h2 (by omega)) λk k1 k2 k3=>?_)
  dsimp only
  have M2:=M1.chunkB (k:=k) p.ub (by omega) λi hi j j1 j2=>by
   have h1:=k2 i hi
   rcases Nat.eq_or_lt_of_le j1 with rfl | j1
   ·exact O.asy _ _ (p.ib _ (by omega)) (p.ia _ j2) h1
   ·exact O.tr _ _ _ (p.ib _ (by omega)) (p.ia ia (by omega)) (p.ia _ j2) (O.asy _ _ (p.ib _ (by omega)) (p.ia _ (by omega)) h1) (p.ua ia j j1 j2)
  by_cases kp:k > 0
  ·rw [if_pos kp]
   simp only [Yu]
   by_cases e2:ib+1+k=b.size
   ·rw [if_pos (by simpa using e2)]
    refine wpS_pure (fin _ _ (show Mgd lt a b (out.push (at0 b ib)++b.extract (ib+1) (ib+1+k)++a.extract ia a.size++b.extract (ib+1+k) b.size) from ?_) rfl)
    rw [e2]at M2 ⊢
    exact M2.doneB p.ua
   ·rw [if_neg (by simpa using e2)]
    refine Yw O p M2 ha (by omega) (λj j1 j2=>?_) fin (go' k)
    have:=k3 (j - (ib+1)) (by omega) (by omega)
    rwa [show ib+1+(j - (ib+1))=j by omega]at this
  ·rw [if_neg kp]
   refine Yw O p M1 ha (by omega) (λj j1 j2=>?_) fin (go' 0)
   have:=k3 (j - (ib+1)) (by omega) (by omega)
   rwa [show ib+1+(j - (ib+1))=j by omega]at this
theorem Qei(O:WeakOrd n lt)(hc:Cmp prog w A κ it n lt s)(hk:kindOf st=κ)(p:MPre n lt a b)(M:MI lt a b out ia ib)(ha:ia+1 < a.size)(hb:ib < b.size)
  (fin:∀R c,Mgd lt a b R->c.1=some (R.map (kas_item it))->Qd c (Cd st mg)) (go:∀o i j m x y,Mid lt it a b (ia+ib+1) o i j->Qd (none,o,i,j,m,x,y) (Cd st mg)/\Qy (none,o,i,j,m,x,y) (Cd st mg)) :
  wpS (model prog w) A E s (Qbj (a.map (kas_item it)) (b.map (kas_item it)) (out.map (kas_item it)) ia ib mg ac bc) (λr st'=>match r with | .done c'=>Qd c' st' | .yield c'=>Qy c' st') st:=by
 unfold Qbj
 rw [Cl]
 refine wpS_bind (wpS_modify (wpS_bind (Bx hb ?_)))
 simp only [Array.size_map]
 refine wpS_bind (Qbh O hc (st:=Cd st mg) hk (by omega) (by omega) p.ia (p.ib ib hb) (λi j h1 h2 h3=>p.ua i j h2 (by omega)) λk k1 k2 k3=>?_)
 dsimp only
 have M1:=M.chunkA (k:=k) p.ua (by omega) λi hi j j1 j2=>by
  have h1:=k2 i hi
  rcases Nat.eq_or_lt_of_le j1 with rfl | j1
  ·exact h1
  ·exact O.tr _ _ _ (p.ia _ (by omega)) (p.ib ib hb) (p.ib _ j2) h1 (p.ub ib j j1 j2)
 have low:∀j,ia+k<=j->j < a.size->lt (at0 a j) (at0 b ib)=false:=λj j1 j2=>by
  have:=k3 (j - ia) (by omega) (by omega)
  rw [show ia+(j - ia)=j by omega]at this
  exact O.asy _ _ (p.ib ib hb) (p.ia j j2) this
 have go':∀o i j m x y,Mid lt it a b (ia+k+ib+1) o i j->Qd (none,o,i,j,m,x,y) (Cd st mg)/\Qy (none,o,i,j,m,x,y) (Cd st mg):=λo i j m x y h=>go o i j m x y ⟨h.m,h.ha,h.hb,by have:=h.q;omega⟩
 by_cases kp:k > 0
 ·rw [if_pos kp]
  simp only [Yu]
  by_cases e1:ia+k+1=a.size
  ·rw [if_pos (by simpa using e1)]
   exact wpS_pure (fin _ _ (M1.lastA p.ua p.ub e1 (p.le O)) rfl)
  ·rw [if_neg (by simpa using e1)]
   by_cases e2:ia+k=a.size
   ·rw [if_pos (by simpa using e2)]
    refine wpS_pure (fin _ _ (show Mgd lt a b (out++a.extract ia (ia+k)++a.extract (ia+k) a.size++b.extract ib b.size) from ?_) rfl)
    rw [e2]at M1 ⊢
    exact M1.doneA p.ub
   ·rw [if_neg (by simpa using e2)]
    exact Yx O hc (st:=Cd st mg) hk p M1 (by omega) hb low fin go'
 ·rw [if_neg kp]
  have k0:k=0:=by omega
  subst k0
  exact Yx O hc (st:=Cd st mg) hk p M ha hb low fin go'
end
theorem MI.zero(a b:Array Nat):MI lt a b #[] 0 0:=⟨Nat.zero_le _,Nat.zero_le _,rfl,by simp,.nil,λ_ h=>by simp at h,λ_ h=>by simp at h⟩
theorem MPre.first{a b:Array Nat}(O:WeakOrd n lt)(p:MPre n lt a b):MI lt a b #[at0 b 0] 0 1:=by
 refine(MI.zero a b).pushB p.ub p.nb λj _ j2=>?_
 rcases Nat.eq_zero_or_pos j with rfl | j1
 ·exact O.asy _ _ (p.ib 0 p.nb) (p.ia 0 j2) p.h0
 ·exact O.tr _ _ _ (p.ib 0 p.nb) (p.ia 0 p.na) (p.ia j j2) (O.asy _ _ (p.ib 0 p.nb) (p.ia 0 p.na) p.h0) (p.ua 0 j j1 j2)
theorem Rq(O:WeakOrd n lt)(hc:Cmp prog w A κ it n lt s){a b:Array Nat}{st:SortSt}(hk:kindOf st=κ)(p:MPre n lt a b){Q:Array Keyed->SortSt->Prop}(h:∀R g,Mgd lt a b R->Q (R.map (kas_item it)) (Cd st g)) :
  wpS (model prog w) A E s (mergeLo' (a.map (kas_item it)) (b.map (kas_item it))) Q st:=by
 rw [Mx]
 dsimp only
 have M0:=p.first O
 have na:=p.na
 have nb:=p.nb
 have e0:#[kas_item it (b.getD 0 0)]=(#[at0 b 0]:Array Nat).map (kas_item it):=by simp
 refine wpS_bind (wpS_lift (wpAny_rule ⟨rfl,?_⟩))
 refine wpS_bind (Bx nb ?_)
 rw [e0]
 by_cases e1:1=b.size
 ·rw [if_pos (by simpa using e1)]
  simp only [Array.size_map,Yu]
  refine wpS_pure (h _ (gallopOf st) ?_)
  have:=(show MI lt a b #[at0 b 0] 0 b.size by rw [<- e1];exact M0).doneB p.ua
  rw [<- e1]at this ⊢
  exact this
 rw [if_neg (by simpa using e1)]
 by_cases e2:0+1=a.size
 ·rw [if_pos (by simpa using e2)]
  simp only [Array.size_map,Yu]
  exact wpS_pure (h _ (gallopOf st) (M0.lastA p.ua p.ub e2 (p.le O)))
 rw [if_neg (by simpa using e2)]
 refine wpS_bind (wpS_get ?_)
 have sa:(a.map (kas_item it)).size=a.size:=Array.size_map ..
 have sb:(b.map (kas_item it)).size=b.size:=Array.size_map ..
 refine wpS_bind (wpS_mono (wpS_forRange (I:=λx c st'=>(∃g,st'=Cd st g)/\c.1=none/\Mid lt it a b (1+x) c.2.1 c.2.2.1 c.2.2.2.1) (Q:=λc st'=>(∃g,st'=Cd st g)/\∃R,c.1=some (R.map (kas_item it))/\Mgd lt a b R) ?_ ?_ ⟨⟨gallopOf st,rfl⟩,rfl,⟨_,rfl,M0⟩,by show 0+1 < _;omega,by show 1 < _;omega,by show 1+0<=0+1;omega⟩) ?_)
 ·rintro x ⟨c1,o,ia,ib,mg⟩ st' _ hx ⟨⟨g,rfl⟩,rfl,⟨out,eo,M⟩,ha,hb,hq⟩
  dsimp only at eo M ha hb hq ⊢
  subst eo
  refine wpS_bind (wpS_mono (wpS_forRange (I:=λx c st'=>st'=Cd st g/\c.1=none/\Mid lt it a b (ia+ib+x) c.2.1 c.2.2.1 c.2.2.2.1) (Q:=λc st'=>st'=Cd st g/\((∃R,c.1=some (R.map (kas_item it))/\Mgd lt a b R)\/(c.1=none/\Mid lt it a b (ia+ib+1) c.2.1 c.2.2.1 c.2.2.2.1))) ?_ ?_ ⟨rfl,rfl,⟨out,rfl,M⟩,ha,hb,Nat.le_refl _⟩) ?_)
  ·clear M ha hb
   rintro y ⟨c1,o,ja,jb,ac,bc⟩ st' _ hy ⟨rfl,rfl,⟨out,eo,M⟩,ha,hb,hq'⟩
   dsimp only at eo M ha hb hq' ⊢
   subst eo
   refine wpS_bind (Bx hb (wpS_bind (Bx (by omega) (wpS_bind (T5 hc (st:=Cd st g) hk (p.ib _ hb) (p.ia _ (by omega)) ?_)))))
   dsimp only
   cases e:lt (b.getD jb 0) (a.getD ja 0) with
   | true =>
    rw [if_pos rfl]
    refine wpS_bind (Bx hb ?_)
    have M1:=M.pushB p.ub hb λj j1 j2=>by
     have e':=O.asy _ _ (p.ib _ hb) (p.ia ja (by omega)) e
     rcases Nat.eq_or_lt_of_le j1 with rfl | j1
     ·exact e'
     ·exact O.tr _ _ _ (p.ib _ hb) (p.ia ja (by omega)) (p.ia _ j2) e' (p.ua ja j j1 j2)
    simp only [Yv]
    by_cases e3:jb+1=b.size
    ·rw [if_pos (by simpa using e3)]
     simp only [Yu,Array.size_map]
     refine wpS_pure ⟨rfl,.inl ⟨_,rfl,?_⟩⟩
     rw [e3]at M1 ⊢
     exact M1.doneB p.ua
    ·rw [if_neg (by simpa using e3)]
     by_cases e4:bc+1>=mg <;> simp only [e4,if_true,if_false]
     ·exact wpS_pure ⟨rfl,.inr ⟨rfl,⟨_,rfl,M1⟩,ha,by show jb+1 < _;omega,by show _<=ja+(jb+1);omega⟩⟩
     ·exact wpS_pure ⟨rfl,rfl,⟨_,rfl,M1⟩,ha,by show jb+1 < _;omega,by show _<=ja+(jb+1);omega⟩
   | false =>
    rw [if_neg Bool.false_ne_true]
    refine wpS_bind (Bx (by omega) ?_)
    have M1:=M.pushA p.ua (by omega) λj j1 j2=>by
     rcases Nat.eq_or_lt_of_le j1 with rfl | j1
     ·exact e
     ·exact O.tr _ _ _ (p.ia ja (by omega)) (p.ib _ hb) (p.ib _ j2) e (p.ub jb j j1 j2)
    simp only [Yv]
    by_cases e3:ja+1+1=a.size
    ·rw [if_pos (by simpa using e3)]
     simp only [Yu,Array.size_map]
     exact wpS_pure ⟨rfl,.inl ⟨_,rfl,M1.lastA p.ua p.ub e3 (p.le O)⟩⟩
    ·rw [if_neg (by simpa using e3)]
     by_cases e4:ac+1>=mg <;> simp only [e4,if_true,if_false]
     ·exact wpS_pure ⟨rfl,.inr ⟨rfl,⟨_,rfl,M1⟩,by show ja+1+1 < _;omega,hb,by show _<=ja+1+jb;omega⟩⟩
     ·exact wpS_pure ⟨rfl,rfl,⟨_,rfl,M1⟩,by show ja+1+1 < _;omega,hb,by show _<=ja+1+jb;omega⟩
  ·rintro c st' ⟨_,_,⟨out,_,M⟩,ha',hb',hq'⟩
   omega
  ·rintro⟨c1,o,ja,jb,ac,bc⟩ st' ⟨rfl,⟨R,rfl,hR⟩ | ⟨rfl,hM⟩⟩
   ·exact wpS_pure ⟨⟨g,rfl⟩,R,rfl,hR⟩
   ·dsimp only at hM ⊢
    refine wpS_bind (wpS_lift (wpAny_rule ⟨rfl,?_⟩))
    refine wpS_bind (wpS_mono (wpS_forRange (I:=λx c st'=>(∃g,st'=Cd st g)/\c.1=none/\Mid lt it a b (ia+ib+1+x) c.2.1 c.2.2.1 c.2.2.2.1) (Q:=λc st'=>(∃g,st'=Cd st g)/\((∃R,c.1=some (R.map (kas_item it))/\Mgd lt a b R)\/(c.1=none/\Mid lt it a b (ia+ib+1) c.2.1 c.2.2.1 c.2.2.2.1))) ?_ ?_ ⟨⟨g,rfl⟩,rfl,hM⟩) ?_)
    ·clear hM
     rintro y ⟨c1,o,ja,jb,mg,ac,bc⟩ st' _ hy ⟨⟨g,rfl⟩,rfl,⟨out,eo,M⟩,ha,hb,hq'⟩
     dsimp only at eo M ha hb hq' ⊢
     subst eo
     have key:∀mg,wpS (model prog w) A E s (Qbj (a.map (kas_item it)) (b.map (kas_item it)) (out.map (kas_item it)) ja jb mg ac bc) (λr st'=>match r with
       | .done c=>(∃g,st'=Cd st g)/\((∃R,c.1=some (R.map (kas_item it))/\Mgd lt a b R)\/(c.1=none/\Mid lt it a b (ia+ib+1) c.2.1 c.2.2.1 c.2.2.2.1))
       | .yield c=>(∃g,st'=Cd st g)/\c.1=none/\Mid lt it a b (ia+ib+1+(y+1)) c.2.1 c.2.2.1 c.2.2.2.1) (Cd st g):=λmg =>
      Qei (Qd:=λc st'=>(∃g,st'=Cd st g)/\((∃R,c.1=some (R.map (kas_item it))/\Mgd lt a b R)\/(c.1=none/\Mid lt it a b (ia+ib+1) c.2.1 c.2.2.1 c.2.2.2.1)))
       (Qy:=λc st'=>(∃g,st'=Cd st g)/\c.1=none/\Mid lt it a b (ia+ib+1+(y+1)) c.2.1 c.2.2.1 c.2.2.2.1) O hc (st:=Cd st g) hk p M ha hb (λR c hR e=>⟨⟨mg,rfl⟩,.inl ⟨R,e,hR⟩⟩)
       λo i j m x y hm=>⟨⟨⟨mg,rfl⟩,.inr ⟨rfl,hm.m,hm.ha,hm.hb,by have:=hm.q;show _<=i+j;omega⟩⟩,⟨mg,rfl⟩,rfl,hm.m,hm.ha,hm.hb,by have:=hm.q;show _<=i+j;omega⟩
     by_cases e4:mg > 1
     ·rw [if_pos e4]
      refine wpS_mono (key (mg - 1)) ?_
      rintro(c | c) st' hh <;> exact hh
     ·rw [if_neg e4]
      refine wpS_mono (key mg) ?_
      rintro(c | c) st' hh <;> exact hh
    ·rintro c st' ⟨⟨g,rfl⟩,h1,h2⟩
     exact⟨⟨g,rfl⟩,.inr ⟨h1,h2.m,h2.ha,h2.hb,by have:=h2.q;omega⟩⟩
    ·rintro⟨c1,o,ja,jb,mg,ac,bc⟩ st' ⟨⟨g,rfl⟩,⟨R,rfl,hR⟩ | ⟨rfl,hM⟩⟩
     ·exact wpS_pure ⟨⟨g,rfl⟩,R,rfl,hR⟩
     ·dsimp only at hM ⊢
      rw [Cl]
      refine wpS_bind (wpS_modify (wpS_pure ⟨⟨_,rfl⟩,rfl,hM.m,hM.ha,hM.hb,?_⟩))
      have:=hM.q
      show _<=ja+jb
      omega
 ·rintro c st' ⟨_,_,⟨out,_,M⟩,ha',hb',hq'⟩
  omega
 ·rintro⟨c1,o⟩ st' ⟨⟨g,rfl⟩,R,rfl,hR⟩
  exact wpS_pure (h R g hR)
end
theorem My(a b:Array Keyed):mergeHi' a b=(do
 rule "list.sort.merge-hi"
 let total:=a.size+b.size
 let done (out:Array Keyed) (na nb:Nat):=a.extract 0 na++b.extract 0 nb++out.reverse
 let firstOfB (out:Array Keyed) (na nb:Nat):=b.extract 0 nb++a.extract 0 na++out.reverse
 let mut na:=a.size - 1
 let mut nb:=b.size
 let mut out:Array Keyed:=#[<- elem' a na]
 if na==0 then return done out na nb
 if nb==1 then return firstOfB out na nb
 let mut minGallop:=gallopOf (<- get)
 for _ in [0:total] do
  let mut acount:=0
  let mut bcount:=0
  for _ in [0:total] do
   let some aWins <- lt' (<- elem' b (nb - 1)) (<- elem' a (na - 1)) | return done out na nb
   if aWins then
    na:=na - 1;out:=out.push (<- elem' a na);acount:=acount+1;bcount:=0
    if na==0 then return done out na nb
    if acount>=minGallop then break
   else
    nb:=nb - 1;out:=out.push (<- elem' b nb);bcount:=bcount+1;acount:=0
    if nb==1 then return firstOfB out na nb
    if bcount>=minGallop then break
  rule "list.sort.gallop"
  minGallop:=minGallop+1
  for _ in [0:total] do
   if minGallop > 1 then minGallop:=minGallop - 1
   setMinGallop' minGallop
   let some at_ <- gallop' false (<- elem' b (nb - 1)) a 0 na (na - 1) | return done out na nb
   let k:=na - at_
   acount:=k
   if k > 0 then
    out:=out++(a.extract at_ na).reverse;na:=at_
    if na==0 then return done out na nb
   nb:=nb - 1;out:=out.push (<- elem' b nb)
   if nb==1 then return firstOfB out na nb
   let some at_ <- gallop' true (<- elem' a (na - 1)) b 0 nb (nb - 1) | return done out na nb
   let k:=nb - at_
   bcount:=k
   if k > 0 then
    out:=out++(b.extract at_ nb).reverse;nb:=at_
    if nb==1 then return firstOfB out na nb
    if nb==0 then return done out na nb
   na:=na - 1;out:=out.push (<- elem' a na)
   if na==0 then return done out na nb
   if acount < 7 && bcount < 7 then break
  minGallop:=minGallop+1
  setMinGallop' minGallop
 unsupported "internal:list.sort.merge-bound"):=rfl
section
variable {prog:Program}{w:World}{A:Around}{E:Value->Shared->Prop}{s:Shared}{κ:SortKind}{it:Array Keyed}{n:Nat}{lt:Nat->Nat->Bool}
abbrev flp(lt:Nat->Nat->Bool):Nat->Nat->Bool:=λx y=>lt y x
theorem WeakOrd.fl(O:WeakOrd n lt):WeakOrd n (flp lt):=⟨λa b c ha hb hc h1 h2=>O.tr c b a hc hb ha h2 h1,λa b ha hb h=>O.asy b a hb ha h⟩
theorem Cp{p:Array Nat}{i:Nat}(h:i < p.size):at0 p.reverse i=at0 p (p.size - 1 - i):=by
 simp [at0,Array.getD,h,show p.size - 1 - i < p.size by omega]
theorem Lr(p:Array Nat){i j:Nat}(h:i<=j)(hj:j<=p.size):p.reverse.extract (p.size - j) (p.size - j+(j - i))=(p.extract i j).reverse:=by
 apply Array.toList_inj.mp
 rw [B8,Array.toList_reverse,Array.toList_reverse,show j=i+(j - i) by omega,B8,show i+(j - i)=j by omega]
 apply List.ext_getElem?
 intro k
 by_cases hk:k < j - i
 ·rw [List.getElem?_take_of_lt hk,List.getElem?_drop,List.getElem?_reverse (by simp;omega),List.getElem?_reverse (by simp;omega),List.getElem?_take_of_lt (by simp;omega),List.getElem?_drop]
  congr 1
  simp;omega
 ·rw [List.getElem?_eq_none (by simp;omega),List.getElem?_eq_none (by simp;omega)]
theorem Hw(p:Array Nat){j:Nat}(hj:j<=p.size):p.reverse.extract (p.size - j) p.reverse.size=(p.extract 0 j).reverse:=by
 rw [<- Lr p (Nat.zero_le j) hj,Array.size_reverse]
 congr 1;omega
theorem MPre.fl{a b:Array Nat}(O:WeakOrd n lt)(p:MPre n lt a b):MPre n (flp lt) b.reverse a.reverse:=by
 have na:=p.na
 have nb:=p.nb
 refine⟨by simpa using nb,by simpa using na,λi hi=>?_,λi hi=>?_,λi j hij hj=>?_,λi j hij hj=>?_,?_,λj hj=>?_⟩
 ·rw [Array.size_reverse]at hi;rw [Cp hi];exact p.ib _ (by omega)
 ·rw [Array.size_reverse]at hi;rw [Cp hi];exact p.ia _ (by omega)
 ·rw [Array.size_reverse]at hj
  show lt (at0 b.reverse i) (at0 b.reverse j)=false
  rw [Cp hj,Cp (by omega)]
  exact p.ub _ _ (by omega) (by omega)
 ·rw [Array.size_reverse]at hj
  show lt (at0 a.reverse i) (at0 a.reverse j)=false
  rw [Cp hj,Cp (by omega)]
  exact p.ua _ _ (by omega) (by omega)
 ·show lt (at0 b.reverse 0) (at0 a.reverse 0)=true
  rw [Cp na,Cp nb]
  exact p.hl _ (by omega)
 ·rw [Array.size_reverse]at hj
  show lt (at0 b.reverse (b.reverse.size - 1)) (at0 a.reverse j)=true
  rw [Array.size_reverse,Cp hj,Cp (by omega),show b.size - 1 - (b.size - 1)=0 by omega]
  rcases Nat.eq_zero_or_pos (a.size - 1 - j) with e | e
  ·rw [e];exact p.h0
  ·exact O.low (p.ib 0 nb) (p.ia 0 na) (p.ia _ (by omega)) p.h0 (p.ua 0 _ e (by omega))
theorem Mgd.fl{a b R:Array Nat}(h:Mgd (flp lt) b.reverse a.reverse R):Mgd lt a b R.reverse:=by
 refine⟨?_,?_⟩
 ·rw [Array.toList_reverse]
  refine(List.reverse_perm _).trans (h.perm.trans ?_)
  rw [Array.toList_reverse,Array.toList_reverse]
  exact((List.reverse_perm _).append (List.reverse_perm _)).trans List.perm_append_comm
 ·rw [Array.toList_reverse,List.pairwise_reverse]
  exact h.srt
structure HM(lt:Nat->Nat->Bool)(a b out:Array Nat)(na nb:Nat):Prop where
 ha:na<=a.size
 hb:nb<=b.size
 m:MI (flp lt) b.reverse a.reverse out (b.size - nb) (a.size - na)
section
variable {a b out:Array Nat}{na nb:Nat}
theorem Kn.fl(h:Kn lt a):Kn (flp lt) a.reverse:=λi j hij hj=>by
 rw [Array.size_reverse]at hj
 show lt (at0 a.reverse i) (at0 a.reverse j)=false
 rw [Cp hj,Cp (by omega)]
 exact h _ _ (by omega) (by omega)
theorem HM.chunkA(h:HM lt a b out na nb)(ua:Kn lt a){k:Nat}(hk:k<=na)(hle:∀i,k<=i->i < na->∀j,j < nb->lt (at0 a i) (at0 b j)=false):HM lt a b (out++(a.extract k na).reverse) k nb:=by
 have h1:=h.ha
 have h2:=h.hb
 refine⟨by omega,h2,?_⟩
 have:=h.m.chunkB (k:=na - k) ua.fl (by rw [Array.size_reverse];omega) λi hi j j1 j2=>by
  rw [Array.size_reverse]at j2
  show lt (at0 a.reverse _) (at0 b.reverse j)=false
  rw [Cp j2,Cp (by omega)]
  exact hle _ (by omega) (by omega) _ (by omega)
 rw [Lr a hk h1,show a.size - na+(na - k)=a.size - k by omega]at this
 exact this
theorem HM.chunkB(h:HM lt a b out na nb)(ub:Kn lt b){k:Nat}(hk:k<=nb)(hle:∀i,k<=i->i < nb->∀j,j < na->lt (at0 b i) (at0 a j)=false):HM lt a b (out++(b.extract k nb).reverse) na k:=by
 have h1:=h.ha
 have h2:=h.hb
 refine⟨h1,by omega,?_⟩
 have:=h.m.chunkA (k:=nb - k) ub.fl (by rw [Array.size_reverse];omega) λi hi j j1 j2=>by
  rw [Array.size_reverse]at j2
  show lt (at0 b.reverse _) (at0 a.reverse j)=false
  rw [Cp j2,Cp (by omega)]
  exact hle _ (by omega) (by omega) _ (by omega)
 rw [Lr b hk h2,show b.size - nb+(nb - k)=b.size - k by omega]at this
 exact this
theorem P0{p:Array Nat}{i:Nat}(h:i < p.size)(out:Array Nat):out.push (at0 p i)=out++(p.extract i (i+1)).reverse:=by
 rw [Lq h]
 congr 1
 apply Array.toList_inj.mp
 rw [Array.toList_reverse,B8,List.drop_eq_getElem_cons (by simpa using h)]
 simp
theorem HM.pushA(h:HM lt a b out na nb)(ua:Kn lt a)(h0:0 < na)(hle:∀j,j < nb->lt (at0 a (na - 1)) (at0 b j)=false):HM lt a b (out.push (at0 a (na - 1))) (na - 1) nb:=by
 have h1:=h.ha
 rw [P0 (show na - 1 < a.size by omega),show na - 1+1=na by omega]
 exact h.chunkA ua (by omega) λi i1 i2 j hj=>by rw [show i=na - 1 by omega];exact hle j hj
theorem HM.pushB(h:HM lt a b out na nb)(ub:Kn lt b)(h0:0 < nb)(hle:∀j,j < na->lt (at0 b (nb - 1)) (at0 a j)=false):HM lt a b (out.push (at0 b (nb - 1))) na (nb - 1):=by
 have h1:=h.hb
 rw [P0 (show nb - 1 < b.size by omega),show nb - 1+1=nb by omega]
 exact h.chunkB ub (by omega) λi i1 i2 j hj=>by rw [show i=nb - 1 by omega];exact hle j hj
theorem HM.doneA(h:HM lt a b out 0 nb)(ub:Kn lt b):Mgd lt a b (a.extract 0 0++b.extract 0 nb++out.reverse):=by
 have h2:=h.hb
 have:=(MI.doneB (a:=b.reverse) (b:=a.reverse) (by rw [Array.size_reverse];exact h.m) ub.fl).fl
 rw [Hw b h2,Array.reverse_append,Array.reverse_append,Array.reverse_reverse]at this
 rw [show(a.reverse.extract a.reverse.size a.reverse.size).reverse=a.extract 0 0 by simp,<- Array.append_assoc]at this
 exact this
theorem HM.doneB(h:HM lt a b out na 0)(ua:Kn lt a):Mgd lt a b (a.extract 0 na++b.extract 0 0++out.reverse):=by
 have h1:=h.ha
 have:=(MI.doneA (a:=b.reverse) (b:=a.reverse) (by rw [Array.size_reverse];exact h.m) ua.fl).fl
 rw [Hw a h1,Array.reverse_append,Array.reverse_append,Array.reverse_reverse]at this
 rw [show(b.reverse.extract b.reverse.size b.reverse.size).reverse=b.extract 0 0 by simp,<- Array.append_assoc]at this
 exact this
theorem HM.firstB(O:WeakOrd n lt)(p:MPre n lt a b)(h:HM lt a b out na 1):Mgd lt a b (b.extract 0 1++a.extract 0 na++out.reverse):=by
 have h1:=h.ha
 have h2:=h.hb
 have:=(h.m.lastA p.ub.fl p.ua.fl (by rw [Array.size_reverse];omega) ((p.fl O).le O.fl)).fl
 rw [Hw a h1,Hw b h2,Array.reverse_append,Array.reverse_append,Array.reverse_reverse,Array.reverse_reverse,<- Array.append_assoc]at this
 exact this
end
theorem mpR(out a:Array Nat)(i k:Nat):out.map (kas_item it)++((a.map (kas_item it)).extract i k).reverse=(out++(a.extract i k).reverse).map (kas_item it):=by
 rw [Array.map_append,Array.map_reverse,Array.map_extract]
theorem Yy(x y z:Array Nat)(i j k l:Nat):(x.map (kas_item it)).extract i j++(y.map (kas_item it)).extract k l++(z.map (kas_item it)).reverse=(x.extract i j++y.extract k l++z.reverse).map (kas_item it):=by
 rw [Array.map_append,Array.map_append,Array.map_reverse,Array.map_extract,Array.map_extract]
abbrev HiS:=Option (Array Keyed)×Nat×Nat×Array Keyed×Nat×Nat×Nat
def Xd(a b out:Array Keyed)(na nb mg ac bc:Nat):StateT SortSt Sem (ForInStep HiS) :=
 elem' a (na - 1) >>= λy =>
  if(na - 1==0)=true then pure (ForInStep.done (some (a.extract 0 (na - 1)++b.extract 0 nb++(out.push y).reverse),na - 1,nb,out.push y,mg,ac,bc))
  else if(decide (ac < 7) && decide (bc < 7))=true then pure (ForInStep.done (none,na - 1,nb,out.push y,mg,ac,bc))
  else pure (ForInStep.yield (none,na - 1,nb,out.push y,mg,ac,bc))
def Xe(a b out:Array Keyed)(na nb mg ac bc:Nat):StateT SortSt Sem (ForInStep HiS) :=
 elem' b (nb - 1) >>= λy =>
  if(nb - 1==1)=true then pure (ForInStep.done (some (b.extract 0 (nb - 1)++a.extract 0 na++(out.push y).reverse),na,nb - 1,out.push y,mg,ac,bc))
  else elem' a (na - 1) >>= λz=>gallop' true z b 0 (nb - 1) (nb - 1 - 1) >>= λx =>
   match x with
   | some k=>if nb - 1 - k > 0 then
     (if(k==1)=true then pure (ForInStep.done (some (b.extract 0 k++a.extract 0 na++(out.push y++(b.extract k (nb - 1)).reverse).reverse),na,k,out.push y++(b.extract k (nb - 1)).reverse,mg,ac,nb - 1 - k))
     else if(k==0)=true then pure (ForInStep.done (some (a.extract 0 na++b.extract 0 k++(out.push y++(b.extract k (nb - 1)).reverse).reverse),na,k,out.push y++(b.extract k (nb - 1)).reverse,mg,ac,nb - 1 - k))
     else Xd a b (out.push y++(b.extract k (nb - 1)).reverse) na k mg ac (nb - 1 - k))
    else Xd a b (out.push y) na (nb - 1) mg ac (nb - 1 - k)
   | _=>pure (ForInStep.done (some (a.extract 0 na++b.extract 0 (nb - 1)++(out.push y).reverse),na,nb - 1,out.push y,mg,ac,bc))
def Qbk(a b out:Array Keyed)(na nb mg ac bc:Nat):StateT SortSt Sem (ForInStep HiS) :=
 setMinGallop' mg >>= λ_=>elem' b (nb - 1) >>= λy=>gallop' false y a 0 na (na - 1) >>= λx =>
  match x with
  | some k=>if na - k > 0 then
    (if(k==0)=true then pure (ForInStep.done (some (a.extract 0 k++b.extract 0 nb++(out++(a.extract k na).reverse).reverse),k,nb,out++(a.extract k na).reverse,mg,na - k,bc))
    else Xe a b (out++(a.extract k na).reverse) k nb mg (na - k) bc)
   else Xe a b out na nb mg (na - k) bc
  | _=>pure (ForInStep.done (some (a.extract 0 na++b.extract 0 nb++out.reverse),na,nb,out,mg,ac,bc))
structure HMid(lt:Nat->Nat->Bool)(it:Array Keyed)(a b:Array Nat)(q:Nat)(o:Array Keyed)(na nb:Nat):Prop where
 m:∃out:Array Nat,o=out.map (kas_item it)/\HM lt a b out na nb
 ha:0 < na
 hb:1 < nb
 q:na+nb+q<=a.size+b.size
section
variable {a b:Array Nat}{st:SortSt}{Qd Qy:HiS->SortSt->Prop}{out:Array Nat}{na nb mg ac bc:Nat}
theorem Yz(O:WeakOrd n lt)(p:MPre n lt a b)(M:HM lt a b out na nb)(ha:0 < na)(hb:1 < nb)(hle:∀j,j < nb->lt (at0 a (na - 1)) (at0 b j)=false){q:Nat}(hq:na+nb+q<=a.size+b.size)
  (fin:∀R c,Mgd lt a b R->c.1=some (R.map (kas_item it))->Qd c st) (go:∀o i j m x y,HMid lt it a b (q+1) o i j->Qd (none,i,j,o,m,x,y) st/\Qy (none,i,j,o,m,x,y) st) :
  wpS (model prog w) A E s (Xd (a.map (kas_item it)) (b.map (kas_item it)) (out.map (kas_item it)) na nb mg ac bc) (λr st'=>match r with | .done c'=>Qd c' st' | .yield c'=>Qy c' st') st:=by
 have h1:=M.ha
 unfold Xd
 refine wpS_bind (Bx (by omega) ?_)
 have M1:=M.pushA p.ua ha hle
 simp only [Yv,Yy]
 by_cases e:na - 1=0
 ·rw [if_pos (by simpa using e)]
  refine wpS_pure (fin _ _ (show Mgd lt a b (a.extract 0 (na - 1)++b.extract 0 nb++(out.push (at0 a (na - 1))).reverse) from ?_) rfl)
  have:=(show HM lt a b (out.push (at0 a (na - 1))) 0 nb by rw [<- e];rw [e]at M1 ⊢;exact M1).doneA p.ub
  rw [e]at this ⊢
  exact this
 ·rw [if_neg (by simpa using e)]
  have g:=go _ _ _ mg ac bc (⟨⟨_,rfl,M1⟩,by omega,hb,by omega⟩:HMid lt it a b (q+1) _ (na - 1) nb)
  by_cases e4:(decide (ac < 7) && decide (bc < 7))=true
  ·rw [if_pos e4];exact wpS_pure g.1
  ·rw [if_neg e4];exact wpS_pure g.2
theorem Y0(O:WeakOrd n lt)(hc:Cmp prog w A κ it n lt s)(hk:kindOf st=κ)(p:MPre n lt a b)(M:HM lt a b out na nb)(ha:0 < na)(hb:1 < nb)(hle:∀j,j < na->lt (at0 b (nb - 1)) (at0 a j)=false){q:Nat}(hq:na+nb+q<=a.size+b.size)
  (fin:∀R c,Mgd lt a b R->c.1=some (R.map (kas_item it))->Qd c st) (go:∀o i j m x y,HMid lt it a b (q+1) o i j->Qd (none,i,j,o,m,x,y) st/\Qy (none,i,j,o,m,x,y) st) :
  wpS (model prog w) A E s (Xe (a.map (kas_item it)) (b.map (kas_item it)) (out.map (kas_item it)) na nb mg ac bc) (λr st'=>match r with | .done c'=>Qd c' st' | .yield c'=>Qy c' st') st:=by
 have h1:=M.ha
 have h2:=M.hb
 unfold Xe
 refine wpS_bind (Bx (by omega) ?_)
 have M1:=M.pushB p.ub (by omega) hle
 simp only [Yv]
 by_cases e:nb - 1=1
 ·rw [if_pos (by simpa using e)]
  simp only [Yy]
  refine wpS_pure (fin _ _ (show Mgd lt a b (b.extract 0 (nb - 1)++a.extract 0 na++(out.push (at0 b (nb - 1))).reverse) from ?_) rfl)
  rw [e]at M1 ⊢
  exact M1.firstB O p
 ·rw [if_neg (by simpa using e)]
  refine wpS_bind (Bx (by omega) ?_)
  refine wpS_bind (Qbi O hc hk (by omega) (by omega) p.ib (p.ia (na - 1) (by omega)) (λi j _ h2 h3=>p.ub i j h2 (by omega)) λk k1 k2 k3=>?_)
  dsimp only
  simp only [Nat.zero_add]at k2 k3
  have hge:∀i,k<=i->i < nb - 1->∀j,j < na->lt (at0 b i) (at0 a j)=false:=λi i1 i2 j hj=>by
   have e1:=k3 i i1 i2
   rcases Nat.eq_or_lt_of_le (show j<=na - 1 by omega) with rfl | hj'
   ·exact e1
   ·exact O.tr _ _ _ (p.ia j (by omega)) (p.ia (na - 1) (by omega)) (p.ib i (by omega)) (p.ua j (na - 1) hj' (by omega)) e1
  have M2:=M1.chunkB p.ub (k:=k) k1 hge
  by_cases kp:nb - 1 - k > 0
  ·rw [if_pos kp]
   simp only [mpR,Yy]
   by_cases e1:k=1
   ·rw [if_pos (by simpa using e1)]
    refine wpS_pure (fin _ _ (show Mgd lt a b (b.extract 0 k++a.extract 0 na++(out.push (at0 b (nb - 1))++(b.extract k (nb - 1)).reverse).reverse) from ?_) rfl)
    subst e1
    exact M2.firstB O p
   ·rw [if_neg (by simpa using e1)]
    by_cases e2:k=0
    ·rw [if_pos (by simpa using e2)]
     refine wpS_pure (fin _ _ (show Mgd lt a b (a.extract 0 na++b.extract 0 k++(out.push (at0 b (nb - 1))++(b.extract k (nb - 1)).reverse).reverse) from ?_) rfl)
     subst e2
     exact M2.doneB p.ua
    ·rw [if_neg (by simpa using e2)]
     exact Yz O p M2 ha (by omega) (λj hj=>O.asy _ _ (p.ib j (by omega)) (p.ia _ (by omega)) (k2 j hj)) (q:=q) (by omega) fin go
  ·rw [if_neg kp]
   exact Yz O p M1 ha (by omega) (λj hj=>O.asy _ _ (p.ib j (by omega)) (p.ia _ (by omega)) (k2 j (by omega))) (q:=q) (by omega) fin go
theorem Qej(O:WeakOrd n lt)(hc:Cmp prog w A κ it n lt s)(hk:kindOf st=κ)(p:MPre n lt a b)(M:HM lt a b out na nb)(ha:0 < na)(hb:1 < nb){q:Nat}(hq:na+nb+q<=a.size+b.size)
  (fin:∀R c,Mgd lt a b R->c.1=some (R.map (kas_item it))->Qd c (Cd st mg)) (go:∀o i j m x y,HMid lt it a b (q+1) o i j->Qd (none,i,j,o,m,x,y) (Cd st mg)/\Qy (none,i,j,o,m,x,y) (Cd st mg)) :
  wpS (model prog w) A E s (Qbk (a.map (kas_item it)) (b.map (kas_item it)) (out.map (kas_item it)) na nb mg ac bc) (λr st'=>match r with | .done c'=>Qd c' st' | .yield c'=>Qy c' st') st:=by
 have h1:=M.ha
 have h2:=M.hb
 unfold Qbk
 rw [Cl]
 refine wpS_bind (wpS_modify (wpS_bind (Bx (by omega) ?_)))
 refine wpS_bind (Qbh O hc (st:=Cd st mg) hk (by omega) (by omega) p.ia (p.ib (nb - 1) (by omega)) (λi j _ h2 h3=>p.ua i j h2 (by omega)) λk k1 k2 k3=>?_)
 dsimp only
 simp only [Nat.zero_add]at k2 k3
 have hge:∀i,k<=i->i < na->∀j,j < nb->lt (at0 a i) (at0 b j)=false:=λi i1 i2 j hj=>by
  have e1:=O.asy _ _ (p.ib (nb - 1) (by omega)) (p.ia i (by omega)) (k3 i i1 i2)
  rcases Nat.eq_or_lt_of_le (show j<=nb - 1 by omega) with rfl | hj'
  ·exact e1
  ·exact O.tr _ _ _ (p.ib j (by omega)) (p.ib (nb - 1) (by omega)) (p.ia i (by omega)) (p.ub j (nb - 1) hj' (by omega)) e1
 have M1:=M.chunkA p.ua (k:=k) k1 hge
 by_cases kp:na - k > 0
 ·rw [if_pos kp]
  simp only [mpR,Yy]
  by_cases e1:k=0
  ·rw [if_pos (by simpa using e1)]
   refine wpS_pure (fin _ _ (show Mgd lt a b (a.extract 0 k++b.extract 0 nb++(out++(a.extract k na).reverse).reverse) from ?_) rfl)
   subst e1
   exact M1.doneA p.ub
  ·rw [if_neg (by simpa using e1)]
   exact Y0 O hc (st:=Cd st mg) hk p M1 (by omega) hb k2 (q:=q) (by omega) fin go
 ·rw [if_neg kp]
  exact Y0 O hc (st:=Cd st mg) hk p M ha hb (λj hj=>k2 j (by omega)) (q:=q) hq fin go
end
theorem MPre.last{a b:Array Nat}(O:WeakOrd n lt)(p:MPre n lt a b):HM lt a b #[at0 a (a.size - 1)] (a.size - 1) b.size:=by
 have na:=p.na
 have nb:=p.nb
 have h0:HM lt a b #[] a.size b.size:=⟨Nat.le_refl _,Nat.le_refl _,by rw [Nat.sub_self,Nat.sub_self];exact MI.zero _ _⟩
 exact h0.pushA p.ua na λj hj=>p.le O j hj
theorem Rr(O:WeakOrd n lt)(hc:Cmp prog w A κ it n lt s){a b:Array Nat}{st:SortSt}(hk:kindOf st=κ)(p:MPre n lt a b){Q:Array Keyed->SortSt->Prop}(h:∀R g,Mgd lt a b R->Q (R.map (kas_item it)) (Cd st g)) :
  wpS (model prog w) A E s (mergeHi' (a.map (kas_item it)) (b.map (kas_item it))) Q st:=by
 rw [My]
 dsimp only
 have M0:=p.last O
 have na:=p.na
 have nb:=p.nb
 have sa:(a.map (kas_item it)).size=a.size:=Array.size_map ..
 have sb:(b.map (kas_item it)).size=b.size:=Array.size_map ..
 have e0:#[kas_item it (a.getD (a.size - 1) 0)]=(#[at0 a (a.size - 1)]:Array Nat).map (kas_item it):=by simp
 refine wpS_bind (wpS_lift (wpAny_rule ⟨rfl,?_⟩))
 refine wpS_bind (Bx (by omega) ?_)
 rw [sa,e0]
 by_cases e1:a.size - 1=0
 ·rw [if_pos (by simpa using e1)]
  simp only [sb,Yy]
  refine wpS_pure (h _ (gallopOf st) ?_)
  have:=(show HM lt a b #[at0 a (a.size - 1)] 0 b.size by rw [e1]at M0 ⊢;exact M0).doneA p.ub
  rw [e1]at this ⊢
  exact this
 rw [if_neg (by simpa using e1)]
 by_cases e2:b.size=1
 ·rw [if_pos (by simpa using e2)]
  simp only [sb,Yy]
  refine wpS_pure (h _ (gallopOf st) ?_)
  rw [e2]at M0 ⊢
  exact M0.firstB O p
 rw [if_neg (by simpa using e2)]
 refine wpS_bind (wpS_get ?_)
 refine wpS_bind (wpS_mono (wpS_forRange (I:=λx c st'=>(∃g,st'=Cd st g)/\c.1=none/\HMid lt it a b (1+x) c.2.2.2.1 c.2.1 c.2.2.1) (Q:=λc st'=>(∃g,st'=Cd st g)/\∃R,c.1=some (R.map (kas_item it))/\Mgd lt a b R) ?_ ?_ ⟨⟨gallopOf st,rfl⟩,rfl,⟨_,rfl,by rw [sb];exact M0⟩,by show 0 < a.size - 1;omega,by show 1 < (b.map (kas_item it)).size;omega,by show a.size - 1+(b.map (kas_item it)).size+(1+0)<=_;omega⟩) ?_)
 ·rintro x ⟨c1,ia,ib,o,mg⟩ st' _ hx ⟨⟨g,rfl⟩,rfl,⟨out,eo,M⟩,ha,hb,hq⟩
  dsimp only at eo M ha hb hq ⊢
  subst eo
  refine wpS_bind (wpS_mono (wpS_forRange (I:=λy c st'=>st'=Cd st g/\c.1=none/\HMid lt it a b (1+x+y) c.2.2.2.1 c.2.1 c.2.2.1) (Q:=λc st'=>st'=Cd st g/\((∃R,c.1=some (R.map (kas_item it))/\Mgd lt a b R)\/(c.1=none/\HMid lt it a b (1+x+1) c.2.2.2.1 c.2.1 c.2.2.1))) ?_ ?_ ⟨rfl,rfl,⟨out,rfl,M⟩,ha,hb,hq⟩) ?_)
  ·clear M ha hb hq
   rintro y ⟨c1,ja,jb,o,ac,bc⟩ st' _ hy ⟨rfl,rfl,⟨out,eo,M⟩,ha,hb,hq'⟩
   dsimp only at eo M ha hb hq' ⊢
   subst eo
   have h1:=M.ha
   have h2:=M.hb
   refine wpS_bind (Bx (by omega) (wpS_bind (Bx (by omega) (wpS_bind (T5 hc (st:=Cd st g) hk (p.ib _ (by omega)) (p.ia _ (by omega)) ?_)))))
   dsimp only
   cases e:lt (b.getD (jb - 1) 0) (a.getD (ja - 1) 0) with
   | true =>
    rw [if_pos rfl]
    refine wpS_bind (Bx (by omega) ?_)
    have M1:=M.pushA p.ua ha λj hj=>by
     have e':=O.asy _ _ (p.ib _ (by omega)) (p.ia (ja - 1) (by omega)) e
     rcases Nat.eq_or_lt_of_le (show j<=jb - 1 by omega) with rfl | hj'
     ·exact e'
     ·exact O.tr _ _ _ (p.ib j (by omega)) (p.ib (jb - 1) (by omega)) (p.ia (ja - 1) (by omega)) (p.ub j (jb - 1) hj' (by omega)) e'
    simp only [Yv]
    by_cases e3:ja - 1=0
    ·rw [if_pos (by simpa using e3)]
     simp only [Yy]
     refine wpS_pure ⟨rfl,.inl ⟨_,rfl,?_⟩⟩
     have:=(show HM lt a b (out.push (at0 a (ja - 1))) 0 jb by rw [e3]at M1 ⊢;exact M1).doneA p.ub
     rw [e3]at this ⊢
     exact this
    ·rw [if_neg (by simpa using e3)]
     by_cases e4:ac+1>=mg <;> simp only [e4,if_true,if_false]
     ·exact wpS_pure ⟨rfl,.inr ⟨rfl,⟨_,rfl,M1⟩,by show 0 < ja - 1;omega,hb,by show ja - 1+jb+_<=_;omega⟩⟩
     ·exact wpS_pure ⟨rfl,rfl,⟨_,rfl,M1⟩,by show 0 < ja - 1;omega,hb,by show ja - 1+jb+_<=_;omega⟩
   | false =>
    rw [if_neg Bool.false_ne_true]
    refine wpS_bind (Bx (by omega) ?_)
    have M1:=M.pushB p.ub (by omega) λj hj=>by
     rcases Nat.eq_or_lt_of_le (show j<=ja - 1 by omega) with rfl | hj'
     ·exact e
     ·exact O.tr _ _ _ (p.ia j (by omega)) (p.ia (ja - 1) (by omega)) (p.ib (jb - 1) (by omega)) (p.ua j (ja - 1) hj' (by omega)) e
    simp only [Yv]
    by_cases e3:jb - 1=1
    ·rw [if_pos (by simpa using e3)]
     simp only [Yy]
     refine wpS_pure ⟨rfl,.inl ⟨_,rfl,?_⟩⟩
     rw [e3]at M1 ⊢
     exact M1.firstB O p
    ·rw [if_neg (by simpa using e3)]
     by_cases e4:bc+1>=mg <;> simp only [e4,if_true,if_false]
     ·exact wpS_pure ⟨rfl,.inr ⟨rfl,⟨_,rfl,M1⟩,ha,by show 1 < jb - 1;omega,by show ja+(jb - 1)+_<=_;omega⟩⟩
     ·exact wpS_pure ⟨rfl,rfl,⟨_,rfl,M1⟩,ha,by show 1 < jb - 1;omega,by show ja+(jb - 1)+_<=_;omega⟩
  ·rintro c st' ⟨_,_,⟨out,_,M⟩,ha',hb',hq'⟩
   omega
  ·rintro⟨c1,ja,jb,o,ac,bc⟩ st' ⟨rfl,⟨R,rfl,hR⟩ | ⟨rfl,hM⟩⟩
   ·exact wpS_pure ⟨⟨g,rfl⟩,R,rfl,hR⟩
   ·dsimp only at hM ⊢
    refine wpS_bind (wpS_lift (wpAny_rule ⟨rfl,?_⟩))
    refine wpS_bind (wpS_mono (wpS_forRange (I:=λy c st'=>(∃g,st'=Cd st g)/\c.1=none/\HMid lt it a b (1+x+1+y) c.2.2.2.1 c.2.1 c.2.2.1) (Q:=λc st'=>(∃g,st'=Cd st g)/\((∃R,c.1=some (R.map (kas_item it))/\Mgd lt a b R)\/(c.1=none/\HMid lt it a b (1+x+1) c.2.2.2.1 c.2.1 c.2.2.1))) ?_ ?_ ⟨⟨g,rfl⟩,rfl,hM⟩) ?_)
    ·clear hM
     rintro y ⟨c1,ja,jb,o,mg,ac,bc⟩ st' _ hy ⟨⟨g,rfl⟩,rfl,⟨out,eo,M⟩,ha,hb,hq'⟩
     dsimp only at eo M ha hb hq' ⊢
     subst eo
     have key:∀mg,wpS (model prog w) A E s (Qbk (a.map (kas_item it)) (b.map (kas_item it)) (out.map (kas_item it)) ja jb mg ac bc) _ (Cd st g):=λmg =>
      Qej (Qd:=λc st'=>(∃g,st'=Cd st g)/\((∃R,c.1=some (R.map (kas_item it))/\Mgd lt a b R)\/(c.1=none/\HMid lt it a b (1+x+1) c.2.2.2.1 c.2.1 c.2.2.1)))
       (Qy:=λc st'=>(∃g,st'=Cd st g)/\c.1=none/\HMid lt it a b (1+x+1+(y+1)) c.2.2.2.1 c.2.1 c.2.2.1) O hc (st:=Cd st g) hk p M ha hb (q:=1+x+1+y) hq' (λR c hR e=>⟨⟨mg,rfl⟩,.inl ⟨R,e,hR⟩⟩)
       λo i j m x y hm=>⟨⟨⟨mg,rfl⟩,.inr ⟨rfl,hm.m,hm.ha,hm.hb,by have:=hm.q;show i+j+_<=_;omega⟩⟩,⟨mg,rfl⟩,rfl,hm.m,hm.ha,hm.hb,by have:=hm.q;show i+j+_<=_;omega⟩
     by_cases e4:mg > 1
     ·rw [if_pos e4]
      refine wpS_mono (key (mg - 1)) ?_
      rintro(c | c) st' hh <;> exact hh
     ·rw [if_neg e4]
      refine wpS_mono (key mg) ?_
      rintro(c | c) st' hh <;> exact hh
    ·rintro c st' ⟨⟨g,rfl⟩,h1,h2⟩
     exact⟨⟨g,rfl⟩,.inr ⟨h1,h2.m,h2.ha,h2.hb,by have:=h2.q;omega⟩⟩
    ·rintro⟨c1,ja,jb,o,mg,ac,bc⟩ st' ⟨⟨g,rfl⟩,⟨R,rfl,hR⟩ | ⟨rfl,hM⟩⟩
     ·exact wpS_pure ⟨⟨g,rfl⟩,R,rfl,hR⟩
     ·dsimp only at hM ⊢
      rw [Cl]
      refine wpS_bind (wpS_modify (wpS_pure ⟨⟨_,rfl⟩,rfl,hM.m,hM.ha,hM.hb,?_⟩))
      have:=hM.q
      show ja+jb+_<=_
      omega
 ·rintro c st' ⟨_,_,⟨out,_,M⟩,ha',hb',hq'⟩
  omega
 ·rintro⟨c1,o⟩ st' ⟨⟨g,rfl⟩,R,rfl,hR⟩
  exact wpS_pure (h R g hR)
end
theorem Mz(i:Nat):mergeAt' i=(do
 let s <- get
 let(some (sa,na,power),some (sb,nb,_)):=((pendingOf s)[i]?,(pendingOf s)[i+1]?) | unsupported "internal:list.sort.pending"
 set (setPending s (((pendingOf s).setIfInBounds i (sa,na+nb,power)).eraseIdxIfInBounds (i+1)))
 let some k <- gallop' false (<- elem' (arrOf s) sb) (arrOf s) sa na 0 | return false
 let(sa,na):=(sa+k,na - k)
 if na==0 then return true
 let some nb <- gallop' true (<- elem' (arrOf s) (sa+na - 1)) (arrOf s) sb nb (nb - 1) | return false
 if nb==0 then return true
 let x:=(arrOf s).extract sa sb
 let y:=(arrOf s).extract sb (sb+nb)
 let merged <- if na<=nb then mergeLo' x y else mergeHi' x y
 modify λs=>setArr s (merged.toList.zipIdx.foldl (λa (p,j)=>a.setIfInBounds (sa+j) p) (arrOf s))
 return (failedOf (<- get)).isNone):=rfl
section
variable {prog:Program}{w:World}{A:Around}{E:Value->Shared->Prop}{s:Shared}{κ:SortKind}{it:Array Keyed}{n:Nat}{lt:Nat->Nat->Bool}
def SS(κ:SortKind)(it:Array Keyed)(p:Array Nat)(pd:Array (Nat×Nat×Nat))(g:Nat):SortSt:=SortSt.mk' κ (p.map (kas_item it)) pd g none
def Seg(lt:Nat->Nat->Bool)(p:Array Nat)(lo len:Nat):Prop:=∀i j,lo<=i->i < j->j < lo+len->lt (at0 p j) (at0 p i)=false
theorem Xf{σ:Type}{M:Model}{x:σ}{Q:PUnit->σ->Prop}{st:σ}(h:Q ⟨⟩ x):wpS M A E s (set x:StateT σ Sem PUnit) Q st:=by
 unfold wpS;rw [StateT.run_set];exact wpAny_pure ⟨rfl,h⟩
def wr{α:Type}(off:Nat):List α->Nat->Array α->Array α
 | [],_,p=>p
 | x :: xs,k,p=>wr off xs (k+1) (p.setIfInBounds (off+k) x)
theorem Qa{α:Type}(off:Nat):∀(xs:List α) (k:Nat) (p:Array α),(xs.zipIdx k).foldl (λa (z:α×Nat)=>a.setIfInBounds (off+z.2) z.1) p=wr off xs k p
 | [],_,_=>rfl
 | x :: xs,k,p=>by
  rw [List.zipIdx_cons,List.foldl_cons,wr]
  exact Qa off xs (k+1) _
theorem T6{α β:Type}(f:α->β)(off:Nat):∀(xs:List α) (k:Nat) (p:Array α),wr off (xs.map f) k (p.map f)=(wr off xs k p).map f
 | [],_,_=>rfl
 | x :: xs,k,p=>by
  rw [List.map_cons,wr,wr,<- T6 f off xs (k+1)]
  congr 1
  rw [Array.map_setIfInBounds]
theorem Qb{α:Type}(off:Nat):∀(xs:List α) (k:Nat) (p:Array α),(wr off xs k p).size=p.size
 | [],_,_=>rfl
 | x :: xs,k,p=>by rw [wr,Qb off xs,Array.size_setIfInBounds]
theorem Os{α:Type}(off:Nat):∀(xs:List α) (k:Nat) (p:Array α),off+k+xs.length<=p.size->∀i:Nat,(wr off xs k p)[i]?=if off+k<=i/\i < off+k+xs.length then xs[i - (off+k)]? else p[i]?
 | [],k,p,_,i=>by rw [wr,if_neg (by simp only [List.length_nil];omega)]
 | x :: xs,k,p,h,i=>by
  rw [List.length_cons]at h
  rw [wr,Os off xs (k+1) _ (by rw [Array.size_setIfInBounds];omega),Array.getElem?_setIfInBounds,List.length_cons]
  by_cases h1:off+k=i
  ·subst h1
   rw [if_neg (by omega),if_pos rfl,if_pos (by omega),if_pos (by omega),Nat.sub_self];rfl
  ·by_cases h2:off+(k+1)<=i/\i < off+(k+1)+xs.length
   ·rw [if_pos h2,if_pos (by omega)]
    rw [show i - (off+k)=i - (off+(k+1))+1 by omega,List.getElem?_cons_succ]
   ·rw [if_neg h2,if_neg h1,if_neg (by omega)]
theorem Fy{p q:Array Nat}{i j:Nat}(h:p[i]?=q[j]?):at0 p i=at0 q j:=by
 unfold at0
 rw [Array.getD_eq_getD_getElem?,Array.getD_eq_getD_getElem?,h]
theorem T7{p:Array Nat}{xs:List Nat}{i j:Nat}{d:Nat}(h:p[i]?=xs[j]?)(hj:j < xs.length):at0 p i=xs[j]:=by
 unfold at0
 rw [Array.getD_eq_getD_getElem?,h,List.getElem?_eq_getElem hj];rfl
theorem Xg(off:Nat)(R:List Nat)(p:Array Nat)(h:off+R.length<=p.size):(wr off R 0 p).toList=p.toList.take off++R++p.toList.drop (off+R.length):=by
 apply List.ext_getElem?
 intro i
 rw [Array.getElem?_toList,Os off R 0 p h]
 simp only [Nat.add_zero]
 have hl:(p.toList.take off).length=off:=by rw [List.length_take,Array.length_toList];omega
 by_cases h1:i < off
 ·rw [if_neg (by omega),List.append_assoc,List.getElem?_append_left (by omega),List.getElem?_take_of_lt h1,Array.getElem?_toList]
 ·by_cases h2:i < off+R.length
  ·rw [if_pos (by omega),List.getElem?_append_left (by rw [List.length_append];omega),List.getElem?_append_right (by omega),hl]
  ·rw [if_neg (by omega),List.getElem?_append_right (by rw [List.length_append];omega),List.length_append,hl,List.getElem?_drop,Array.getElem?_toList]
   congr 1;omega
theorem Du{p:Array Nat}{i j k:Nat}(h:i+k < j)(hj:j<=p.size):at0 (p.extract i j) k=at0 p (i+k):=Fy (by
 rw [Array.getElem?_extract]
 rw [if_pos (by omega)])
theorem Xh{p:Array Nat}{i j k:Nat}(h1:i<=j)(h2:j<=k):(p.extract i j).toList++(p.extract j k).toList=(p.toList.drop i).take (k - i):=by
 rw [show j=i+(j - i) by omega,B8,show i+(j - i)=j by omega,show k=j+(k - j) by omega,B8,show j+(k - j) - i=(j - i)+(k - j) by omega,List.take_add,List.drop_drop,show i+(j - i)=j by omega]
structure Kept(p p':Array Nat)(lo hi:Nat):Prop where
 size:p'.size=p.size
 perm:p'.toList.Perm p.toList
 same:∀i,i < lo\/hi<=i->at0 p' i=at0 p i
theorem Kept.refl{p:Array Nat}{lo hi:Nat}:Kept p p lo hi:=⟨rfl,.refl _,λ_ _=>rfl⟩
theorem Kept.trans{p q r:Array Nat}{lo hi:Nat}(h:Kept p q lo hi)(k:Kept q r lo hi):Kept p r lo hi:=⟨k.size.trans h.size,k.perm.trans h.perm,λi hi=>(k.same i hi).trans (h.same i hi)⟩
theorem Kept.mono{p q:Array Nat}{lo hi lo' hi':Nat}(h:Kept p q lo hi)(h1:lo'<=lo)(h2:hi<=hi'):Kept p q lo' hi':=⟨h.size,h.perm,λi hi=>h.same i (by omega)⟩
theorem Xi{p:Array Nat}{x:Nat}(h:x∈p.toList):∃i,i < p.size/\x=at0 p i:=by
 obtain⟨i,hi,e⟩:=List.getElem_of_mem h
 rw [Array.length_toList]at hi
 refine⟨i,hi,?_⟩
 rw [<- e];simp [at0,Array.getD,hi]
theorem Xj{p:Array Nat}{i:Nat}(h:i < p.size):at0 p i∈p.toList:=by
 simp [at0,Array.getD,h]
theorem Kept.in{p p':Array Nat}{lo hi:Nat}(h:Kept p p' lo hi)(hp:In n p):In n p':=λi hi=>by
 obtain⟨j,hj,e⟩:=Xi (h.perm.mem_iff.mp (Xj hi))
 rw [e];exact hp j hj
theorem Seg.kept{p p':Array Nat}{lo hi a len:Nat}(h:Seg lt p a len)(k:Kept p p' lo hi)(ho:a+len<=lo\/hi<=a):Seg lt p' a len:=λi j h1 h2 h3=>by
 rw [k.same i (by omega),k.same j (by omega)]
 exact h i j h1 h2 h3
theorem Rs(O:WeakOrd n lt)(hc:Cmp prog w A κ it n lt s){p:Array Nat}{pd:Array (Nat×Nat×Nat)}{g i sa na pw nb pw2:Nat}(hp:In n p)(h1:pd[i]?=some (sa,na,pw))(h2:pd[i+1]?=some (sa+na,nb,pw2))(ha:0 < na)(hb:0 < nb)(hs:sa+na+nb<=p.size)
  (sA:Seg lt p sa na) (sB:Seg lt p (sa+na) nb) {Q:Bool->SortSt->Prop}
  (h:∀p' g',Kept p p' sa (sa+na+nb)->Seg lt p' sa (na+nb)->Q true (SS κ it p' ((pd.setIfInBounds i (sa,na+nb,pw)).eraseIdxIfInBounds (i+1)) g')):wpS (model prog w) A E s (mergeAt' i) Q (SS κ it p pd g):=by
 rw [Mz]
 refine wpS_bind (wpS_get ?_)
 have e1:(pendingOf (SS κ it p pd g))[i]?=some (sa,na,pw):=h1
 have e2:(pendingOf (SS κ it p pd g))[i+1]?=some (sa+na,nb,pw2):=h2
 rw [e1,e2]
 dsimp only
 have earr:arrOf (SS κ it p pd g)=p.map (kas_item it):=rfl
 rw [earr]
 refine wpS_bind (Xf (wpS_bind (Bx (by omega) ?_)))
 have hl:=λi (hi:i < p.size)=>hp i hi
 refine wpS_bind (Qbh O hc (st:=SS κ it p ((pd.setIfInBounds i (sa,na+nb,pw)).eraseIdxIfInBounds (i+1)) g) rfl ha (by omega) hp (hl _ (by omega)) (λx y a1 a2 a3=>sA x y a1 a2 a3) λk k1 k2 k3=>?_)
 dsimp only
 have low:∀x,sa<=x->x < sa+k->lt (at0 p (sa+na)) (at0 p x)=false:=λx a1 a2=>by
  have:=k2 (x - sa) (by omega)
  rwa [show sa+(x - sa)=x by omega]at this
 have bfrom:∀y,sa+na<=y->y < sa+na+nb->lt (at0 p y) (at0 p (sa+na))=false:=λy a1 a2=>by
  rcases Nat.eq_or_lt_of_le a1 with rfl | a1
  ·exact O.irr (hl _ (by omega))
  ·exact sB _ y (Nat.le_refl _) a1 (by omega)
 have lowB:∀x y,sa<=x->x < sa+k->sa+na<=y->y < sa+na+nb->lt (at0 p y) (at0 p x)=false:=λx y a1 a2 a3 a4 =>
  O.tr _ _ _ (hl x (by omega)) (hl (sa+na) (by omega)) (hl y (by omega)) (low x a1 a2) (bfrom y a3 a4)
 by_cases c1:na - k=0
 ·rw [if_pos (by simpa using c1)]
  refine wpS_pure (h p g .refl λx y a1 a2 a3=>?_)
  by_cases c2:y < sa+na
  ·exact sA x y a1 a2 c2
  ·by_cases c3:x < sa+na
   ·exact lowB x y a1 (by omega) (by omega) (by omega)
   ·exact sB x y (by omega) a2 (by omega)
 rw [if_neg (by simpa using c1)]
 refine wpS_bind (Bx (by omega) ?_)
 refine wpS_bind (Qbi O hc (st:=SS κ it p ((pd.setIfInBounds i (sa,na+nb,pw)).eraseIdxIfInBounds (i+1)) g) rfl (by omega) (by omega) hp (hl _ (by omega)) (λx y a1 a2 a3=>sB x y a1 a2 a3) λm m1 m2 m3=>?_)
 dsimp only
 have el:sa+k+(na - k) - 1=sa+na - 1:=by omega
 rw [el]at m2 m3
 have ato:∀x,sa<=x->x < sa+na->lt (at0 p (sa+na - 1)) (at0 p x)=false:=λx a1 a2=>by
  rcases Nat.eq_or_lt_of_le (show x<=sa+na - 1 by omega) with rfl | a2'
  ·exact O.irr (hl _ (by omega))
  ·exact sA x _ a1 a2' (by omega)
 have high:∀x y,sa<=x->x < sa+na->sa+na+m<=y->y < sa+na+nb->lt (at0 p y) (at0 p x)=false:=λx y a1 a2 a3 a4=>by
  have:=m3 (y - (sa+na)) (by omega) (by omega)
  rw [show sa+na+(y - (sa+na))=y by omega]at this
  exact O.tr _ _ _ (hl x (by omega)) (hl (sa+na - 1) (by omega)) (hl y (by omega)) (ato x a1 a2) this
 by_cases c2:m=0
 ·rw [if_pos (by simpa using c2)]
  refine wpS_pure (h p g .refl λx y a1 a2 a3=>?_)
  by_cases c3:y < sa+na
  ·exact sA x y a1 a2 c3
  ·by_cases c4:x < sa+na
   ·exact high x y a1 c4 (by omega) (by omega)
   ·exact sB x y (by omega) a2 (by omega)
 rw [if_neg (by simpa using c2)]
 have x1:(p.map (kas_item it)).extract (sa+k) (sa+na)=(p.extract (sa+k) (sa+na)).map (kas_item it):=Array.map_extract.symm
 have x2:(p.map (kas_item it)).extract (sa+na) (sa+na+m)=(p.extract (sa+na) (sa+na+m)).map (kas_item it):=Array.map_extract.symm
 rw [x1,x2]
 have z1:(p.extract (sa+k) (sa+na)).size=na - k:=by rw [Array.size_extract];omega
 have z2:(p.extract (sa+na) (sa+na+m)).size=m:=by rw [Array.size_extract];omega
 have pre:MPre n lt (p.extract (sa+k) (sa+na)) (p.extract (sa+na) (sa+na+m)):=by
  refine⟨by omega,by omega,λx hx=>?_,λx hx=>?_,λx y a1 a2=>?_,λx y a1 a2=>?_,?_,λy hy=>?_⟩
  ·rw [z1]at hx;rw [Du (by omega) (by omega)];exact hl _ (by omega)
  ·rw [z2]at hx;rw [Du (by omega) (by omega)];exact hl _ (by omega)
  ·rw [z1]at a2;rw [Du (by omega) (by omega),Du (by omega) (by omega)];exact sA _ _ (by omega) (by omega) (by omega)
  ·rw [z2]at a2;rw [Du (by omega) (by omega),Du (by omega) (by omega)];exact sB _ _ (by omega) (by omega) (by omega)
  ·rw [Du (by omega) (by omega),Du (by omega) (by omega)]
   have:=k3 k (Nat.le_refl _) (by omega)
   exact this
  ·rw [z2]at hy
   rw [z1,Du (by omega) (by omega),Du (by omega) (by omega),show sa+k+(na - k - 1)=sa+na - 1 by omega]
   exact m2 y hy
 have fin:∀(R:Array Nat) (g':Nat),Mgd lt (p.extract (sa+k) (sa+na)) (p.extract (sa+na) (sa+na+m)) R ->
   Q true (SS κ it (wr (sa+k) R.toList 0 p) ((pd.setIfInBounds i (sa,na+nb,pw)).eraseIdxIfInBounds (i+1)) g'):=λR g' hR=>by
  have hRl:R.toList.length=na - k+m:=by
   have:=hR.perm.length_eq
   rw [List.length_append,Array.length_toList,Array.length_toList,Array.length_toList,z1,z2]at this
   rw [Array.length_toList];exact this
  have hfit:sa+k+R.toList.length<=p.size:=by omega
  have el:(p.extract (sa+k) (sa+na)).toList++(p.extract (sa+na) (sa+na+m)).toList=(p.toList.drop (sa+k)).take R.toList.length:=by
   rw [Xh (by omega) (by omega),hRl]
   congr 1;omega
  have hget:=Os (sa+k) R.toList 0 p hfit
  simp only [Nat.add_zero]at hget
  have out:∀x,x < sa+k\/sa+na+m<=x->at0 (wr (sa+k) R.toList 0 p) x=at0 p x:=λx hx=>Fy (by rw [hget,if_neg (by omega)])
  have inn:∀x,sa+k<=x->x < sa+na+m->∃hx,at0 (wr (sa+k) R.toList 0 p) x=R.toList[x - (sa+k)]'hx:=λx a1 a2=>⟨by omega,T7 (d:=0) (by rw [hget,if_pos (by omega)]) (by omega)⟩
  have mem:∀x,sa+k<=x->x < sa+na+m->∃y,sa+k<=y/\y < sa+na+m/\at0 (wr (sa+k) R.toList 0 p) x=at0 p y:=λx a1 a2=>by
   obtain⟨hx,e⟩:=inn x a1 a2
   have hm:R.toList[x - (sa+k)]∈(p.toList.drop (sa+k)).take R.toList.length:=by rw [<- el];exact hR.perm.mem_iff.mp (List.getElem_mem _)
   obtain⟨j,j1,j2,j3,j4⟩:=Eh hm
   exact⟨j,j1,by omega,e.trans j4⟩
  refine h _ g' ⟨Qb _ _ _ _,?_,λx hx=>out x (by omega)⟩ λx y a1 a2 a3=>?_
  ·rw [Xg _ _ _ hfit]
   have e3:p.toList=p.toList.take (sa+k)++(p.toList.drop (sa+k)).take R.toList.length++p.toList.drop (sa+k+R.toList.length):=by
    have a:=(List.take_append_drop (sa+k) p.toList).symm
    have b:=(List.take_append_drop R.toList.length (p.toList.drop (sa+k))).symm
    rw [List.drop_drop]at b
    refine a.trans ?_
    rw [List.append_assoc]
    exact congrArg _ b
   refine List.Perm.trans ?_ (List.Perm.of_eq e3.symm)
   refine List.Perm.append_right _ (List.Perm.append_left _ ?_)
   rw [<- el];exact hR.perm
  ·by_cases c3:y < sa+k
   ·rw [out x (by omega),out y (by omega)];exact sA x y a1 a2 (by omega)
   ·by_cases c4:sa+na+m<=y
    ·rw [out y (by omega)]
     by_cases c5:x < sa+k
     ·rw [out x (by omega)];exact lowB x y a1 c5 (by omega) (by omega)
     ·by_cases c6:sa+na+m<=x
      ·rw [out x (by omega)];exact sB x y (by omega) a2 (by omega)
      ·obtain⟨z,b1,b2,e⟩:=mem x (by omega) (by omega)
       rw [e]
       by_cases c7:z < sa+na
       ·exact high z y (by omega) c7 c4 (by omega)
       ·exact sB z y (by omega) (by omega) (by omega)
    ·by_cases c5:x < sa+k
     ·obtain⟨z,b1,b2,e⟩:=mem y (by omega) (by omega)
      rw [e,out x (by omega)]
      by_cases c7:z < sa+na
      ·exact sA x z a1 (by omega) c7
      ·exact lowB x z a1 c5 (by omega) (by omega)
     ·obtain⟨hx,ex⟩:=inn x (by omega) (by omega)
      obtain⟨hy,ey⟩:=inn y (by omega) (by omega)
      rw [ex,ey]
      exact List.pairwise_iff_getElem.mp hR.srt _ _ hx hy (by omega)
 have last:∀(R:Array Nat) (g':Nat),Mgd lt (p.extract (sa+k) (sa+na)) (p.extract (sa+na) (sa+na+m)) R->∀st',st'=SS κ it p ((pd.setIfInBounds i (sa,na+nb,pw)).eraseIdxIfInBounds (i+1)) g' ->
   wpS (model prog w) A E s (do
    modify λs=>setArr s ((R.map (kas_item it)).toList.zipIdx.foldl (λa (p,j)=>a.setIfInBounds (sa+k+j) p) (arrOf s))
    return (failedOf (<- get)).isNone) Q st':=λR g' hR st' e=>by
  subst e
  refine wpS_bind (wpS_modify (wpS_bind (wpS_get (wpS_pure ?_))))
  have:=fin R g' hR
  have e2:(R.map (kas_item it)).toList.zipIdx.foldl (λa (z:Keyed×Nat)=>a.setIfInBounds (sa+k+z.2) z.1) (p.map (kas_item it))=(wr (sa+k) R.toList 0 p).map (kas_item it):=by
   rw [Qa,Array.toList_map,T6]
  show Q true (SortSt.mk' κ ((R.map (kas_item it)).toList.zipIdx.foldl (λa (z:Keyed×Nat)=>a.setIfInBounds (sa+k+z.2) z.1) (p.map (kas_item it))) _ g' none)
  rw [e2]
  exact this
 by_cases c3:na - k<=m
 ·rw [if_pos c3]
  refine wpS_bind (Rq O hc rfl pre λR g' hR=>?_)
  exact last R g' hR _ rfl
 ·rw [if_neg c3]
  refine wpS_bind (Rr O hc rfl pre λR g' hR=>?_)
  exact last R g' hR _ rfl
end
def T8(lo nrem n:Nat):StateT SortSt Sem (Option Nat):=do
 reverseSlice' lo (lo+n)
 let mut n:=n
 for _ in [n:nrem] do
  let some smaller <- ltAt' (lo+n) (lo+n - 1) | return none
  if smaller then break
  n:=n+1
 return some n
def T9(lo nrem n:Nat):StateT SortSt Sem (Option Nat):=do
 rule "list.sort.descending-run"
 let mut n:=n+1
 let mut neq:=0
 for _ in [n:nrem] do
  let some smaller <- ltAt' (lo+n) (lo+n - 1) | return none
  if smaller then
   if neq > 0 then reverseSlice' (lo+n - (neq+1)) (lo+n)
   neq:=0
  else
   let some larger <- ltAt' (lo+n - 1) (lo+n) | return none
   if larger then break
   neq:=neq+1
  n:=n+1
 if neq > 0 then reverseSlice' (lo+n - (neq+1)) (lo+n)
 T8 lo nrem n
theorem Ls(lo nrem:Nat):countRun' lo nrem=(do
 let mut n:=1
 for _ in [1:nrem] do
  let some smaller <- ltAt' (lo+n) (lo+n - 1) | return none
  if smaller then break
  n:=n+1
 if n==nrem then return some n
 if n > 1 then
  let some rose <- ltAt' lo (lo+n - 1) | return none
  if rose then return some n
  reverseSlice' lo (lo+n)
 T9 lo nrem n):=rfl
section
variable {prog:Program}{w:World}{A:Around}{E:Value->Shared->Prop}{s:Shared}{κ:SortKind}{it:Array Keyed}{n:Nat}{lt:Nat->Nat->Bool}{p:Array Nat}{pd:Array (Nat×Nat×Nat)}{g:Nat}
theorem Gx(hc:Cmp prog w A κ it n lt s)(hp:In n p){i j:Nat}(hi:i < p.size)(hj:j < p.size){Q:Option Bool->SortSt->Prop}(h:Q (some (lt (at0 p i) (at0 p j))) (SS κ it p pd g)):wpS (model prog w) A E s (ltAt' i j) Q (SS κ it p pd g):=by
 rw [ltAt'_eq]
 refine wpS_bind (wpS_get ?_)
 show wpS _ _ _ _ (do let x <- elem' (p.map (kas_item it)) i;let y <- elem' (p.map (kas_item it)) j;lt' x y) Q _
 exact wpS_bind (Bx hi (wpS_bind (Bx hj (T5 hc rfl (hp i hi) (hp j hj) h))))
abbrev rvs(p:Array Nat)(i j:Nat):Array Nat:=mirror p i j ((j - i) / 2)
theorem Dj{i j:Nat}(hj:j<=p.size)(k:Nat):at0 (rvs p i j) k=if i<=k/\k < j then at0 p (i+j - 1 - k) else at0 p k:=by
 have e:=getElem?_mirror_all (xs:=p) (i:=i) hj k
 by_cases h:i<=k/\k < j
 ·rw [if_pos h]at e ⊢;exact Fy e
 ·rw [if_neg h]at e ⊢;exact Fy e
theorem Gg{i j:Nat}(hj:j<=p.size):Kept p (rvs p i j) i j:=⟨mirror_size _ _ _ _,(mirror_perm p i j _).toList,λk hk=>by rw [Dj hj,if_neg (by omega)]⟩
theorem Qc{i j:Nat}{Q:Unit->SortSt->Prop}(h:Q () (SS κ it (rvs p i j) pd g)):wpS (model prog w) A E s (reverseSlice' i j) Q (SS κ it p pd g):=by
 rw [reverseSlice'_eq]
 refine wpS_modify ?_
 have e:mirror (p.map (kas_item it)) i j ((j - i) / 2)=(rvs p i j).map (kas_item it):=kas_swaps_map _ _ _ _ _
 show Q () (SortSt.mk' κ (mirror (p.map (kas_item it)) i j ((j - i) / 2)) pd g none)
 rw [e];exact h
def Sq(lt:Nat->Nat->Bool)(p:Array Nat)(lo len:Nat):Prop:=∀i j,lo<=i->i < j->j < lo+len->lt (at0 p i) (at0 p j)=false
def EqS(lt:Nat->Nat->Bool)(p:Array Nat)(a b:Nat):Prop:=∀i j,a<=i->i < b->a<=j->j < b->lt (at0 p i) (at0 p j)=false
theorem Seg.next(O:WeakOrd n lt)(hp:In n p){lo m:Nat}(h:Seg lt p lo m)(h1:1<=m)(hm:lo+m < p.size)(e:lt (at0 p (lo+m)) (at0 p (lo+m - 1))=false):Seg lt p lo (m+1):=λi j a1 a2 a3=>by
 by_cases c:j < lo+m
 ·exact h i j a1 a2 c
 ·have:j=lo+m:=by omega
  subst this
  by_cases c2:i=lo+m - 1
  ·subst c2;exact e
  ·exact O.tr _ _ _ (hp i (by omega)) (hp (lo+m - 1) (by omega)) (hp (lo+m) hm) (h i (lo+m - 1) a1 (by omega) (by omega)) e
theorem Sq.next(O:WeakOrd n lt)(hp:In n p){lo m:Nat}(h:Sq lt p lo m)(h1:1<=m)(hm:lo+m < p.size)(e:lt (at0 p (lo+m - 1)) (at0 p (lo+m))=false):Sq lt p lo (m+1):=λi j a1 a2 a3=>by
 by_cases c:j < lo+m
 ·exact h i j a1 a2 c
 ·have:j=lo+m:=by omega
  subst this
  by_cases c2:i=lo+m - 1
  ·subst c2;exact e
  ·exact O.tr _ _ _ (hp (lo+m) hm) (hp (lo+m - 1) (by omega)) (hp i (by omega)) e (h i (lo+m - 1) a1 (by omega) (by omega))
theorem Sq.turn{lo k a:Nat}(hs:lo+k<=p.size)(ha:lo<=a)(h:Sq lt p lo k)(e:EqS lt p a (lo+k)):Sq lt (rvs p a (lo+k)) lo k:=λi j a1 a2 a3=>by
 rw [Dj hs,Dj hs]
 by_cases h1:a<=i
 ·rw [if_pos ⟨h1,by omega⟩,if_pos ⟨by omega,a3⟩]
  exact e _ _ (by omega) (by omega) (by omega) (by omega)
 ·rw [if_neg (by omega)]
  by_cases h2:a<=j
  ·rw [if_pos ⟨h2,a3⟩]
   exact h _ _ (by omega) (by omega) (by omega)
  ·rw [if_neg (by omega)]
   exact h _ _ a1 a2 a3
theorem Y1(O:WeakOrd n lt)(hc:Cmp prog w A κ it n lt s)(hp:In n p){lo nrem m:Nat}(h1:1<=m)(hm:m<=nrem)(hs:lo+nrem<=p.size)(h:Seg lt p lo m){F:Nat->Option (Option Nat)×Nat->StateT SortSt Sem (ForInStep (Option (Option Nat)×Nat))}
  (hF:∀x k Q,1<=k->k < nrem->(∀b,b=lt (at0 p (lo+k)) (at0 p (lo+k - 1))->Q (if b=true then ForInStep.done (none,k) else ForInStep.yield (none,k+1)) (SS κ it p pd g))->wpS (model prog w) A E s (F x (none,k)) Q (SS κ it p pd g))
  {Q:Option (Option Nat)×Nat->SortSt->Prop} (hQ:∀k,m<=k->k<=nrem->Seg lt p lo k->(k < nrem->lt (at0 p (lo+k)) (at0 p (lo+k - 1))=true)->Q (none,k) (SS κ it p pd g)):wpS (model prog w) A E s (forIn [m:nrem] ((none,m):Option (Option Nat)×Nat) F) Q (SS κ it p pd g):=by
 refine wpS_mono (wpS_forRange (I:=λx c st'=>st'=SS κ it p pd g/\c=(none,x)/\m<=x/\x<=nrem/\Seg lt p lo x) (Q:=λc st'=>st'=SS κ it p pd g/\∃k,c=(none,k)/\m<=k/\k<=nrem/\Seg lt p lo k/\(k < nrem->lt (at0 p (lo+k)) (at0 p (lo+k - 1))=true)) ?_ ?_ ⟨rfl,rfl,Nat.le_refl _,hm,h⟩) ?_
 ·rintro x c st' _ hx ⟨rfl,rfl,a1,a2,a3⟩
  refine hF x x _ (by omega) hx λb eb=>?_
  cases b with
  | true=>exact⟨rfl,x,rfl,a1,a2,a3,λ_=>eb.symm⟩
  | false=>exact⟨rfl,rfl,by omega,by omega,a3.next O hp (by omega) (by omega) eb.symm⟩
 ·rintro c st' ⟨rfl,rfl,a1,a2,a3⟩
  rw [Nat.max_eq_right hm]at a3 ⊢
  exact⟨rfl,nrem,rfl,hm,Nat.le_refl _,a3,λz=>absurd z (Nat.lt_irrefl _)⟩
 ·rintro c st' ⟨rfl,k,rfl,a1,a2,a3,a4⟩
  exact hQ k a1 a2 a3 a4
theorem Ua(O:WeakOrd n lt)(hc:Cmp prog w A κ it n lt s)(hp:In n p){lo nrem m:Nat}(h1:1<=m)(hm:m<=nrem)(hs:lo+nrem<=p.size)(h:Sq lt p lo m){Q:Option Nat->SortSt->Prop}
  (hQ:∀k p',1<=k->k<=nrem->Kept p p' lo (lo+nrem)->Seg lt p' lo k->Q (some k) (SS κ it p' pd g)):wpS (model prog w) A E s (T8 lo nrem m) Q (SS κ it p pd g):=by
 unfold T8
 refine wpS_bind (Qc ?_)
 have hk:Kept p (rvs p lo (lo+m)) lo (lo+nrem):=(Gg (by omega)).mono (Nat.le_refl _) (by omega)
 have hU:Seg lt (rvs p lo (lo+m)) lo m:=λi j a1 a2 a3=>by
  rw [Dj (by omega),Dj (by omega),if_pos ⟨by omega,a3⟩,if_pos ⟨a1,by omega⟩]
  exact h _ _ (by omega) (by omega) (by omega)
 have hp':=hk.in hp
 have hs':lo+nrem<=(rvs p lo (lo+m)).size:=by rw [hk.size];exact hs
 refine wpS_bind (Y1 O hc hp' h1 hm hs' hU (λx k Q' k1 k2 q=>?_) λk k1 k2 k3 _=>wpS_pure (hQ k _ (by omega) k2 hk k3))
 refine wpS_bind (Gx hc hp' (by omega) (by omega) ?_)
 dsimp only
 have:=q _ rfl
 by_cases e:lt (at0 (rvs p lo (lo+m)) (lo+k)) (at0 (rvs p lo (lo+m)) (lo+k - 1))=true
 ·rw [if_pos e]at this ⊢;exact wpS_pure this
 ·rw [if_neg e]at this ⊢;exact wpS_pure this
theorem Ub(O:WeakOrd n lt)(hc:Cmp prog w A κ it n lt s)(hp:In n p){lo nrem m:Nat}(h1:1<=m)(hm:m+1<=nrem)(hs:lo+nrem<=p.size)(h:Sq lt p lo (m+1)){Q:Option Nat->SortSt->Prop}
  (hQ:∀k p',1<=k->k<=nrem->Kept p p' lo (lo+nrem)->Seg lt p' lo k->Q (some k) (SS κ it p' pd g)):wpS (model prog w) A E s (T9 lo nrem m) Q (SS κ it p pd g):=by
 unfold T9
 refine wpS_bind (wpS_lift (wpAny_rule ⟨rfl,?_⟩))
 have one:∀p':Array Nat,In n p'->p'.size=p.size->∀k,k < nrem->EqS lt p' (lo+(k+1) - (0+1)) (lo+(k+1)):=λp' hp' hz k hk i j a1 a2 a3 a4=>by
  have hi:i=lo+k:=by omega
  have hj:j=lo+k:=by omega
  rw [hi,hj]
  exact O.irr (hp' _ (by omega))
 refine wpS_bind (wpS_mono (wpS_forRange (I:=λx c st'=>∃p' q,st'=SS κ it p' pd g/\c=(none,x,q)/\Kept p p' lo (lo+nrem)/\q+1<=x/\x<=nrem/\Sq lt p' lo x/\EqS lt p' (lo+x - (q+1)) (lo+x))
  (Q:=λc st'=>∃p' k q,st'=SS κ it p' pd g/\c=(none,k,q)/\Kept p p' lo (lo+nrem)/\q+1<=k/\k<=nrem/\Sq lt p' lo k/\EqS lt p' (lo+k - (q+1)) (lo+k)) ?_ ?_ ⟨p,0,rfl,rfl,.refl,by omega,hm,h,one p hp rfl m (by omega)⟩) ?_)
 ·rintro x c st' _ hx ⟨p',q,rfl,rfl,K,q1,q2,D,e⟩
  have hp':=K.in hp
  have hz:=K.size
  dsimp only
  refine wpS_bind (Gx hc hp' (by omega) (by omega) ?_)
  dsimp only
  cases c1:lt (at0 p' (lo+x)) (at0 p' (lo+x - 1)) with
  | true =>
   rw [if_pos rfl]
   have c2:=O.asy _ _ (hp' _ (by omega)) (hp' _ (by omega)) c1
   by_cases hq:q > 0
   ·rw [if_pos hq]
    refine wpS_bind (Qc (wpS_pure ?_))
    have K2:Kept p' (rvs p' (lo+x - (q+1)) (lo+x)) lo (lo+nrem):=(Gg (by omega)).mono (by omega) (by omega)
    have hp2:=K2.in hp'
    refine⟨_,0,rfl,rfl,K.trans K2,by omega,by omega,(D.turn (by omega) (by omega) e).next O hp2 (by omega) (by rw [K2.size];omega) ?_,one _ hp2 (K2.size.trans hz) x (by omega)⟩
    rw [Dj (by omega),if_pos ⟨by omega,by omega⟩,Dj (by omega),if_neg (by omega),show lo+x - (q+1)+(lo+x) - 1 - (lo+x - 1)=lo+x - (q+1) by omega]
    exact O.tr _ _ _ (hp' _ (by omega)) (hp' (lo+x - 1) (by omega)) (hp' _ (by omega)) c2 (e _ _ (by omega) (by omega) (by omega) (by omega))
   ·rw [if_neg hq]
    exact wpS_pure ⟨_,0,rfl,rfl,K,by omega,by omega,D.next O hp' (by omega) (by omega) c2,one _ hp' hz x (by omega)⟩
  | false =>
   rw [if_neg Bool.false_ne_true]
   refine wpS_bind (Gx hc hp' (by omega) (by omega) ?_)
   dsimp only
   cases c2:lt (at0 p' (lo+x - 1)) (at0 p' (lo+x)) with
   | true =>
    rw [if_pos rfl]
    exact wpS_pure ⟨_,x,q,rfl,rfl,K,q1,q2,D,e⟩
   | false =>
    rw [if_neg Bool.false_ne_true]
    refine wpS_pure ⟨_,q+1,rfl,rfl,K,by omega,by omega,D.next O hp' (by omega) (by omega) c2,λi j a1 a2 a3 a4=>?_⟩
    by_cases hi:i=lo+x
    ·subst hi
     by_cases hj:j=lo+x
     ·subst hj;exact O.irr (hp' _ (by omega))
     ·exact O.tr _ _ _ (hp' j (by omega)) (hp' (lo+x - 1) (by omega)) (hp' (lo+x) (by omega)) (e (lo+x - 1) j (by omega) (by omega) (by omega) (by omega)) c1
    ·by_cases hj:j=lo+x
     ·subst hj
      exact O.tr _ _ _ (hp' (lo+x) (by omega)) (hp' (lo+x - 1) (by omega)) (hp' i (by omega)) c2 (e i (lo+x - 1) (by omega) (by omega) (by omega) (by omega))
     ·exact e i j (by omega) (by omega) (by omega) (by omega)
 ·rintro c st' ⟨p',q,rfl,rfl,K,q1,q2,D,e⟩
  exact⟨p',_,q,rfl,rfl,K,q1,q2,D,e⟩
 ·rintro c st' ⟨p',k,q,rfl,rfl,K,q1,q2,D,e⟩
  have hp':=K.in hp
  have hz:=K.size
  dsimp only
  by_cases hq:q > 0
  ·rw [if_pos hq]
   have K2:Kept p' (rvs p' (lo+k - (q+1)) (lo+k)) lo (lo+nrem):=(Gg (by omega)).mono (by omega) (by omega)
   refine wpS_bind (Qc (Ua O hc (K2.in hp') (by omega) q2 (by rw [K2.size];omega) (D.turn (by omega) (by omega) e) λk' p'' a1 a2 a3 a4=>hQ k' p'' a1 a2 ((K.trans K2).trans a3) a4))
  ·rw [if_neg hq]
   exact Ua O hc hp' (by omega) q2 (by omega) D λk' p'' a1 a2 a3 a4=>hQ k' p'' a1 a2 (K.trans a3) a4
theorem Xk(O:WeakOrd n lt)(hc:Cmp prog w A κ it n lt s)(hp:In n p){lo nrem:Nat}(h1:1<=nrem)(hs:lo+nrem<=p.size){Q:Option Nat->SortSt->Prop}
  (hQ:∀k p',1<=k->k<=nrem->Kept p p' lo (lo+nrem)->Seg lt p' lo k->Q (some k) (SS κ it p' pd g)):wpS (model prog w) A E s (countRun' lo nrem) Q (SS κ it p pd g):=by
 rw [Ls]
 refine wpS_bind (Y1 O hc hp (Nat.le_refl 1) h1 hs (λi j a1 a2 a3=>by omega) (λx k Q' k1 k2 q=>?_) λk k1 k2 k3 k4=>?_)
 ·refine wpS_bind (Gx hc hp (by omega) (by omega) ?_)
  dsimp only
  have:=q _ rfl
  by_cases e:lt (at0 p (lo+k)) (at0 p (lo+k - 1))=true
  ·rw [if_pos e]at this ⊢;exact wpS_pure this
  ·rw [if_neg e]at this ⊢;exact wpS_pure this
 dsimp only
 by_cases e:k=nrem
 ·rw [if_pos (by simpa using e)]
  exact wpS_pure (hQ k p k1 k2 .refl k3)
 rw [if_neg (by simpa using e)]
 have c1:=k4 (by omega)
 have c2:=O.asy _ _ (hp (lo+k) (by omega)) (hp (lo+k - 1) (by omega)) c1
 by_cases e1:k > 1
 ·rw [if_pos e1]
  refine wpS_bind (Gx hc hp (by omega) (by omega) ?_)
  dsimp only
  cases e2:lt (at0 p lo) (at0 p (lo+k - 1)) with
  | true =>
   rw [if_pos rfl]
   exact wpS_pure (hQ k p k1 k2 .refl k3)
  | false =>
   rw [if_neg Bool.false_ne_true]
   have K:Kept p (rvs p lo (lo+k)) lo (lo+nrem):=(Gg (by omega)).mono (Nat.le_refl _) (by omega)
   have up:∀i j,lo<=i->i<=j->j < lo+k->lt (at0 p j) (at0 p i)=false:=λi j a1 a2 a3=>by
    rcases Nat.eq_or_lt_of_le a2 with rfl | a2
    ·exact O.irr (hp _ (by omega))
    ·exact k3 i j a1 a2 a3
   have all:EqS lt p lo (lo+k):=λi j a1 a2 a3 a4 =>
    O.tr _ _ _ (hp j (by omega)) (hp lo (by omega)) (hp i (by omega)) (O.tr _ _ _ (hp j (by omega)) (hp (lo+k - 1) (by omega)) (hp lo (by omega)) (up j (lo+k - 1) a3 (by omega) (by omega)) e2) (up lo i (Nat.le_refl _) a1 a2)
   have D:Sq lt (rvs p lo (lo+k)) lo k:=λi j a1 a2 a3=>by
    rw [Dj (by omega),Dj (by omega),if_pos ⟨a1,by omega⟩,if_pos ⟨by omega,a3⟩]
    exact all _ _ (by omega) (by omega) (by omega) (by omega)
   refine wpS_bind (Qc (Ub O hc (K.in hp) k1 (by omega) (by rw [K.size];omega) (D.next O (K.in hp) k1 (by rw [K.size];omega) ?_) λk' p'' a1 a2 a3 a4=>hQ k' p'' a1 a2 (K.trans a3) a4))
   rw [Dj (by omega),if_pos ⟨by omega,by omega⟩,Dj (by omega),if_neg (by omega),show lo+(lo+k) - 1 - (lo+k - 1)=lo by omega]
   exact O.tr _ _ _ (hp _ (by omega)) (hp (lo+k - 1) (by omega)) (hp lo (by omega)) c2 (all lo (lo+k - 1) (Nat.le_refl _) (by omega) (by omega) (by omega))
 ·rw [if_neg e1]
  have k0:k=1:=by omega
  subst k0
  refine Ub O hc hp (Nat.le_refl 1) (by omega) hs (Sq.next O hp (m:=1) (λi j a1 a2 a3=>by omega) (Nat.le_refl 1) (by omega) c2) hQ
end
section
variable {prog:Program}{w:World}{A:Around}{E:Value->Shared->Prop}{s:Shared}{κ:SortKind}{it:Array Keyed}{n:Nat}{lt:Nat->Nat->Bool}{p:Array Nat}{pd:Array (Nat×Nat×Nat)}{g:Nat}
theorem Qbl{src d:Nat}(hs:src < p.size)(hd:d<=src)(k:Nat):at0 (bubble p src d) k=if k=src - d then at0 p src else if src - d < k/\k<=src then at0 p (k - 1) else at0 p k:=by
 have e:=getElem?_bubble hs d hd k
 by_cases h1:k=src - d
 ·rw [if_pos h1]at e ⊢;exact Fy e
 ·rw [if_neg h1]at e ⊢
  by_cases h2:src - d < k/\k<=src
  ·rw [if_pos h2]at e ⊢;exact Fy e
  ·rw [if_neg h2]at e ⊢;exact Fy e
theorem Qbm{src dst:Nat}{Q:Unit->SortSt->Prop}(h:Q () (SS κ it (bubble p src (src - dst)) pd g)):wpS (model prog w) A E s (moveDown' src dst) Q (SS κ it p pd g):=by
 rw [moveDown'_eq]
 refine wpS_modify ?_
 have e:bubble (p.map (kas_item it)) src (src - dst)=(bubble p src (src - dst)).map (kas_item it):=kas_swaps_map _ _ _ _ _
 show Q () (SortSt.mk' κ (bubble (p.map (kas_item it)) src (src - dst)) pd g none)
 rw [e];exact h
theorem Uc(O:WeakOrd n lt)(hc:Cmp prog w A κ it n lt s)(hp:In n p){lo m ok:Nat}(h1:1<=ok)(hm:ok<=m)(hs:lo+m<=p.size)(h:Seg lt p lo ok){Q:Bool->SortSt->Prop}
  (hQ:∀p',Kept p p' lo (lo+m)->Seg lt p' lo m->Q true (SS κ it p' pd g)):wpS (model prog w) A E s (binarySort' lo m ok) Q (SS κ it p pd g):=by
 rw [binarySort'_eq,Nat.max_eq_left h1]
 refine wpS_bind (wpS_mono (wpS_forRange (I:=λx c st'=>∃p',st'=SS κ it p' pd g/\c=(none,())/\Kept p p' lo (lo+m)/\Seg lt p' lo x/\x<=m) (Q:=λc st'=>∃p',st'=SS κ it p' pd g/\c=(none,())/\Kept p p' lo (lo+m)/\Seg lt p' lo m) ?_ ?_ ⟨p,rfl,rfl,.refl,h,hm⟩) ?_)
 ·rintro x c st' hx0 hx ⟨p',rfl,rfl,K,S,_⟩
  have hp':=K.in hp
  have hz:=K.size
  refine wpS_bind (wpS_mono (wpS_forRange (I:=λy c st'=>st'=SS κ it p' pd g/\∃l r,c=(none,l,r)/\l<=r/\r<=x/\r - l<=x - y/\(∀i,i < l->lt (at0 p' (lo+x)) (at0 p' (lo+i))=false)/\(∀i,r<=i->i < x->lt (at0 p' (lo+x)) (at0 p' (lo+i))=true))
   (Q:=λc st'=>st'=SS κ it p' pd g/\∃l,c=(none,l,l)/\l<=x/\(∀i,i < l->lt (at0 p' (lo+x)) (at0 p' (lo+i))=false)/\(∀i,l<=i->i < x->lt (at0 p' (lo+x)) (at0 p' (lo+i))=true)) ?_ ?_ ⟨rfl,0,x,rfl,by omega,Nat.le_refl _,by omega,λi hi=>absurd hi (Nat.not_lt_zero _),λi a1 a2=>by omega⟩) ?_)
  ·rintro y c st' _ hy ⟨rfl,l,r,rfl,a1,a2,a3,a4,a5⟩
   dsimp only
   by_cases e:l>=r
   ·rw [if_pos e]
    have:l=r:=by omega
    subst this
    exact wpS_pure ⟨rfl,l,rfl,a2,a4,a5⟩
   ·rw [if_neg e]
    refine wpS_bind (Gx hc hp' (by omega) (by omega) ?_)
    dsimp only
    cases c1:lt (at0 p' (lo+x)) (at0 p' (lo+(l+r) / 2)) with
    | true =>
     rw [if_pos rfl]
     refine wpS_pure ⟨rfl,l,(l+r) / 2,rfl,by omega,by omega,by omega,a4,λi b1 b2=>?_⟩
     rcases Nat.eq_or_lt_of_le b1 with rfl | b1
     ·exact c1
     ·exact O.low (hp' _ (by omega)) (hp' _ (by omega)) (hp' _ (by omega)) c1 (S _ _ (by omega) (by omega) (by omega))
    | false =>
     rw [if_neg Bool.false_ne_true]
     refine wpS_pure ⟨rfl,(l+r) / 2+1,r,rfl,by omega,by omega,by omega,λi b1=>?_,a5⟩
     rcases Nat.eq_or_lt_of_le (show i<=(l+r) / 2 by omega) with rfl | b2
     ·exact c1
     ·exact O.tr _ _ _ (hp' _ (by omega)) (hp' _ (by omega)) (hp' _ (by omega)) (S (lo+i) (lo+(l+r) / 2) (by omega) (by omega) (by omega)) c1
  ·rintro c st' ⟨rfl,l,r,rfl,a1,a2,a3,a4,a5⟩
   have:l=r:=by omega
   subst this
   exact⟨rfl,l,rfl,a2,a4,a5⟩
  ·rintro c st' ⟨rfl,l,rfl,a2,a4,a5⟩
   dsimp only
   refine wpS_bind (Qbm (wpS_pure ?_))
   have ed:lo+x - (lo+l)=x - l:=by omega
   rw [ed]
   have hat:=λk=>Qbl (p:=p') (src:=lo+x) (d:=x - l) (by omega) (by omega) k
   rw [show lo+x - (x - l)=lo+l by omega]at hat
   refine⟨_,rfl,rfl,K.trans ⟨bubble_size _ _ _,(bubble_perm p' _ _).toList,λi hi=>by rw [hat,if_neg (by omega),if_neg (by omega)]⟩,λi j b1 b2 b3=>?_,by omega⟩
   rw [hat i,hat j]
   by_cases i1:i=lo+l
   ·rw [if_pos i1,if_neg (by omega),if_pos (by omega)]
    have:=a5 (j - 1 - lo) (by omega) (by omega)
    rw [show lo+(j - 1 - lo)=j - 1 by omega]at this
    exact O.asy _ _ (hp' _ (by omega)) (hp' _ (by omega)) this
   ·rw [if_neg i1]
    by_cases j1:j=lo+l
    ·rw [if_pos j1,if_neg (by omega)]
     have:=a4 (i - lo) (by omega)
     rwa [show lo+(i - lo)=i by omega]at this
    ·rw [if_neg j1]
     by_cases i2:lo+l < i/\i<=lo+x
     ·rw [if_pos i2,if_pos (by omega)]
      exact S _ _ (by omega) (by omega) (by omega)
     ·rw [if_neg i2]
      by_cases j2:lo+l < j/\j<=lo+x
      ·rw [if_pos j2];exact S _ _ b1 (by omega) (by omega)
      ·rw [if_neg j2];exact S _ _ b1 b2 (by omega)
 ·rintro c st' ⟨p',rfl,rfl,K,S,a⟩
  rw [Nat.max_eq_right hm]at S
  exact⟨p',rfl,rfl,K,S⟩
 ·rintro c st' ⟨p',rfl,rfl,K,S⟩
  exact wpS_pure (hQ p' K S)
def Chain:List (Nat×Nat×Nat)->Nat->Nat->Prop
 | [],lo,hi=>lo=hi
 | (a,l,_) :: r,lo,hi=>a=lo/\0 < l/\Chain r (lo+l) hi
theorem Chain.le:∀{l:List (Nat×Nat×Nat)} {lo hi:Nat},Chain l lo hi->lo+l.length<=hi
 | [],_,_,h=>by cases h;simp
 | (a,l,_) :: r,lo,hi,h=>by have:=h.2.2.le;have:=h.2.1;rw [List.length_cons];omega
theorem Chain.app:∀{l m:List (Nat×Nat×Nat)} {lo hi:Nat},Chain (l++m) lo hi↔∃k,Chain l lo k/\Chain m k hi
 | [],m,lo,hi=>⟨λh=>⟨lo,rfl,h⟩,λ⟨k,e,h⟩=>by cases e;exact h⟩
 | (a,l,q) :: r,m,lo,hi=>by
  constructor
  ·rintro⟨h1,h2,h3⟩
   obtain⟨k,k1,k2⟩:=Chain.app.mp h3
   exact⟨k,⟨h1,h2,k1⟩,k2⟩
  ·rintro⟨k,⟨h1,h2,h3⟩,h4⟩
   exact⟨h1,h2,Chain.app.mpr ⟨k,h3,h4⟩⟩
theorem Chain.low:∀{l:List (Nat×Nat×Nat)} {lo hi:Nat},Chain l lo hi->∀e∈l,lo<=e.1/\e.1+e.2.1<=hi
 | (a,l,q) :: r,lo,hi,h,e,he=>by
  have h3:=h.2.2.le
  rcases List.mem_cons.mp he with rfl | he
  ·exact⟨by rw [h.1];exact Nat.le_refl _,by show a+l<=hi;rw [h.1];omega⟩
  ·have:=h.2.2.low e he
   exact⟨by have:=h.2.1;omega,this.2⟩
structure Wait(lt:Nat->Nat->Bool)(p:Array Nat)(l:List (Nat×Nat×Nat))(hi:Nat):Prop where
 ch:Chain l 0 hi
 sg:∀e∈l,Seg lt p e.1 e.2.1
theorem Wait.keep{p':Array Nat}{l:List (Nat×Nat×Nat)}{hi top:Nat}(h:Wait lt p l hi)(k:Kept p p' hi top):Wait lt p' l hi:=⟨h.ch,λe he=>(h.sg e he).kept k (.inl (h.ch.low e he).2)⟩
theorem M3{l:List (Nat×Nat×Nat)}{i:Nat}{a b:Nat×Nat×Nat}(h1:l[i]?=some a)(h2:l[i+1]?=some b):l=l.take i++a :: b :: l.drop (i+2):=by
 obtain⟨k1,e1⟩:=List.getElem?_eq_some_iff.mp h1
 obtain⟨k2,e2⟩:=List.getElem?_eq_some_iff.mp h2
 have a1:=(List.take_append_drop i l).symm
 rw [List.drop_eq_getElem_cons k1,List.drop_eq_getElem_cons k2,e1,e2]at a1
 exact a1
theorem Xl{pd:Array (Nat×Nat×Nat)}{i:Nat}{a b c:Nat×Nat×Nat}(h1:pd[i]?=some a)(h2:pd[i+1]?=some b):((pd.setIfInBounds i c).eraseIdxIfInBounds (i+1)).toList=pd.toList.take i++c :: pd.toList.drop (i+2):=by
 have h1':pd.toList[i]?=some a:=by rw [Array.getElem?_toList];exact h1
 have h2':pd.toList[i+1]?=some b:=by rw [Array.getElem?_toList];exact h2
 have hi:=(List.getElem?_eq_some_iff.mp h1').1
 have hj:=(List.getElem?_eq_some_iff.mp h2').1
 rw [Array.toList_eraseIdxIfInBounds,Array.toList_setIfInBounds,List.eraseIdx_eq_take_drop_succ,List.take_set,List.drop_set_of_lt (by omega)]
 have e:=M3 h1' h2'
 have hl:(pd.toList.take i).length=i:=by rw [List.length_take];omega
 rw [show i+1+1=i+2 by omega]
 have:(pd.toList.take (i+1)).set i c=pd.toList.take i++[c]:=by
  rw [List.take_succ,h1',List.set_append_right _ _ (by omega),hl,Nat.sub_self];rfl
 rw [this,List.append_assoc];rfl
theorem Iv(O:WeakOrd n lt)(hc:Cmp prog w A κ it n lt s)(hp:In n p){i hi:Nat}(hw:Wait lt p pd.toList hi)(hs:hi<=p.size)(hi2:i+1 < pd.size){Q:Bool->SortSt->Prop}
  (h:∀p' pd' g',Kept p p' 0 hi->Wait lt p' pd'.toList hi->pd'.size+1=pd.size->Q true (SS κ it p' pd' g')):wpS (model prog w) A E s (mergeAt' i) Q (SS κ it p pd g):=by
 have e1:pd[i]?=some pd[i]:=Array.getElem?_eq_getElem (by omega)
 have e2:pd[i+1]?=some pd[i+1]:=Array.getElem?_eq_getElem hi2
 generalize pd[i]'(by omega)=ea at e1
 generalize pd[i+1]=eb at e2
 obtain⟨sa,na,pw⟩:=ea
 obtain⟨sb,nb,pw2⟩:=eb
 have l1:pd.toList[i]?=some (sa,na,pw):=by rw [Array.getElem?_toList];exact e1
 have l2:pd.toList[i+1]?=some (sb,nb,pw2):=by rw [Array.getElem?_toList];exact e2
 have el:=M3 l1 l2
 have hch:=hw.ch
 rw [el]at hch
 obtain⟨k,c1,c2,c3,c4,c5,c6⟩:=Chain.app.mp hch
 subst c2
 subst c4
 have hle:=c6.le
 refine Rs O hc hp e1 e2 c3 c5 (by omega) (hw.sg _ (List.mem_of_getElem? l1)) (hw.sg _ (List.mem_of_getElem? l2)) λp' g' K S=>?_
 have eu:=Xl (c:=(sa,na+nb,pw)) e1 e2
 refine h p' _ g' (K.mono (Nat.zero_le _) (by omega)) ⟨?_,λe he=>?_⟩ ?_
 ·rw [eu]
  exact Chain.app.mpr ⟨sa,c1,rfl,by omega,by rw [<- Nat.add_assoc];exact c6⟩
 ·rw [eu]at he
  rcases List.mem_append.mp he with he | he
  ·refine(hw.sg e (List.mem_of_mem_take he)).kept K (.inl ?_)
   exact(c1.low e he).2
  ·rcases List.mem_cons.mp he with rfl | he
   ·exact S
   ·refine(hw.sg e (List.mem_of_mem_drop he)).kept K (.inr ?_)
    exact(c6.low e he).1
 ·have:=congrArg List.length eu
  have hz:=congrArg List.length el
  simp only [List.length_append,List.length_cons,Array.length_toList]at this hz
  omega
end
section
variable {prog:Program}{w:World}{A:Around}{E:Value->Shared->Prop}{s:Shared}{κ:SortKind}{it:Array Keyed}{n:Nat}{lt:Nat->Nat->Bool}{p:Array Nat}{pd:Array (Nat×Nat×Nat)}{g:Nat}
theorem Chain.mod{f:Nat×Nat×Nat->Nat×Nat×Nat}(hf:∀e,(f e).1=e.1/\(f e).2.1=e.2.1):∀{l:List (Nat×Nat×Nat)} {i lo hi:Nat},Chain l lo hi->Chain (l.modify i f) lo hi
 | [],i,lo,hi,h=>by rw [List.modify_nil];exact h
 | (a,l,q) :: r,0,lo,hi,h=>by
  rw [List.modify_zero_cons]
  have:=hf (a,l,q)
  generalize f (a,l,q)=e at this
  obtain⟨a',l',q'⟩:=e
  obtain⟨h1,h2⟩:=this
  dsimp only at h1 h2
  subst h1
  subst h2
  exact h
 | (a,l,q) :: r,i+1,lo,hi,h=>by
  rw [List.modify_succ_cons]
  exact⟨h.1,h.2.1,h.2.2.mod hf⟩
theorem Qe{f:Nat×Nat×Nat->Nat×Nat×Nat}:∀{l:List (Nat×Nat×Nat)} {i:Nat} {e:Nat×Nat×Nat},e∈l.modify i f->∃e'∈l,e=e'\/e=f e'
 | [],i,e,h=>by rw [List.modify_nil]at h;cases h
 | a :: r,0,e,h=>by
  rw [List.modify_zero_cons]at h
  rcases List.mem_cons.mp h with rfl | h
  ·exact⟨a,.head _,.inr rfl⟩
  ·exact⟨e,.tail _ h,.inl rfl⟩
 | a :: r,i+1,e,h=>by
  rw [List.modify_succ_cons]at h
  rcases List.mem_cons.mp h with rfl | h
  ·exact⟨e,.head _,.inl rfl⟩
  ·obtain⟨e',h1,h2⟩:=Qe h
   exact⟨e',.tail _ h1,h2⟩
theorem Wait.modify{f:Nat×Nat×Nat->Nat×Nat×Nat}(hf:∀e,(f e).1=e.1/\(f e).2.1=e.2.1){i hi:Nat}(h:Wait lt p pd.toList hi):Wait lt p (pd.modify i f).toList hi:=by
 rw [Array.toList_modify]
 refine⟨h.ch.mod hf,λe he=>?_⟩
 obtain⟨e',h1,h2⟩:=Qe he
 have:=h.sg e' h1
 rcases h2 with rfl | rfl
 ·exact this
 ·rw [(hf e').1,(hf e').2];exact this
theorem Wait.push{lo m:Nat}(h:Wait lt p pd.toList lo)(hm:0 < m)(S:Seg lt p lo m):Wait lt p (pd.push (lo,m,0)).toList (lo+m):=by
 rw [Array.toList_push]
 refine⟨Chain.app.mpr ⟨lo,h.ch,rfl,hm,rfl⟩,λe he=>?_⟩
 rcases List.mem_append.mp he with he | he
 ·exact h.sg e he
 ·rw [List.mem_singleton.mp he];exact S
theorem Ot(O:WeakOrd n lt)(hc:Cmp prog w A κ it n lt s)(hp:In n p){Q:Unit->SortSt->Prop}(hQ:∀p' pd' g',Kept p p' 0 p.size->Seg lt p' 0 p.size->Q () (SS κ it p' pd' g')):wpS (model prog w) A E s sortRuns' Q (SS κ it p #[] g):=by
 rw [sortRuns'_eq]
 refine wpS_bind (wpS_get ?_)
 have ez:(arrOf (SS κ it p #[] g)).size=p.size:=by show(p.map _).size=_;rw [Array.size_map]
 rw [ez]
 generalize hN:p.size=N at hQ
 dsimp only
 generalize minRun' N N 0=mr
 refine wpS_bind (wpS_mono (wpS_forRange (I:=λx c st'=>∃p' pd' g' lo,st'=SS κ it p' pd' g'/\c=(none,lo)/\Kept p p' 0 N/\Wait lt p' pd'.toList lo/\lo<=N/\x<=lo) (Q:=λc st'=>∃p' pd' g',st'=SS κ it p' pd' g'/\c=(none,N)/\Kept p p' 0 N/\Wait lt p' pd'.toList N) ?_ ?_ ⟨p,#[],g,0,rfl,rfl,.refl,⟨rfl,λe he=>by simp at he⟩,Nat.zero_le _,Nat.le_refl _⟩) ?_)
 ·rintro x c st' _ hx ⟨p',pd',g',lo,rfl,rfl,K,W,hlo,hxl⟩
  have hp':=K.in hp
  have hz:=K.size
  dsimp only
  by_cases e:lo>=N
  ·rw [if_pos e]
   have:lo=N:=by omega
   subst this
   exact wpS_pure ⟨p',pd',g',rfl,rfl,K,W⟩
  rw [if_neg e]
  refine wpS_bind (Xk O hc hp' (show 1<=N - lo by omega) (by omega) λk p1 k1 k2 K1 S1=>?_)
  rw [show lo+(N - lo)=N by omega]at K1
  dsimp only
  have yes:∀(p2:Array Nat) (pd2:Array (Nat×Nat×Nat)) (g2 m:Nat),Kept p p2 0 N->Wait lt p2 pd2.toList lo->Seg lt p2 lo m->1<=m->lo+m<=N ->
    ∃p' pd' g' lo',SS κ it p2 (pd2.push (lo,m,0)) g2=SS κ it p' pd' g'/\((none:Option Unit),lo+m)=(none,lo')/\Kept p p' 0 N/\Wait lt p' pd'.toList lo'/\lo'<=N/\x+1<=lo':=λp2 pd2 g2 m K2 W2 S2 m1 m2=>⟨p2,_,g2,lo+m,rfl,rfl,K2,W2.push m1 S2,m2,by omega⟩
  by_cases e1:k < mr
  ·rw [if_pos e1]
   refine wpS_bind (wpS_lift (wpAny_rule ⟨rfl,?_⟩))
   refine wpS_bind (Uc O hc (K1.in hp') k1 (m:=min (N - lo) mr) (by omega) (by rw [K1.size];omega) S1 λp2 Kb S2=>?_)
   rw [if_neg (show ¬(!true)=true by decide)]
   have K2:Kept p p2 0 N:=(K.trans (K1.mono (Nat.zero_le _) (Nat.le_refl _))).trans (Kb.mono (Nat.zero_le _) (by omega))
   have W2:Wait lt p2 pd'.toList lo:=(W.keep K1).keep Kb
   refine wpS_bind (wpS_get ?_)
   show wpS _ _ _ _ (match pd'.back? with
    | some (s1,n1,_)=>_
    | _=>_) _ _
   cases eb:pd'.back? with
   | none =>
    dsimp only
    exact wpS_bind (wpS_modify (wpS_pure (yes p2 pd' g' _ K2 W2 S2 (by omega) (by omega))))
   | some e =>
    obtain⟨s1,n1,q1⟩:=e
    dsimp only
    refine wpS_bind (wpS_mono (wpS_forRange (I:=λ_ c st'=>∃p3 pd3 g3,st'=SS κ it p3 pd3 g3/\c=(none,())/\Kept p2 p3 0 lo/\Wait lt p3 pd3.toList lo) (Q:=λc st'=>∃p3 pd3 g3,st'=SS κ it p3 pd3 g3/\c=(none,())/\Kept p2 p3 0 lo/\Wait lt p3 pd3.toList lo) ?_ (λ_ _ z=>z) ⟨p2,pd',g',rfl,rfl,.refl,W2⟩) ?_)
    ·rintro y c st' _ _ ⟨p3,pd3,g3,rfl,rfl,K3,W3⟩
     refine wpS_bind (wpS_get ?_)
     have hp3:=K3.in (K2.in hp)
     have z3:p3.size=N:=by rw [K3.size,K2.size,hN]
     have epd:pendingOf (SS κ it p3 pd3 g3)=pd3:=rfl
     rw [epd]
     by_cases c1:pd3.size > 1
     ·rw [if_pos c1,Array.getElem?_eq_getElem (by omega)]
      generalize pd3[pd3.size - 2]'(by omega)=e3
      obtain⟨u1,u2,u3⟩:=e3
      dsimp only
      by_cases c2:u3<=power' N (2 * s1+n1) (2 * s1+n1+n1+min (N - lo) mr) N
      ·rw [if_pos c2]
       exact wpS_pure ⟨p3,pd3,g3,rfl,rfl,K3,W3⟩
      ·rw [if_neg c2]
       refine wpS_bind (Iv O hc hp3 (i:=pd3.size - 2) W3 (by omega) (by omega) λp4 pd4 g4 K4 W4 _=>?_)
       rw [if_neg (show ¬(!true)=true by decide)]
       exact wpS_pure ⟨p4,pd4,g4,rfl,rfl,K3.trans K4,W4⟩
     ·rw [if_neg c1]
      exact wpS_pure ⟨p3,pd3,g3,rfl,rfl,K3,W3⟩
    ·rintro c st' ⟨p3,pd3,g3,rfl,rfl,K3,W3⟩
     dsimp only
     refine wpS_bind (wpS_modify (wpS_bind (wpS_modify (wpS_pure ?_))))
     exact yes p3 _ g3 _ (K2.trans (K3.mono (Nat.le_refl _) (by omega))) (Wait.modify (i:=pd3.size - 1) (f:=λx=>(x.1,x.2.1,power' N (2 * s1+n1) (2 * s1+n1+n1+min (N - lo) mr) N)) (λe=>⟨rfl,rfl⟩) W3) (S2.kept K3 (.inr (Nat.le_refl _))) (by omega) (by omega)
  ·rw [if_neg e1]
   obtain⟨p2,e2⟩:∃p2,p2=p1:=⟨_,rfl⟩
   subst e2
   have S2:=S1
   have K2:Kept p p2 0 N:=K.trans (K1.mono (Nat.zero_le _) (Nat.le_refl _))
   have W2:Wait lt p2 pd'.toList lo:=W.keep K1
   refine wpS_bind (wpS_get ?_)
   show wpS _ _ _ _ (match pd'.back? with
    | some (s1,n1,_)=>_
    | _=>_) _ _
   cases eb:pd'.back? with
   | none =>
    dsimp only
    exact wpS_bind (wpS_modify (wpS_pure (yes p2 pd' g' _ K2 W2 S2 k1 (by omega))))
   | some e =>
    obtain⟨s1,n1,q1⟩:=e
    dsimp only
    refine wpS_bind (wpS_mono (wpS_forRange (I:=λ_ c st'=>∃p3 pd3 g3,st'=SS κ it p3 pd3 g3/\c=(none,())/\Kept p2 p3 0 lo/\Wait lt p3 pd3.toList lo) (Q:=λc st'=>∃p3 pd3 g3,st'=SS κ it p3 pd3 g3/\c=(none,())/\Kept p2 p3 0 lo/\Wait lt p3 pd3.toList lo) ?_ (λ_ _ z=>z) ⟨p2,pd',g',rfl,rfl,.refl,W2⟩) ?_)
    ·rintro y c st' _ _ ⟨p3,pd3,g3,rfl,rfl,K3,W3⟩
     refine wpS_bind (wpS_get ?_)
     have hp3:=K3.in (K2.in hp)
     have z3:p3.size=N:=by rw [K3.size,K2.size,hN]
     have epd:pendingOf (SS κ it p3 pd3 g3)=pd3:=rfl
     rw [epd]
     by_cases c1:pd3.size > 1
     ·rw [if_pos c1,Array.getElem?_eq_getElem (by omega)]
      generalize pd3[pd3.size - 2]'(by omega)=e3
      obtain⟨u1,u2,u3⟩:=e3
      dsimp only
      by_cases c2:u3<=power' N (2 * s1+n1) (2 * s1+n1+n1+k) N
      ·rw [if_pos c2]
       exact wpS_pure ⟨p3,pd3,g3,rfl,rfl,K3,W3⟩
      ·rw [if_neg c2]
       refine wpS_bind (Iv O hc hp3 (i:=pd3.size - 2) W3 (by omega) (by omega) λp4 pd4 g4 K4 W4 _=>?_)
       rw [if_neg (show ¬(!true)=true by decide)]
       exact wpS_pure ⟨p4,pd4,g4,rfl,rfl,K3.trans K4,W4⟩
     ·rw [if_neg c1]
      exact wpS_pure ⟨p3,pd3,g3,rfl,rfl,K3,W3⟩
    ·rintro c st' ⟨p3,pd3,g3,rfl,rfl,K3,W3⟩
     dsimp only
     refine wpS_bind (wpS_modify (wpS_bind (wpS_modify (wpS_pure ?_))))
     exact yes p3 _ g3 _ (K2.trans (K3.mono (Nat.le_refl _) (by omega))) (Wait.modify (i:=pd3.size - 1) (f:=λx=>(x.1,x.2.1,power' N (2 * s1+n1) (2 * s1+n1+n1+k) N)) (λe=>⟨rfl,rfl⟩) W3) (S2.kept K3 (.inr (Nat.le_refl _))) k1 (by omega)
 ·rintro c st' ⟨p',pd',g',lo,rfl,rfl,K,W,hlo,hxl⟩
  have:lo=N:=by omega
  subst this
  exact⟨p',pd',g',rfl,rfl,K,W⟩
 ·rintro c st' ⟨p',pd',g',rfl,rfl,K,W⟩
  dsimp only
  have h0:pd'.size<=N:=by have:=W.ch.le;rw [Array.length_toList]at this;omega
  refine wpS_bind (wpS_mono (wpS_forRange (I:=λx c st'=>∃p' pd' g',st'=SS κ it p' pd' g'/\c=(none,())/\Kept p p' 0 N/\Wait lt p' pd'.toList N/\(pd'.size<=1\/pd'.size+x<=N)) (Q:=λc st'=>∃p' pd' g',st'=SS κ it p' pd' g'/\c=(none,())/\Kept p p' 0 N/\Wait lt p' pd'.toList N/\pd'.size<=1) ?_ ?_ ⟨p',pd',g',rfl,rfl,K,W,.inr (by omega)⟩) ?_)
  ·clear K W h0
   rintro x c st' _ hx ⟨p',pd',g',rfl,rfl,K,W,hsz⟩
   refine wpS_bind (wpS_get ?_)
   have epd:pendingOf (SS κ it p' pd' g')=pd':=rfl
   rw [epd]
   by_cases e1:pd'.size<=1
   ·rw [if_pos e1]
    exact wpS_pure ⟨p',pd',g',rfl,rfl,K,W,e1⟩
   rw [if_neg e1]
   have go:∀i,i+1 < pd'.size->wpS (model prog w) A E s (mergeAt' i) (λb st'=>b=true/\∃p2 pd2 g2,st'=SS κ it p2 pd2 g2/\Kept p p2 0 N/\Wait lt p2 pd2.toList N/\(pd2.size<=1\/pd2.size+(x+1)<=N)) (SS κ it p' pd' g'):=λi hi =>
    Iv O hc (K.in hp) W (by rw [K.size];omega) hi λp2 pd2 g2 K2 W2 hz2=>⟨rfl,p2,pd2,g2,rfl,K.trans K2,W2,by omega⟩
   refine wpS_bind (wpS_mono (go _ ?_) ?_)
   ·have lem:∀(c:Prop) [Decidable c],(if c then pd'.size - 2 - 1 else pd'.size - 2)+1 < pd'.size:=λc _=>by
     by_cases h:c
     ·rw [if_pos h];omega
     ·rw [if_neg h];omega
    exact lem _
   ·rintro b st' ⟨rfl,p2,pd2,g2,rfl,K2,W2,h2⟩
    rw [if_neg (show ¬(!true)=true by decide)]
    exact wpS_pure ⟨p2,pd2,g2,rfl,rfl,K2,W2,h2⟩
  ·rintro c st' ⟨p',pd',g',rfl,rfl,K,W,hsz⟩
   exact⟨p',pd',g',rfl,rfl,K,W,by omega⟩
  ·clear K W h0
   rintro c st' ⟨p',pd',g',rfl,rfl,K,W,hsz⟩
   refine wpS_pure (hQ p' pd' g' K ?_)
   have hch:=W.ch
   have hsg:=W.sg
   rw [<- Array.length_toList]at hsz
   generalize pd'.toList=l at hch hsg hsz
   match l,hch,hsg,hsz with
   | [],h,_,_=>cases h;exact λi j _ _ h3=>by omega
   | [(a,m,q)],h,hs,_ =>
    obtain⟨h1,h2,h3⟩:=h
    have:=hs (a,m,q) (.head _)
    have h3:0+m=N:=h3
    rw [h1,show m=N by omega]at this
    exact this
   | _ :: _ :: _,_,_,h=>simp at h
theorem StrictOrd.weak(O:StrictOrd n lt):WeakOrd n lt:=by
 have asy:∀a b,a < n->b < n->lt a b=true->lt b a=false:=λa b ha hb h=>by
  cases c:lt b a with
  | false=>rfl
  | true =>
   have:=O.tr a b a ha hb ha h c
   rw [O.irr a ha]at this;cases this
 refine⟨λa b c ha hb hc h1 h2=>?_,asy⟩
 by_cases e1:b=a
 ·subst e1;exact h2
 by_cases e2:c=b
 ·subst e2;exact h1
 exact asy a c ha hc (O.tr a b c ha hb hc (O.tot b a hb ha e1 h1) (O.tot c b hc hb e2 h2))
theorem StrictOrd.up(O:StrictOrd n lt)(P:Pm n p)(h:UpW lt p n):Up lt p n:=λi j hij hj=>O.tot _ _ (P.lt j hj) (P.lt i (by omega)) (P.inj j i hj (by omega) (by omega)) (h i j hij hj)
theorem Xm{vs:List Value}{lt:Nat->Nat->Bool}(O:WeakOrd vs.length lt){κ:SortKind}(q2:∀i j C,i < vs.length->j < vs.length->C (lt i j) s->kas_ask prog w A κ vs i j C s){Q:SortSt->Shared->Prop}
  (hQ:∀(p:Array Nat) (st:SortSt),Pm vs.length p->UpW lt p vs.length->arrOf st=p.map (kas_item (vs.toArray.zip vs.toArray))->failedOf st=none->Q st s) :
  wpAny (model prog w) A ((sortRuns').run (SortSt.mk' κ (vs.toArray.zip vs.toArray) #[] 7 none)) (λr s'=>Q r.2 s') E s:=by
 have hsz:(vs.toArray.zip vs.toArray).size=vs.length:=by simp
 have est:SortSt.mk' κ (vs.toArray.zip vs.toArray) #[] 7 none=SS κ (vs.toArray.zip vs.toArray) (List.toArray (List.range vs.length)) #[] 7:=by
  have e:=kas_range (vs.toArray.zip vs.toArray)
  rw [hsz]at e
  show SortSt.mk' κ (vs.toArray.zip vs.toArray) #[] 7 none=SortSt.mk' κ ((List.toArray (List.range vs.length)).map (kas_item (vs.toArray.zip vs.toArray))) #[] 7 none
  rw [e]
 rw [est]
 have hc:Cmp prog w A κ (vs.toArray.zip vs.toArray) vs.length lt s:=λi j C hi hj h=>by
  have:=q2 i j C hi hj h
  rwa [kat_ask_eq rfl]at this
 have hin:In vs.length (List.toArray (List.range vs.length)):=λi hi=>by
  simp at hi
  simp [at0,Array.getD,hi]
 have hps:(List.toArray (List.range vs.length)).size=vs.length:=by simp
 have:=Ot (E:=E) (g:=7) O hc hin (Q:=λ_ st=>Q st s) λp' pd' g' K S=>by
  have P:Pm vs.length p':=Yt (by have:=K.perm;simpa using this)
  refine hQ p' _ P (λi j hij hj=>?_) rfl rfl
  exact S i j (Nat.zero_le _) hij (by rw [hps];omega)
 refine wpAny_mono this (λr s' h=>?_) λ_ _ e=>e
 obtain⟨rfl,h⟩:=h
 exact h
end
end L2
namespace L2
open PySem
def Qbn(A:Around)(s:Shared)(u v:Value)(b:Bool):Prop:=∀(prog:Program) (w:World) (E:Value->Shared->Prop) (Q:Value->Shared->Prop),Q (.bool b) s->wpAny (model prog w) A (richCompare .Lt u v) Q E s
inductive LexAt (A:Around) (s:Shared):List Value->List Value->Bool->Prop
 | nil {ys:List Value}:LexAt A s [] ys (decide (0 < ys.length))
 | stop {x:Value} {xs:List Value}:LexAt A s (x :: xs) [] false
 | eq {x y:Value} {xs ys:List Value} {r:Bool}:SeqAt.EqAt A s x y true->LexAt A s xs ys r->LexAt A s (x :: xs) (y :: ys) r
 | ne {x y:Value} {xs ys:List Value} {r:Bool}:SeqAt.EqAt A s x y false->Qbn A s x y r->LexAt A s (x :: xs) (y :: ys) r
section
variable {prog:Program}{w:World}{A:Around}{E:Value->Shared->Prop}{s:Shared}
theorem LexAt.ends{xs ys:List Value}{r:Bool}(h:LexAt A s xs ys r)(e:xs.zip ys=[]):r=decide (xs.length < ys.length):=by
 cases h with
 | nil=>simp
 | stop=>simp
 | eq=>simp at e
 | ne=>simp at e
theorem Jz{a b:Addr}{oa ob:Obj}{xs ys:Array Value}{n k:Nat}{P:PySem.Fin->Shared->Prop}{r:Bool}(ha:s.heap.get? a=some oa)(hb:s.heap.get? b=some ob)(cb:ob.cls=.type "tuple") (da:oa.data=.seq xs n) (db:ob.data=.seq ys k)
  (h:LexAt A s xs.toList ys.toList r) (q:P (.done (.ret (.bool r))) s):wpAny (model prog w) A (Builtin.«tuple.__lt__» ⟨[.ref a,.ref b],[]⟩) P E s:=by
 have tb:s.TypeIs (.ref b) "tuple" := ⟨ob,hb,cb⟩
 refine(show wpAny _ _ (isInstance (.ref b) (.type "tuple") >>= _) _ _ s from wpAny_bind (wpAny_isInstance tb isSubtype_tuple_tuple ?_))
 rw [show(!true)=false from rfl,if_neg Bool.false_ne_true]
 refine wpAny_bind (wpAny_tupleItemsOf ha da (wpAny_bind (wpAny_tupleItemsOf hb db (wpAny_bind ?_))))
 refine wpAny_forIn_list _ (λleft acc s1=>acc.1=none/\s1=s/\∃us vs,left=List.zip us vs/\LexAt A s us vs r/\decide (us.length < vs.length)=decide (xs.size < ys.size)) _ ?_ ?_ _ _ ⟨rfl,rfl,xs.toList,ys.toList,rfl,h,by simp⟩
 ·rintro⟨u,v⟩ left acc s1 ⟨ea,rfl,us,vs,ez,hl,hn⟩
  cases hl with
  | nil=>simp at ez
  | stop=>simp at ez
  | eq h1 h2 =>
   simp only [List.zip_cons_cons,List.cons.injEq,Prod.mk.injEq]at ez
   obtain⟨⟨rfl,rfl⟩,rfl⟩:=ez
   refine wpAny_bind (h1 prog w _ _ ?_)
   dsimp only
   rw [show(!true)=false from rfl,if_neg Bool.false_ne_true]
   exact wpAny_pure ⟨rfl,rfl,_,_,rfl,h2,by simpa using hn⟩
  | ne h1 h2 =>
   simp only [List.zip_cons_cons,List.cons.injEq,Prod.mk.injEq]at ez
   obtain⟨⟨rfl,rfl⟩,rfl⟩:=ez
   refine wpAny_bind (h1 prog w _ _ ?_)
   simp only [Bool.not_false,if_true]
   exact wpAny_bind (wpAny_rule (wpAny_bind (h2 prog w _ _ (wpAny_bind (wpAny_pure (wpAny_pure (wpAny_pure q)))))))
 ·rintro⟨a1,a2⟩ s1 ⟨ea,rfl,us,vs,ez,hl,hn⟩
  simp only at ea
  subst ea
  have e:=hl.ends ez.symm
  rw [e,hn]at q
  exact wpAny_pure q
theorem Ou{a b:Addr}{oa ob:Obj}{xs ys:Array Value}{n k:Nat}{r:Bool}(ha:s.heap.get? a=some oa)(hb:s.heap.get? b=some ob)(ca:oa.cls=.type "tuple") (cb:ob.cls=.type "tuple") (da:oa.data=.seq xs n) (db:ob.data=.seq ys k)
  (hu:A.units < cLine) (h:LexAt A.in1 s xs.toList ys.toList r):Qbn A s (.ref a) (.ref b) r:=λprog w E Q q =>
 wpAny_richCompare_same_room (T := "tuple") ⟨oa,ha,ca⟩ ⟨ob,hb,cb⟩ F.slot_tuple_lt (wpAny_call_entry F.slot_tuple_lt ⟨oa,ha,ca⟩ F.entry_tuple_lt (Jz ha hb cb da db h ⟨_,rfl,(λz=>nomatch z),q⟩) (F.args_tuple_lt_2 _ _)) hu
end
mutual
def cmpb:PyData->PyData->Bool
 | .int _,.int _=>true
 | .tuple xs,.tuple ys=>cmpbs xs ys
 | _,_=>false
def cmpbs:List PyData->List PyData->Bool
 | [],_=>true
 | _ :: _,[]=>true
 | x :: xs,y :: ys=>if PyData.eqv x y then cmpbs xs ys else cmpb x y
end
theorem Ud{u a b c d:Nat}(h:u+min (max a b) (max c d) < cLine):u+min a c < cLine:=by omega
theorem Qbo{u a b c d:Nat}(h:u+min (max a b) (max c d) < cLine):u+min b d < cLine:=by omega
mutual
theorem Ov:∀(x y:PyData) (A:Around) (s:Shared) (u v:Value) (as bs:List Addr),Reads s.heap u x as->Reads s.heap v y bs->x.canLay0=true->y.canLay0=true->cmpb x y=true->A.units+min x.depth y.depth < cLine->Qbn A s u v (Ff x y)
 | .int a,.int b,A,s,u,v,as,bs,r1,r2,_,_,_,_=>by
  cases r1;cases r2
  intro prog w E Q q
  have e:Ff (.int a) (.int b)=decide (a < b):=by simp [Ff]
  rw [e]at q
  exact wpAny_lt_int q
 | .tuple xs,.tuple ys,A,s,u,v,as,bs,r1,r2,c1,c2,hc,hu=>by
  cases r1 with
  | tuple a1 a2 a3 a4 =>
   cases r2 with
   | tuple b1 b2 b3 b4 =>
    have e:Ff (.tuple xs) (.tuple ys)=C8 xs ys:=by simp [Ff]
    rw [e]
    simp only [PyData.canLay0]at c1 c2
    simp only [cmpb]at hc
    simp only [PyData.depth]at hu
    refine Ou a1 b1 a2 b2 a3 b3 (by omega) (Ex xs ys A.in1 s _ _ _ _ a4 b4 c1 c2 hc ?_)
    show A.units+1+_ < _
    omega
 | .int _,.none,_,_,_,_,_,_,_,_,_,_,h,_=>by simp [cmpb]at h
 | .int _,.bool _,_,_,_,_,_,_,_,_,_,_,h,_=>by simp [cmpb]at h
 | .int _,.str _,_,_,_,_,_,_,_,_,_,_,h,_=>by simp [cmpb]at h
 | .int _,.list _,_,_,_,_,_,_,_,_,_,_,h,_=>by simp [cmpb]at h
 | .int _,.tuple _,_,_,_,_,_,_,_,_,_,_,h,_=>by simp [cmpb]at h
 | .int _,.dict _,_,_,_,_,_,_,_,_,_,_,h,_=>by simp [cmpb]at h
 | .tuple _,.none,_,_,_,_,_,_,_,_,_,_,h,_=>by simp [cmpb]at h
 | .tuple _,.bool _,_,_,_,_,_,_,_,_,_,_,h,_=>by simp [cmpb]at h
 | .tuple _,.str _,_,_,_,_,_,_,_,_,_,_,h,_=>by simp [cmpb]at h
 | .tuple _,.list _,_,_,_,_,_,_,_,_,_,_,h,_=>by simp [cmpb]at h
 | .tuple _,.int _,_,_,_,_,_,_,_,_,_,_,h,_=>by simp [cmpb]at h
 | .tuple _,.dict _,_,_,_,_,_,_,_,_,_,_,h,_=>by simp [cmpb]at h
 | .none,_,_,_,_,_,_,_,_,_,_,_,h,_=>by simp [cmpb]at h
 | .bool _,_,_,_,_,_,_,_,_,_,_,_,h,_=>by simp [cmpb]at h
 | .str _,_,_,_,_,_,_,_,_,_,_,_,h,_=>by simp [cmpb]at h
 | .list _,_,_,_,_,_,_,_,_,_,_,_,h,_=>by simp [cmpb]at h
 | .dict _,_,_,_,_,_,_,_,_,_,_,_,h,_=>by simp [cmpb]at h
theorem Ex:∀(xs ys:List PyData) (A:Around) (s:Shared) (us vs:List Value) (as bs:List Addr),ReadsAll s.heap us xs as->ReadsAll s.heap vs ys bs->PyData.canLayAll0 xs=true->PyData.canLayAll0 ys=true->cmpbs xs ys=true->A.units+min (PyData.depthAll xs) (PyData.depthAll ys) < cLine->LexAt A s us vs (C8 xs ys)
 | [],ys,A,s,us,vs,as,bs,r1,r2,_,_,_,_=>by
  cases r1
  have e:C8 [] ys=decide (0 < vs.length):=by
   cases r2 <;> simp [C8]
  rw [e]
  exact .nil
 | x :: xs,[],A,s,us,vs,as,bs,r1,r2,_,_,_,_=>by
  cases r2
  cases r1 with
  | cons a1 a2 =>
   have e:C8 (x :: xs) []=false:=by simp [C8]
   rw [e]
   exact .stop
 | x :: xs,y :: ys,A,s,us,vs,as,bs,r1,r2,c1,c2,hc,hu=>by
  simp only [PyData.canLayAll0,Bool.and_eq_true]at c1 c2
  simp only [PyData.depthAll]at hu
  cases r1 with
  | cons a1 a2 =>
   cases r2 with
   | cons b1 b2 =>
    have q:=SeqAt.eqAt_reads x y A s _ _ _ _ a1 b1 c1.1 c2.1 (Ud hu)
    simp only [cmpbs]at hc
    simp only [C8]
    cases e:PyData.eqv x y with
    | true =>
     rw [e]at q hc
     exact .eq q (Ex xs ys A s _ _ _ _ a2 b2 c1.2 c2.2 hc (Qbo hu))
    | false =>
     rw [e]at q hc
     exact .ne q (Ov x y A s _ _ _ _ a1 b1 c1.1 c2.1 hc (Ud hu))
end
end L2
namespace L2
open PySem PySem.W PyProof.Rows
section
variable {prog:Program}{w:World}{A:Around}{E:Value->Shared->Prop}{s:Shared}
theorem Xn{fin b:Bool}{Q:Bool->Shared->Prop}:∀{us vs:List Value} {r:Bool},LexAt A s us vs r->fin=decide (us.length < vs.length)->∀i,Q r s->KatLex prog w A b fin Q (us.zip vs) (i+1) s:=by
 intro us vs r h
 induction h with
 | nil =>
  intro e i q
  have e':fin=decide (0 < _):=e
  rw [<- e']at q
  exact kat_nil q
 | stop =>
  intro e i q
  have e':fin=false:=by rw [e];simp
  rw [<- e']at q
  exact kat_nil q
 | eq h1 h2 ih =>
  intro e i q
  exact kat_cons (h1 prog w _ _ (kat_yes (ih (by rw [e];simp) (i+1) q)))
 | ne h1 h2 =>
  intro e i q
  refine kat_cons (h1 prog w _ _ (kat_no ?_))
  have eb:(b && i+1==0)=false:=by simp
  rw [eb]
  exact kat_one _ _ (h2 prog w _ _ (show PySem.W.BoolBack Q (.bool _) s from q))
theorem Ue{x y:Addr}{a b:Int}{ra rb:List PyData}{as bs:List Addr}{Q:Bool->Shared->Prop}(r1:Reads s.heap (.ref x) (.tuple (.int a :: ra)) as)(r2:Reads s.heap (.ref y) (.tuple (.int b :: rb)) bs)(c1:(PyData.tuple (.int a :: ra)).canLay0=true)(c2:(PyData.tuple (.int b :: rb)).canLay0=true)
  (hc:cmpb (.tuple (.int a :: ra)) (.tuple (.int b :: rb))=true) (hu:A.units+64 < cLine) (hd:(PyData.tuple (.int a :: ra)).depth<=64) (q:Q (Ff (.tuple (.int a :: ra)) (.tuple (.int b :: rb))) s):wpAny (model prog w) A (keyLt' (tuples' true) (.ref x) (.ref y)) Q E s:=by
 cases r1 with
 | @tuple _ ox xs n _ _ a1 a2 a3 a4 =>
  cases r2 with
  | @tuple _ oy ys m _ _ b1 b2 b3 b4 =>
   refine kat_lt a1 a3 b1 b3 ?_
   simp only [PyData.canLay0,PyData.canLayAll0,Bool.and_eq_true]at c1 c2
   simp only [PyData.depth,PyData.depthAll]at hd
   simp only [cmpb,cmpbs]at hc
   simp only [Ff,C8]at q
   have ex:xs.size=xs.toList.length:=by simp
   have ey:ys.size=ys.toList.length:=by simp
   rw [ex,ey]
   generalize xs.toList=us at a4 ⊢
   generalize ys.toList=vs at b4 ⊢
   cases a4 with
   | cons u1 u2 =>
    cases b4 with
    | cons v1 v2 =>
     cases u1 with
     | int _ t =>
      cases v1 with
      | int _ t' =>
       rw [List.zip_cons_cons]
       have e0:=SeqAt.eqAt_reads (.int a) (.int b) A s _ _ _ _ (.int a t) (.int b t') rfl rfl (by simp [PyData.depth];omega)
       cases e:PyData.eqv (.int a) (.int b) with
       | true =>
        rw [e]at e0 hc q
        refine kat_cons (e0 prog w _ _ (kat_yes ?_))
        refine Xn (Ex ra rb A s _ _ _ _ u2 v2 c1.2 c2.2 hc (by omega)) (by simp) 0 q
       | false =>
        rw [e]at e0 hc q
        refine kat_cons (e0 prog w _ _ (kat_no ?_))
        exact kat_lt_int q
theorem Ey{a:Addr}{vs:List Value}{lt:Nat->Nat->Bool}{n:Nat}{P:PySem.Fin->Shared->Prop}(ho:s.heap.get? a=some (seqObj "list" vs.toArray n)) (h64:vs.length < 1000) (O:StrictOrd vs.length lt)
  (hk:2<=vs.length->∀h':Heap,(∀b o,b≠a->s.heap.get? b=some o->h'.get? b=some o)->∃ κ,(∀Q:SortKind->Shared->Prop,Q κ { s with heap:=h' }->wpAny (model prog w) A (keyKind' vs.toArray) Q E { s with heap:=h' }) /\
   ∀i j C,i < vs.length->j < vs.length->C (lt i j) { s with heap:=h' }->kas_ask prog w A κ vs i j C { s with heap:=h' })
  (h:∀(p:Array Nat) (h':Heap) (c:Nat),Pm vs.length p->Up lt p vs.length->(∀b o,b≠a->s.heap.get? b=some o->h'.get? b=some o)->h'.get? a=some (seqObj "list" (p.toList.map λi=>vs.getD i Value.none).toArray c)->P (.done (.ret .none)) { s with heap:=h' }) :
  wpAny (model prog w) A (Builtin.«list.sort» ⟨[.ref a],[]⟩) P E s:=by
 obtain⟨e1,ho1⟩:∃e1,(s.heap.update a (Obj.mapSeq λ_=>(#[]:Array Value))).get? a=some (seqObj "list" #[] e1):=⟨_,get?_update_seq ho λ_=>#[]⟩
 have sz:vs.toArray.size<=sizeLine:=by rw [List.size_toArray];exact Nat.le_trans (Nat.le_of_lt h64) (by decide)
 have k2:∀b o,b≠a->s.heap.get? b=some o->(((s.heap.update a (Obj.mapSeq λ_=>(#[]:Array Value))).push (seqObj "tuple" vs.toArray 0)).push (seqObj "list" #[] 0)).get? b=some o:=λb o hb e =>
  Heap.get?_push_of_some _ (Heap.get?_push_of_some _ (((Heap.SameBut.update s.heap a _).2 b hb).trans e))
 have ho2:(((s.heap.update a (Obj.mapSeq λ_=>(#[]:Array Value))).push (seqObj "tuple" vs.toArray 0)).push (seqObj "list" #[] 0)).get? a=some (seqObj "list" #[] e1):=Heap.get?_push_of_some _ (Heap.get?_push_of_some _ ho1)
 rw [list_sort_plain]
 refine wpAny_bind (listItems_at ho rfl (wpAny_bind (listUpdate_at ho rfl (wpAny_bind (seqEpoch_at ho1 rfl (wpAny_bind (wpAny_newTuple (wpAny_bind (wpAny_newList (wpAny_holding ?_) (Nat.zero_le _))) (by simpa using sz))))) sz (Nat.zero_le _))))
 show wpAny (model prog w) A _ P E { s with heap:=(((s.heap.update a (Obj.mapSeq λ_=>(#[]:Array Value))).push (seqObj "tuple" vs.toArray 0)).push (seqObj "list" #[] 0)) }
 generalize ((s.heap.update a (Obj.mapSeq λ_=>(#[]:Array Value))).push (seqObj "tuple" vs.toArray 0)).push (seqObj "list" #[] 0)=h2 at k2 ho2 ⊢
 dsimp only
 have fin:∀(st:SortSt) (p:Array Nat),(arrOf st).map (·.2)=List.toArray (p.toList.map λi=>vs.getD i Value.none)->failedOf st=none->Pm vs.length p->Up lt p vs.length->∀Q:Heap->Prop,(∀(h':Heap) (c:Nat),(∀b o,b≠a->s.heap.get? b=some o->h'.get? b=some o)->h'.get? a=some (seqObj "list" (p.toList.map λi=>vs.getD i Value.none).toArray c)->Q h') ->
   Q (h2.update a (Obj.mapSeq λ_=>(arrOf st).map (·.2))):=λst p e _ _ _ Q q=>by
  rw [e]
  exact q _ _ (λb o hb eb=>((Heap.SameBut.update h2 a _).2 b hb).trans (k2 b o hb eb)) (get?_update_seq ho2 _)
 by_cases h1:vs.toArray.size < 2
 ·rw [if_pos h1,if_pos h1]
  refine wpAny_bind (wpAny_pure ?_)
  rw [StateT.run_pure]
  have pm:Pm vs.length (List.range vs.length).toArray:=Yt (by simp)
  have up:Up lt (List.range vs.length).toArray vs.length:=λi j hij hj=>by
   rw [List.size_toArray]at h1
   omega
  have ev:(arrOf (SortSt.mk' general' (vs.toArray.zip vs.toArray) #[] 7 none)).map (·.2)=List.toArray ((List.range vs.length).toArray.toList.map λi=>vs.getD i Value.none):=by
   have ek:=kat_snds (ks:=vs) (vs:=vs) (st:=SortSt.mk' general' (vs.toArray.zip vs.toArray) #[] 7 none) (p:=(List.range vs.length).toArray) rfl (by
    have e:=kas_range (vs.toArray.zip vs.toArray)
    rw [show(vs.toArray.zip vs.toArray).size=vs.length by simp]at e
    exact e.symm)
   exact ek
  have fn:=fin _ _ ev rfl pm up (λh'=>P (.done (.ret .none)) { s with heap:=h' }) (λh' c k e=>h _ h' c pm up k e)
  refine wpAny_bind (wpAny_pure (wpAny_bind (seqEpoch_at ho2 rfl (wpAny_bind (listUpdate_at ho2 rfl ?_ (Nat.zero_le _) ?_)))))
  ·rw [show failedOf (SortSt.mk' general' (vs.toArray.zip vs.toArray) #[] 7 none)=none from rfl,bne_self_eq_false,if_neg Bool.false_ne_true]
   exact wpAny_pure fn
  ·refine Nat.le_trans ?_ (Nat.le_succ_of_le sz)
   show(Array.map _ _).size<=_
   rw [ev];simp
 ·rw [if_neg h1,if_neg h1]
  have hn2:2<=vs.length:=by rw [List.size_toArray]at h1;omega
  obtain⟨κ,q1,q2⟩:=hk hn2 h2 k2
  refine wpAny_bind (q1 _ ?_)
  refine wpAny_bind (wpAny_mono (Xm O.weak q2 (Q:=λst s1=>s1={ s with heap:=h2 }/\∃p:Array Nat,(arrOf st).map (·.2)=List.toArray (p.toList.map λi=>vs.getD i Value.none)/\failedOf st=none/\Pm vs.length p/\Up lt p vs.length)
   λp st pm up ea ef=>⟨rfl,p,kat_snds rfl ea,ef,pm,O.up pm up⟩) ?_ λ_ _ e=>e)
  rintro⟨⟨⟩,st⟩ s1 ⟨rfl,p,ev,ef,pm,up⟩
  dsimp only
  have fn:=fin _ _ ev ef pm up (λh'=>P (.done (.ret .none)) { s with heap:=h' }) (λh' c k e=>h _ h' c pm up k e)
  refine wpAny_bind (seqEpoch_at ho2 rfl (wpAny_bind (listUpdate_at ho2 rfl ?_ (Nat.zero_le _) ?_)))
  ·rw [ef,bne_self_eq_false,if_neg Bool.false_ne_true]
   exact wpAny_pure fn
  ·refine Nat.le_trans ?_ (Nat.le_succ_of_le sz)
   show(Array.map _ _).size<=_
   rw [ev]
   simp [pm.size]
theorem Rt{v:Value}{vs:List Value}{lt:Nat->Nat->Bool}{h1:Heap}{t1:Nat}{Q:Value->Shared->Prop}(hcol:∀Q':List Value->Shared->Prop,Q' vs { s with heap:=h1,toks:=t1 }->wpAny (model prog w) A.in1 (collect v) Q' E s)(k1:∀b o,s.heap.get? b=some o->h1.get? b=some o)(z1:s.heap.objs.size<=h1.objs.size)(h64:vs.length < 1000)(O:StrictOrd vs.length lt)
  (hk:2<=vs.length->∀h':Heap,(∀b o,s.heap.get? b=some o->h'.get? b=some o)->∃ κ,(∀Q:SortKind->Shared->Prop,Q κ { s with heap:=h',toks:=t1 }->wpAny (model prog w) A.in1.in1 (keyKind' vs.toArray) Q E { s with heap:=h',toks:=t1 }) /\
   ∀i j C,i < vs.length->j < vs.length->C (lt i j) { s with heap:=h',toks:=t1 }->kas_ask prog w A.in1.in1 κ vs i j C { s with heap:=h',toks:=t1 })
  (h:∀(p:Array Nat) (h':Heap) (l c:Nat),Pm vs.length p->Up lt p vs.length->s.heap.objs.size<=l->(∀b o,s.heap.get? b=some o->h'.get? b=some o)->h'.get? l=some (seqObj "list" (p.toList.map λi=>vs.getD i Value.none).toArray c)->Q (.ref l) { s with heap:=h',toks:=t1 }) :
  wpAny (model prog w) A (call (.builtin "sorted") [v]) Q E s:=by
 have sz:vs.length<=sizeLine:=Nat.le_trans (Nat.le_of_lt h64) (by decide)
 have hL:(h1.push (seqObj "list" vs.toArray 0)).get? h1.objs.size=some (seqObj "list" vs.toArray 0):=Heap.get?_push_size _ rfl
 refine Calls.call_function_entry kind_sorted plain_sorted entry_sorted (args_sorted1 _) ?_
 unfold Builtin.«sorted»
 refine wpAny_bind (m:=checkCount "sorted" 1 1 _) (wpAny_pure (wpAny_bind (hcol _ (wpAny_bind (wpAny_newList ?_ sz)))))
 refine wpAny_bind (wpAny_holding (wpAny_call_entry slot_list_sort ⟨_,hL,rfl⟩ entry_list_sort ?_ (args_list_sort _)))
 refine Ey (s:={ s with heap:=h1.push (seqObj "list" vs.toArray 0),toks:=t1 }) hL h64 O (λh2 h' k=>?_) λp h' c pm up k e=>⟨_,rfl,wpAny_pure ⟨_,rfl,?_⟩⟩
 ·exact hk h2 h' λb o q=>k b o (Nat.ne_of_lt (Nat.lt_of_lt_of_le (Heap.lt_size q) z1)) (Heap.get?_push_of_some _ (k1 b o q))
 ·exact h p h' _ c pm up z1 (λb o q=>k b o (Nat.ne_of_lt (Nat.lt_of_lt_of_le (Heap.lt_size q) z1)) (Heap.get?_push_of_some _ (k1 b o q))) e
end
end L2
namespace L2
open PySem PySem.Spec PyProof.Rows
structure SortOk(ds:List PyData):Prop where
 len:ds.length < 1000
 can:PyData.canLayAll0 ds=true
 dp:PyData.depthAll ds<=64
 cano:Aq ds=true
 nd:ds.Nodup
 fst:2<=ds.length->∀d∈ds,∃i r,d=.tuple (.int i :: r)
 cmp:∀d∈ds,∀e∈ds,cmpb d e=true
def ltI(ds:List PyData)(i j:Nat):Bool:=Ff (ds.getD i .none) (ds.getD j .none)
theorem Cj:∀{ds:List PyData},Aq ds=true->∀d∈ds,Cano d=true
 | d :: ds,h,e,he=>by
  simp only [Aq,Bool.and_eq_true]at h
  rcases List.mem_cons.mp he with rfl | he
  ·exact h.1
  ·exact Cj h.2 e he
theorem Dl:∀{ds:List PyData},PyData.canLayAll0 ds=true->∀d∈ds,d.canLay0=true
 | d :: ds,h,e,he=>by
  simp only [PyData.canLayAll0,Bool.and_eq_true]at h
  rcases List.mem_cons.mp he with rfl | he
  ·exact h.1
  ·exact Dl h.2 e he
theorem Gy:∀{ds:List PyData},∀d∈ds,d.depth<=PyData.depthAll ds
 | d :: ds,e,he=>by
  simp only [PyData.depthAll]
  rcases List.mem_cons.mp he with rfl | he
  ·omega
  ·have:=Gy (ds:=ds) e he
   omega
theorem B9{α:Type}{xs:List α}{i:Nat}{d:α}(h:i < xs.length):xs.getD i d∈xs:=by
 rw [List.getD_eq_getElem?_getD,List.getElem?_eq_getElem h];exact List.getElem_mem h
theorem Cm{α:Type}{xs:List α}{i:Nat}{d:α}(h:i < xs.length):xs[i]?=some (xs.getD i d):=by
 rw [List.getD_eq_getElem?_getD,List.getElem?_eq_getElem h];rfl
theorem SortOk.ord{ds:List PyData}(h:SortOk ds):StrictOrd ds.length (ltI ds):=by
 refine⟨λa b c ha hb hc h1 h2=>?_,λa b ha hb hab h1=>?_,λa ha=>Gf _ (Cj h.cano _ (B9 ha))⟩
 ·exact Op _ _ _ (Cj h.cano _ (B9 ha)) (Cj h.cano _ (B9 hb)) (Cj h.cano _ (B9 hc)) h1 h2
 ·refine Py _ _ (Cj h.cano _ (B9 ha)) (Cj h.cano _ (B9 hb)) (λe=>hab ?_) h1
  refine(List.getElem?_inj ha h.nd).mp ?_
  rw [Cm (d:=PyData.none) ha,Cm (d:=PyData.none) hb,e]
theorem Kq{h h':Heap}(hk:∀b o,h.get? b=some o->h'.get? b=some o):∀{us:List Value} {ds:List PyData} {as:List Addr},ReadsAll h us ds as->ReadsAll h' us ds as
 | _,_,_,.nil=>.nil
 | _,_,_,.cons r t=>.cons (PyProof.Rows.Reads.keeps hk r) (Kq hk t)
theorem Uf{h:Heap}:∀{us:List Value} {ds:List PyData} {as:List Addr} {i:Nat},ReadsAll h us ds as->i < ds.length->∃bs,Reads h (us.getD i .none) (ds.getD i .none) bs
 | _,_,_,0,.cons r _,_=>⟨_,r⟩
 | _,_,_,i+1,.cons _ t,hi=>Uf (i:=i) t (by simpa using hi)
theorem Y2{h:Heap}:∀{us:List Value} {ds:List PyData} {as:List Addr},ReadsAll h us ds as->us.length=ds.length
 | _,_,_,.nil=>rfl
 | _,_,_,.cons _ t=>by simp [Y2 t]
theorem Iw{h:Heap}:∀{us:List Value} {ds:List PyData} {as:List Addr},ReadsAll h us ds as->(∀d∈ds,∃i r,d=.tuple (.int i :: r))->∃fs:List Value,PySem.W.KatTups h us fs/\fs.length=us.length/\∀v∈fs,∃i t,v=.int i t
 | _,_,_,.nil,_=>⟨[],PySem.W.KatTups.nil,rfl,λ_ z=>nomatch z⟩
 | _,_,_,.cons r t,hd=>by
  obtain⟨fs,k,l,z⟩:=Iw t λd hd'=>hd d (List.mem_cons_of_mem _ hd')
  obtain⟨i,r',rfl⟩:=hd _ List.mem_cons_self
  cases r with
  | @tuple a o vs n xs as a1 a2 a3 a4 =>
   cases hv:vs.toList with
   | nil=>rw [hv]at a4;cases a4
   | cons v0 vr =>
    rw [hv]at a4
    cases a4 with
    | cons u1 u2 =>
     cases u1 with
     | int _ t0 =>
      refine⟨.int i t0 :: fs,PySem.W.KatTups.cons a1 a2 a3 ?_ k,by simp [l],λv hv'=>?_⟩
      ·rw [<- Array.getElem?_toList,hv];rfl
      ·rcases List.mem_cons.mp hv' with rfl | hv'
       ·exact⟨_,_,rfl⟩
       ·exact z v hv'
def Qf:AC:=λxs μ R=>match xs with
 | [.R a]=>opt (μ a) λm=>match m with
  | .lst ys=>opt (dats ys) λds=>SortOk ds/\∀(es:List PyData) (p:Addr),es.Perm ds->es.Pairwise (λa b=>Ff a b=true)->μ p=none->R (.R p) (Ar μ p (.lst (es.map .D)))
  | _=>False
 | _=>False
theorem C5{α:Type}(xs:List α)(d:α):(List.range xs.length).map (λi=>xs.getD i d)=xs:=by
 apply List.ext_getElem?
 intro i
 rw [List.getElem?_map]
 by_cases h:i < xs.length
 ·rw [List.getElem?_range h,Cm (d:=d) h];rfl
 ·rw [List.getElem?_eq_none (by simpa using h),List.getElem?_eq_none (by simpa using h)];rfl
theorem Ao.pick{K:PySem.W.Frag}{H:Hp}{ds:List PyData}{vs:List V}(h:Ao K H ds vs):∀(p:List Nat),(∀i∈p,i < ds.length)->Ao K H (p.map λi=>ds.getD i .none) (p.map λi=>vs.getD i .non)
 | [],_=>Ds
 | i :: p,hp=>by
  obtain⟨x,ex,dx⟩:=h.get (Cm (d:=PyData.none) (hp i List.mem_cons_self))
  refine Dc ?_ (h.pick p λj hj=>hp j (List.mem_cons_of_mem _ hj))
  have e:vs.getD i .non=x:=by rw [List.getD_eq_getElem?_getD,ex];rfl
  show Dk K H (ds.getD i .none) (vs.getD i .non)
  rw [e];exact dx
theorem Vals.pick{xs:List V}{us:List Value}(h:Vals xs us):∀(p:List Nat),(∀i∈p,i < xs.length)->Vals (p.map λi=>xs.getD i .non) (p.map λi=>us.getD i .none)
 | [],_=>.nil
 | i :: p,hp=>by
  obtain⟨u,eu,ru⟩:=h.get (Cm (d:=V.non) (hp i List.mem_cons_self))
  refine .cons ?_ (Vals.pick h p λj hj=>hp j (List.mem_cons_of_mem _ hj))
  have e:us.getD i .none=u:=by rw [List.getD_eq_getElem?_getD,eu];rfl
  show B4 (xs.getD i .non) (us.getD i .none)
  rw [e];exact ru
section
variable {X:Cx}{k:Nat}
theorem Ug(hr:Room k X.A):VCall X (.builtin "sorted") Qf:=by
 intro pins s σ H xs us Q I r zz93
 refine Ce zz93 λas μ R ra hc h hq=>?_
 unfold Qf at h
 split at h
 ·rename_i a
  cases ra with
  | cons r1 r2 =>
  cases r2
  obtain⟨m,em,h⟩:=Bj h
  split at h
  ·rename_i ys
   obtain⟨ds,ed,ok,h⟩:=Bj h
   obtain⟨o,ho,ws,rfl,rs⟩:=hc _ _ em
   cases r1
   obtain⟨u,rfl,rx⟩:=Dx r
   cases rx
   obtain⟨its,rv,pl,hz⟩:=I.list (Ec.of (K:=X.K) ho)
   have dk:=rs.dats ed
   obtain⟨bs,rd⟩:=Ao.reads I ds ws its dk rv
   have l1:=Y2 rd
   have l2:=dk.length
   have h64:its.length < 1000:=by rw [l1];exact ok.len
   have sz:its.length<=sizeLine:=Nat.le_trans (Nat.le_of_lt h64) (by decide)
   have keep:∀b o,s.heap.get? b=some o->((s.heap.push (seqObj "list" #[] 0)).update s.heap.objs.size (Obj.mapSeq (·++its.toArray))).get? b=some o:=λb o q =>
    ((Heap.SameBut.update (s.heap.push (seqObj "list" #[] 0)) s.heap.objs.size _).2 b (Nat.ne_of_lt (Heap.lt_size q))).trans (Heap.get?_push_of_some _ q)
   have hO:StrictOrd its.length (ltI ds):=by rw [l1];exact ok.ord
   refine Rt (t1:=s.toks) (λQ' q=>collect_list pl.isList q sz) keep (by rw [Heap.size_update];exact Nat.le_trans (Nat.le_succ _) (Nat.le_of_eq (Heap.size_push _ _).symm)) h64 hO (λh2 h' kp=>?_) λp h' l c pm up hl kp e=>?_
   ·have rd':ReadsAll h' its ds bs:=Kq kp rd
    obtain⟨fs,kt,kl,kz⟩:=Iw rd' (ok.fst (by omega))
    refine⟨tuples' true,λQ q=>?_,λi j C hi hj q=>?_⟩
    ·refine PySem.W.kat_kind (T:=.type "int") kt (by omega) (λv hv=>?_) rfl q
     obtain⟨i,t,rfl⟩:=kz v hv
     exact PySem.W.Looks.of_pure rfl
    ·rw [l1]at hi hj
     obtain⟨b1,q1⟩:=Uf rd' hi
     obtain⟨b2,q2⟩:=Uf rd' hj
     have m1:=B9 (d:=PyData.none) hi
     have m2:=B9 (d:=PyData.none) hj
     obtain⟨x1,r1,e1⟩:=ok.fst (by omega) _ m1
     obtain⟨x2,r2,e2⟩:=ok.fst (by omega) _ m2
     have c1:=Dl ok.can _ m1
     have c2:=Dl ok.can _ m2
     have d1:=Nat.le_trans (Gy _ m1) ok.dp
     have cm:=ok.cmp _ m1 _ m2
     have q':C (Ff (ds.getD i .none) (ds.getD j .none)) _:=q
     rw [e1]at q1 c1 d1 cm q'
     rw [e2]at q2 c2 cm q'
     have hu:=hr.un
     unfold PySem.W.kas_ask
     generalize its.getD i Value.none=u1 at q1 ⊢
     generalize its.getD j Value.none=u2 at q2 ⊢
     cases q1 with
     | tuple a1 a2 a3 a4 =>
      cases q2 with
      | tuple b1 b2 b3 b4 =>
       exact Ue (.tuple a1 a2 a3 a4) (.tuple b1 b2 b3 b4) c1 c2 cm (by show X.A.units+1+1+64 < _;omega) d1 q'
   ·have hp:∀i∈p.toList,i < ds.length:=λi hi=>by
     have:=pm.perm.mem_iff.mp hi
     rw [l1]at this
     exact List.mem_range.mp this
    have hv:=Vals.pick rv p.toList λi hi=>by rw [l2];exact hp i hi
    have hd:=dk.pick p.toList hp
    have hlen:(p.toList.map λi=>ws.getD i .non).length<=sizeLine:=by
     rw [List.length_map,Array.length_toList,pm.size];exact sz
    refine⟨.ref l,_,I.laid (t':=s.toks) kp hl (show Ch X.prog X.w _ h' _ (.lst (p.toList.map λi=>ws.getD i .non)) from⟨hlen,_,c,hv,e⟩),rfl,?_⟩
    have hn:=I.hok.fresh hl
    refine hq _ _ _ _ (Kp.new hn _) (hc.new hn (Cz ?_)) Di (h (p.toList.map λi=>ds.getD i .none) l ?_ ?_ (hc.none hn))
    ·exact hd.rel
    ·have e1:p.toList.Perm (List.range ds.length):=by rw [<- l1];exact pm.perm
     have e2:=e1.map λi=>ds.getD i PyData.none
     rw [C5]at e2
     exact e2
    ·rw [List.pairwise_map]
     refine List.pairwise_iff_getElem.mpr λi j hi hj hij=>?_
     have hj':j < its.length:=by rw [<- pm.size];simpa using hj
     have:=up i j hij hj'
     have gi:p.getD i 0=p.toList[i]:=by simp [Array.getD,show i < p.size by simpa using hi]
     have gj:p.getD j 0=p.toList[j]:=by simp [Array.getD,show j < p.size by simpa using hj]
     rw [gi,gj]at this
     exact this
  ·exact h.elim
 ·exact h.elim
end
section
variable {prog:Program}{w:World}{A:Around}{E:Value->Shared->Prop}{s:Shared}
end
section
variable {X:Cx}{tg a:Expr}{ta:AE}{pos p:Pos}
end
section
variable {X:Cx}{o e f:Expr}{apos cpos:Pos}{td ty tx:AE}
end
section
variable {X:Cx}{e:Expr}{te:AE}{p p2 pos pos2:Pos}
end
end L2
namespace L2
open PySem
def Dm(xs:Array Nat):Prop:=xs.toList.Pairwise (· < ·)
theorem Dm.lt{xs:Array Nat}(h:Dm xs){i j:Nat}{d:Nat}(hij:i < j)(hj:j < xs.size):xs.getD i d < xs.getD j d:=by
 have:=List.pairwise_iff_getElem.mp h i j (by simp;omega) (by simpa using hj) hij
 simp only [Array.getElem_toList]at this
 simp only [Array.getD,show i < xs.size by omega,hj,dif_pos]
 exact this
theorem Ix{xs:Array Nat}(h:Dm xs){j:Nat}:∀(f lo hi:Nat),hi - lo<=f->lo<=hi->hi<=xs.size->(∀i,i < lo->xs.getD i j < j)->(∀i,hi<=i->i < xs.size->j<=xs.getD i j) ->
  SetTable.below.go xs j f lo hi<=xs.size/\(∀i,i < SetTable.below.go xs j f lo hi->xs.getD i j < j)/\∀i,SetTable.below.go xs j f lo hi<=i->i < xs.size->j<=xs.getD i j
 | 0,lo,hi,h1,h2,h3,h4,h5=>by
  have e:lo=hi:=by omega
  subst e
  exact⟨h3,h4,h5⟩
 | f+1,lo,hi,h1,h2,h3,h4,h5=>by
  rw [SetTable.below.go]
  by_cases c:lo < hi
  ·rw [if_pos c]
   dsimp only
   by_cases c2:xs.getD ((lo+hi) / 2) j < j
   ·rw [if_pos c2]
    refine Ix h f _ _ (by omega) (by omega) h3 (λi hi'=>?_) h5
    by_cases e:i=(lo+hi) / 2
    ·rw [e];exact c2
    ·have:=h.lt (d:=j) (show i < (lo+hi) / 2 by omega) (show(lo+hi) / 2 < xs.size by omega)
     omega
   ·rw [if_neg c2]
    refine Ix h f _ _ (by omega) (by omega) (by omega) h4 (λi hi' hs=>?_)
    by_cases e:i=(lo+hi) / 2
    ·rw [e];omega
    ·have:=h.lt (d:=j) (show(lo+hi) / 2 < i by omega) hs
     omega
  ·rw [if_neg c]
   have e:lo=hi:=by omega
   subst e
   exact⟨h3,h4,h5⟩
theorem D5{xs:Array Nat}(h:Dm xs)(j:Nat):SetTable.below xs j<=xs.size/\(∀i,i < SetTable.below xs j->xs.getD i j < j)/\∀i,SetTable.below xs j<=i->i < xs.size->j<=xs.getD i j :=
 Ix h xs.size 0 xs.size (by omega) (Nat.zero_le _) (Nat.le_refl _) (λi hi=>absurd hi (Nat.not_lt_zero _)) λi hi hs=>by omega
theorem Ow{xs:Array Nat}(h:Dm xs){k:Nat}(hk:k < xs.size):SetTable.below xs (xs[k]+1)=k+1:=by
 obtain⟨b1,b2,b3⟩:=D5 h (xs[k]+1)
 have g:∀i,(hi:i < xs.size)->xs.getD i (xs[k]+1)=xs[i]:=λi hi=>by simp [Array.getD,hi]
 rcases Nat.lt_trichotomy (SetTable.below xs (xs[k]+1)) (k+1) with c | c | c
 ·have:=b3 k (by omega) hk
  rw [g k hk]at this
  omega
 ·exact c
 ·have h1:k+1 < xs.size:=by omega
  have:=b2 (k+1) c
  rw [g _ h1]at this
  have h2:=h.lt (d:=0) (Nat.lt_succ_self k) h1
  simp only [Array.getD,hk,h1,dif_pos]at h2
  have h3:xs[k] < xs[k+1]:=h2
  omega
theorem Ox{xs:Array Nat}(h:Dm xs):SetTable.below xs 0=0:=by
 obtain⟨b1,b2,b3⟩:=D5 h 0
 rcases Nat.eq_zero_or_pos (SetTable.below xs 0) with e | e
 ·exact e
 ·have:=b2 0 e;omega
theorem Ez{α:Type}(xs:Array α)(p:Nat)(x:α)(hp:p<=xs.size):(SetTable.insertAt xs p x).toList=xs.toList.take p++x :: xs.toList.drop p:=by
 rw [SetTable.toList_insertAt]
theorem M4{xs:Array Nat}(h:Dm xs){j:Nat}(hj:xs[SetTable.below xs j]?≠some j):Dm (SetTable.insertAt xs (SetTable.below xs j) j):=by
 obtain⟨b1,b2,b3⟩:=D5 h j
 unfold Dm
 rw [Ez _ _ _ b1]
 have ht:∀a∈xs.toList.take (SetTable.below xs j),a < j:=λa ha=>by
  obtain⟨i,hi,e⟩:=List.getElem_of_mem ha
  have h1:i < SetTable.below xs j:=by
   rw [List.length_take]at hi;omega
  have:=b2 i h1
  simp only [Array.getD,show i < xs.size by omega,dif_pos]at this
  rw [<- e]
  simpa using this
 have hd:∀a∈xs.toList.drop (SetTable.below xs j),j < a:=λa ha=>by
  obtain⟨i,hi,e⟩:=List.getElem_of_mem ha
  have h1:SetTable.below xs j+i < xs.size:=by
   rw [List.length_drop]at hi;simp at hi;omega
  have h2:=b3 _ (Nat.le_add_right _ i) h1
  simp only [Array.getD,h1,dif_pos]at h2
  have e2:a=xs[SetTable.below xs j+i]:=by rw [<- e];simp
  have h3:a≠j:=by
   intro z
   by_cases c:i=0
   ·subst c
    apply hj
    rw [Array.getElem?_eq_getElem (by omega)]
    exact congrArg some (e2.symm.trans z)
   ·have h0:SetTable.below xs j < xs.size:=by omega
    have h4:=b3 _ (Nat.le_refl _) h0
    simp only [Array.getD,h0,dif_pos]at h4
    have h5:=h.lt (d:=0) (show SetTable.below xs j < SetTable.below xs j+i by omega) h1
    simp only [Array.getD,h0,h1,dif_pos]at h5
    have h5':xs[SetTable.below xs j] < xs[SetTable.below xs j+i]:=h5
    have h4':j<=xs[SetTable.below xs j]:=h4
    omega
  have h2':j<=xs[SetTable.below xs j+i]:=h2
  omega
 refine List.pairwise_append.mpr ⟨h.sublist (List.take_sublist _ _),List.pairwise_cons.mpr ⟨hd,h.sublist (List.drop_sublist _ _)⟩,λa ha b hb=>?_⟩
 rcases List.mem_cons.mp hb with rfl | hb
 ·exact ht a ha
 ·have:=ht a ha
  have:=hd b hb
  omega
structure TblOk(t:SetTable)(led:Bool):Prop where
 rise:Dm t.place
 dum:t.dummies=#[]
 led:t.led=led
theorem Oy(n:Nat):Dm (Array.range n):=by
 unfold Dm
 rw [Array.toList_range]
 exact List.pairwise_lt_range
theorem TblOk.standIn{t:SetTable}{led:Bool}(h:TblOk t led)(n:Nat):TblOk (t.standIn n) led:=⟨Oy n,rfl,h.led⟩
theorem TblOk.orStandIn{t:SetTable}{led:Bool}(h:TblOk t led)(n:Nat):TblOk (t.orStandIn n) led:=by
 unfold SetTable.orStandIn
 split
 ·exact h
 ·exact h.standIn n
theorem TblOk.plain{t:SetTable}{led:Bool}(h:TblOk t led)(b:Bool):TblOk { t with plain:=b } led:=⟨h.rise,h.dum,h.led⟩
theorem Iy(j:Nat):SetTable.has #[] j=false:=by
 unfold SetTable.has
 simp
theorem Iz{t:SetTable}{led:Bool}(h:TblOk t led){j:Nat}(e:t.slot j=.empty):t.place[SetTable.below t.place j]?≠some j:=by
 unfold SetTable.slot at e
 dsimp only at e
 split at e
 ·cases e
 ·rename_i c
  simpa using c
theorem Oz{t:SetTable}{led:Bool}(h:TblOk t led){j:Nat}:t.slot j≠.dummy:=by
 unfold SetTable.slot
 dsimp only
 rw [h.dum,Iy]
 split
 ·intro z;cases z
 ·intro z;cases z
theorem J0(t:SetTable)(p:SetTable.Probe):(t.advance p).dummy=p.dummy:=by
 unfold SetTable.advance
 split <;> rfl
theorem Hd{t:SetTable}{led:Bool}(h:TblOk t led){hashAt:Nat->Int}{hh:Int}{j:Nat}{d:Option Nat}:∀(f:Nat) (p:SetTable.Probe),p.dummy=none->SetTable.probe.go t hashAt hh f p=some (.empty j d)->d=none/\t.slot j=.empty
 | 0,_,_,e=>by simp [SetTable.probe.go]at e
 | f+1,p,hp,e=>by
  rw [SetTable.probe.go]at e
  cases c:t.slot p.j with
  | empty =>
   rw [c]at e
   have e':=Option.some.inj e
   injection e' with e1 e2
   exact⟨e2.symm.trans hp,by rw [<- e1];exact c⟩
  | dummy=>exact absurd c (Oz h)
  | live i =>
   rw [c]at e
   dsimp only at e
   split at e
   ·cases e
   ·exact Hd h f _ ((J0 t p).trans hp) e
theorem Xo{t:SetTable}{led:Bool}(h:TblOk t led){hh:Int}{s:Nat}{b:Bool}(e:t.freeSlot hh=some (s,b)):t.place[SetTable.below t.place s]?≠some s:=by
 unfold SetTable.freeSlot SetTable.probe at e
 split at e
 ·rename_i j d c
  obtain⟨rfl,hs⟩:=Hd h _ _ rfl c
  have e':=Option.some.inj e
  have e1:j=s:=congrArg Prod.fst e'
  rw [<- e1]
  exact Iz h hs
 ·cases e
theorem TblOk.put{t:SetTable}{led:Bool}(h:TblOk t led){s:Nat}(hs:t.place[SetTable.below t.place s]?≠some s):TblOk (t.put s).1 led:=by
 refine⟨M4 h.rise hs,?_,h.led⟩
 show(if SetTable.has t.dummies s then _ else t.dummies)=#[]
 rw [h.dum,Iy];rfl
theorem TblOk.layNew{t:SetTable}{led:Bool}(h:TblOk t led)(es:Array (Int×Value))(hh:Int)(x:Value):TblOk (layNew t es hh x).2.1 led:=by
 unfold PySem.layNew
 split
 ·rename_i s b c
  exact(h.put (Xo h c)).orStandIn _
 ·exact h.standIn _
theorem TblOk.laid{mask finger moves:Nat}{led plain:Bool}{hs:Array Int}{t:SetTable}{order:Array Nat}(e:SetTable.laid mask finger moves led plain hs=some (t,order)):TblOk t led:=by
 unfold SetTable.laid at e
 cases c:SetTable.layClean mask hs with
 | none=>rw [c]at e;cases e
 | some owner =>
  rw [c]at e
  have e':=Option.some.inj e
  injection e' with e1 _
  subst e1
  refine⟨?_,rfl,rfl⟩
  unfold Dm
  show(List.map _ _).Pairwise _
  rw [List.pairwise_map]
  refine List.Pairwise.filterMap _ (R:=(· < ·)) (λa a' haa b hb b' hb'=>?_) List.pairwise_lt_range
  obtain⟨z,_,rfl⟩:=Option.map_eq_some_iff.mp hb
  obtain⟨z',_,rfl⟩:=Option.map_eq_some_iff.mp hb'
  exact haa
theorem TblOk.relayAll{t:SetTable}{led:Bool}(h:TblOk t led)(es:Array (Int×Value))(w:Nat):TblOk (relayAll t es w).2.1 led:=by
 unfold PySem.relayAll
 split
 ·rename_i t' order c
  dsimp only
  split
  ·have:=TblOk.laid c
   rw [h.led]at this
   exact this
  ·exact h.standIn _
 ·exact h.standIn _
theorem TblOk.fresh(led:Bool):TblOk (.fresh 0 0 led) led:=⟨List.Pairwise.nil,rfl,rfl⟩
section
variable {prog:Program}{w:World}{Kt:Type} [DecidableEq Kt]{knd:KeyKind prog w Kt}{A:Around}{E:Value->Shared->Prop}{s:Shared}{a:Addr}{led:Bool}
def Dn(knd:KeyKind prog w Kt)(h:Heap)(a:Addr)(l:List (Int×Value))(led:Bool):Prop :=
 ∃o es ep t,h.get? a=some o/\o.ExactSet/\o.data=.set es ep t/\es.toList=l/\ElemsOf knd l/\t.fits es.size=true/\TblOk t led
theorem Kr{h:Heap}{o:Obj}{es:Array (Int×Value)}{ep:Nat}{t:SetTable}(ho:h.get? a=some o)(hex:o.ExactSet)(hd:o.data=.set es ep t){es':Array (Int×Value)}{t':SetTable}(hel:ElemsOf knd es'.toList)(hf:t'.fits es'.size=true)(hT:TblOk t' led) :
  (h.update a (Obj.putSet es' t')).get? a=some { o with data:=.set es' (ep+1) t' }/\Dn knd (h.update a (Obj.putSet es' t')) a es'.toList led:=by
 have e:=Heap.get?_update_self (Obj.putSet es' t') ho (by rw [putSet_of es' t' hd];rfl)
 rw [putSet_of es' t' hd]at e
 exact⟨e,_,es',ep+1,t',e,hex,rfl,rfl,hel,hf,hT⟩
theorem M5{g:Bool->Sem Unit}(hg:∀(b:Bool) (s1:Shared) (Q':Unit->Shared->Prop),Q' () s1->wpAny (model prog w) A (g b) Q' E s1){o:Obj}{es:Array (Int×Value)}{ep:Nat}{t:SetTable}(ho:s.heap.get? a=some o)(hex:o.ExactSet)(hd:o.data=.set es ep t)
  {es1:Array (Int×Value)} {t2:SetTable} (hel:ElemsOf knd es1.toList) (hb:es1.size < scanBound) (hf:t2.fits es1.size=true) (hT:TblOk t2 led) {wasDummy:Bool} {R:Option Bool->Shared->Prop}
  (h:∀h' l',Heap.SameBut a s.heap h'->Dn knd h' a l' led->l'.Perm es1.toList->R (some true) { s with heap:=h' }) :
  wpAny (model prog w) A (do
   storeSet a es1 t2
   if(!wasDummy && t2.tooFull)=true then do
    g (relayAll t2 es1 (SetTable.grown es1.size)).2.2
    storeSet a (relayAll t2 es1 (SetTable.grown es1.size)).1 (relayAll t2 es1 (SetTable.grown es1.size)).2.1
    pure (some true)
   else pure (some true)) R E s:=by
 obtain⟨g1,g2⟩:=Kr (knd:=knd) (led:=led) ho hex hd hel hf hT
 refine wpAny_bind (wpAny_storeSet_of ho hd ?_ (fits_of_scanBound hb))
 have b1:=Heap.SameBut.update s.heap a (Obj.putSet es1 t2)
 split
 ·have p1:=relayAll_perm t2 es1 (SetTable.grown es1.size)
  have f1:=relayAll_fits t2 es1 (SetTable.grown es1.size)
  have k1:=hT.relayAll es1 (SetTable.grown es1.size)
  generalize relayAll t2 es1 (SetTable.grown es1.size)=R1 at p1 f1 k1 ⊢
  obtain⟨es2,t3,gave⟩:=R1
  dsimp only at p1 f1 k1 ⊢
  have z:es2.size < scanBound:=by
   have e:es2.size=es1.size:=by rw [<- Array.length_toList,p1.length_eq,Array.length_toList]
   rw [e];exact hb
  obtain⟨_,g4⟩:=Kr (knd:=knd) (led:=led) g1 hex rfl (hel.perm p1) f1 k1
  exact wpAny_bind (hg _ _ _ (wpAny_bind (wpAny_storeSet_of g1 rfl (wpAny_pure (h _ _ (b1.trans (Heap.SameBut.update _ a _)) g4 p1)) (fits_of_scanBound z))))
 ·exact wpAny_pure (h _ _ b1 g2 (List.Perm.refl _))
theorem Xp{l:List (Int×Value)}{k:Kt}{x:Value}{Q:Bool->Shared->Prop}(hx:knd.is k x=true)(hs:x.scannable=true)(hS:Dn knd s.heap a l led)(hb:l.length+1 < scanBound)
  (h1:(∃e∈l,knd.is k e.2=true)->Q false s) (h2:(∀e∈l,knd.is k e.2=false)->∀h' l',Heap.SameBut a s.heap h'->Dn knd h' a l' led->l'.Perm (l++[(knd.hash k,x)])->Q true { s with heap:=h' }) :
  wpAny (model prog w) A (setAddHashed a x (knd.hash k)) Q E s:=by
 obtain⟨o,es,ep,t,ho,hex,hd,rfl,hel,hf,hT⟩:=hS
 rw [Array.length_toList]at hb
 have hb0:es.size < scanBound:=by omega
 unfold setAddHashed setAddHashedIn
 refine wpAny_holding (wpAny_bind (wpAny_setState_of ho hd hf (show wpAny _ _ _ _ _ _ from ?_)))
 dsimp only
 rw [byScan_of hs hb0 hel,if_pos rfl]
 unfold setAddByScan
 refine wpAny_bind (wpAny_bind (wpAny_rule (wpAny_bind (wpAny_setScan_of hx ho hd hf hel ?_))))
 cases c:List.findIdx? (λe=>knd.is k e.2) es.toList with
 | some j =>
  obtain⟨hj,hp,_⟩:=List.findIdx?_eq_some_iff_getElem.mp c
  exact wpAny_pure (wpAny_pure (h1 ⟨_,List.getElem_mem hj,hp⟩))
 | none =>
  have hno:=List.findIdx?_eq_none_iff.mp c
  have q1:=layNew_perm t es (knd.hash k) x
  have q2:=layNew_fits t es (knd.hash k) x
  have q3:=hT.layNew es (knd.hash k) x
  dsimp only
  generalize layNew t es (knd.hash k) x=L1 at q1 q2 q3 ⊢
  obtain⟨es1,t1,dm,gv⟩:=L1
  dsimp only at q1 q2 q3 ⊢
  rw [Array.toList_push]at q1
  have e1:ElemsOf knd es1.toList:=(hel.push hx hs).perm q1
  have z1:es1.size < scanBound:=by
   rw [<- Array.length_toList,q1.length_eq,List.length_append,Array.length_toList];exact hb
  have gw:∀(b:Bool) (s1:Shared) (Q':Unit->Shared->Prop),Q' () s1->wpAny (model prog w) A (match b with | true=>rule "set.scan.the-table-gave-way" | false=>pure ()) Q' E s1:=λb s1 Q' q=>by
   cases b
   ·exact wpAny_pure q
   ·exact wpAny_rule q
  have fin:∀h' l',Heap.SameBut a s.heap h'->Dn knd h' a l' led->l'.Perm es1.toList->Q true { s with heap:=h' }:=λh' l' b1 b2 b3=>h2 (λe he=>by simpa using hno e he) h' l' b1 b2 (b3.trans q1)
  refine wpAny_bind (gw _ _ _ ?_)
  split
  ·refine wpAny_bind (show wpAny _ _ (hashByValue 8 x) _ _ _ from ?_)
   rw [hashByValue_scannable 8 hs]
   refine wpAny_pure (M5 (led:=led) (λb s1 Q' q=>?_) ho hex hd e1 z1 ?_ ?_ λh' l' b1 b2 b3=>?_)
   ·cases b
    ·exact wpAny_pure q
    ·exact wpAny_rule q
   ·split
    ·exact q2
    ·exact SetTable.fits_plain_off q2
   ·split
    ·exact q3
    ·exact q3.plain false
   ·dsimp only
    exact wpAny_pure (fin h' l' b1 b2 b3)
  ·refine wpAny_bind (wpAny_pure (show wpAny _ _ _ _ _ _ from ?_))
   rw [if_pos rfl]
   refine M5 (λb s1 Q' q=>?_) ho hex hd e1 z1 q2 q3 λh' l' b1 b2 b3=>?_
   ·cases b
    ·exact wpAny_pure q
    ·exact wpAny_rule q
   ·dsimp only
    exact wpAny_pure (fin h' l' b1 b2 b3)
end
theorem Dd:plainId "set.update.loop" = true:=by decide +kernel
theorem Gh:entryFor table "set.update.loop" = some Builtin.«set.update.loop»:=entryFor_of_tree (by kernel_rfl)
section
variable {prog:Program}{w:World}{Kt:Type} [DecidableEq Kt]{knd:KeyKind prog w Kt}{A:Around}{R:Result->Shared->Prop}{sa it t:Addr}{led:Bool}
def Unlike(knd:KeyKind prog w Kt)(l:List (Int×Value)):Prop:=l.Pairwise λe e'=>∀k,knd.is k e.2=true->knd.is k e'.2=false
def Keys(knd:KeyKind prog w Kt)(l:List (Int×Value))(ks:List Kt):Prop:=∀k,(∃e∈l,knd.is k e.2=true)↔k∈ks
theorem Unlike.add{l:List (Int×Value)}{x:Value}{k:Kt}{h:Int}(hl:Unlike knd l)(hx:knd.is k x=true)(hn:∀e∈l,knd.is k e.2=false):Unlike knd (l++[(h,x)]):=by
 refine List.pairwise_append.mpr ⟨hl,List.pairwise_singleton _ _,λe he e' he' k' hk'=>?_⟩
 have e1:e'=(h,x):=by simpa using he'
 subst e1
 cases c:knd.is k' x with
 | false=>rfl
 | true =>
  have:=knd.inj x k' k c hx
  subst this
  rw [hn e he]at hk';cases hk'
theorem Unlike.perm{l l':List (Int×Value)}(h:Unlike knd l)(p:l'.Perm l):Unlike knd l':=by
 refine(List.Perm.pairwise_iff (R:=λ(e e':Int×Value)=>∀k,knd.is k e.2=true->knd.is k e'.2=false) (λ{e e'} hh k hk=>?_) p.symm).mp h
 cases c:knd.is k e.2 with
 | false=>rfl
 | true=>rw [hh k c]at hk;cases hk
theorem M6:∀{ks:List Kt} {vs:List Value} {i:Nat} {x:Value},ItemsAre knd ks vs->vs[i]?=some x->∃k,ks[i]?=some k/\knd.is k x=true
 | _,_,_,_,.nil,h=>by simp at h
 | _,_,0,_,.cons h1 _,h=>by simp at h;subst h;exact⟨_,rfl,h1⟩
 | _,_,i+1,_,.cons _ t,h=>by simpa using M6 (i:=i) t (by simpa using h)
end
section
variable {prog:Program}{w:World}{A:Around}{E:Value->Shared->Prop}{s:Shared}
theorem Uh{M:Model}{self v:Value}{Q:Unit->Shared->Prop}(hT:s.TypeIs self "set") (q:Q () s):wpAny M A (checkBuiltinCall "set.__init__" ⟨[self,v],[]⟩) Q E s:=by
 simp only [checkBuiltinCall,kind_set_init,split_set_init,sig_set_init]
 refine wpAny_bind (wpAny_isInstance hT sub_set_self (show wpAny _ _ _ _ _ _ from ?_))
 rw [show(!true)=false from rfl,if_neg Bool.false_ne_true]
 unfold Bind.checkArgs
 dsimp only
 refine wpAny_bind (m:=Bind.printed "set" true _ _) (PyProof.Rows.printed_name (by decide) (wpAny_bind (m:=Bind.printed "*" false _ _) (PyProof.Rows.printed_star (self:=self) rfl hT λshort=>?_)))
 have e:(if(Manifest.Receiver.self==Manifest.Receiver.none)=true then [self,v].length else [self,v].length - 1)=1:=rfl
 rw [e]
 have hc:Bind.check ⟨.positional,"set","*",.self,[⟨"iterable",.posOnly,false⟩]⟩ "set" short 1 []=pure ():=by simp +decide [Bind.check,Bind.checkCount,Bind.isPositional]
 simp only [List.map_nil]
 rw [hc];exact wpAny_pure q
theorem Xq(v:Value):checkTypeCall "set" ⟨[v],[]⟩=pure ():=by kernel_rfl
theorem Qbp(v:Value):checkBuiltinCall "set.__new__" ⟨[.type "set",v],[]⟩=pure ():=by kernel_rfl
def D6(w:World):Bool:=!(w.params.followText "set-order")
def Bz(w:World):Obj:={ cls:=.type "set",dict:=none,data:=.set #[] 0 (.fresh 0 0 (D6 w)) }
theorem Xr{v:Value}{Q1:Value->Shared->Prop}(h:Q1 (.ref s.heap.objs.size) { s with heap:=s.heap.push (Bz w) }) :
  codeAny (model prog w) A (.call (.builtin "set.__new__") ⟨[.type "set",v],[]⟩) (wants Q1 E) s:=by
 refine codeAny_of_tree (show wpAny _ A.in1 (do checkBuiltinCall "set.__new__" ⟨[.type "set",v],[]⟩;again (.builtin "set.__new__" ⟨[.type "set",v],[]⟩)) _ _ s from ?_)
 refine wpAny_bind (wpAny_of_eq (Qbp v) (wpAny_pure ⟨plainId_quiet F.plain_set_new _,codeAny_builtin F.entry_set_new (show wpAny _ _ _ _ _ _ from ?_)⟩))
 rw [Around.under_plainId F.plain_set_new _]
 unfold Builtin.«set.__new__» Builtin.Frozenset.newClass
 have k1:=sub_set_self
 obtain⟨hp,g,d,tk,os⟩:=s
 dsimp only
 wp_walk
 refine wpAny_askSetting (wpAny_pure (show wpAny _ _ _ _ _ _ from ?_))
 dsimp only
 simp only [newObj]
 exact wpAny_bind (wpAny_alloc (wpAny_pure (wpAny_pure h)))
theorem Ja{v:Value}{Q:Value->Shared->Prop}(h:wpAny (model prog w) A.in1.in1 (Builtin.Frozenset.updateFrom "set.__init__" s.heap.objs.size v) (λ_ s2=>Q (.ref s.heap.objs.size) s2) E { s with heap:=s.heap.push (Bz w) }) :
  wpAny (model prog w) A (call (.type "set") [v]) Q E s:=by
 obtain⟨c,tl,hmro⟩:=F.called_set.mro
 have k1:=F.called_set.made
 have k2:=F.called_set.sub
 refine wpAny_call (codeAny_of_tree (show wpAny _ _ (callAny (.type "set") _) _ _ _ from ?_))
 refine wpAny_pure ⟨Code.quiet_builtin _ (by decide +kernel),codeAny_builtin F.entry_type_call ?_⟩
 rw [Around.under_plain (weight_type_call_type "set" [v] []) rfl]
 have k3:=F.called_set.notType
 have k4:=F.called_set.canCreate
 have k5:=Xq v
 repeat any_goals first | assumption | wp_step
 refine codeAny_mono (Xr (E:=E) (Q1:=λob s1=>ob=.ref s.heap.objs.size/\s1={ s with heap:=s.heap.push (Bz w) }) ⟨rfl,rfl⟩) λr s1 hr=>?_
 cases r with
 | error e=>exact hr
 | ok fl =>
  cases fl with
  | ret ob =>
   obtain⟨rfl,rfl⟩:=hr
   have g:(s.heap.push (Bz w)).get? s.heap.objs.size=some (Bz w):=Heap.get?_push_size _ rfl
   have T:Shared.TypeIs { s with heap:=s.heap.push (Bz w) } (.ref s.heap.objs.size) "set" := ⟨_,g,rfl⟩
   have k6:=F.called_set.init.lookup
   have k7:=F.called_set.init.bind (.ref s.heap.objs.size)
   repeat any_goals first | assumption | wp_step
   refine codeAny_mono (codeAny_call_builtin (R:=wants (λr s2=>r=.none/\Q (.ref s.heap.objs.size) s2) E) F.called_set.init.plain F.entry_set_init (Uh T ?_)) λr2 s2 hr2=>?_
   ·unfold Builtin.«set.__init__» noKeywords
    generalize hU:Builtin.Frozenset.updateFrom=U at h ⊢
    unfold Bz at g
    wp_walk
    exact wpAny_mono h (λ_ _ q=>wpAny_pure ⟨rfl,q⟩) λ_ _ e=>e
   ·cases r2 with
    | error e=>exact hr2
    | ok fl2 =>
     cases fl2 with
     | ret z =>
      obtain⟨rfl,q⟩:=hr2
      repeat any_goals first | assumption | wp_step
     | _=>exact hr2.elim
  | _=>exact hr.elim
end
section
theorem He:isSubtype (.type "tuple") (.type "set")=pure false:=by rw [isSubtype_type];kernel_rfl
theorem Hf:isSubtype (.type "tuple") (.type "frozenset")=pure false:=by rw [isSubtype_type];kernel_rfl
end
section
variable {prog:Program}{w:World}{Kt:Type} [DecidableEq Kt]{knd:KeyKind prog w Kt}{A:Around}{E:Value->Shared->Prop}{s:Shared}{sa t:Addr}{led:Bool}
theorem O0:ElemsOf knd []:=λe he=>by cases he
theorem Ks:Keys knd [] []:=λk=>⟨λ⟨e,he,_⟩=>(by cases he),λh=>(by cases h)⟩
theorem Jb{h:Heap}:Dn knd (h.push (Bz w)) h.objs.size [] (D6 w) :=
 ⟨_,#[],0,_,Heap.get?_push_size _ rfl,⟨rfl,rfl,rfl⟩,rfl,rfl,O0,rfl,TblOk.fresh _⟩
end
theorem M7:Manifest.owners.lookup (String.ofList ['r','o','t','a','r','e','t','i','_','t','e','s'].reverse)=some Manifest.sig_set_iterator:=by kernel_rfl
theorem Dt:Slot "set_iterator" "__next__" "set_iterator.__next__" := .of (owner := "set_iterator") (n := "__next__") (by rw [typeLookup_type,builtinLookup_eq_fast];kernel_rfl) (by decide +kernel) (by decide +kernel) (by decide +kernel) (.inl (by decide +kernel)) (by rw [isSubtype_type];kernel_rfl)
theorem M8:entryFor table "set_iterator.__next__" = some Builtin.«set_iterator.__next__»:=entryFor_of_tree (by kernel_rfl)
theorem Qg(a:Value):argsOk "set_iterator.__next__" ⟨[a],[]⟩:=by
 rw [argsOk,signature?_of (id := "set_iterator.__next__") (n:=['_','_','t','x','e','n','_','_']) (o:=['r','o','t','a','r','e','t','i','_','t','e','s']) (by kernel_rfl) M7];kernel_rfl
theorem Qh:Slot "set_iterator" "__iter__" "set_iterator.__iter__" := .of (owner := "set_iterator") (n := "__iter__") (by rw [typeLookup_type,builtinLookup_eq_fast];kernel_rfl) (by decide +kernel) (by decide +kernel) (by decide +kernel) (.inl (by decide +kernel)) (by rw [isSubtype_type];kernel_rfl)
theorem Ui(a:Value):argsOk "set_iterator.__iter__" ⟨[a],[]⟩:=by
 rw [argsOk,signature?_of (id := "set_iterator.__iter__") (n:=['_','_','r','e','t','i','_','_']) (o:=['r','o','t','a','r','e','t','i','_','t','e','s']) (by kernel_rfl) M7];kernel_rfl
theorem Ru:entryFor table "set_iterator.__iter__" = some Builtin.«dict_keyiterator.__iter__»:=entryFor_alias (id' := "dict_keyiterator.__iter__") (by kernel_rfl) (by first | rfl | decide +kernel) (by decide +kernel) (by kernel_rfl)
theorem O1:entryFor table "set.__iter__" = some Builtin.«frozenset.__iter__»:=entryFor_alias (id' := "frozenset.__iter__") (by kernel_rfl) (by first | rfl | decide +kernel) (by decide +kernel) (by kernel_rfl)
section
variable {prog:Program}{w:World}{A:Around}{E:Value->Shared->Prop}{s:Shared}
theorem O2{M:Model}{src:Source}{n:Nat}{Q:Nat->Shared->Prop}(hn:n≠0)(h:∀i d',i < n->Q i { s with drawn:=d' }):wpAny M A (choose src n) Q E s:=fun Γ p _=>by
 unfold choose
 rw [Sem.wp_choose]
 refine⟨hn,?_⟩
 rw [Sem.wp_pure]
 exact h _ _ (Nat.mod_lt _ (Nat.pos_of_ne_zero hn))
theorem Gz{α:Type}:∀{xs:List α} {i:Nat} {x:α},xs[i]?=some x->(x :: xs.eraseIdx i).Perm xs
 | _ :: _,0,_,h=>by simp at h;subst h;exact List.Perm.refl _
 | y :: ys,i+1,x,h=>by
  have:=Gz (xs:=ys) (i:=i) (x:=x) (by simpa using h)
  exact(List.Perm.swap y x _).trans (this.cons y)
theorem Jc{M:Model}{α:Type}:∀(n:Nat) (xs:List α) (s:Shared) (Q:List α->Shared->Prop),xs.length=n->(∀ys d',ys.Perm xs->Q ys { s with drawn:=d' })->wpAny M A (drawOrder n xs) Q E s
 | 0,xs,s,Q,hn,h=>by
  have:xs=[]:=List.eq_nil_of_length_eq_zero hn
  subst this
  exact wpAny_pure (h [] s.drawn (List.Perm.refl _))
 | n+1,[],s,Q,hn,h=>by cases hn
 | n+1,x :: xs,s,Q,hn,h=>by
  unfold drawOrder
  refine wpAny_bind (O2 (by simp) λi d1 hi=>?_)
  have e:(x :: xs)[i]?=some (x :: xs)[i]:=List.getElem?_eq_getElem hi
  rw [e]
  refine wpAny_bind (Jc n _ _ _ ?_ λys d2 hp=>wpAny_pure (h _ d2 ((hp.cons _).trans (Gz e))))
  rw [List.length_eraseIdx_of_lt hi];simp at hn ⊢;omega
theorem Qi{α:Type}(next:Nat->Nat):∀(n k:Nat) (left:List α) (out:Array α),left.length=n->(pickOrder.go next n k left out).toList.Perm (out.toList++left)
 | 0,k,left,out,hn=>by
  have:left=[]:=List.eq_nil_of_length_eq_zero hn
  subst this
  unfold pickOrder.go
  simp
 | n+1,k,left,out,hn=>by
  unfold pickOrder.go
  have hl:next k % left.length < left.length:=Nat.mod_lt _ (by omega)
  have e:left[next k % left.length]?=some left[next k % left.length]:=List.getElem?_eq_getElem hl
  rw [e]
  dsimp only
  refine(Qi next n (k+1) _ _ (by rw [List.length_eraseIdx_of_lt hl];omega)).trans ?_
  rw [Array.toList_push,List.append_assoc]
  exact(Gz e).append_left _
theorem Rv{α:Type}(next:Nat->Nat)(xs:Array α):(pickOrder next xs).toList.Perm xs.toList:=by
 unfold pickOrder
 simpa using Qi next xs.size 0 xs.toList #[] (by simp)
def Dp(h:Heap)(a:Addr)(es:Array (Int×Value))(ep:Nat)(t:SetTable):Prop:=∃o,h.get? a=some o/\o.cls=.type "set" /\ o.data=.set es ep t/\t.fits es.size=true
theorem Dp.typeIs{a:Addr}{es:Array (Int×Value)}{ep:Nat}{t:SetTable}(x:Dp s.heap a es ep t):s.TypeIs (.ref a) "set" := let⟨o,ho,hc,_⟩:=x;⟨o,ho,hc⟩
theorem Dp.at{h h':Heap}{a:Addr}{es:Array (Int×Value)}{ep:Nat}{t:SetTable}(x:Dp h a es ep t)(e:∀o,h.get? a=some o->h'.get? a=some o):Dp h' a es ep t:=let⟨o,ho,r⟩:=x;⟨o,e _ ho,r⟩
def E3(h:Heap)(it a:Addr)(first:Value)(i n ep:Nat):Prop:=∃o,h.get? it=some o/\o.cls=.type "set_iterator" /\ o.data=.fields #[first,rawInt i,.ref a,rawInt n,rawInt ep]
theorem E3.typeIs{it a:Addr}{first:Value}{i n ep:Nat}(x:E3 s.heap it a first i n ep):s.TypeIs (.ref it) "set_iterator" := let⟨o,ho,hc,_⟩:=x;⟨o,ho,hc⟩
theorem E3.at{h h':Heap}{it a:Addr}{first:Value}{i n ep:Nat}(x:E3 h it a first i n ep)(e:∀o,h.get? it=some o->h'.get? it=some o):E3 h' it a first i n ep:=let⟨o,ho,r⟩:=x;⟨o,e _ ho,r⟩
def Jd(pl:Array Nat):Nat->Nat
 | 0=>0
 | i+1=>pl.getD i 0+1
inductive Mode (w:World) (a:Addr) (es:Array (Int×Value)) (ep:Nat) (t:SetTable) (h:Heap):Nat->Value->List Value->Prop
 | text {i:Nat} (hb:w.params.followText "set-order" = true):Mode w a es ep t h i (rawInt 0) ((pickOrder (w.params.setOrder a ep) es).toList.map (·.2))
 | table {i:Nat} (hb:w.params.followText "set-order" = false) (hd:(!t.plain && decide (es.size > 1))=false):Mode w a es ep t h i (rawInt (Jd t.place i)) (es.toList.map (·.2))
 | drawn {i:Nat} {pt:Addr} {ps:List Nat} (hb:w.params.followText "set-order" = false) (hp:ps.Perm (List.range es.size)) (ht:h.IsTuple pt (ps.map λ(j:Nat)=>rawInt j).toArray):Mode w a es ep t h i (.ref pt) (ps.map λj=>(es.getD j (0,.none)).2)
theorem Rw{α:Type}(xs:Array α)(d:α):(List.range xs.size).map (λj=>xs.getD j d)=xs.toList:=by
 refine List.ext_getElem (by simp) λi h1 h2=>?_
 simp at h1 h2 ⊢
 simp [h1]
theorem Mode.perm{a:Addr}{es:Array (Int×Value)}{ep:Nat}{t:SetTable}{h:Heap}{i:Nat}{first:Value}{ord:List Value}(m:Mode w a es ep t h i first ord):ord.Perm (es.toList.map (·.2)):=by
 cases m with
 | text hb=>exact(Rv _ _).map _
 | table hb hd=>exact List.Perm.refl _
 | @drawn pt ps hb hp ht =>
  have:=hp.map λj=>(es.getD j (0,Value.none)).2
  refine this.trans (List.Perm.of_eq ?_)
  rw [<- Rw es (0,Value.none),List.map_map];rfl
theorem Fg{Q:Bool->Shared->Prop}(h:Q (w.params.followText "set-order") s):wpAny (model prog w) A setsByText Q E s:=by
 unfold setsByText
 exact wpAny_bind (wpAny_askSetting (wpAny_pure h))
theorem O3{a:Addr}{es:Array (Int×Value)}{ep:Nat}{t:SetTable}{Q:Value->Shared->Prop}(hA:Dp s.heap a es ep t)(hz:es.size<=1000)
  (h:∀it h' d' first ord,s.heap.objs.size<=it->(∀b o,s.heap.get? b=some o->h'.get? b=some o)->E3 h' it a first 0 es.size ep->Mode w a es ep t h' 0 first ord->(∀pt,first=.ref pt->s.heap.objs.size<=pt/\pt≠it)->Q (.ref it) { s with heap:=h',drawn:=d' }) :
  wpAny (model prog w) A (pyIter (.ref a)) Q E s:=by
 obtain⟨o,ho,hc,hd,hf⟩:=id hA
 refine wpAny_pyIter_slot hA.typeIs F.slot_set_iter (wpAny_call_entry F.slot_set_iter hA.typeIs O1 ?_ (F.args_set_iter_1 _))
 unfold Builtin.«frozenset.__iter__» Builtin.Frozenset.sizeOf setEntries setDrawn setEpoch
 refine(show wpAny _ _ (_ >>= _) _ _ _ from wpAny_bind (show wpAny _ _ (pure a) _ _ _ from wpAny_pure (wpAny_bind (wpAny_bind (wpAny_bind (wpAny_setState_of ho hd hf (wpAny_pure (wpAny_pure ?_))))))))
 refine wpAny_bind (wpAny_bind (wpAny_setState_of ho hd hf (wpAny_bind (Fg (wpAny_pure ?_)))))
 cases hb:w.params.followText "set-order" with
 | true =>
  refine(show wpAny _ _ (if(!true && _)=true then _ else _) _ _ _ from ?_)
  rw [Bool.not_true,Bool.false_and,if_neg Bool.false_ne_true]
  refine wpAny_bind (wpAny_pure (wpAny_bind (wpAny_bind (wpAny_setState_of ho hd hf (wpAny_pure (wpAny_bind (wpAny_newObj_type (wpAny_pure ⟨_,rfl,"set_iterator",_,⟨_,Heap.get?_push_size _ rfl,rfl⟩,Dt.lookup,?_⟩))))))))
  exact h _ _ s.drawn _ _ (Nat.le_refl _) (λb o e=>Heap.get?_push_of_some _ e) ⟨_,Heap.get?_push_size _ rfl,rfl,rfl⟩ (.text hb) λpt e=>by cases e
 | false =>
  cases hdr:(!t.plain && decide (es.size > 1)) with
  | false =>
   refine(show wpAny _ _ (if(!false && (!t.plain && decide (es.size > 1)))=true then _ else _) _ _ _ from ?_)
   rw [hdr,Bool.not_false,Bool.true_and,if_neg Bool.false_ne_true]
   refine wpAny_bind (wpAny_pure (wpAny_bind (wpAny_bind (wpAny_setState_of ho hd hf (wpAny_pure (wpAny_bind (wpAny_newObj_type (wpAny_pure ⟨_,rfl,"set_iterator",_,⟨_,Heap.get?_push_size _ rfl,rfl⟩,Dt.lookup,?_⟩))))))))
   exact h _ _ s.drawn _ _ (Nat.le_refl _) (λb o e=>Heap.get?_push_of_some _ e) ⟨_,Heap.get?_push_size _ rfl,rfl,rfl⟩ (.table hb hdr) λpt e=>by cases e
  | true =>
   refine(show wpAny _ _ (if(!false && (!t.plain && decide (es.size > 1)))=true then _ else _) _ _ _ from ?_)
   rw [hdr,Bool.not_false,Bool.true_and,if_pos rfl]
   refine wpAny_bind (Jc _ _ _ _ (by simp) λps d1 hp=>?_)
   refine wpAny_bind (m:=newTuple _) (show wpAny _ _ _ _ _ _ from ?_)
   simp only [newTuple]
   have hps:ps.length<=1000:=by rw [hp.length_eq];simpa using hz
   refine wpAny_newObj_type ?_ (by size_fits)
   have ho2:=Heap.get?_push_of_some { cls:=Value.type "tuple",data:=Data.seq (List.map (λ(i:Nat)=>rawInt ↑i) ps).toArray } ho
   refine wpAny_bind (wpAny_bind (wpAny_setState_of ho2 hd hf (wpAny_pure (wpAny_bind (wpAny_newObj_type (wpAny_pure ⟨_,rfl,"set_iterator",_,⟨_,Heap.get?_push_size _ rfl,rfl⟩,Dt.lookup,?_⟩))))))
   refine h _ _ d1 _ _ (by rw [Heap.size_push];exact Nat.le_succ _) (λb o e=>Heap.get?_push_of_some _ (Heap.get?_push_of_some _ e)) ⟨_,Heap.get?_push_size _ rfl,rfl,rfl⟩ (.drawn hb hp ⟨_,Heap.get?_push_of_some _ (Heap.get?_push_size _ rfl),rfl,0,rfl⟩) λpt e=>?_
   cases e
   exact⟨Nat.le_refl _,Nat.ne_of_lt (by rw [Heap.size_push];exact Nat.lt_succ_self _)⟩
theorem O4{t:SetTable}(hr:Dm t.place){i:Nat}(hi:i<=t.place.size):SetTable.below t.place (Jd t.place i)=i:=by
 cases i with
 | zero=>exact Ox hr
 | succ i =>
  have:=Ow hr (k:=i) (by omega)
  show SetTable.below t.place (t.place.getD i 0+1)=i+1
  rw [show t.place.getD i 0=t.place[i] by simp [show i < t.place.size by omega]]
  exact this
theorem Ku{a:Addr}{es:Array (Int×Value)}{ep slot i:Nat}{t:SetTable}{Q:Option (Value×Nat)->Shared->Prop}(hA:Dp s.heap a es ep t)(hb:w.params.followText "set-order" = true) (h:Q (((pickOrder (w.params.setOrder a ep) es)[i]?).map λe=>(e.2,slot)) s) :
  wpAny (model prog w) A (setNext a slot i ep) Q E s:=by
 obtain⟨oa,hoa,_,hda,hf⟩:=hA
 unfold setNext
 refine wpAny_bind (wpAny_setState_of hoa hda hf (wpAny_bind (Fg (show wpAny _ _ (if _=true then _ else _) _ _ _ from ?_))))
 rw [if_pos hb]
 refine(show wpAny _ _ (if(ep != ep)=true then _ else _) _ _ _ from ?_)
 rw [if_neg (by simp)]
 unfold setWalk
 refine wpAny_bind (wpAny_bind (wpAny_setState_of hoa hda hf (wpAny_bind (Fg (show wpAny _ _ (if _=true then _ else _) _ _ _ from ?_)))))
 rw [if_pos hb]
 exact wpAny_bind (wpAny_askSetting (wpAny_pure (wpAny_pure h)))
theorem Je{a:Addr}{es:Array (Int×Value)}{ep i g:Nat}{t:SetTable}{Q:Option (Value×Nat)->Shared->Prop}(hA:Dp s.heap a es ep t)(hT:TblOk t (D6 w))(hb:w.params.followText "set-order" = false) (hdr:(!t.plain && decide (es.size > 1))=false) (hi:i<=es.size)
  (h:Q (match es[i]?,t.place[i]? with | some (_,x),some j=>some (x,j+1) | _,_=>none) s):wpAny (model prog w) A (setNext a (Jd t.place i) g ep) Q E s:=by
 obtain⟨oa,hoa,_,hda,hf⟩:=hA
 have hpl:t.place.size=es.size:=by simp [SetTable.fits]at hf;exact hf.1
 unfold setNext
 refine wpAny_bind (wpAny_setState_of hoa hda hf (wpAny_bind (Fg (show wpAny _ _ (if _=true then _ else _) _ _ _ from ?_))))
 rw [if_neg (by rw [hb];exact Bool.false_ne_true)]
 refine(show wpAny _ _ (if(!t.plain && decide (es.size > 1))=true then _ else _) _ _ _ from ?_)
 rw [hdr,if_neg Bool.false_ne_true]
 refine wpAny_bind (show wpAny _ _ (if(!t.led && !es.isEmpty)=true then _ else _) _ _ _ from ?_)
 rw [if_neg (by rw [hT.led,D6,hb];simp)]
 refine wpAny_pure (show wpAny _ _ (pure _) _ _ _ from wpAny_pure ?_)
 rw [O4 hT.rise (by omega)]
 exact h
theorem C9{a:Addr}{o:Obj}{vs:Array Value}{i:Nat}{x:Value}{Q:Unit->Shared->Prop}(ho:s.heap.get? a=some o)(hd:o.data=.fields vs)(hi:i < vs.size)
  (h:∀h' o',h'.get? a=some o'->o'.cls=o.cls->o'.data=.fields (vs.setIfInBounds i x)->Heap.SameBut a s.heap h'->Q () { s with heap:=h' }):wpAny (model prog w) A (setField (.ref a) i x) Q E s :=
 wpAny_setField ho hd hi (h _ _ (Heap.get?_update_self _ ho (Obj.isFreed_of_fields (Obj.data_mapFields hd _))) (Obj.cls_mapFields ..) (Obj.data_mapFields hd _) (Heap.SameBut.update ..))
theorem Uj{it a:Addr}{es:Array (Int×Value)}{ep:Nat}{t:SetTable}{first x:Value}{i:Nat}{ord:List Value}{Q:Option Value->Shared->Prop}(hA:Dp s.heap a es ep t)(hT:TblOk t (D6 w))(hI:E3 s.heap it a first i es.size ep)(hM:Mode w a es ep t s.heap i first ord)(hne:a≠it)(hnp:∀pt,first=.ref pt->pt≠it)(hx:ord[i]?=some x)
  (hQ:∀h' first',E3 h' it a first' (i+1) es.size ep->Mode w a es ep t h' (i+1) first' ord->(∀pt,first'=.ref pt->first=.ref pt)->Heap.SameBut it s.heap h'->Q (some x) { s with heap:=h' }) :
  wpAny (model prog w) A (pyNext (.ref it)) Q E s:=by
 obtain⟨o,ho,hc,hd⟩:=id hI
 obtain⟨oa,hoa,_,hda,hf⟩:=id hA
 have hpl:t.place.size=es.size:=by simp [SetTable.fits]at hf;exact hf.1
 unfold pyNext
 refine wpAny_bind (wpAny_attempt (wpAny_callSpecial?_slot (name:=Str.ofString "__next__") hI.typeIs Dt (wpAny_call_entry Dt hI.typeIs M8 ?_ (Qg _))))
 unfold Builtin.«set_iterator.__next__»
 refine(show wpAny _ _ (_ >>= _) _ _ _ from wpAny_bind (show wpAny _ _ (pure (Value.ref it,[])) _ _ _ from wpAny_pure (show wpAny _ _ (fieldsOf (.ref it) >>= _) _ _ _ from wpAny_bind (wpAny_fieldsOf ho hd (show wpAny _ _ (setEntries a >>= _) _ _ _ from wpAny_bind ?_)))))
 refine(show wpAny _ _ (setState a >>= _) _ _ _ from wpAny_bind (wpAny_setState_of hoa hda hf (wpAny_pure (show wpAny _ _ (if((es.size:Int) != (es.size:Int))=true then _ else _) _ _ _ from ?_))))
 rw [if_neg (by simp)]
 have fin:∀(Q2:PySem.Fin->Shared->Prop) (E2:Value->Shared->Prop) (nx:Nat),(∀h',E3 h' it a (rawInt nx) (i+1) es.size ep->Heap.SameBut it s.heap h'->Q2 (.done (.ret x)) { s with heap:=h' }) ->
   wpAny (model prog w) A.in1 (setField (.ref it) 0 (rawInt (nx:Nat)) >>= λ_=>setField (.ref it) 1 (rawInt ((i:Int)+1)) >>= λ_=>ret x) Q2 E2 s:=λQ2 E2 nx q=>by
  refine wpAny_bind (C9 ho hd (by simp) λh1 o1 e1 c1 d1 b1=>wpAny_bind (C9 (s:={ s with heap:=h1 }) e1 d1 (by simp) λh2 o2 e2 c2 d2 b2=>wpAny_pure (q h2 ⟨o2,e2,c2.trans (c1.trans hc),?_⟩ (b1.trans b2))))
  rw [d2];simp [rawInt]
 cases hM with
 | text hb =>
  refine(show wpAny _ _ (setNext a 0 i ep >>= _) _ _ _ from wpAny_bind (Ku hA hb ?_))
  obtain⟨e,he,rfl⟩:∃e,(pickOrder (w.params.setOrder a ep) es)[i]?=some e/\e.2=x:=by
   rw [List.getElem?_map,Option.map_eq_some_iff]at hx
   obtain⟨e,he,r⟩:=hx
   exact⟨e,by rw [<- Array.getElem?_toList];exact he,r⟩
  rw [he]
  exact fin _ _ 0 λh' I' b'=>⟨_,rfl,wpAny_pure (hQ h' _ I' (.text hb) (λ_ z=>z) b')⟩
 | table hb hdr =>
  have hlt:i < es.size:=by
   rw [List.getElem?_map]at hx
   rcases Nat.lt_or_ge i es.size with c | c
   ·exact c
   ·simp [List.getElem?_eq_none,c]at hx
  refine(show wpAny _ _ (setNext a (Jd t.place i) i ep >>= _) _ _ _ from wpAny_bind (Je hA hT hb hdr (Nat.le_of_lt hlt) ?_))
  have he:es[i]?=some es[i]:=Array.getElem?_eq_getElem hlt
  have hp:t.place[i]?=some (t.place.getD i 0):=by simp [hpl,hlt]
  have hx2:es[i].2=x:=by
   rw [List.getElem?_map,Array.getElem?_toList,he]at hx
   exact Option.some.inj hx
  rw [he,hp]
  dsimp only
  rw [hx2]
  exact fin _ _ (t.place.getD i 0+1) λh' I' b'=>⟨_,rfl,wpAny_pure (hQ h' _ I' (.table (i:=i+1) hb hdr) (λ_ z=>by cases z) b')⟩
 | @drawn pt ps hb hp ht =>
  have hlt:i < ps.length:=by
   rcases Nat.lt_or_ge i ps.length with c | c
   ·exact c
   ·rw [List.getElem?_eq_none (by simpa using c)]at hx;cases hx
  have e1:ps[i]?=some ps[i]:=List.getElem?_eq_getElem hlt
  have hin:ps[i] < es.size:=by simpa using hp.mem_iff.mp (List.getElem_mem hlt)
  obtain⟨y,hy,hx2⟩:∃y,es[ps[i]]?=some y/\y.2=x:=by
   rw [List.getElem?_map,e1]at hx
   have:=Option.some.inj hx
   exact⟨es[ps[i]],Array.getElem?_eq_getElem hin,by simpa [hin] using this⟩
  obtain⟨ot,hot,_,nt,hdt⟩:=id ht
  refine(show wpAny _ _ (seqItems? (.ref pt) >>= _) _ _ _ from wpAny_bind (wpAny_seqItems hot hdt (show wpAny _ _ _ _ _ _ from ?_)))
  dsimp only
  have e2:((ps.map λ(j:Nat)=>rawInt (j:Int)).toArray)[i]?=some (rawInt (ps[i]:Int)):=by
   simp [e1]
  rw [Int.toNat_natCast,e2]
  refine(show wpAny _ _ (setNextDrawn a ps[i] ep >>= _) _ _ _ from wpAny_bind ?_)
  unfold setNextDrawn
  refine wpAny_bind (wpAny_setState_of hoa hda hf (show wpAny _ _ (if(ep != ep)=true then _ else _) _ _ _ from ?_))
  rw [if_neg (by simp),hy]
  refine wpAny_pure ?_
  rw [hx2]
  refine wpAny_bind (C9 ho hd (by simp) λh1 o1 e1 c1 d1 b1=>wpAny_pure ⟨_,rfl,wpAny_pure (hQ h1 (.ref pt) ⟨o1,e1,c1.trans hc,?_⟩ (.drawn hb hp (ht.at λo e=>(b1.2 pt (hnp pt rfl)).trans e)) (λ_ z=>z) b1)⟩)
  rw [d1];simp [rawInt]
theorem Xs{it a:Addr}{es:Array (Int×Value)}{ep:Nat}{t:SetTable}{first:Value}{ord:List Value}{Q:Option Value->Shared->Prop}(hh:A.handled=none)(hA:Dp s.heap a es ep t)(hT:TblOk t (D6 w))(hI:E3 s.heap it a first es.size es.size ep)(hM:Mode w a es ep t s.heap es.size first ord)
  (hQ:∀h',Heap.ExtBut it s.heap h'->Q none { s with heap:=h' }):wpAny (model prog w) A (pyNext (.ref it)) Q E s:=by
 obtain⟨o,ho,hc,hd⟩:=id hI
 obtain⟨oa,hoa,_,hda,hf⟩:=id hA
 have hpl:t.place.size=es.size:=by simp [SetTable.fits]at hf;exact hf.1
 have hlen:ord.length=es.size:=by rw [hM.perm.length_eq];simp
 unfold pyNext
 refine wpAny_bind (wpAny_attempt (wpAny_callSpecial?_slot (name:=Str.ofString "__next__") hI.typeIs Dt (wpAny_call_entry Dt hI.typeIs M8 ?_ (Qg _))))
 unfold Builtin.«set_iterator.__next__»
 refine(show wpAny _ _ (_ >>= _) _ _ _ from wpAny_bind (show wpAny _ _ (pure (Value.ref it,[])) _ _ _ from wpAny_pure (show wpAny _ _ (fieldsOf (.ref it) >>= _) _ _ _ from wpAny_bind (wpAny_fieldsOf ho hd (show wpAny _ _ (setEntries a >>= _) _ _ _ from wpAny_bind ?_)))))
 refine(show wpAny _ _ (setState a >>= _) _ _ _ from wpAny_bind (wpAny_setState_of hoa hda hf (wpAny_pure (show wpAny _ _ (if((es.size:Int) != (es.size:Int))=true then _ else _) _ _ _ from ?_))))
 rw [if_neg (by simp)]
 have fin:∀(h1:Heap) (Q2:PySem.Fin->Shared->Prop) (E2:Value->Shared->Prop) ,(∀e h',Heap.ExtBut it h1 h'->Shared.TypeIs { s with heap:=h' } e "StopIteration" -> E2 e { s with heap:=h' }) ->
   wpAny (model prog w) A.in1 (newExc (.type "StopIteration") [] >>= λe=>raiseNew e) Q2 E2 { s with heap:=h1 }:=λh1 Q2 E2 q=>by
  refine wpAny_bind ?_
  simp only [newExc,newTuple]
  refine wpAny_bind (wpAny_newObj_type (wpAny_bind (m:=firstArgMember _ _) (wpAny_of_eq (a:=Value.none) (by first | rfl | (simp only [firstArgMember];rfl)) (wpAny_newObj_type ?_ (by size_fits)))) (by size_fits))
  simp only [raiseNew]
  refine wpAny_bind (wpAny_handled ?_)
  rw [show A.in1.handled=none from hh]
  have x0:Heap.ExtBut it h1 h1:=λb o hb e=>e
  refine wpAny_bind (wpAny_pure (wpAny_throw ?_))
  exact q _ _ ((x0.push _).push _) ⟨_,Heap.get?_push_size _ rfl,rfl⟩
 have fin2:∀(h1:Heap) (e:Value) (h':Heap),Heap.ExtBut it s.heap h1->Heap.ExtBut it h1 h'->Shared.TypeIs { s with heap:=h' } e "StopIteration" -> wpAny (model prog w) A (isInstance e (.type "StopIteration") >>= λb=>if b=true then pure none else throw e) Q E { s with heap:=h' }:=λh1 e h' x1 x2 T=>by
  refine wpAny_bind (wpAny_isInstance (b:=true) T isSubtype_stop ?_)
  exact wpAny_pure (hQ h' λb o hb e=>x2 b o hb (x1 b o hb e))
 cases hM with
 | text hb =>
  refine(show wpAny _ _ (setNext a 0 es.size ep >>= _) _ _ _ from wpAny_bind (Ku hA hb ?_))
  rw [List.length_map,Array.length_toList]at hlen
  rw [Array.getElem?_eq_none (by omega)]
  exact wpAny_bind (C9 ho hd (by simp) λh1 o1 e1 c1 d1 b1=>fin h1 _ _ λe h' x T=>fin2 h1 e h' b1.extBut x T)
 | table hb hdr =>
  refine(show wpAny _ _ (setNext a (Jd t.place es.size) es.size ep >>= _) _ _ _ from wpAny_bind (Je hA hT hb hdr (Nat.le_refl _) ?_))
  rw [Array.getElem?_eq_none (Nat.le_refl _)]
  exact wpAny_bind (C9 ho hd (by simp) λh1 o1 e1 c1 d1 b1=>fin h1 _ _ λe h' x T=>fin2 h1 e h' b1.extBut x T)
 | @drawn pt ps hb hp ht =>
  obtain⟨ot,hot,_,nt,hdt⟩:=id ht
  refine(show wpAny _ _ (seqItems? (.ref pt) >>= _) _ _ _ from wpAny_bind (wpAny_seqItems hot hdt (show wpAny _ _ _ _ _ _ from ?_)))
  dsimp only
  rw [Int.toNat_natCast,Array.getElem?_eq_none (by simpa using Nat.le_of_eq (by simpa using hlen))]
  exact wpAny_bind (C9 ho hd (by simp) λh1 o1 e1 c1 d1 b1=>wpAny_bind (C9 (s:={ s with heap:=h1 }) e1 d1 (by simp) λh2 o2 e2 c2 d2 b2=>fin h2 _ _ λe h' x T=>fin2 h2 e h' (b1.trans b2).extBut x T))
end
end L2
namespace L2
open PySem PySem.Spec PyProof.Rows PySem.W
section
variable {prog:Program}{w:World}{A:Around}{E:Value->Shared->Prop}{s:Shared}
theorem Mode.at{a:Addr}{es:Array (Int×Value)}{ep:Nat}{t:SetTable}{h h':Heap}{i:Nat}{first:Value}{ord:List Value}(m:Mode w a es ep t h i first ord)(hk:∀pt,first=.ref pt->∀o,h.get? pt=some o->h'.get? pt=some o):Mode w a es ep t h' i first ord:=by
 cases m with
 | text hb=>exact .text hb
 | table hb hd=>exact .table hb hd
 | @drawn pt ps hb hp ht=>exact .drawn hb hp (ht.at λo e=>hk pt rfl o e)
theorem Rx(hh:A.handled=none){it a:Addr}{es:Array (Int×Value)}{ep:Nat}{t:SetTable}{ord:List Value}(pts:List Addr)(hT:TblOk t (D6 w))(hne:a≠it)(hnp:it∉pts)(hlen:ord.length=es.size) :
  Walks prog w A it (it :: a :: pts) [it] es.size (λi v=>ord[i]?=some v) (λi h=>Dp h a es ep t/\∃first,E3 h it a first i es.size ep/\Mode w a es ep t h i first ord/\∀pt,first=.ref pt->pt∈pts) where
 sub:=λb hb=>by simp at hb;simp [hb]
 frame:=λi h h' st hk=>by
  obtain⟨hA,first,hI,hM,hp⟩:=st
  exact⟨hA.at λo e=>hk a (by simp) o e,first,hI.at λo e=>hk it (by simp) o e,hM.at λpt z o e=>hk pt (by simp [hp pt z]) o e,hp⟩
 item:=λi s Q E hi st hQ=>by
  obtain⟨hA,first,hI,hM,hp⟩:=st
  refine Uj hA hT hI hM hne (λpt z q=>hnp (q ▸ hp pt z)) (x:=ord[i]'(by omega)) (List.getElem?_eq_getElem _) λh' first' hI' hM' hr hb=>?_
  exact hQ _ h' s.toks (List.getElem?_eq_getElem _) ⟨hA.at λo e=>(hb.2 a hne).trans e,first',hI',hM',λpt z=>hp pt (hr pt z)⟩ λb o hb' e=>hb.extBut b o (λz=>hb' (by simp [z])) e
 done:=λs Q E st hQ=>by
  obtain⟨hA,first,hI,hM,hp⟩:=st
  exact Xs hh hA hT hI hM λh' he=>hQ h' s.toks λb o hb e=>he b o (λz=>hb (by simp [z])) e
 self:=λi s Q E st hQ=>by
  obtain⟨hA,first,hI,hM,hp⟩:=st
  refine wpAny_pyIter_slot hI.typeIs Qh (wpAny_call_entry Qh hI.typeIs Ru (show wpAny _ _ (ret (.ref it)) _ _ s from ?_) (Ui _))
  exact wpAny_pure ⟨_,rfl,"set_iterator",_,hI.typeIs,Dt.lookup,hQ⟩
theorem Uk{a:Addr}{Q:Bool->Shared->Prop}(hT:s.TypeIs (.ref a) "set") (h:Q false s):wpAny (model prog w) A (Builtin.List.listLengthHint (.ref a)) Q E s:=by
 unfold Builtin.List.listLengthHint
 refine wpAny_bind (wpAny_specialOf hT PySem.F.slot_set_len.lookup ?_)
 generalize hid:("set.__len__" : String)=id0
 wp_delta
 rw [show splitId id0=some ("set","__len__") from by subst hid;decide +kernel]
 subst hid
 refine wpAny_bind (wpAny_isInstance (T := "set") (b:=true) hT sub_set_self (wpAny_ite_split (λhab=>absurd hab (by decide)) λ_=>wpAny_ite_split (λ_=>?_) (λhab=>absurd (by decide +kernel) hab)))
 exact wpAny_bind (wpAny_typeOf hT (wpAny_pure h))
theorem Ry{ord:List Value}{acc:Array Value}{n:Nat}(h:ItemsOf (λi v=>ord[i]?=some v) acc n)(hl:ord.length=n):acc.toList=ord:=by
 refine List.ext_getElem? λi=>?_
 rw [Array.getElem?_toList]
 rcases Nat.lt_or_ge i acc.size with c | c
 ·have:=h.2 i acc[i] (Array.getElem?_eq_getElem c)
  rw [this,Array.getElem?_eq_getElem c]
 ·rw [Array.getElem?_eq_none c,List.getElem?_eq_none (by rw [hl,<- h.1];exact c)]
theorem Hg{a:Addr}{es:Array (Int×Value)}{ep:Nat}{t:SetTable}{Q:List Value->Shared->Prop}(hh:A.handled=none)(hA:Dp s.heap a es ep t)(hT:TblOk t (D6 w))(hz:es.size<=1000)
  (h:∀h' d' tk ord,(∀b o,s.heap.get? b=some o->h'.get? b=some o)->s.heap.objs.size<=h'.objs.size->ord.Perm (es.toList.map (·.2))->Q ord { s with heap:=h',drawn:=d',toks:=tk }) :
  wpAny (model prog w) A (collect (.ref a)) Q E s:=by
 have la:a < s.heap.objs.size:=by obtain⟨o,e,_⟩:=hA;exact Heap.lt_size e
 unfold collect
 refine wpAny_bind (wpAny_runValue (codeAny_builtin F.entry_proto_collect ?_))
 rw [Around.under_plainId F.plain_proto_collect _]
 refine(show wpAny _ A.in1 (newList [] >>= λl=>again (.builtin "list.__iadd__" ⟨[l,.ref a],[]⟩)) _ _ s from wpAny_bind (wpAny_newObj_type (wpAny_pure ⟨plainId_quiet F.plain_list_iadd _,codeAny_builtin F.entry_list_iadd ?_⟩)))
 rw [Around.under_plainId F.plain_list_iadd _]
 generalize hL:s.heap.objs.size=S
 generalize h1e:s.heap.push { cls:=.type "list",data:=.seq ([]:List Value).toArray }=h1
 have k1:∀b o,s.heap.get? b=some o->h1.get? b=some o:=λb o e=>by subst h1e;exact Heap.get?_push_of_some _ e
 have eS:h1.get? S=some { cls:=.type "list",data:=.seq ([]:List Value).toArray }:=by subst h1e;subst hL;exact Heap.get?_push_size _ rfl
 have hSa:S≠a:=Ne.symm (Nat.ne_of_lt (hL ▸ la))
 have hsame:Builtin.List.listSameRef (.ref S) (.ref a)=false:=by simp [Builtin.List.listSameRef,hSa]
 have hA1:Dp h1 a es ep t:=hA.at λo e=>k1 a o e
 refine(show wpAny _ A.in1 (Builtin.List.listExtendWith (.ref S) (.ref a) (.ref S)) _ _ { s with heap:=h1 } from ?_)
 unfold Builtin.List.listExtendWith
 refine wpAny_bind (wpAny_typeOf (Dp.typeIs (s:={ s with heap:=h1 }) hA1) (wpAny_ite_split (λhab=>absurd hab (by rw [hsame];decide)) λ_=>?_))
 refine wpAny_bind (O3 (s:={ s with heap:=h1 }) hA1 hz λit h2 d2 first ord hit k2 hI hM hpt=>?_)
 refine wpAny_bind (wpAny_holding (Uk (s:={ s with heap:=h2,drawn:=d2 }) (Dp.typeIs (s:={ s with heap:=h2,drawn:=d2 }) (hA1.at λo e=>k2 a o e)) ?_))
 refine wpAny_ite_split (λ_=>?_) λhab=>absurd (by decide) hab
 have e2:h2.get? S=some { cls:=.type "list",data:=.seq ([]:List Value).toArray }:=k2 S _ eS
 refine wpAny_bind (wpAny_rule (wpAny_bind (show wpAny _ _ (updateSeq S (·.push .none) >>= λ_=>updateSeq S (·.pop)) _ _ _ from wpAny_bind (wpAny_updateSeq e2 rfl (wpAny_updateSeq (Heap.get?_update_self (Obj.mapSeq (·.push Value.none)) e2 rfl) rfl ?_)))))
 have e4:=Heap.get?_update_self (Obj.mapSeq (·.pop)) (Heap.get?_update_self (Obj.mapSeq (·.push Value.none)) e2 rfl) rfl
 have k4:∀b o,b≠S->h2.get? b=some o->((h2.update S (Obj.mapSeq (·.push Value.none))).update S (Obj.mapSeq (·.pop))).get? b=some o:=λb o hb e=>(Heap.get?_update_other _ _ (Ne.symm hb)).trans ((Heap.get?_update_other _ _ (Ne.symm hb)).trans e)
 generalize ((h2.update S (Obj.mapSeq (·.push Value.none))).update S (Obj.mapSeq (·.pop)))=h4 at e4 k4 ⊢
 have lS:S < h1.objs.size:=Heap.lt_size eS
 have hit':h1.objs.size<=it:=hit
 have nS:S≠it:=by intro z;subst z;omega
 have na:a≠it:=Nat.ne_of_lt (Nat.lt_trans (hL ▸ la) (Nat.lt_of_lt_of_le lS hit'))
 obtain⟨pts,hp1,hp2⟩:∃pts:List Addr,(∀pt,first=.ref pt->pt∈pts)/\∀pt∈pts,h1.objs.size<=pt/\pt≠it:=by
  by_cases hf:∃pt,first=.ref pt
  ·obtain⟨pt,hf⟩:=hf
   exact⟨[pt],λq hq=>by rw [hf]at hq;cases hq;simp,λq hq=>by rw [List.mem_singleton]at hq;subst hq;exact hpt q hf⟩
  ·exact⟨[],λq hq=>absurd ⟨q,hq⟩ hf,λ_ hq=>nomatch hq⟩
 have hlen:ord.length=es.size:=by rw [hM.perm.length_eq];simp
 have W:=Rx (prog:=prog) (A:=A.in1) hh (es:=es) (ep:=ep) (ord:=ord) pts hT na (λz=>(hp2 it z).2 rfl) hlen
 have hSf:S∉it :: a :: pts:=by
  simp only [List.mem_cons,not_or]
  exact⟨nS,hSa,λz=>by have:=(hp2 S z).1;omega⟩
 refine wpAny_pure ⟨plainId_quiet F.plain_extend_loop _,codeAny_extend_loopS W.toS (Nat.le_trans hz (by decide)) S hSf (.ref S) es.size 0 { s with heap:=h4,drawn:=d2 } #[] _ rfl (Nat.zero_le _) ?_ e4 (ItemsOf.nil _) λs' acc' c' hm hS' hacc=>?_⟩
 ·refine⟨hA1.at λo e=>k4 a o (Ne.symm hSa) (k2 a o e),first,hI.at λo e=>k4 it o (Ne.symm nS) e,hM.at λpt z o e=>k4 pt o (λq=>?_) e,hp1⟩
  have:=(hp2 pt (hp1 pt z)).1
  subst q;omega
 ·rw [Moved.eq_with hm]
  refine wpAny_bind (wpAny_load hS' (wpAny_pure ?_))
  rw [Ry hacc hlen]
  refine h s'.heap d2 s'.toks ord (λb o e=>hm.heap b o ?_ (k4 b o ?_ (k2 b o (k1 b o e)))) (Nat.le_of_lt ?_) hM.perm
  ·have lb:=Heap.lt_size e
   simp only [List.mem_cons,List.not_mem_nil,or_false,not_or]
   rw [hL]at lb
   exact⟨Nat.ne_of_lt lb,Nat.ne_of_lt (Nat.lt_trans lb (Nat.lt_of_lt_of_le lS hit'))⟩
  ·have lb:=Heap.lt_size e
   rw [hL]at lb
   exact Nat.ne_of_lt lb
  ·rw [hL];exact Heap.lt_size hS'
theorem E4{v:Value}{Q:Value->Shared->Prop}(hcol:wpAny (model prog w) A.in1 (collect v) (λvs s1=>∃lt:Nat->Nat->Bool,vs.length < 1000/\StrictOrd vs.length lt /\
   (2<=vs.length->∀h':Heap,(∀b o,s1.heap.get? b=some o->h'.get? b=some o)->∃ κ,(∀Q:SortKind->Shared->Prop,Q κ { s1 with heap:=h' }->wpAny (model prog w) A.in1.in1 (keyKind' vs.toArray) Q E { s1 with heap:=h' }) /\
    ∀i j C,i < vs.length->j < vs.length->C (lt i j) { s1 with heap:=h' }->kas_ask prog w A.in1.in1 κ vs i j C { s1 with heap:=h' }) /\
   ∀(p:Array Nat) (h':Heap) (l c:Nat),Pm vs.length p->Up lt p vs.length->s1.heap.objs.size<=l->(∀b o,s1.heap.get? b=some o->h'.get? b=some o)->h'.get? l=some (seqObj "list" (p.toList.map λi=>vs.getD i Value.none).toArray c)->Q (.ref l) { s1 with heap:=h' }) E s) :
  wpAny (model prog w) A (call (.builtin "sorted") [v]) Q E s:=by
 refine Calls.call_function_entry kind_sorted plain_sorted entry_sorted (args_sorted1 _) ?_
 unfold Builtin.«sorted»
 refine wpAny_bind (m:=checkCount "sorted" 1 1 _) (wpAny_pure (wpAny_bind (wpAny_mono hcol (λvs s1 hx=>?_) λ_ _ e=>e)))
 obtain⟨lt,h64,O,hk,h⟩:=hx
 have sz:vs.length<=sizeLine:=Nat.le_trans (Nat.le_of_lt h64) (by decide)
 have hL:(s1.heap.push (seqObj "list" vs.toArray 0)).get? s1.heap.objs.size=some (seqObj "list" vs.toArray 0):=Heap.get?_push_size _ rfl
 refine wpAny_bind (wpAny_newList (wpAny_bind (wpAny_holding (wpAny_call_entry slot_list_sort ⟨_,hL,rfl⟩ entry_list_sort ?_ (args_list_sort _)))) sz)
 have kk:∀(h':Heap),(∀b o,b≠s1.heap.objs.size->(s1.heap.push (seqObj "list" vs.toArray 0)).get? b=some o->h'.get? b=some o)->∀b o,s1.heap.get? b=some o->h'.get? b=some o:=λh' k b o q=>k b o (Nat.ne_of_lt (Heap.lt_size q)) (Heap.get?_push_of_some _ q)
 exact Ey (s:={ s1 with heap:=s1.heap.push (seqObj "list" vs.toArray 0) }) hL h64 O (λh2 h' k=>hk h2 h' (kk h' k)) λp h' c pm up k e=>⟨_,rfl,wpAny_pure ⟨_,rfl,h p h' _ c pm up (Nat.le_refl _) (kk h' k) e⟩⟩
def Bf:Value->Int
 | .int n _=>n
 | _=>0
def IsI(v:Value):Prop:=∃n t,v=.int n t
theorem Jf:∀{vs:List Value},(∀v∈vs,IsI v)->IntsAre vs (vs.map Bf)
 | [],_=>.nil
 | v :: vs,h=>by
  obtain⟨n,t,rfl⟩:=h _ List.mem_cons_self
  exact .cons n t (Jf λu hu=>h u (List.mem_cons_of_mem _ hu))
theorem Xt{k:Key}{n:Int}{t:Tok}(h:(Bv prog w).is k (.int n t)=true):k=.inl n:=by
 rcases keyIs_shape (show Ha _ _=true from h) with⟨i,t',rfl,e⟩ | ⟨x,t',rfl,e⟩
 ·cases e;rfl
 ·cases e
theorem E5{l:List (Int×Value)}{ns:List Int}(hel:ElemsOf (Bv prog w) l)(hK:Keys (Bv prog w) l (ns.map Sum.inl)){e:Int×Value}(he:e∈l):∃n t,e.2=.int n t/\n∈ns:=by
 obtain⟨⟨k,hk,_⟩,_⟩:=hel e he
 have:=(hK k).mp ⟨e,he,hk⟩
 obtain⟨n,hn,rfl⟩:=List.mem_map.mp this
 rcases keyIs_shape (show Ha (Sum.inl n) e.2=true from hk) with⟨i,t,e1,e2⟩ | ⟨x,t,e1,e2⟩
 ·cases e1;exact⟨n,t,e2,hn⟩
 ·cases e1
theorem O5{a:Addr}{l:List (Int×Value)}{ns:List Int}{Q:Value->Shared->Prop}(hh:A.handled=none)(hS:Dn (Bv prog w) s.heap a l (D6 w))(hU:Unlike (Bv prog w) l)(hK:Keys (Bv prog w) l (ns.map Sum.inl))(hl:l.length < 64)
  (h:∀(h':Heap) (d':Drawn) (tk p c:Nat) (vs:List Value),(∀b o,s.heap.get? b=some o->h'.get? b=some o)->s.heap.objs.size<=p->h'.get? p=some (seqObj "list" vs.toArray c)->(∀v∈vs,IsI v)->(vs.map Bf).Pairwise (· < ·)->(∀n,n∈vs.map Bf↔n∈ns)->vs.length < 64->Q (.ref p) { s with heap:=h',drawn:=d',toks:=tk }) :
  wpAny (model prog w) A (call (.builtin "sorted") [.ref a]) Q E s:=by
 obtain⟨o,es,ep,t,ho,hex,hd,rfl,hel,hf,hT⟩:=hS
 have hz:es.size < 64:=by simpa using hl
 refine E4 (Hg (show A.in1.handled=none from hh) ⟨o,ho,hex.1,hd,hf⟩ hT (by omega) λh1 d1 t1 ord k1 z1 hp=>?_)
 have hi:∀v∈ord,IsI v:=λv hv=>by
  obtain⟨e,he,rfl⟩:=List.mem_map.mp (hp.mem_iff.mp hv)
  obtain⟨n,t,e1,_⟩:=E5 hel hK he
  exact⟨n,t,e1⟩
 have hmem:∀n,n∈ord.map Bf↔n∈ns:=λn=>by
  rw [List.mem_map]
  constructor
  ·rintro⟨v,hv,rfl⟩
   obtain⟨e,he,rfl⟩:=List.mem_map.mp (hp.mem_iff.mp hv)
   obtain⟨n,t,e1,e2⟩:=E5 hel hK he
   rw [e1];exact e2
  ·intro hn
   obtain⟨e,he,hk⟩:=(hK (.inl n)).mpr (List.mem_map.mpr ⟨n,hn,rfl⟩)
   obtain⟨n',t,e1,_⟩:=E5 hel hK he
   rw [e1]at hk
   have:=Xt hk
   cases this
   exact⟨e.2,hp.mem_iff.mpr (List.mem_map.mpr ⟨e,he,rfl⟩),by rw [e1];rfl⟩
 have hnd:(ord.map Bf).Nodup:=by
  have e1:(ord.map Bf).Perm ((es.toList.map (·.2)).map Bf):=hp.map _
  refine e1.nodup_iff.mpr ?_
  unfold List.Nodup
  rw [List.pairwise_map,List.pairwise_map]
  refine List.Pairwise.imp_of_mem (λ{e e'} he he' hu q=>?_) hU
  obtain⟨n,t,e1,_⟩:=E5 hel hK he
  obtain⟨n',t',e2,_⟩:=E5 hel hK he'
  rw [e1,e2]at q
  have q':n=n':=q
  subst q'
  have:=hu (.inl n) (by rw [e1];exact Db _ _ _ _)
  rw [e2,Db]at this
  cases this
 have hlen:ord.length < 64:=by rw [hp.length_eq];simpa using hz
 refine⟨λi j=>decide ((ord.map Bf).getD i 0 < (ord.map Bf).getD j 0),by omega,⟨λi j k _ _ _ h1 h2=>?_,λi j hi' hj' hij h1=>?_,λi _=>decide_eq_false (Int.lt_irrefl _)⟩,λh2 h' kp=>⟨oneType',λQ q=>?_,λi j C hi' hj' q=>?_⟩,λp h' lb c pm up hlb kp e=>?_⟩
 ·simp only [decide_eq_true_eq]at h1 h2 ⊢;omega
 ·simp only [decide_eq_false_iff_not,decide_eq_true_eq]at h1 ⊢
  suffices ne:(ord.map Bf).getD j 0≠(ord.map Bf).getD i 0 by omega
  refine λq=>hij ?_
  refine((List.getElem?_inj (by simpa using hj') hnd).mp ?_).symm
  rw [Cm (d:=(0:Int)) (by simpa using hj'),Cm (d:=(0:Int)) (by simpa using hi'),q]
 ·match ord,hi,h2 with
  | v1 :: v2 :: vs,hi,_ =>
   rw [keyKind_ints (Jf hi)]
   exact wpAny_pure q
 ·unfold kas_ask
  obtain⟨n1,t1,e1⟩:=hi _ (B9 (d:=Value.none) hi')
  obtain⟨n2,t2,e2⟩:=hi _ (B9 (d:=Value.none) hj')
  have g:∀i,i < ord.length->(ord.map Bf).getD i 0=Bf (ord.getD i .none):=λi hi=>by
   simp [List.getD_eq_getElem?_getD,hi]
  dsimp only at q
  rw [g i hi',g j hj',e1,e2]at q
  rw [e1,e2,keyLt'_oneType]
  exact oneLt_int q
 ·have hp1:∀i∈p.toList,i < ord.length:=λi hi=>List.mem_range.mp (pm.perm.mem_iff.mp hi)
  have g:∀i,i < ord.length->(ord.map Bf).getD i 0=Bf (ord.getD i .none):=λi hi=>by
   simp [List.getD_eq_getElem?_getD,hi]
  have pv:(p.toList.map λi=>ord.getD i Value.none).Perm ord:=by
   have e2:=pm.perm.map λi=>ord.getD i Value.none
   rw [C5]at e2
   exact e2
  refine h h' d1 t1 lb c _ (λb o q=>kp b o (k1 b o q)) (Nat.le_trans z1 hlb) e (λv hv=>hi v (pv.mem_iff.mp hv)) ?_ (λn=>?_) (by rw [pv.length_eq];exact hlen)
  ·rw [List.map_map,List.pairwise_map]
   refine List.pairwise_iff_getElem.mpr λi j hi2 hj2 hij=>?_
   have hj':j < ord.length:=by rw [<- pm.size];simpa using hj2
   have:=up i j hij hj'
   have gi:p.getD i 0=p.toList[i]:=by simp [Array.getD,show i < p.size by simpa using hi2]
   have gj:p.getD j 0=p.toList[j]:=by simp [Array.getD,show j < p.size by simpa using hj2]
   rw [gi,gj]at this
   dsimp only at this
   rw [g _ (hp1 _ (List.getElem_mem hi2)),g _ (hp1 _ (List.getElem_mem hj2))]at this
   simpa using this
  ·rw [<- hmem n]
   exact(pv.map Bf).mem_iff
end
end L2
namespace L2
open PySem PySem.Spec PyProof.Rows
section
variable {X:Cx}{pins:List (Addr×Obj)}{σ:St}{H:Hp}{s:Shared}
theorem Inv.drw(I:Inv X pins σ H s)(d:Drawn):Inv X pins σ H { s with drawn:=d }:=⟨I.ok,I.os,I.bare,I.base,I.loc,I.cell,I.free,I.freeC,I.pin,I.hok,I.len⟩
theorem G0{P:Program}{w:World}:∀{ns:List Int} {us:List Value},Vals (ns.map V.int) us->ItemsAre (Bv P w) (ns.map Sum.inl) us/\∀v∈us,v.scannable=true
 | [],_,h=>by cases h;exact⟨.nil,λ_ h=>nomatch h⟩
 | n :: ns,_,h=>by
  cases h with
  | cons h1 h2 =>
   obtain⟨t,rfl⟩:=h1
   obtain⟨a,b⟩:=G0 (P:=P) (w:=w) h2
   refine⟨.cons (Db _ _ _ _) a,λv hv=>?_⟩
   rcases List.mem_cons.mp hv with rfl | hv
   ·rfl
   ·exact b v hv
theorem Jg:∀{vs:List Value},(∀v∈vs,IsI v)->Vals ((vs.map Bf).map V.int) vs
 | [],_=>.nil
 | v :: vs,h=>by
  obtain⟨n,t,rfl⟩:=h _ List.mem_cons_self
  exact .cons ⟨t,rfl⟩ (Jg λu hu=>h u (List.mem_cons_of_mem _ hu))
theorem Lu{K:PySem.W.Frag}{H:Hp}:∀(ns:List Int),A9 K H (ns.map λn=>AV.D (.int n)) (ns.map V.int)
 | []=>.nil
 | _ :: ns=>.cons C1 (Lu ns)
end
noncomputable instance decPD:DecidableEq PyData:=λa b=>Classical.propDecidable (a=b)
mutual
def G1:PyData->Nat
 | .tuple ds=>Cy ds+1
 | _=>1
def Cy:List PyData->Nat
 | []=>0
 | d :: ds=>G1 d+Cy ds
end
theorem Jh(w:World):∀(a b:List PyData),C6 w (a++b)=C6 w a++C6 w b
 | [],b=>rfl
 | x :: a,b=>by simp only [List.cons_append,C6,Jh w a b]
theorem Hh:∀(a b:List PyData),Cy (a++b)=Cy a+Cy b
 | [],b=>by simp [Cy]
 | x :: a,b=>by simp only [List.cons_append,Cy,Hh a b];omega
section
variable {prog:Program}{w:World}
theorem Xu:∀(n:Nat) (d:PyData) (u:Value) (as:List Addr) (A:Around) (E:Value->Shared->Prop) (s:Shared) (Q:Int->Shared->Prop),d.depth<=n->Cano d=true->Reads s.heap u d as->A.units+n < cLine->Q (Bc w d) { s with toks:=s.toks+G1 d } ->
  wpAny (model prog w) A (pyHash u) Q E s:=by
 intro n
 induction n with
 | zero =>
  intro d u as A E s Q hd hc hr hu h
  cases hr with
  | int i t=>exact(Bv prog w).pyHash (Db _ _ _ _) h
  | str x t=>exact(Bv prog w).pyHash (Hb _ _ _ _) h
  | tuple a1 a2 a3 a4=>simp [PyData.depth]at hd
  | none=>simp [Cano]at hc
  | bool b=>simp [Cano]at hc
  | list a1 a2 a3 a4=>simp [Cano]at hc
  | dict a1 a2 a3 a4 a5=>simp [Cano]at hc
 | succ n ih =>
  intro d u as A E s Q hd hc hr hu h
  cases hr with
  | int i t=>exact(Bv prog w).pyHash (Db _ _ _ _) h
  | str x t=>exact(Bv prog w).pyHash (Hb _ _ _ _) h
  | none=>simp [Cano]at hc
  | bool b=>simp [Cano]at hc
  | list a1 a2 a3 a4=>simp [Cano]at hc
  | dict a1 a2 a3 a4 a5=>simp [Cano]at hc
  | @tuple a o items m ds as ho hcl hdt hi =>
   have hT:s.TypeIs (.ref a) "tuple" := ⟨o,ho,hcl⟩
   have hd':PyData.depthAll ds<=n:=by simp only [PyData.depth]at hd;omega
   have hc':Aq ds=true:=hc
   unfold pyHash
   first | unfold pyHashByItsType | skip
   first | refine wpAny_bind (wpAny_cRoomFor_or (.inr (by omega)) ?_) | skip
   refine wpAny_bind (wpAny_specialOf hT F.slot_tuple_hash.lookup (show wpAny _ _ (if(some (Value.builtin "tuple.__hash__")==some Value.none)=true then _ else _) Q E s from ?_))
   rw [if_neg (by rw [beq_builtin_none];exact Bool.false_ne_true)]
   refine wpAny_bind (wpAny_specialOf hT F.slot_tuple_hash.lookup (show wpAny _ _ (callSpecialIfBoundUnlessNone? (.ref a) "__hash__" _ >>= _) Q E s from ?_))
   refine wpAny_bind (wpAny_callSpecialIfBoundUnlessNone?_slot hT F.slot_tuple_hash (wpAny_call_entry F.slot_tuple_hash hT F.entry_tuple_hash (show wpAny _ _ (Builtin.Tuple.tupleItemsOf (.ref a) >>= _) _ _ s from ?_) (F.args_tuple_hash_1 _)))
   refine wpAny_bind (wpAny_tupleItemsOf ho hdt (wpAny_bind ?_))
   rw [<- Array.forIn_toList]
   refine wpAny_forIn_list _ (λrest (b:Array Int) s'=>∃dn lf bs,ds=dn++lf/\ReadsAll s.heap rest lf bs/\Aq lf=true/\PyData.depthAll lf<=n/\b.toList=C6 w dn/\s'={ s with toks:=s.toks+Cy dn }) _ ?_ ?_ _ _ ⟨[],ds,as,rfl,hi,hc',hd',rfl,rfl⟩
   ·rintro x rest b s' ⟨dn,lf,bs,rfl,hl,hcl,hdl,hb,rfl⟩
    cases hl with
    | @cons _ _ d ds' as1 bs1 h1 hl' =>
     simp only [Aq,Bool.and_eq_true]at hcl
     simp only [PyData.depthAll]at hdl
     refine wpAny_bind (ih d x as1 A.in1 _ { s with toks:=s.toks+Cy dn } _ (by omega) hcl.1 h1 (by show A.units+1+n < _;omega) ?_)
     have fin:∃dn' lf' bs',dn++d :: ds'=dn'++lf'/\ReadsAll s.heap rest lf' bs'/\Aq lf'=true/\PyData.depthAll lf'<=n/\(b.push (Bc w d)).toList=C6 w dn'/\({ s with toks:=s.toks+Cy dn+G1 d }:Shared)={ s with toks:=s.toks+Cy dn' } :=
      ⟨dn++[d],ds',bs1,by simp,hl',hcl.2,by omega,by simp [hb,Jh,C6],by simp [Hh,Cy,Nat.add_assoc]⟩
     first
      | exact wpAny_pure fin
      | exact wpAny_bind (wpAny_pure (wpAny_pure fin))
   ·rintro b s' ⟨dn,lf,bs,rfl,hl,hcl,hdl,hb,rfl⟩
    cases hl
    rw [List.append_nil]at h
    simp only [Bc,G1]at h
    refine(show wpAny _ _ (retInt (Builtin.Tuple.tupleHashOf b.toList)) _ _ _ from ?_)
    rw [hb]
    refine wpAny_ret_mkInt (show wpAny _ _ (if(decide (-(2:Int) ^ 63<=Builtin.Tuple.tupleHashOf (C6 w dn)) && decide (Builtin.Tuple.tupleHashOf (C6 w dn) < 2 ^ 63))=true then _ else _) Q E _ from ?_)
    unfold reduceHash at h
    by_cases hr:(decide (-(2:Int) ^ 63<=Builtin.Tuple.tupleHashOf (C6 w dn)) && decide (Builtin.Tuple.tupleHashOf (C6 w dn) < 2 ^ 63))=true
    ·rw [if_pos hr]at h ⊢
     exact wpAny_pure (by simpa [Nat.add_assoc] using h)
    ·rw [if_neg hr]at h ⊢
     exact wpAny_bind (wpAny_rule (wpAny_pure (by simpa [Nat.add_assoc] using h)))
theorem Ji:∀(n q:Nat) (d:PyData) (u:Value) (as:List Addr) (A:Around) (E:Value->Shared->Prop) (s:Shared) (Q:Bool->Shared->Prop),d.depth<=n->n < q->Cano d=true->Reads s.heap u d as->Q true s->wpAny (model prog w) A (eqIsQuiet q u) Q E s:=by
 intro n
 induction n with
 | zero =>
  intro q d u as A E s Q hd hq hc hr h
  cases hr with
  | int i t=>rw [eqIsQuiet_byValue _ rfl];exact wpAny_pure h
  | str x t=>rw [eqIsQuiet_byValue _ rfl];exact wpAny_pure h
  | tuple a1 a2 a3 a4=>simp [PyData.depth]at hd
  | none=>simp [Cano]at hc
  | bool b=>simp [Cano]at hc
  | list a1 a2 a3 a4=>simp [Cano]at hc
  | dict a1 a2 a3 a4 a5=>simp [Cano]at hc
 | succ n ih =>
  intro q d u as A E s Q hd hq hc hr h
  cases hr with
  | int i t=>rw [eqIsQuiet_byValue _ rfl];exact wpAny_pure h
  | str x t=>rw [eqIsQuiet_byValue _ rfl];exact wpAny_pure h
  | none=>simp [Cano]at hc
  | bool b=>simp [Cano]at hc
  | list a1 a2 a3 a4=>simp [Cano]at hc
  | dict a1 a2 a3 a4 a5=>simp [Cano]at hc
  | @tuple a o items m ds as ho hcl hdt hi =>
   have hT:s.TypeIs (.ref a) "tuple" := ⟨o,ho,hcl⟩
   have hd':PyData.depthAll ds<=n:=by simp only [PyData.depth]at hd;omega
   have hc':Aq ds=true:=hc
   obtain⟨q',rfl⟩:∃q',q=q'+1:=⟨q - 1,by omega⟩
   unfold eqIsQuiet
   refine wpAny_bind (wpAny_specialOf hT F.slot_tuple_eq.lookup (show wpAny _ _ (isInstance (.ref a) (.type "tuple") >>= _) _ _ s from wpAny_bind (wpAny_isInstance hT isSubtype_tuple_tuple ?_)))
   simp only [Bool.not_true,Bool.false_eq_true,if_false]
   refine wpAny_bind (wpAny_seqItems ho hdt (wpAny_bind (show wpAny _ _ (forIn items _ _) _ _ s from ?_)))
   rw [<- Array.forIn_toList]
   refine wpAny_forIn_list _ (λrest r s'=>r.1=none/\s'=s/\∃lf bs,ReadsAll s.heap rest lf bs/\Aq lf=true/\PyData.depthAll lf<=n) _ ?_ ?_ _ _ ⟨rfl,rfl,ds,as,hi,hc',hd'⟩
   ·rintro v rest r s' ⟨hr,rfl,lf,bs,hl,hcl,hdl⟩
    cases hl with
    | @cons _ _ d ds' as1 bs1 h1 hl' =>
     simp only [Aq,Bool.and_eq_true]at hcl
     simp only [PyData.depthAll]at hdl
     refine wpAny_bind (ih q' d v as1 A _ s' _ (by omega) (by omega) hcl.1 h1 ?_)
     simp only [Bool.not_true,Bool.false_eq_true,if_false]
     exact wpAny_pure ⟨rfl,rfl,ds',bs1,hl',hcl.2,by omega⟩
   ·rintro⟨r1,r2⟩ s' ⟨hr,rfl,_⟩
    simp only at hr
    subst hr
    exact wpAny_pure h
mutual
theorem Kv{h:Heap}:∀{v:Value} {d e:PyData} {as bs:List Addr},Reads h v d as->Reads h v e bs->Cano d=true->Cano e=true->d=e
 | _,_,_,_,_,.int i t,r,_,_=>by cases r;rfl
 | _,_,_,_,_,.str x t,r,_,_=>by cases r;rfl
 | _,_,_,_,_,.tuple a1 a2 a3 a4,r,hc,hc2=>by
  cases r with
  | tuple b1 b2 b3 b4 =>
   rw [a1]at b1;cases b1
   rw [a3]at b3;cases b3
   rw [Gi a4 b4 hc hc2]
  | list b1 b2 b3 b4=>simp [Cano]at hc2
  | dict b1 b2 b3 b4 b5=>simp [Cano]at hc2
 | _,_,_,_,_,.none,_,hc,_=>by simp [Cano]at hc
 | _,_,_,_,_,.bool b,_,hc,_=>by simp [Cano]at hc
 | _,_,_,_,_,.list a1 a2 a3 a4,_,hc,_=>by simp [Cano]at hc
 | _,_,_,_,_,.dict a1 a2 a3 a4 a5,_,hc,_=>by simp [Cano]at hc
theorem Gi{h:Heap}:∀{vs:List Value} {ds es:List PyData} {as bs:List Addr},ReadsAll h vs ds as->ReadsAll h vs es bs->Aq ds=true->Aq es=true->ds=es
 | _,_,_,_,_,.nil,r,_,_=>by cases r;rfl
 | _,_,_,_,_,.cons r1 r2,r,hc,hc2=>by
  cases r with
  | cons q1 q2 =>
   simp only [Aq,Bool.and_eq_true]at hc hc2
   rw [Kv r1 q1 hc.1 hc2.1,Gi r2 q2 hc.2 hc2.2]
end
mutual
theorem G2{h h':Heap}{p:Addr}(hk:∀b o,b≠p->h.get? b=some o->h'.get? b=some o)(hp:∀o vs n,h.get? p=some o->o.data≠.seq vs n):∀{v:Value} {d:PyData} {as:List Addr},Reads h v d as->Cano d=true->Reads h' v d as
 | _,_,_,.int i t,_=>.int i t
 | _,_,_,.str x t,_=>.str x t
 | _,_,_,.tuple a1 a2 a3 a4,hc=>.tuple (hk _ _ (λz=>by subst z;exact hp _ _ _ a1 a3) a1) a2 a3 (Gj hk hp a4 hc)
 | _,_,_,.none,hc=>by simp [Cano]at hc
 | _,_,_,.bool b,hc=>by simp [Cano]at hc
 | _,_,_,.list a1 a2 a3 a4,hc=>by simp [Cano]at hc
 | _,_,_,.dict a1 a2 a3 a4 a5,hc=>by simp [Cano]at hc
theorem Gj{h h':Heap}{p:Addr}(hk:∀b o,b≠p->h.get? b=some o->h'.get? b=some o)(hp:∀o vs n,h.get? p=some o->o.data≠.seq vs n):∀{vs:List Value} {ds:List PyData} {as:List Addr},ReadsAll h vs ds as->Aq ds=true->ReadsAll h' vs ds as
 | _,_,_,.nil,_=>.nil
 | _,_,_,.cons r1 r2,hc=>by
  simp only [Aq,Bool.and_eq_true]at hc
  exact .cons (G2 hk hp r1 hc.1) (Gj hk hp r2 hc.2)
end
theorem Hx{x y:PyData}(hx:Cano x=true)(hy:Cano y=true):PyData.eqv x y=decide (x=y):=by
 by_cases h:x=y
 ·subst h;rw [Ew x hx,decide_eq_true rfl]
 ·rw [decide_eq_false h];exact(Oo hx hy).mpr h
variable(prog w) in
noncomputable def Jj:HeapKind prog w PyData where
 is:=λh d a=>KeyTree d/\∃as,Reads h (.ref a) d as
 hash:=Bc w
 draws:=G1
 room:=λA=>A.units+6 < cLine
 inj:=λ⟨kx,_,rx⟩ ⟨ky,_,ry⟩=>Kv rx ry kx.can ky.can
 keeps:=λ⟨k,as,r⟩ ho hd hs=>⟨k,as,G2 (λb o hb e=>(hs.2 b hb).trans e) (λo' vs n e q=>by rw [ho]at e;cases e;rw [hd]at q;cases q) r k.can⟩
 pyHash:=λhu ⟨k,as,r⟩ h=>Xu 6 _ _ as _ _ _ _ k.dep k.can r hu h
 eqBool:=λhu ⟨kx,as,rx⟩ ⟨ky,bs,ry⟩ h=>SeqAt.eqAt_reads _ _ _ _ _ _ _ _ rx ry kx.lay ky.lay (by have:=kx.dep;omega) _ _ _ _ (by rw [Hx kx.can ky.can];exact h)
 quiet:=λ⟨k,as,r⟩ h=>Ji 6 8 _ _ as _ _ _ _ k.dep (by decide) k.can r h
end
section
variable {X:Cx}{pins:List (Addr×Obj)}{σ:St}{H:Hp}{s:Shared}{a:Addr}{e:Expr}{te:AE}{τ:ASt}{μ:M}
theorem VE.run{R1:AV->M->Prop}(he:VE X e te)(I:Inv X pins σ H s)(hs:Dv X.K H τ σ)(hc:Cn X.K μ H)(h:te τ μ R1) :
  wpAny (model X.prog X.w) X.A (eval e X.env) (λu s1=>∃x v μ1 H1,Inv X pins σ H1 s1/\B4 v u/\Kp H H1/\Cn X.K μ1 H1/\RelA X.K H1 x v/\R1 x μ1) X.xe s :=
 wpAny_mono (he pins s σ H (λv H1=>∃x μ1,Kp H H1/\Cn X.K μ1 H1/\RelA X.K H1 x v/\R1 x μ1) I ⟨τ,μ,R1,hs,hc,h,λx μ1 v H1 S c r q=>⟨x,μ1,S,c,r,q⟩⟩)
  (λ_ _ z=>by obtain⟨v,H1,I1,rv,x,μ1,S,c,r,q⟩:=z;exact⟨x,v,μ1,H1,I1,rv,S,c,r,q⟩) λ_ _ e=>e
variable {o i value:Expr}{pos pos':Pos}{td ty tv:AE}
end
section
variable {prog:Program}{w:World}{A:Around}{E:Value->Shared->Prop}{s:Shared}
end
section
variable {X:Cx}{pins:List (Addr×Obj)}{σ:St}{s:Shared}
def Qjf(ta tb:AE):AE:=fun τ μ R=>ta τ μ λx μ1=>tb τ μ1 λy μ2=>match x,y with
 | .R a,.R b=>opt (μ2 a) λm=>opt (μ2 b) λn=>match m,n with
  | .lst us,.lst vs=>opt (dats us) λds=>opt (dats vs) λes=>(ds.length=es.length/\ds.length<=1000)/\R (.D (.tuple (List.zipWith (λd e=>PyData.tuple [d,e]) ds es))) μ2
  | _,_=>False
 | _,_=>False
def Qib:AC:=λxs μ R=>match xs with
 | [.D (.bool b)]=>R (.D (.int (if b then 1 else 0))) μ
 | [.D (.int i)]=>R (.D (.int i)) μ
 | _=>False
theorem Qel:VCall X (.type "int") Qib:=by
 intro pins s σ H xs us Q I r zz202
 refine Ce zz202 λas μ R ra hc h hq=>?_
 cases ra with
 | nil=>exact False.elim h
 | @cons x v xs' vs' r1 r2 =>
  cases r2 with
  | nil =>
   cases x with
   | D d =>
    cases d with
    | bool b =>
     cases RelA.bl r1
     exact J7 pins s σ H _ us Q I r (.inr ⟨_,rfl,hq _ _ _ _ Kp.refl hc C1 h⟩)
    | int i =>
     cases RelA.int r1
     exact J7 pins s σ H _ us Q I r (.inl ⟨_,rfl,hq _ _ _ _ Kp.refl hc C1 h⟩)
    | _=>exact False.elim h
   | _=>exact False.elim h
  | cons _ _ =>
   refine False.elim ?_
   cases x with
   | D d=>cases d <;> exact h
   | _=>exact h
def txts:List AV->Option (List Str)
 | []=>some []
 | .D (.str z) :: xs=>(txts xs).map (z :: ·)
 | _ :: _=>none
theorem M9{K:PySem.W.Frag}{H:Hp}:∀{xs:List AV} {vs:List V} {zs:List Str},A9 K H xs vs->txts xs=some zs->vs=zs.map V.str
 | [],_,zs,r,e=>by cases r;cases e;rfl
 | x :: xs,_,zs,r,e=>by
  cases r with
  | cons r1 r2 =>
   unfold txts at e
   split at e
   ·rename_i h;cases h
   ·rename_i z xs' h
    cases h
    obtain⟨ys,ey,rfl⟩:=Option.map_eq_some_iff.mp e
    cases RelA.str r1
    rw [M9 r2 ey];rfl
   ·cases e
def Y3:AV->AC:=λx xs μ R=>match x,xs with
 | .D (.str z),[.R p]=>opt (μ p) λm=>match m with
  | .lst ys=>opt (txts ys) λzs=>(zs.map (·.length)).sum+zs.length * z.length<=16777216/\R (.D (.str (Txt.join z zs))) μ
  | _=>False
 | _,_=>False
theorem G3:VMt X "str.join" Y3:=by
 intro pins s σ H x xs v us Q I rx r zz203
 refine Dw zz203 λa as μ R ra rs hc h hq=>?_
 unfold Y3 at h
 split at h
 ·obtain⟨m,em,h⟩:=Bj h
  split at h
  ·obtain⟨zs,ez,h⟩:=Bj h
   obtain⟨o,ho,ws,rfl,rr⟩:=hc _ _ em
   cases RelA.str ra
   cases rs with
   | cons r1 r2 =>
    cases r2
    cases r1
    rw [M9 rr ez]at ho
    exact Rh pins s σ H _ _ v us Q I rx r ⟨_,_,zs,rfl,rfl,ho,h.1,hq _ _ _ _ Kp.refl hc Fv h.2⟩
  ·exact h.elim
 ·exact h.elim
def Qbr(ta:AE):AE:=fun τ μ R=>ta τ μ λx μ1=>match x with
 | .D (.int n)=>(0<=n/\n<=1000)/\∀p,μ1 p=none->R (.R p) (Ar μ1 p (.lst (D4 0 n.toNat)))
 | _=>False
def Qbs(ta tb:AE):AE:=fun τ μ R=>ta τ μ λx μ1=>tb τ μ1 λy μ2=>match x,y with
 | .D (.int m),.D (.int n)=>(-1000<=m/\m<=n/\n<=1000)/\∀p,μ2 p=none->R (.R p) (Ar μ2 p (.lst (D4 m (n - m).toNat)))
 | _,_=>False
theorem Lv{K:PySem.W.Frag}{H:Hp}:∀(n:Nat) (lo:Int),A9 K H (D4 lo n) ((List.range n).map λ(i:Nat)=>V.int (lo+i))
 | 0,lo=>.nil
 | n+1,lo=>by
  rw [List.range_succ_eq_map,List.map_cons,List.map_map]
  refine .cons (by simpa using C1) ?_
  have:=Lv (K:=K) (H:=H) n (lo+1)
  have e:(λ(i:Nat)=>V.int (lo+1+i))=(λ(i:Nat)=>V.int (lo+i)) ∘ Nat.succ:=by
   funext i
   simp only [Function.comp]
   congr 1
   omega
  rw [e]at this
  exact this
theorem Ul{acc:Array Value}{n:Nat}{lo:Int}(h:ItemsOf (λi v=>∃t,v=.int (lo+i * 1) t) acc n):Vals ((List.range n).map λ(i:Nat)=>V.int (lo+i)) acc.toList:=by
 obtain⟨h1,h2⟩:=h
 have go:∀(m:Nat) (us:List Value),us.length=m->(∀j v,us[j]?=some v->∃t,v=Value.int (lo+(j:Nat) * 1) t)->Vals ((List.range m).map λ(i:Nat)=>V.int (lo+i)) us:=by
  intro m
  induction m with
  | zero=>intro us hl _;rw [List.eq_nil_of_length_eq_zero hl];exact .nil
  | succ m ih =>
   intro us hl hu
   have hne:us≠[]:=by intro z;rw [z]at hl;cases hl
   rw [<- List.dropLast_concat_getLast hne,List.range_succ,List.map_append]
   have hd:us.dropLast.length=m:=by rw [List.length_dropLast];omega
   refine Paired.snoc (ih us.dropLast hd λj v e=>?_) ?_
   ·have hj:j < us.dropLast.length:=(List.getElem?_eq_some_iff.mp e).1
    rw [List.getElem?_dropLast,if_pos (by omega)]at e
    exact hu j v e
   ·obtain⟨t,e⟩:=hu m (us.getLast hne) (by rw [List.getLast_eq_getElem];simp [hl])
    rw [e]
    exact⟨t,by rw [Int.mul_one]⟩
 exact go n acc.toList (by simpa using h1) λj v e=>h2 j v (by rw [<- Array.getElem?_toList];exact e)
theorem Na{H1:Hp}{lo hi:Int}{tk:Nat}{t u v:Tok}{Q:VK}{s1:Shared}(hcm:X.calm=true)(I1:Inv X pins σ H1 s1)(hlo:-1000<=lo)(hle:lo<=hi)(hhi:hi<=1000)
  (q:∀l,H1 l=none->Q (.ref l) (upd H1 l (.lst ((List.range (hi - lo).toNat).map λ(i:Nat)=>V.int (lo+i))))) :
  wpAny (model X.prog X.w) X.A (call (.type "list") [.ref s1.heap.objs.size]) (EP X pins σ Q) X.xe { s1 with heap:=s1.heap.push { cls:=.type "range",data:=.fields #[.int lo t,.int hi u,.int 1 v] },toks:=tk }:=by
 have hsize:Builtin.Range.rangeSize lo hi 1=((hi - lo).toNat:Nat):=by rw [rangeSize_one];split <;> omega
 have hn:(hi - lo).toNat<=2000:=by omega
 refine call_list_range (s:={ s1 with heap:=s1.heap.push { cls:=.type "range",data:=.fields #[.int lo t,.int hi u,.int 1 v] },toks:=tk }) (I1.ok.hd hcm) (IsRange.new ..) (small_one (by omega) (by omega) (by omega) (by omega)) hsize (Nat.le_trans hn (by decide)) λh2 t2 acc c k2 e2 ia=>?_
 have hp:s1.heap.objs.size<=(s1.heap.push { cls:=.type "range",data:=.fields #[.int lo t,.int hi u,.int 1 v] }).objs.size:=by rw [Heap.size_push];exact Nat.le_succ _
 have hz:((List.range (hi - lo).toNat).map λ(i:Nat)=>V.int (lo+i)).length<=sizeLine:=by rw [List.length_map,List.length_range];exact Nat.le_trans hn (show 2000<=sizeLine by decide)
 refine⟨.ref _,_,I1.laid (t':=t2) (o:=.lst _) (λb o e=>k2 b o (Heap.get?_push_of_some _ e)) hp ⟨hz,acc.toList,c,Ul ia,by simpa using e2⟩,rfl,q _ (I1.hok.fresh hp)⟩
theorem Um{e1:Expr}{ta:AE}{p p2 pos pos2:Pos}(hc:X.calm=true)(hg:Gl X "list") (hm:X.mg "list" = none) (hg2:Gl X "range") (hm2:X.mg "range" = none) (h1:VE X e1 ta)
  (hs:starEach [.Call (.Name "range" p2) [e1] [] pos2] X.env=[(false,eval (.Call (.Name "range" p2) [e1] [] pos2) X.env)]:=by rfl) (hs2:starEach [e1] X.env=[(false,eval e1 X.env)]:=by rfl) :
  VE X (.Call (.Name "list" p) [.Call (.Name "range" p2) [e1] [] pos2] [] pos) (Qbr ta):=by
 intro pins s σ H Q I zz205
 refine Ce zz205 fun τ μ R hst hcn h hq=>?_
 refine wpAny_Call_Name_kw (C0 I hg hm boot_list (PyProof.Rows.callWith_type1 ?_ hs rfl))
 rw [hs]
 refine Calls.spliced_cons (wpAny_Call_Name_kw (C0 I hg2 hm2 boot_range (PyProof.Rows.callWith_type1 ?_ hs2 rfl)))
 rw [hs2]
 refine Calls.spliced_cons (wpAny_mono (h1.run I hst hcn h) (λu1 s1 ⟨x,v,μ1,H1,I1,rv,S1,c1,rx,q1⟩=>Calls.spliced_nil ?_) λ_ _ e=>e)
 split at q1
 ·rename_i n _
  obtain⟨⟨n0,n1⟩,q1⟩:=q1
  cases RelA.int rx
  obtain⟨t,rfl⟩:=rv
  refine call_range_1 (Calls.spliced_nil (Na hc I1 (by omega) n0 n1 λl hl=>?_))
  refine hq _ _ _ _ (S1.trans (Kp.new hl _)) (c1.new hl (Cz (Lv _ 0))) Di ?_
  rw [Int.sub_zero]
  exact q1 l (c1.none hl)
 ·exact q1.elim
theorem Uo{e1 e2:Expr}{ta tb:AE}{p p2 pos pos2:Pos}(hc:X.calm=true)(hg:Gl X "list") (hm:X.mg "list" = none) (hg2:Gl X "range") (hm2:X.mg "range" = none) (h1:VE X e1 ta) (h2:VE X e2 tb)
  (hs:starEach [.Call (.Name "range" p2) [e1,e2] [] pos2] X.env=[(false,eval (.Call (.Name "range" p2) [e1,e2] [] pos2) X.env)]:=by rfl) (hs2:starEach [e1,e2] X.env=(false,eval e1 X.env) :: starEach [e2] X.env:=by rfl) (hs3:starEach [e2] X.env=[(false,eval e2 X.env)]:=by rfl) (hpl:(backTo pos2 (starEach [e2] X.env)).any (·.1)=false:=by rfl) :
  VE X (.Call (.Name "list" p) [.Call (.Name "range" p2) [e1,e2] [] pos2] [] pos) (Qbs ta tb):=by
 intro pins s σ H Q I zz206
 refine Ce zz206 fun τ μ R hst hcn h hq=>?_
 refine wpAny_Call_Name_kw (C0 I hg hm boot_list (PyProof.Rows.callWith_type1 ?_ hs rfl))
 rw [hs]
 refine Calls.spliced_cons (wpAny_Call_Name_kw (C0 I hg2 hm2 boot_range (PyProof.Rows.callWith_type1 ?_ hs2 hpl)))
 rw [hs2]
 refine Calls.spliced_cons (wpAny_mono (h1.run I hst hcn h) (λu1 s1 zu=>?_) λ_ _ e=>e)
 obtain⟨x,v,μ1,H1,I1,rv,S1,c1,rx,q1⟩:=zu
 rw [hs3]
 refine Calls.spliced_cons (wpAny_mono (h2.run I1 (hst.kp S1) c1 q1) (λu2 s2 zu=>Calls.spliced_nil ?_) λ_ _ e=>e)
 obtain⟨y,v2,μ2,H2,I2,rv2,S2,c2,ry,q2⟩:=zu
 split at q2
 ·rename_i m n
  obtain⟨⟨n0,n1,n2⟩,q2⟩:=q2
  cases RelA.int rx
  cases RelA.int ry
  obtain⟨t,rfl⟩:=rv
  obtain⟨t2,rfl⟩:=rv2
  refine call_range_2 (Calls.spliced_nil (Na hc I2 n0 n1 n2 λl hl=>?_))
  exact hq _ _ _ _ ((S1.trans S2).trans (Kp.new hl _)) (c2.new hl (Cz (Lv _ m))) Di (q2 l (c2.none hl))
 ·exact q2.elim
end
section
variable {prog:Program}{w:World}{A:Around}{E:Value->Shared->Prop}{s:Shared}
end
section
variable {X:Cx}{e st:Expr}{te ts:AE}{p2 pos:Pos}
end
section
variable {X:Cx}{tg:Expr}
end
def lets(z:Str):Prop:=∀c∈z.cps.toList,97<=c/\c<=122
theorem Qj(a b:Str):(a++b).cps.toList=a.cps.toList++b.cps.toList:=by
 show(a.cps++b.cps).toList=_
 simp
theorem Lw(z:Str):z.length=z.cps.toList.length:=by simp [Str.length]
theorem Jk{a b:Str}(ha:lets a)(hb:lets b):lets (a++b):=λc hc=>by
 rw [Qj]at hc
 rcases List.mem_append.mp hc with h | h
 ·exact ha c h
 ·exact hb c h
theorem Qbt:("" : Str).cps.toList=[]:=by decide +kernel
theorem Rz:∀{zs:List Str},(∀z∈zs,lets z)->lets (Txt.join "" zs):=λ{zs} h=>by
 show lets (PySem.Builtin.Str.glued "" zs)
 rw [StrLaws.glued_eq_join]
 induction zs with
 | nil=>exact λc hc=>by simp [Str.join,Str.empty]at hc
 | cons x zs ih =>
  cases zs with
  | nil=>exact h x List.mem_cons_self
  | cons y zs =>
   show lets (x ++ "" ++ Str.join "" (y :: zs))
   exact Jk (Jk (h x List.mem_cons_self) (λc hc=>by rw [Qbt]at hc;simp at hc)) (ih λz hz=>h z (List.mem_cons_of_mem _ hz))
section
variable {core lg:Str}{at' turn:Int}
end
end L2
namespace L2
open PySem PySem.SetTable
theorem Ct{α:Type} [DecidableEq α]:∀{xs ys:List α},xs.Nodup->(∀x∈xs,x∈ys)->xs.length<=ys.length
 | [],_,_,_=>Nat.zero_le _
 | x :: xs,ys,hn,h=>by
  have hn':=List.nodup_cons.mp hn
  have hx:=h x (.head _)
  have:=Ct (ys:=ys.erase x) hn'.2 λz hz=>(List.mem_erase_of_ne (by rintro rfl;exact hn'.1 hz)).mpr (h z (.tail _ hz))
  rw [List.length_erase_of_mem hx]at this
  have:0 < ys.length:=List.length_pos_of_mem hx
  rw [List.length_cons];omega
def advM(mask:Nat)(p:Probe):Probe :=
 if p.more > 0 then { p with j:=p.j+1,more:=p.more - 1 } else
 { p with j:=(leap mask p.i p.perturb).1,more:=runEnd mask (leap mask p.i p.perturb).1 - (leap mask p.i p.perturb).1,i:=(leap mask p.i p.perturb).1,perturb:=(leap mask p.i p.perturb).2 }
theorem Xv(t:SetTable)(p:Probe):t.advance p=advM t.mask p:=rfl
def R0(mask i perturb l:Nat):Probe:={ j:=i+l,more:=runEnd mask i - i - l,i:=i,perturb:=perturb,dummy:=none }
def Kw(mask:Nat)(h:Int):Nat->Probe
 | 0=>R0 mask (bits h % (mask+1)) (bits h) 0
 | n+1=>advM mask (Kw mask h n)
def sq(mask:Nat)(h:Int)(n:Nat):Nat:=(Kw mask h n).j
def rn(mask:Nat)(h:Int):Nat->Nat×Nat
 | 0=>(bits h % (mask+1),bits h)
 | r+1=>leap mask (rn mask h r).1 (rn mask h r).2
def nr(mask:Nat)(h:Int):Nat->Nat
 | 0=>0
 | r+1=>nr mask h r+(runEnd mask (rn mask h r).1 - (rn mask h r).1)+1
theorem Qbu(mask i:Nat):runEnd mask i - i<=9:=by unfold runEnd;split <;> omega
theorem Uq(mask i:Nat):i<=runEnd mask i:=by unfold runEnd;split <;> omega
theorem Nb{mask i:Nat}(h:i<=mask):runEnd mask i<=mask:=by unfold runEnd;split <;> omega
theorem Y4(mask:Nat)(h:Int):∀r,nr mask h r<=10 * r
 | 0=>Nat.le_refl _
 | r+1=>by
  have:=Y4 mask h r
  have:=Qbu mask (rn mask h r).1
  rw [nr];omega
theorem Ur(mask:Nat)(h:Int):∀r,(rn mask h r).1<=mask
 | 0=>by have:=Nat.mod_lt (bits h) (show 0 < mask+1 by omega);rw [rn];dsimp only;omega
 | r+1=>by
  rw [rn,leap]
  have:=Nat.mod_lt ((rn mask h r).1 * 5+1+(rn mask h r).2 / 32) (show 0 < mask+1 by omega)
  dsimp only;omega
theorem O6{mask:Nat}{h:Int}{n i pt:Nat}(e:Kw mask h n=R0 mask i pt 0):∀l,l<=runEnd mask i - i->Kw mask h (n+l)=R0 mask i pt l
 | 0,_=>e
 | l+1,hl=>by
  rw [<- Nat.add_assoc,Kw,O6 e l (by omega)]
  unfold advM
  rw [if_pos (show(R0 mask i pt l).more > 0 by show _ - l > 0;omega)]
  show Probe.mk _ _ _ _ _=Probe.mk _ _ _ _ _
  congr 1
theorem Qk(mask:Nat)(h:Int):∀r,Kw mask h (nr mask h r)=R0 mask (rn mask h r).1 (rn mask h r).2 0
 | 0=>rfl
 | r+1=>by
  rw [nr,Kw,O6 (Qk mask h r) _ (Nat.le_refl _)]
  unfold advM
  rw [if_neg (show ¬(R0 mask (rn mask h r).1 (rn mask h r).2 (runEnd mask (rn mask h r).1 - (rn mask h r).1)).more > 0 by show ¬(_ - _ - _ > 0);omega)]
  rfl
theorem G4{mask:Nat}{h:Int}{r l:Nat}(hl:l<=runEnd mask (rn mask h r).1 - (rn mask h r).1):sq mask h (nr mask h r+l)=(rn mask h r).1+l:=by
 unfold sq
 rw [O6 (Qk mask h r) l hl];rfl
theorem G5(mask:Nat)(h:Int):∀n,(Kw mask h n).dummy=none
 | 0=>rfl
 | n+1=>by
  rw [Kw,advM]
  split
  ·exact G5 mask h n
  ·exact G5 mask h n
theorem Y5(mask:Nat)(h:Int):∀r,(rn mask h r).2=bits h / 32 ^ r
 | 0=>by rw [rn,Nat.pow_zero,Nat.div_one]
 | r+1=>by
  rw [rn,leap]
  dsimp only
  rw [Y5 mask h r,Nat.div_div_eq_div_mul,Nat.pow_succ]
theorem Xw(h:Int):bits h < 2 ^ 64:=by
 unfold bits
 have h1:=Int.emod_lt_of_pos h (show(0:Int) < 2 ^ 64 by decide)
 have h2:=Int.emod_nonneg h (show(2 ^ 64:Int)≠0 by decide)
 omega
theorem Xx(mask:Nat)(h:Int)(r:Nat):(rn mask h (13+r+1)).1=((rn mask h (13+r)).1 * 5+1) % (mask+1):=by
 rw [rn,leap]
 dsimp only
 have e:(rn mask h (13+r)).2=0:=by
  rw [Y5]
  refine Nat.div_eq_of_lt (Nat.lt_of_lt_of_le (Xw h) ?_)
  exact Nat.le_trans (show 2 ^ 64<=32 ^ 13 by decide) (Nat.pow_le_pow_right (by decide) (by omega))
 rw [e]
def cyc(mask:Nat)(i:Nat):Nat->Nat
 | 0=>i
 | b+1=>(cyc mask i b * 5+1) % (mask+1)
theorem Us(mask:Nat)(h:Int):∀b,(rn mask h (13+b)).1=cyc mask (rn mask h 13).1 b
 | 0=>rfl
 | b+1=>by rw [<- Nat.add_assoc,Xx,Us mask h b];rfl
theorem Gk(mask i:Nat)(a:Nat):∀b,cyc mask (cyc mask i a) b=cyc mask i (a+b)
 | 0=>rfl
 | b+1=>by rw [cyc,Gk mask i a b];rfl
def Msk(mask:Nat):Prop:=mask=7\/mask=31\/mask=127\/mask=511
def orbit(mask:Nat):Nat->Nat->List Nat
 | 0,_=>[]
 | n+1,i=>i :: orbit mask n ((i * 5+1) % (mask+1))
theorem Kx(mask:Nat):∀(n i x:Nat),x∈orbit mask n i->∃b,b < n/\cyc mask i b=x
 | 0,_,_,h=>by cases h
 | n+1,i,x,h=>by
  rcases List.mem_cons.mp h with rfl | h
  ·exact⟨0,by omega,rfl⟩
  ·obtain⟨b,hb,e⟩:=Kx mask n _ x h
   refine⟨b+1,by omega,?_⟩
   rw [show b+1=1+b by omega,<- Gk]
   exact e
theorem Qic:((List.range 8).all λx=>(orbit 7 8 0).contains x)=true/\cyc 7 0 8=0:=by decide +kernel
theorem Qem:((List.range 32).all λx=>(orbit 31 32 0).contains x)=true/\cyc 31 0 32=0:=by decide +kernel
theorem Qbv:((List.range 128).all λx=>(orbit 127 128 0).contains x)=true/\cyc 127 0 128=0:=by decide +kernel
theorem Qbw:((List.range 512).all λx=>(orbit 511 512 0).contains x)=true/\cyc 511 0 512=0:=by decide +kernel
theorem orb{mask:Nat}(hm:Msk mask):((List.range (mask+1)).all λx=>(orbit mask (mask+1) 0).contains x)=true/\cyc mask 0 (mask+1)=0:=by
 rcases hm with rfl | rfl | rfl | rfl
 ·exact Qic
 ·exact Qem
 ·exact Qbv
 ·exact Qbw
theorem Xy{mask:Nat}(hm:Msk mask){i x:Nat}(hi:i<=mask)(hx:x<=mask):∃b,b<=mask+1/\cyc mask i b=x:=by
 obtain⟨h1,h2⟩:=orb hm
 have key:∀y,y<=mask->∃b,b < mask+1/\cyc mask 0 b=y:=λy hy=>Kx mask _ 0 y (by
  have:=List.all_eq_true.mp h1 y (List.mem_range.mpr (by omega))
  exact List.contains_iff_mem.mp this)
 obtain⟨a,ha,ea⟩:=key i hi
 obtain⟨c,hc,ec⟩:=key x hx
 rcases Nat.lt_or_ge c a with h | h
 ·refine⟨mask+1 - a+c,by omega,?_⟩
  rw [<- ea,Gk,show a+(mask+1 - a+c)=(mask+1)+c by omega,<- Gk,h2,ec]
 ·refine⟨c - a,by omega,?_⟩
  rw [<- ea,Gk,show a+(c - a)=c by omega,ec]
theorem reach{mask:Nat}(hm:Msk mask)(h:Int){x:Nat}(hx:x<=mask):∃r,r<=mask+14/\(rn mask h r).1=x:=by
 obtain⟨b,hb,e⟩:=Xy hm (Ur mask h 13) hx
 exact⟨13+b,by omega,by rw [Us,e]⟩
theorem Y6(mask:Nat)(h:Int):∀n,∃r l,l<=runEnd mask (rn mask h r).1 - (rn mask h r).1/\n=nr mask h r+l
 | 0=>⟨0,0,Nat.zero_le _,rfl⟩
 | n+1=>by
  obtain⟨r,l,hl,rfl⟩:=Y6 mask h n
  rcases Nat.lt_or_ge l (runEnd mask (rn mask h r).1 - (rn mask h r).1) with c | c
  ·exact⟨r,l+1,c,rfl⟩
  ·exact⟨r+1,0,Nat.zero_le _,by rw [nr];omega⟩
theorem Ql(mask:Nat)(h:Int)(n:Nat):sq mask h n<=mask:=by
 obtain⟨r,l,hl,rfl⟩:=Y6 mask h n
 rw [G4 hl]
 have:=Nb (Ur mask h r)
 have:=Uq mask (rn mask h r).1
 omega
theorem O7{mask:Nat}(hm:Msk mask)(h:Int)(occ:Nat->Prop) [DecidablePred occ]{x:Nat}(hx:x<=mask)(hn:¬occ x):∃n,n < 10 * turns mask/\¬occ (sq mask h n)/\∀m,m < n->occ (sq mask h m):=by
 obtain⟨r,hr,e⟩:=reach hm h hx
 have h0:¬occ (sq mask h (nr mask h r)):=by
  rw [show nr mask h r=nr mask h r+0 from rfl,G4 (Nat.zero_le _),e];exact hn
 have h1:nr mask h r < 10 * turns mask:=by have:=Y4 mask h r;unfold turns;omega
 generalize nr mask h r=k at h0 h1
 induction k using Nat.strongRecOn with
 | _ k ih =>
  by_cases c:∀m,m < k->occ (sq mask h m)
  ·exact⟨k,h1,h0,c⟩
  ·have⟨m,hm1,hm2⟩:∃m,m < k/\¬occ (sq mask h m):=by
    refine Classical.byContradiction λz=>c λm hm'=>Classical.byContradiction λy=>z ⟨m,hm',y⟩
   exact ih m hm1 hm2 (by omega)
theorem Qm{mask:Nat}(h:Int)(owner:Array (Option Nat))(hs:owner.size=mask+1):∀(fuel r:Nat),(∃k,r<=k/\k < r+fuel/\owner.getD (rn mask h k).1 none=none)->(∀m,m < nr mask h r->(owner.getD (sq mask h m) none).isSome=true) ->
  ∃n,layClean.free mask owner fuel (rn mask h r).1 (rn mask h r).2=some (sq mask h n)/\owner.getD (sq mask h n) none=none/\∀m,m < n->(owner.getD (sq mask h m) none).isSome=true
 | 0,r,⟨k,h1,h2,_⟩,_=>by omega
 | fuel+1,r,hk,ho=>by
  have hd:∀j,j<=mask->owner.getD j (some 0)=owner.getD j none:=λj hj=>by
   simp only [Array.getD,show j < owner.size by omega,dite_true]
  have hrl:=Ur mask h r
  have hre:=Nb hrl
  have hrg:=Uq mask (rn mask h r).1
  rw [layClean.free]
  cases c:(List.range (runEnd mask (rn mask h r).1+1 - (rn mask h r).1)).find? λk=>(owner.getD ((rn mask h r).1+k) (some 0)).isNone with
  | some k =>
   obtain⟨c1,c2,c3⟩:=List.find?_range_eq_some.mp c
   have hk2:=List.mem_range.mp c2
   refine⟨nr mask h r+k,?_,?_,λm hm=>?_⟩
   ·rw [G4 (by omega)]
   ·rw [G4 (by omega),<- hd _ (by omega)]
    exact Option.isNone_iff_eq_none.mp c1
   ·rcases Nat.lt_or_ge m (nr mask h r) with z | z
    ·exact ho m z
    ·have e:m=nr mask h r+(m - nr mask h r):=by omega
     rw [e,G4 (by omega),<- hd _ (by omega)]
     have:=c3 (m - nr mask h r) (by omega)
     cases q:owner.getD ((rn mask h r).1+(m - nr mask h r)) (some 0) with
     | none=>rw [q]at this;cases this
     | some _=>rfl
  | none =>
   have c':=List.find?_range_eq_none.mp c
   have hocc:∀l,l<=runEnd mask (rn mask h r).1 - (rn mask h r).1->(owner.getD ((rn mask h r).1+l) none).isSome=true:=λl hl=>by
    have:=c' l (by omega)
    rw [hd _ (by omega)]at this
    cases q:owner.getD ((rn mask h r).1+l) none with
    | none=>rw [q]at this;cases this
    | some _=>rfl
   refine Qm h owner hs fuel (r+1) ?_ λm hm=>?_
   ·obtain⟨k,h1,h2,h3⟩:=hk
    rcases Nat.eq_or_lt_of_le h1 with rfl | h1
    ·have:=hocc 0 (Nat.zero_le _)
     rw [Nat.add_zero,h3]at this;cases this
    ·exact⟨k,h1,by omega,h3⟩
   ·rcases Nat.lt_or_ge m (nr mask h r) with z | z
    ·exact ho m z
    ·have e:m=nr mask h r+(m - nr mask h r):=by omega
     rw [nr]at hm
     rw [e,G4 (by omega)]
     exact hocc _ (by omega)
structure Own(mask:Nat)(hs:List Int)(owner:Array (Option Nat))(k:Nat):Prop where
 size:owner.size=mask+1
 lt:∀j x,owner.getD j none=some x->x < k
 has:∀x,x < k->∃j,owner.getD j none=some x
 inj:∀j j' x,owner.getD j none=some x->owner.getD j' none=some x->j=j'
 path:∀j x h,owner.getD j none=some x->hs[x]?=some h->∃n,sq mask h n=j/\∀m,m < n->(owner.getD (sq mask h m) none).isSome=true
theorem Ut(o:Array (Option Nat))(j:Nat)(v:Option Nat)(hj:j < o.size)(i:Nat):(o.setIfInBounds j v).getD i none=if i=j then v else o.getD i none:=by
 rw [Array.getD_eq_getD_getElem?,Array.getD_eq_getD_getElem?,Array.getElem?_setIfInBounds]
 by_cases e:i=j
 ·subst e
  rw [if_pos rfl,if_pos hj,if_pos rfl];rfl
 ·rw [if_neg (λz=>e z.symm),if_neg e]
theorem Qn{o:Array (Option Nat)}{j x:Nat}(h:o.getD j none=some x):j < o.size:=by
 rw [Array.getD_eq_getD_getElem?]at h
 cases c:o[j]? with
 | none=>rw [c]at h;cases h
 | some y=>exact(Array.getElem?_eq_some_iff.mp c).1
theorem Uu{mask k:Nat}{hs:List Int}{owner:Array (Option Nat)}(o:Own mask hs owner k)(hk:k<=mask):∃x,x<=mask/\owner.getD x none=none:=by
 refine Classical.byContradiction λz=>?_
 have hall:∀j,j<=mask->∃x,owner.getD j none=some x:=λj hj=>by
  cases c:owner.getD j none with
  | none=>exact absurd ⟨j,hj,c⟩ z
  | some x=>exact⟨x,rfl⟩
 have h1:((List.range (mask+1)).map λj=>(owner.getD j none).getD 0).Nodup:=by
  rw [List.Nodup,List.pairwise_map]
  refine List.Pairwise.imp_of_mem (R:=(· < ·)) (λ{a b} ha hb hab e=>?_) List.pairwise_lt_range
  obtain⟨x,ex⟩:=hall a (by have:=List.mem_range.mp ha;omega)
  obtain⟨y,ey⟩:=hall b (by have:=List.mem_range.mp hb;omega)
  rw [ex,ey]at e
  have e':x=y:=e
  subst e'
  have:=o.inj a b x ex ey
  omega
 have h2:=Ct (ys:=List.range k) h1 λy hy=>by
  obtain⟨j,hj,rfl⟩:=List.mem_map.mp hy
  obtain⟨x,ex⟩:=hall j (by have:=List.mem_range.mp hj;omega)
  rw [ex]
  exact List.mem_range.mpr (o.lt j x ex)
 rw [List.length_map,List.length_range,List.length_range]at h2
 omega
theorem Uv{mask k:Nat}{hs:List Int}{owner:Array (Option Nat)}{h:Int}(hm:Msk mask)(o:Own mask hs owner k)(hk:k<=mask)(hh:hs[k]?=some h):∃j,layClean.free mask owner (turns mask) (bits h % (mask+1)) (bits h)=some j/\Own mask hs (owner.setIfInBounds j (some k)) (k+1):=by
 obtain⟨x,hx,ex⟩:=Uu o hk
 obtain⟨r,hr,er⟩:=reach hm h hx
 obtain⟨n,e1,e2,e3⟩:=Qm h owner o.size (turns mask) 0 ⟨r,Nat.zero_le _,by unfold turns;omega,by rw [er];exact ex⟩ (λm hm'=>absurd hm' (Nat.not_lt_zero _))
 have hj:sq mask h n < owner.size:=by have:=Ql mask h n;rw [o.size];omega
 have hg:=Ut owner (sq mask h n) (some k) hj
 refine⟨_,e1,by rw [Array.size_setIfInBounds];exact o.size,λj y e=>?_,λy hy=>?_,λj j' y a b=>?_,λj y g a b=>?_⟩
 ·rw [hg]at e
  split at e
  ·cases e;omega
  ·have:=o.lt j y e;omega
 ·rcases(show y < k\/y=k by omega) with h' | rfl
  ·obtain⟨j,ej⟩:=o.has y h'
   refine⟨j,?_⟩
   rw [hg,if_neg (by rintro rfl;rw [e2]at ej;cases ej)];exact ej
  ·exact⟨_,by rw [hg,if_pos rfl]⟩
 ·rw [hg]at a b
  split at a
  ·rename_i q1
   split at b
   ·rename_i q2;exact q1.trans q2.symm
   ·cases a;have:=o.lt _ _ b;omega
  ·split at b
   ·cases b;have:=o.lt _ _ a;omega
   ·exact o.inj j j' y a b
 ·have up:∀i,(owner.getD i none).isSome=true->((owner.setIfInBounds (sq mask h n) (some k)).getD i none).isSome=true:=λi hi=>by
   rw [hg]
   split
   ·rfl
   ·exact hi
  rw [hg]at a
  split at a
  ·rename_i q1
   cases a
   rw [hh]at b
   cases b
   exact⟨n,q1.symm,λm hm'=>up _ (e3 m hm')⟩
  ·obtain⟨n',f1,f2⟩:=o.path j y g a b
   exact⟨n',f1,λm hm'=>up _ (f2 m hm')⟩
def Xz(mask:Nat)(acc:Option (Array (Option Nat)×Nat))(h:Int):Option (Array (Option Nat)×Nat):=do
 let(owner,k) <- acc
 let j <- layClean.free mask owner (turns mask) (bits h % (mask+1)) (bits h)
 pure (owner.setIfInBounds j (some k),k+1)
theorem Nc{mask:Nat}(hm:Msk mask){hs:List Int}(hl:hs.length<=mask+1):∀(rest dn:List Int) (owner:Array (Option Nat)),hs=dn++rest->Own mask hs owner dn.length->∃owner',rest.foldl (Xz mask) (some (owner,dn.length))=some (owner',hs.length)/\Own mask hs owner' hs.length
 | [],dn,owner,e,o=>by
  rw [List.append_nil]at e
  subst e
  exact⟨owner,rfl,o⟩
 | h :: rest,dn,owner,e,o=>by
  have hk:dn.length<=mask:=by rw [e,List.length_append,List.length_cons]at hl;omega
  obtain⟨j,e1,o1⟩:=Uv hm o hk (h:=h) (by rw [e];simp)
  have e2:Xz mask (some (owner,dn.length)) h=some (owner.setIfInBounds j (some dn.length),(dn++[h]).length):=by
   unfold Xz
   simp only [Option.bind_eq_bind,Option.bind_some,e1,List.length_append]
   rfl
  rw [List.foldl_cons,e2]
  exact Nc hm hl rest (dn++[h]) _ (by rw [e];simp) (by rw [List.length_append];exact o1)
theorem Qbx{mask:Nat}(hm:Msk mask)(hs:Array Int)(hl:hs.size<=mask+1):∃owner,layClean mask hs=some owner/\Own mask hs.toList owner hs.size:=by
 have o0:Own mask hs.toList (Array.replicate (mask+1) none) 0:=by
  have hg:∀j,(Array.replicate (mask+1) (none:Option Nat)).getD j none=none:=λj=>by
   rw [Array.getD_eq_getD_getElem?,Array.getElem?_replicate]
   split <;> rfl
  exact⟨by simp,λj x e=>(by rw [hg]at e;cases e),λx hx=>absurd hx (Nat.not_lt_zero _),λj j' x e=>(by rw [hg]at e;cases e),λj x h e=>(by rw [hg]at e;cases e)⟩
 obtain⟨owner,e,o⟩:=Nc hm (hs:=hs.toList) (by simpa using hl) hs.toList [] _ rfl o0
 refine⟨owner,?_,by simpa using o⟩
 unfold layClean
 rw [<- Array.foldl_toList]
 have e':List.foldl (Xz mask) (some (Array.replicate (mask+1) none,0)) hs.toList=some (owner,hs.toList.length):=e
 exact(congrArg (Option.map (·.1)) e').trans rfl
structure TabQ(t:SetTable)(hs:List Int):Prop where
 msk:Msk t.mask
 len:t.place.size=hs.length
 le:∀j∈t.place.toList,j<=t.mask
 path:∀z∈t.place.toList.zip hs,∃n,sq t.mask z.2 n=z.1/\∀m,m < n->sq t.mask z.2 m∈t.place.toList
theorem X0{mask f mv:Nat}{led pl:Bool}(hm:Msk mask)(hs:Array Int)(hl:hs.size<=mask+1):∃t order,laid mask f mv led pl hs=some (t,order)/\t.mask=mask/\order.toList.Perm (List.range hs.size)/\TabQ t (order.toList.map λi=>hs.getD i 0):=by
 obtain⟨owner,e,o⟩:=Qbx hm hs hl
 have hlive:∀j x,(j,x)∈((List.range (mask+1)).filterMap λj=>(owner.getD j none).map (j,·))↔owner.getD j none=some x:=λj x=>by
  rw [List.mem_filterMap]
  constructor
  ·rintro⟨a,ha,q⟩
   obtain⟨y,ey,q2⟩:=Option.map_eq_some_iff.mp q
   cases q2;exact ey
  ·intro q
   refine⟨j,List.mem_range.mpr ?_,by rw [q];rfl⟩
   have:=Qn q;rw [o.size]at this;exact this
 have hnd:((List.range (mask+1)).filterMap λj=>(owner.getD j none).map (j,·)).Pairwise λp q=>p.2≠q.2:=by
  refine List.Pairwise.filterMap _ (R:=(· < ·)) (λa a' haa b hb b' hb'=>?_) List.pairwise_lt_range
  obtain⟨z,hz,rfl⟩:=Option.map_eq_some_iff.mp hb
  obtain⟨z',hz',rfl⟩:=Option.map_eq_some_iff.mp hb'
  intro q
  have q':z=z':=q
  subst q'
  have:=o.inj a a' z hz hz'
  omega
 refine⟨_,_,by unfold laid;rw [e];rfl,rfl,?_,?_⟩
 ·show(List.map (λp:Nat×Nat=>p.2) _).Perm _
  refine(List.perm_ext_iff_of_nodup ?_ List.nodup_range).mpr λx=>?_
  ·rw [List.Nodup,List.pairwise_map];exact hnd
  ·rw [List.mem_map,List.mem_range]
   constructor
   ·rintro⟨⟨j,y⟩,hy,rfl⟩
    exact o.lt j y ((hlive j y).mp hy)
   ·intro hx
    obtain⟨j,ej⟩:=o.has x hx
    exact⟨(j,x),(hlive j x).mpr ej,rfl⟩
 ·refine⟨hm,?_,λj hj=>?_,λz hz=>?_⟩
  ·show(List.map _ _).toArray.size=(List.map _ (List.map _ _)).length
   simp
  ·have hj':j∈List.map (·.1) ((List.range (mask+1)).filterMap λj=>(owner.getD j none).map (j,·)):=hj
   obtain⟨⟨a,b⟩,q,rfl⟩:=List.mem_map.mp hj'
   have:=Qn ((hlive a b).mp q)
   rw [o.size]at this
   show a<=mask
   omega
  ·have hz':z∈List.zip (List.map (·.1) ((List.range (mask+1)).filterMap λj=>(owner.getD j none).map (j,·))) (List.map (λi=>hs.getD i 0) (List.map (·.2) ((List.range (mask+1)).filterMap λj=>(owner.getD j none).map (j,·)))):=hz
   rw [List.map_map,List.zip_map',List.mem_map]at hz'
   obtain⟨⟨a,b⟩,q,rfl⟩:=hz'
   have qa:=(hlive a b).mp q
   have hb:=o.lt a b qa
   obtain⟨n,e1,e2⟩:=o.path a b (hs.getD b 0) qa (by rw [Array.getElem?_toList,Array.getD_eq_getD_getElem?,Array.getElem?_eq_getElem hb];rfl)
   refine⟨n,e1,λm hm'=>?_⟩
   obtain⟨y,ey⟩:=Option.isSome_iff_exists.mp (e2 m hm')
   exact List.mem_map.mpr ⟨(_,y),(hlive _ y).mpr ey,rfl⟩
theorem Ck{xs:Array Nat}(h:Dm xs){j k:Nat}(e:xs[k]?=some j):SetTable.below xs j=k:=by
 obtain⟨hk,ej⟩:=Array.getElem?_eq_some_iff.mp e
 obtain⟨h1,h2,h3⟩:=D5 h j
 have gk:xs.getD k j=j:=by rw [Array.getD_eq_getD_getElem?,e];rfl
 rcases Nat.lt_trichotomy (SetTable.below xs j) k with c | c | c
 ·have:=h.lt (d:=j) c hk
  have:=h3 _ (Nat.le_refl _) (by omega)
  omega
 ·exact c
 ·have:=h2 k c
  omega
theorem Lx{t:SetTable}{led:Bool}(h:TblOk t led){j:Nat}(hj:j∈t.place.toList):∃i,t.slot j=.live i/\t.place[i]?=some j:=by
 obtain⟨i,hi⟩:=List.getElem?_of_mem hj
 rw [Array.getElem?_toList]at hi
 refine⟨i,?_,hi⟩
 unfold SetTable.slot
 dsimp only
 rw [Ck h.rise hi,hi]
 simp
theorem Nd{t:SetTable}{led:Bool}(h:TblOk t led){j:Nat}(hj:j∉t.place.toList):t.slot j=.empty:=by
 unfold SetTable.slot
 dsimp only
 rw [h.dum,Iy,if_neg]
 ·rfl
 ·intro c
  have c':t.place[SetTable.below t.place j]?=some j:=by simpa using c
  rw [<- Array.getElem?_toList]at c'
  exact hj (List.mem_of_getElem? c')
theorem Jl{α β:Type}(a:α)(b:β):∀(p:Nat) (xs:List α) (ys:List β),xs.length=ys.length->(xs.take p++a :: xs.drop p).zip (ys.take p++b :: ys.drop p)=(xs.zip ys).take p++(a,b) :: (xs.zip ys).drop p
 | 0,xs,ys,_=>by simp
 | p+1,[],[],_=>by simp
 | p+1,x :: xs,y :: ys,h=>by
  have:=Jl a b p xs ys (by simpa using h)
  simpa using this
 | _+1,[],_ :: _,h=>by simp at h
 | _+1,_ :: _,[],h=>by simp at h
theorem TabQ.put{t:SetTable}{led:Bool}{hs:List Int}{h:Int}{n:Nat}(q:TabQ t hs)(T:TblOk t led)(ho:∀m,m < n->sq t.mask h m∈t.place.toList):TabQ (t.put (sq t.mask h n)).1 (hs.take (SetTable.below t.place (sq t.mask h n))++h :: hs.drop (SetTable.below t.place (sq t.mask h n))):=by
 have hp:SetTable.below t.place (sq t.mask h n)<=t.place.size:=(D5 T.rise _).1
 have e:(t.put (sq t.mask h n)).1.place.toList=t.place.toList.take (SetTable.below t.place (sq t.mask h n))++sq t.mask h n :: t.place.toList.drop (SetTable.below t.place (sq t.mask h n)):=Ez _ _ _ hp
 have hm:(t.put (sq t.mask h n)).1.mask=t.mask:=rfl
 have hlen:=q.len
 have up:∀j,j∈t.place.toList->j∈(t.put (sq t.mask h n)).1.place.toList:=λj hj=>by
  rw [e]
  rw [<- List.take_append_drop (SetTable.below t.place (sq t.mask h n)) t.place.toList]at hj
  rcases List.mem_append.mp hj with hj | hj
  ·exact List.mem_append_left _ hj
  ·exact List.mem_append_right _ (List.mem_cons_of_mem _ hj)
 have dn:∀j,j∈(t.put (sq t.mask h n)).1.place.toList->j=sq t.mask h n\/j∈t.place.toList:=λj hj=>by
  rw [e]at hj
  rcases List.mem_append.mp hj with hj | hj
  ·exact .inr (List.mem_of_mem_take hj)
  ·rcases List.mem_cons.mp hj with hj | hj
   ·exact .inl hj
   ·exact .inr (List.mem_of_mem_drop hj)
 refine⟨q.msk,?_,λj hj=>?_,λz hz=>?_⟩
 ·rw [<- Array.length_toList,e]
  simp only [List.length_append,List.length_cons,List.length_take,List.length_drop,Array.length_toList]
  omega
 ·rcases dn j hj with rfl | hj
  ·exact Ql _ _ _
  ·exact q.le j hj
 ·rw [e,Jl _ _ _ _ _ (by rw [Array.length_toList];exact hlen)]at hz
  rw [hm]
  have old:z∈t.place.toList.zip hs->∃n',sq t.mask z.2 n'=z.1/\∀m,m < n'->sq t.mask z.2 m∈(t.put (sq t.mask h n)).1.place.toList:=λhz=>by
   obtain⟨n',a,b⟩:=q.path z hz
   exact⟨n',a,λm hm'=>up _ (b m hm')⟩
  rcases List.mem_append.mp hz with hz | hz
  ·exact old (List.mem_of_mem_take hz)
  ·rcases List.mem_cons.mp hz with rfl | hz
   ·exact⟨n,rfl,λm hm'=>up _ (ho m hm')⟩
   ·exact old (List.mem_of_mem_drop hz)
theorem Uw{t:SetTable}{led:Bool}{hs:List Int}(q:TabQ t hs)(T:TblOk t led)(hl:hs.length<=t.mask):∃x,x<=t.mask/\x∉t.place.toList:=by
 refine Classical.byContradiction λz=>?_
 have:=Ct (ys:=t.place.toList) (List.nodup_range (n:=t.mask+1)) λx hx=>Classical.byContradiction λy=>z ⟨x,by have:=List.mem_range.mp hx;omega,y⟩
 rw [List.length_range,Array.length_toList,q.len]at this
 omega
theorem probe_ok{t:SetTable}{led:Bool}(T:TblOk t led){hashAt:Nat->Int}{h:Int}{e:Nat}(he:sq t.mask h e∉t.place.toList)(hb:∀m,m < e->sq t.mask h m∈t.place.toList):∀(f n:Nat),n<=e->e < n+f ->
  (SetTable.probe.go t hashAt h f (Kw t.mask h n)=some (.empty (sq t.mask h e) none)/\∀m i,n<=m->m < e->t.place[i]?=some (sq t.mask h m)->hashAt i≠h) \/
  ∃k i,n<=k/\k < e/\t.place[i]?=some (sq t.mask h k)/\hashAt i=h/\SetTable.probe.go t hashAt h f (Kw t.mask h n)=some (.candidate (sq t.mask h k) i (Kw t.mask h (k+1)))/\∀m i,n<=m->m < k->t.place[i]?=some (sq t.mask h m)->hashAt i≠h
 | 0,n,h1,h2=>by omega
 | f+1,n,h1,h2=>by
  rw [SetTable.probe.go]
  have uniq:∀{i i' j:Nat},t.place[i]?=some j->t.place[i']?=some j->i=i':=λa b=>(Ck T.rise a).symm.trans (Ck T.rise b)
  rcases Nat.eq_or_lt_of_le h1 with rfl | h1
  ·rw [show t.slot (Kw t.mask h n).j=.empty from Nd T he]
   dsimp only
   rw [G5]
   exact .inl ⟨rfl,λm i a b=>by omega⟩
  ·obtain⟨i,hi,hp⟩:=Lx T (hb n h1)
   rw [show t.slot (Kw t.mask h n).j=.live i from hi]
   dsimp only
   by_cases c:hashAt i=h
   ·rw [if_pos (by simpa using c)]
    exact .inr ⟨n,i,Nat.le_refl _,h1,hp,c,rfl,λm i a b=>by omega⟩
   ·rw [if_neg (by simpa using c),Xv]
    have hnx:∀i',t.place[i']?=some (sq t.mask h n)->hashAt i'≠h:=λi' hi'=>by rw [uniq hi' hp];exact c
    rcases probe_ok T he hb f (n+1) h1 (by omega) with⟨a,b⟩ | ⟨k,i',a1,a2,a3,a4,a5,a6⟩
    ·refine .inl ⟨a,λm i' m1 m2 m3=>?_⟩
     rcases Nat.eq_or_lt_of_le m1 with rfl | m1
     ·exact hnx i' m3
     ·exact b m i' m1 m2 m3
    ·refine .inr ⟨k,i',by omega,a2,a3,a4,a5,λm i'' m1 m2 m3=>?_⟩
     rcases Nat.eq_or_lt_of_le m1 with rfl | m1
     ·exact hnx i'' m3
     ·exact a6 m i'' m1 m2 m3
end L2
namespace L2
open PySem
section
variable {prog:Program}{w:World}
theorem Ux:∀(n q:Nat) (d:PyData) (u:Value) (as:List Addr) (A:Around) (E:Value->Shared->Prop) (s:Shared) (Q:Bool->Shared->Prop),d.depth<=n->n < q->Cano d=true->Reads s.heap u d as->Q false s->wpAny (model prog w) A (ofAClassStatement q u) Q E s:=by
 intro n
 induction n with
 | zero =>
  intro q d u as A E s Q hd hq hc hr h
  cases hr with
  | int i t=>unfold ofAClassStatement;exact wpAny_pure h
  | str x t=>unfold ofAClassStatement;exact wpAny_pure h
  | tuple a1 a2 a3 a4=>simp [PyData.depth]at hd
  | none=>simp [Cano]at hc
  | bool b=>simp [Cano]at hc
  | list a1 a2 a3 a4=>simp [Cano]at hc
  | dict a1 a2 a3 a4 a5=>simp [Cano]at hc
 | succ n ih =>
  intro q d u as A E s Q hd hq hc hr h
  cases hr with
  | int i t=>unfold ofAClassStatement;exact wpAny_pure h
  | str x t=>unfold ofAClassStatement;exact wpAny_pure h
  | none=>simp [Cano]at hc
  | bool b=>simp [Cano]at hc
  | list a1 a2 a3 a4=>simp [Cano]at hc
  | dict a1 a2 a3 a4 a5=>simp [Cano]at hc
  | @tuple a o items m ds as ho hcl hdt hi =>
   have hT:s.TypeIs (.ref a) "tuple" := ⟨o,ho,hcl⟩
   have hd':PyData.depthAll ds<=n:=by simp only [PyData.depth]at hd;omega
   have hc':Aq ds=true:=hc
   obtain⟨q',rfl⟩:∃q',q=q'+1:=⟨q - 1,by omega⟩
   unfold ofAClassStatement
   refine wpAny_bind (wpAny_typeOf hT ?_)
   dsimp only
   rw [if_pos (by decide:("tuple" == "tuple")=true)]
   refine wpAny_bind (wpAny_pure ?_)
   simp only [Bool.not_true,Bool.false_eq_true,if_false]
   refine wpAny_bind (wpAny_seqItems ho hdt ?_)
   dsimp only
   refine wpAny_bind (show wpAny _ _ (forIn items _ _) _ _ s from ?_)
   rw [<- Array.forIn_toList]
   refine wpAny_forIn_list _ (λrest r s'=>r.1=none/\s'=s/\∃lf bs,ReadsAll s.heap rest lf bs/\Aq lf=true/\PyData.depthAll lf<=n) _ ?_ ?_ _ _ ⟨rfl,rfl,ds,as,hi,hc',hd'⟩
   ·rintro v rest r s' ⟨hr,rfl,lf,bs,hl,hcl,hdl⟩
    cases hl with
    | @cons _ _ d ds' as1 bs1 h1 hl' =>
     simp only [Aq,Bool.and_eq_true]at hcl
     simp only [PyData.depthAll]at hdl
     refine wpAny_bind (ih q' d v as1 A _ s' _ (by omega) (by omega) hcl.1 h1 ?_)
     simp only [Bool.false_eq_true,if_false]
     exact wpAny_pure ⟨rfl,rfl,ds',bs1,hl',hcl.2,by omega⟩
   ·rintro⟨r1,r2⟩ s' ⟨hr,rfl,_⟩
    simp only at hr
    subst hr
    exact wpAny_pure h
theorem Qby:∀(n q:Nat) (d:PyData) (u:Value) (as:List Addr) (A:Around) (E:Value->Shared->Prop) (s:Shared) (Q:Bool->Shared->Prop),d.depth<=n->Cano d=true->Reads s.heap u d as->(∀b,Q b s)->wpAny (model prog w) A (hashByValue q u) Q E s:=by
 intro n
 induction n with
 | zero =>
  intro q d u as A E s Q hd hc hr h
  cases hr with
  | int i t=>unfold hashByValue;exact wpAny_pure (h _)
  | str x t=>unfold hashByValue;exact wpAny_pure (h _)
  | tuple a1 a2 a3 a4=>simp [PyData.depth]at hd
  | none=>simp [Cano]at hc
  | bool b=>simp [Cano]at hc
  | list a1 a2 a3 a4=>simp [Cano]at hc
  | dict a1 a2 a3 a4 a5=>simp [Cano]at hc
 | succ n ih =>
  intro q d u as A E s Q hd hc hr h
  cases hr with
  | int i t=>unfold hashByValue;exact wpAny_pure (h _)
  | str x t=>unfold hashByValue;exact wpAny_pure (h _)
  | none=>simp [Cano]at hc
  | bool b=>simp [Cano]at hc
  | list a1 a2 a3 a4=>simp [Cano]at hc
  | dict a1 a2 a3 a4 a5=>simp [Cano]at hc
  | @tuple a o items m ds as ho hcl hdt hi =>
   have hT:s.TypeIs (.ref a) "tuple" := ⟨o,ho,hcl⟩
   have hd':PyData.depthAll ds<=n:=by simp only [PyData.depth]at hd;omega
   have hc':Aq ds=true:=hc
   cases q with
   | zero=>unfold hashByValue;exact wpAny_pure (h _)
   | succ q' =>
    unfold hashByValue
    refine wpAny_bind (wpAny_specialOf hT F.slot_tuple_hash.lookup (show wpAny _ _ (seqItems? (.ref a) >>= _) _ _ s from ?_))
    refine wpAny_bind (wpAny_seqItems ho hdt (wpAny_bind (show wpAny _ _ (forIn items _ _) _ _ s from ?_)))
    rw [<- Array.forIn_toList]
    refine wpAny_forIn_list _ (λrest r s'=>r.1=none/\s'=s/\∃lf bs,ReadsAll s.heap rest lf bs/\Aq lf=true/\PyData.depthAll lf<=n) _ ?_ ?_ _ _ ⟨rfl,rfl,ds,as,hi,hc',hd'⟩
    ·rintro v rest r s' ⟨hr,rfl,lf,bs,hl,hcl,hdl⟩
     cases hl with
     | @cons _ _ d ds' as1 bs1 h1 hl' =>
      simp only [Aq,Bool.and_eq_true]at hcl
      simp only [PyData.depthAll]at hdl
      refine wpAny_bind (ih q' d v as1 A _ s' _ (by omega) hcl.1 h1 λb=>?_)
      cases b
      ·exact wpAny_pure (wpAny_pure (h _))
      ·exact wpAny_pure ⟨rfl,rfl,ds',bs1,hl',hcl.2,by omega⟩
    ·rintro⟨r1,r2⟩ s' ⟨hr,rfl,_⟩
     simp only at hr
     subst hr
     exact wpAny_pure (h _)
def Cg(h:Heap)(d:PyData)(b:Addr):Prop:=KeyTree d/\∃as,Reads h (.ref b) d as
variable {A:Around}{E:Value->Shared->Prop}{s:Shared}
theorem X1{d:PyData}{b:Addr}(hx:Cg s.heap d b):∀{vs:List Value} {Q:Bool->Shared->Prop},(∀v∈vs,∃e c,v=.ref c/\Cg s.heap e c)->Q false s->wpAny (model prog w) A (searchCouldBeSeen (.ref b) vs) Q E s:=by
 intro vs Q hv h
 obtain⟨kx,as,rx⟩:=hx
 unfold searchCouldBeSeen
 refine wpAny_bind (wpAny_forIn_list _ (λrest r s'=>r.1=none/\s'=s/\∀v∈rest,∃e c,v=.ref c/\Cg s.heap e c) _ ?_ ?_ _ _ ⟨rfl,rfl,hv⟩)
 ·rintro v rest ⟨r1,r2⟩ s' ⟨hr,rfl,hv'⟩
  obtain⟨e,c,rfl,ke,bs,re⟩:=hv' v (.head _)
  have hrest:∀v∈rest,∃e c,v=.ref c/\Cg s'.heap e c:=λv h=>hv' v (.tail _ h)
  dsimp only
  split
  ·exact wpAny_pure ⟨rfl,rfl,hrest⟩
  ·refine wpAny_bind (Ji 6 8 _ _ as _ _ _ _ kx.dep (by decide) kx.can rx ?_)
   simp only [Bool.not_true,Bool.false_eq_true,if_false]
   refine wpAny_bind (Ji 6 8 _ _ bs _ _ _ _ ke.dep (by decide) ke.can re ?_)
   simp only [Bool.not_true,Bool.false_eq_true,if_false]
   refine wpAny_bind (Ux 6 8 _ _ as _ _ _ _ kx.dep (by decide) kx.can rx ?_)
   simp only [Bool.false_eq_true,if_false]
   refine wpAny_bind (Ux 6 8 _ _ bs _ _ _ _ ke.dep (by decide) ke.can re ?_)
   simp only [Bool.false_eq_true,if_false]
   exact wpAny_pure ⟨rfl,rfl,hrest⟩
 ·rintro⟨r1,r2⟩ s' ⟨hr,rfl,_⟩
  simp only at hr
  subst hr
  exact wpAny_pure h
def J3(w:World)(x:PyData×Addr):Int×Value:=(Bc w x.1,.ref x.2)
def Ei(w:World)(h:Heap)(a:Addr)(xs:List (PyData×Addr))(led:Bool):Prop :=
 ∃o es ep t,h.get? a=some o/\o.ExactSet/\o.data=.set es ep t/\es.toList=xs.map (J3 w)/\(∀x∈xs,Cg h x.1 x.2)/\t.fits es.size=true/\TblOk t led/\TabQ t (xs.map λx=>Bc w x.1)/\xs.length * 5 < t.mask * 3
theorem O8{t:SetTable}{f g:Nat->Int}{h:Int}{p:SetTable.Probe}(e:∀i,f i=g i):t.probe f h p=t.probe g h p:=by rw [funext e]
theorem X2{t:SetTable}{hs:List Int}(q:TabQ t hs):t.gaveWay=false:=by
 unfold SetTable.gaveWay
 rcases q.msk with h | h | h | h <;> rw [h] <;> decide
theorem R3{a:Addr}{o:Obj}{es:Array (Int×Value)}{ep:Nat}{t:SetTable}{xs:List (PyData×Addr)}{led:Bool}{d:PyData}{b:Addr}{Q:SetFound->Shared->Prop}{fr:Nat}(hu:A.units+6 < cLine)(ho:s.heap.get? a=some o)(hd:o.data=.set es ep t)(hl:es.toList=xs.map (J3 w))(hX:∀x∈xs,Cg s.heap x.1 x.2)(hf:t.fits es.size=true)(hT:TblOk t led)(hQ:TabQ t (xs.map λx=>Bc w x.1))(hx:Cg s.heap d b)
  (he:sq t.mask (Bc w d) fr∉t.place.toList) (hb:∀m,m < fr->sq t.mask (Bc w d) m∈t.place.toList) (hfr:fr < 10 * SetTable.turns t.mask)
  (h1:d∈xs.map (·.1)->Q (.there none) s) (h2:d∉xs.map (·.1)->Q (.free (sq t.mask (Bc w d) fr) false) s) :
  ∀(k n fuel:Nat) (stand:Option SetTable.Probe),n+k=fr->k < fuel->(stand=some (Kw t.mask (Bc w d) n)\/stand=none/\n=0)->(∀(m i:Nat) (x:PyData×Addr),m < n->t.place[i]?=some (sq t.mask (Bc w d) m)->xs[i]?=some x->x.1≠d) ->
   wpAny (model prog w) A (setSearchFrom a (.ref b) (Bc w d) true fuel stand) Q E s:=by
 intro k
 induction k using Nat.strongRecOn with
 | _ k ih =>
 intro n fuel stand hn hfu hst hpass
 obtain⟨fuel,rfl⟩:∃f,fuel=f+1:=⟨fuel - 1,by omega⟩
 have hei:∀{i:Nat} {x:PyData×Addr},xs[i]?=some x->es[i]?=some (J3 w x):=λ{i x} h=>by
  rw [<- Array.getElem?_toList,hl,List.getElem?_map,h];rfl
 have hxi:∀{i j:Nat},t.place[i]?=some j->∃x,xs[i]?=some x:=λ{i j} h=>by
  have hi:=(Array.getElem?_eq_some_iff.mp h).1
  have:=hQ.len
  rw [List.length_map]at this
  exact⟨_,List.getElem?_eq_getElem (by omega)⟩
 unfold setSearchFrom
 refine wpAny_bind (wpAny_setState_of ho hd hf ?_)
 dsimp only
 rw [X2 hQ,if_neg Bool.false_ne_true]
 have hst':stand.getD (t.probeStart (Bc w d))=Kw t.mask (Bc w d) n:=by
  rcases hst with rfl | ⟨rfl,rfl⟩
  ·rfl
  ·rfl
 rw [hst',O8 (g:=λi=>((xs.map λx=>Bc w x.1)[i]?).getD 0) ?_]
 ·have key:=probe_ok (hashAt:=λi=>((xs.map λx=>Bc w x.1)[i]?).getD 0) hT he hb (10 * SetTable.turns t.mask) n (by omega) (by omega)
  rcases key with⟨a1,a2⟩ | ⟨k',i,b1,b2,b3,b4,b5,b6⟩
  ·rw [show t.probe (λi=>((xs.map λx=>Bc w x.1)[i]?).getD 0) (Bc w d) (Kw t.mask (Bc w d) n)=_ from a1]
   dsimp only
   refine wpAny_pure (h2 λhin=>?_)
   obtain⟨x,hxm,rfl⟩:=List.mem_map.mp hin
   obtain⟨i,hi⟩:=List.getElem?_of_mem hxm
   have hil:i < t.place.size:=by
    have:=hQ.len
    have:=(List.getElem?_eq_some_iff.mp hi).1
    rw [List.length_map]at *
    omega
   have hpi:t.place[i]?=some t.place[i]:=Array.getElem?_eq_getElem hil
   obtain⟨n',e1,e2⟩:=hQ.path (t.place[i],Bc w x.1) (List.mem_of_getElem? (i:=i) (by
    rw [List.getElem?_zip_eq_some]
    exact⟨by rw [Array.getElem?_toList];exact hpi,by rw [List.getElem?_map,hi];rfl⟩))
   dsimp only at e1 e2
   have hlt:n' < fr:=by
    rcases Nat.lt_trichotomy n' fr with c | c | c
    ·exact c
    ·subst c
     rw [e1]at he
     exact absurd (by rw [<- Array.getElem?_toList]at hpi;exact List.mem_of_getElem? hpi) he
    ·exact absurd (e2 fr c) he
   rw [<- e1]at hpi
   rcases Nat.lt_or_ge n' n with c | c
   ·exact hpass n' i x c hpi hi rfl
   ·exact a2 n' i c hlt hpi (by rw [List.getElem?_map,hi];rfl)
  ·rw [show t.probe (λi=>((xs.map λx=>Bc w x.1)[i]?).getD 0) (Bc w d) (Kw t.mask (Bc w d) n)=_ from b5]
   obtain⟨x,hi⟩:=hxi b3
   have hxm:=List.mem_of_getElem? hi
   dsimp only
   rw [hei hi]
   dsimp only [J3]
   split
   ·refine wpAny_bind (X1 hx (λv hv=>?_) ?_)
    ·obtain⟨e,he',rfl⟩:=List.mem_map.mp hv
     have hm:=(Array.mem_filter.mp (Array.mem_toList_iff.mp he')).1
     rw [<- Array.mem_toList_iff,hl]at hm
     obtain⟨y,hy,rfl⟩:=List.mem_map.mp hm
     exact⟨y.1,y.2,rfl,hX y hy⟩
    rw [if_neg Bool.false_ne_true]
    refine wpAny_bind (wpAny_holding ((Jj prog w).eqBool hu (hX x hxm) hx ?_))
    refine wpAny_bind (wpAny_setState_of ho hd hf ?_)
    dsimp only
    by_cases ceq:x.1=d
    ·rw [decide_eq_true ceq,if_pos (by rfl)]
     exact wpAny_pure (h1 (List.mem_map.mpr ⟨x,hxm,ceq⟩))
    ·rw [decide_eq_false ceq,if_neg (by decide),show t.sameMemory t.moves t.mask=some true by unfold SetTable.sameMemory;rw [if_pos (by simp)]]
     dsimp only
     obtain⟨i2,hs2,hp2⟩:=Lx hT (hb k' b2)
     have hi2:i2=i:=(Ck hT.rise hp2).symm.trans (Ck hT.rise b3)
     subst hi2
     rw [if_pos rfl,hs2]
     dsimp only
     rw [hei hi]
     dsimp only [J3]
     refine wpAny_bind (wpAny_isSame_ref_self (wpAny_bind (wpAny_pure ?_)))
     show wpAny _ _ (if false=true then _ else setSearchFrom a (.ref b) (Bc w d) true fuel (some (Kw t.mask (Bc w d) (k'+1)))) _ _ _
     rw [if_neg Bool.false_ne_true]
     refine ih (fr - (k'+1)) (by omega) (k'+1) fuel _ (by omega) (by omega) (.inl rfl) λm i3 y hm h3 h4=>?_
     rcases Nat.lt_or_ge m n with c | c
     ·exact hpass m i3 y c h3 h4
     ·rcases Nat.lt_or_ge m k' with c2 | c2
      ·intro e5
       refine b6 m i3 c c2 h3 ?_
       rw [List.getElem?_map,h4,<- e5];rfl
      ·have e6:m=k':=by omega
       subst e6
       have e7:i3=i2:=(Ck hT.rise h3).symm.trans (Ck hT.rise b3)
       subst e7
       rw [hi]at h4
       cases h4
       exact ceq
   ·refine wpAny_bind (wpAny_holding ((Jj prog w).eqBool hu (hX x hxm) hx ?_))
    refine wpAny_bind (wpAny_setState_of ho hd hf ?_)
    dsimp only
    by_cases ceq:x.1=d
    ·rw [decide_eq_true ceq,if_pos (by rfl)]
     exact wpAny_pure (h1 (List.mem_map.mpr ⟨x,hxm,ceq⟩))
    ·rw [decide_eq_false ceq,if_neg (by decide),show t.sameMemory t.moves t.mask=some true by unfold SetTable.sameMemory;rw [if_pos (by simp)]]
     dsimp only
     obtain⟨i2,hs2,hp2⟩:=Lx hT (hb k' b2)
     have hi2:i2=i:=(Ck hT.rise hp2).symm.trans (Ck hT.rise b3)
     subst hi2
     rw [if_pos rfl,hs2]
     dsimp only
     rw [hei hi]
     dsimp only [J3]
     refine wpAny_bind (wpAny_isSame_ref_self (wpAny_bind (wpAny_pure ?_)))
     show wpAny _ _ (if false=true then _ else setSearchFrom a (.ref b) (Bc w d) true fuel (some (Kw t.mask (Bc w d) (k'+1)))) _ _ _
     rw [if_neg Bool.false_ne_true]
     refine ih (fr - (k'+1)) (by omega) (k'+1) fuel _ (by omega) (by omega) (.inl rfl) λm i3 y hm h3 h4=>?_
     rcases Nat.lt_or_ge m n with c | c
     ·exact hpass m i3 y c h3 h4
     ·rcases Nat.lt_or_ge m k' with c2 | c2
      ·intro e5
       refine b6 m i3 c c2 h3 ?_
       rw [List.getElem?_map,h4,<- e5];rfl
      ·have e6:m=k':=by omega
       subst e6
       have e7:i3=i2:=(Ck hT.rise h3).symm.trans (Ck hT.rise b3)
       subst e7
       rw [hi]at h4
       cases h4
       exact ceq
 ·intro i
  show(es[i]?.map (·.1)).getD 0=_
  rw [<- Array.getElem?_toList,hl,List.getElem?_map,List.getElem?_map]
  cases xs[i]? <;> rfl
theorem Cg.but{h h':Heap}{p:Addr}{d:PyData}{b:Addr}(x:Cg h d b)(hk:∀c o,c≠p->h.get? c=some o->h'.get? c=some o)(hp:∀o vs n,h.get? p=some o->o.data≠.seq vs n):Cg h' d b:=let⟨k,as,r⟩:=x;⟨k,as,G2 hk hp r k.can⟩
theorem Jm{a:Addr}{led:Bool}{h:Heap}{o:Obj}{es:Array (Int×Value)}{ep:Nat}{t:SetTable}(ho:h.get? a=some o)(hex:o.ExactSet)(hd:o.data=.set es ep t){es':Array (Int×Value)}{t':SetTable}{xs':List (PyData×Addr)}(hl:es'.toList=xs'.map (J3 w))(hX:∀x∈xs',Cg h x.1 x.2)(hf:t'.fits es'.size=true)(hT:TblOk t' led)(hQ:TabQ t' (xs'.map λx=>Bc w x.1)) :
  (h.update a (Obj.putSet es' t')).get? a=some { o with data:=.set es' (ep+1) t' }/\(∀x∈xs',Cg (h.update a (Obj.putSet es' t')) x.1 x.2)/\(xs'.length * 5 < t'.mask * 3->Ei w (h.update a (Obj.putSet es' t')) a xs' led):=by
 have e:=Heap.get?_update_self (Obj.putSet es' t') ho (by rw [putSet_of es' t' hd];rfl)
 rw [putSet_of es' t' hd]at e
 have hX':∀x∈xs',Cg (h.update a (Obj.putSet es' t')) x.1 x.2:=λx hx=>(hX x hx).but (p:=a) (λc o hc e=>((Heap.SameBut.update h a (Obj.putSet es' t')).2 c hc).trans e) (λo' vs n e' q=>by rw [ho]at e';cases e';rw [hd]at q;cases q)
 exact⟨e,hX',λhB=>⟨_,es',ep+1,t',e,hex,rfl,hl,hX',hf,hT,hQ,hB⟩⟩
theorem Jo{α:Type}:∀(ys pre:List α),(List.range' pre.length ys.length).filterMap (λi=>(pre++ys)[i]?)=ys
 | [],pre=>rfl
 | y :: ys,pre=>by
  have:=Jo ys (pre++[y])
  rw [List.length_append,List.append_assoc]at this
  rw [List.length_cons,List.range'_succ,List.filterMap_cons,List.getElem?_append_right (Nat.le_refl _),Nat.sub_self]
  show y :: _=_
  exact congrArg (y :: ·) this
theorem O9{α:Type}{xs:List α}{l:List Nat}(hp:l.Perm (List.range xs.length)):(l.filterMap λi=>xs[i]?).Perm xs:=by
 have h1:=hp.filterMap λi=>xs[i]?
 have h2:=Jo xs []
 rw [List.nil_append,List.length_nil,<- List.range_eq_range']at h2
 rwa [h2]at h1
theorem Ky{xs:List (PyData×Addr)}{hs:Array Int}(hh:hs.toList=xs.map λx=>Bc w x.1):∀(l:List Nat),(∀i∈l,i < xs.length)->(l.map λi=>hs.getD i 0)=(l.filterMap λi=>xs[i]?).map λx=>Bc w x.1
 | [],_=>rfl
 | i :: l,hl=>by
  have hi:=hl i (.head _)
  have e:xs[i]?=some xs[i]:=List.getElem?_eq_getElem hi
  rw [List.map_cons,List.filterMap_cons,e,List.map_cons,Ky hh l λj hj=>hl j (.tail _ hj)]
  rw [Array.getD_eq_getD_getElem?,<- Array.getElem?_toList,hh,List.getElem?_map,e];rfl
theorem Uy{a:Addr}{led:Bool}{o:Obj}{es:Array (Int×Value)}{ep:Nat}{t:SetTable}{xs:List (PyData×Addr)}{wanted:Nat}{Q:Unit->Shared->Prop}(ho:s.heap.get? a=some o)(hex:o.ExactSet)(hd:o.data=.set es ep t)(hl:es.toList=xs.map (J3 w))(hX:∀x∈xs,Cg s.heap x.1 x.2)(hf:t.fits es.size=true)(hT:TblOk t led)
  (hm:Msk (SetTable.sizeAbove wanted - 1)) (hz:SetTable.sizeAbove wanted<=sizeLine) (hn:xs.length * 5 < (SetTable.sizeAbove wanted - 1) * 3)
  (h:∀h' xs',Heap.SameBut a s.heap h'->Ei w h' a xs' led->xs'.Perm xs->Q () { s with heap:=h' }):wpAny (model prog w) A (setRelay a wanted) Q E s:=by
 have hes:es.size=xs.length:=by rw [<- Array.length_toList,hl,List.length_map]
 have hhs:(es.map (·.1)).toList=xs.map λx=>Bc w x.1:=by rw [Array.toList_map,hl,List.map_map];rfl
 obtain⟨t',order,e1,e2,e3,e4⟩:=X0 (f:=t.finger) (mv:=t.movedTo (SetTable.sizeAbove wanted - 1)) (led:=t.led) (pl:=t.plain) hm (es.map (·.1)) (by rw [Array.size_map,hes];omega)
 rw [Array.size_map,hes]at e3
 have hT':TblOk t' led:=by have:=TblOk.laid e1;rw [hT.led]at this;exact this
 have hlt:∀i∈order.toList,i < xs.length:=λi hi=>List.mem_range.mp (e3.mem_iff.mp hi)
 rw [Ky hhs order.toList hlt]at e4
 have hxp:=O9 e3
 have hes':(order.filterMap λi=>es[i]?).toList=(order.toList.filterMap λi=>xs[i]?).map (J3 w):=by
  rw [Array.toList_filterMap,List.map_filterMap]
  congr 1
  funext i
  rw [<- Array.getElem?_toList,hl,List.getElem?_map]
 have hsz':(order.filterMap λi=>es[i]?).size=es.size:=by rw [<- Array.length_toList,hes',List.length_map,hxp.length_eq,hes]
 unfold setRelay
 refine wpAny_bind (wpAny_setState_of ho hd hf (show wpAny _ _ _ _ _ _ from ?_))
 dsimp only
 rw [if_neg (Nat.not_lt.mpr hz),show t.relaid (es.map (·.1)) wanted=some (t',order) from e1]
 refine wpAny_bind (show wpAny _ _ (if((order.filterMap λi=>es[i]?).size != es.size)=true then _ else pure (order.filterMap λi=>es[i]?,t')) _ _ _ from ?_)
 rw [if_neg (by rw [hsz'];simp)]
 refine wpAny_pure (show wpAny _ _ (storeSet a (order.filterMap λi=>es[i]?) t') _ _ _ from ?_)
 generalize (order.filterMap λi=>es[i]?)=es2 at hes' hsz'
 generalize (order.toList.filterMap λi=>xs[i]?)=xs2 at hes' hxp e4
 have hl2:=hxp.length_eq
 have hf2:t'.fits es2.size=true:=by
  have:=e4.len
  rw [List.length_map]at this
  simp only [SetTable.fits,SetTable.fill,hT'.dum,Bool.and_eq_true,beq_iff_eq,decide_eq_true_eq]
  rw [e2,hsz']
  refine⟨by omega,?_⟩
  show t'.place.size+0<=_
  omega
 obtain⟨g1,g2,g3⟩:=Jm (led:=led) ho hex hd hes' (λx hx=>hX x (hxp.mem_iff.mp hx)) hf2 hT' e4
 exact wpAny_storeSet_of ho hd (h _ _ (Heap.SameBut.update _ _ _) (g3 (by rw [e2];omega)) hxp) (by rw [hsz',hes];have:sizeLine=16777216:=rfl;omega)
theorem TabQ.pln{t:SetTable}{hs:List Int}(q:TabQ t hs)(b:Bool):TabQ { t with plain:=b } hs:=⟨q.msk,q.len,q.le,q.path⟩
theorem Uz{a:Addr}{led:Bool}{xs:List (PyData×Addr)}{d:PyData}{b:Addr}{Q:Bool->Shared->Prop}(hu:A.units+6 < cLine)(hx:Cg s.heap d b)(hS:Ei w s.heap a xs led)(hn:xs.length < 305)
  (h1:d∈xs.map (·.1)->Q false s) (h2:d∉xs.map (·.1)->∀h' xs',Heap.SameBut a s.heap h'->Ei w h' a xs' led->xs'.Perm ((d,b) :: xs)->Q true { s with heap:=h' }) :
  wpAny (model prog w) A (setAddHashed a (.ref b) (Bc w d)) Q E s:=by
 obtain⟨o,es,ep,t,ho,hex,hd,hl,hX,hf,hT,hQ,hB⟩:=hS
 have hes:es.size=xs.length:=by rw [<- Array.length_toList,hl,List.length_map]
 have hpl:t.place.size=xs.length:=by have:=hQ.len;rwa [List.length_map]at this
 obtain⟨x0,hx1,hx2⟩:=Uw hQ hT (by rw [List.length_map];omega)
 obtain⟨fr,f1,f2,f3⟩:=O7 hQ.msk (Bc w d) (λj=>j∈t.place.toList) hx1 hx2
 unfold setAddHashed setAddHashedIn
 refine wpAny_holding (wpAny_bind (wpAny_setState_of ho hd hf (show wpAny _ _ _ _ _ _ from ?_)))
 dsimp only
 rw [show byScan (.ref b) es=false from rfl,if_neg Bool.false_ne_true]
 unfold setSearch
 refine wpAny_bind (R3 hu ho hd hl hX hf hT hQ hx f2 f3 f1 (λhin=>?_) (λhni=>?_) fr 0 100000 none (by omega) ?_ (.inr ⟨rfl,rfl⟩) (λm i x hm=>absurd hm (Nat.not_lt_zero _)))
 ·exact wpAny_pure (h1 hin)
 ·dsimp only
  refine wpAny_bind (wpAny_setState_of ho hd hf ?_)
  dsimp only
  have hp:SetTable.below t.place (sq t.mask (Bc w d) fr)<=t.place.size:=(D5 hT.rise _).1
  have hQ1:=hQ.put (h:=Bc w d) (n:=fr) hT f3
  have hT1:=hT.put (Iz hT (Nd hT f2))
  have e2:(t.put (sq t.mask (Bc w d) fr)).2=SetTable.below t.place (sq t.mask (Bc w d) fr):=rfl
  have e3:(t.put (sq t.mask (Bc w d) fr)).1.mask=t.mask:=rfl
  rw [e2]
  have hsz:(t.put (sq t.mask (Bc w d) fr)).1.place.size=xs.length+1:=by
   have:=hQ1.len
   rw [this]
   simp only [List.length_append,List.length_cons,List.length_take,List.length_drop,List.length_map]
   omega
  generalize hpp:SetTable.below t.place (sq t.mask (Bc w d) fr)=p at hp hQ1 ⊢
  generalize (t.put (sq t.mask (Bc w d) fr)).1=t1 at hQ1 hT1 e3 hsz ⊢
  have hl1:(SetTable.insertAt es p (Bc w d,.ref b)).toList=(xs.take p++(d,b) :: xs.drop p).map (J3 w):=by
   rw [Ez _ _ _ (by omega),hl,List.map_append,List.map_cons,List.map_take,List.map_drop];rfl
  have hQ2:TabQ t1 ((xs.take p++(d,b) :: xs.drop p).map λx=>Bc w x.1):=by
   rw [List.map_append,List.map_cons,List.map_take,List.map_drop];exact hQ1
  have hperm:(xs.take p++(d,b) :: xs.drop p).Perm ((d,b) :: xs):=by
   refine List.perm_middle.trans ?_
   rw [List.take_append_drop]
  have hlen:=hperm.length_eq
  rw [List.length_cons]at hlen
  have hX1:∀x∈xs.take p++(d,b) :: xs.drop p,Cg s.heap x.1 x.2:=λx hx'=>by
   rcases List.mem_cons.mp (hperm.mem_iff.mp hx') with rfl | hx'
   ·exact hx
   ·exact hX x hx'
  have hsz1:(SetTable.insertAt es p (Bc w d,.ref b)).size=xs.length+1:=by rw [<- Array.length_toList,hl1,List.length_map,hlen]
  generalize SetTable.insertAt es p (Bc w d,.ref b)=es1 at hl1 hsz1 ⊢
  generalize xs.take p++(d,b) :: xs.drop p=xs1 at hl1 hQ2 hperm hlen hX1
  clear hpp hp hQ1 e2
  have hsl:sizeLine=16777216:=rfl
  have fin:∀t2:SetTable,t2.mask=t.mask->t2.place.size=xs.length+1->TblOk t2 led->TabQ t2 (xs1.map λx=>Bc w x.1)->wpAny (model prog w) A (do
    storeSet a es1 t2
    if(!false && t2.tooFull)=true then do
     setRelay a (SetTable.grown (es.size+1))
     pure true
    else pure true) Q E s:=λt2 g1 g2 g3 g4=>by
   have hf2:t2.fits es1.size=true:=by
    simp only [SetTable.fits,SetTable.fill,g3.dum,Bool.and_eq_true,beq_iff_eq,decide_eq_true_eq]
    refine⟨by omega,?_⟩
    show t2.place.size+0<=_
    rcases hQ.msk with c | c | c | c <;> omega
   obtain⟨k1,k2,k3⟩:=Jm (led:=led) ho hex hd hl1 hX1 hf2 g3 g4
   have b1:=Heap.SameBut.update s.heap a (Obj.putSet es1 t2)
   refine wpAny_bind (wpAny_storeSet_of ho hd ?_ (by omega))
   have hfull:t2.tooFull=decide ((xs.length+1) * 5>=t.mask * 3):=by
    unfold SetTable.tooFull SetTable.fill
    rw [g1,g2,g3.dum];rfl
   by_cases c:(xs.length+1) * 5>=t.mask * 3
   ·rw [if_pos (by rw [hfull,decide_eq_true c];rfl)]
    have hcase:(t.mask=7/\es.size+1=5)\/(t.mask=31/\es.size+1=19)\/(t.mask=127/\es.size+1=77):=by
     rcases hQ.msk with q | q | q | q
     ·exact .inl ⟨q,by omega⟩
     ·exact .inr (.inl ⟨q,by omega⟩)
     ·exact .inr (.inr ⟨q,by omega⟩)
     ·omega
    have hw:Msk (SetTable.sizeAbove (SetTable.grown (es.size+1)) - 1)/\SetTable.sizeAbove (SetTable.grown (es.size+1))<=sizeLine/\xs1.length * 5 < (SetTable.sizeAbove (SetTable.grown (es.size+1)) - 1) * 3:=by
     rcases hcase with⟨_,q⟩ | ⟨_,q⟩ | ⟨_,q⟩
     ·rw [q,show SetTable.sizeAbove (SetTable.grown 5)=32 by decide +kernel]
      exact⟨.inr (.inl rfl),by omega,by omega⟩
     ·rw [q,show SetTable.sizeAbove (SetTable.grown 19)=128 by decide +kernel]
      exact⟨.inr (.inr (.inl rfl)),by omega,by omega⟩
     ·rw [q,show SetTable.sizeAbove (SetTable.grown 77)=512 by decide +kernel]
      exact⟨.inr (.inr (.inr rfl)),by omega,by omega⟩
    refine wpAny_bind (Uy (s:={ s with heap:=s.heap.update a (Obj.putSet es1 t2) }) (o:={ o with data:=.set es1 (ep+1) t2 }) k1 hex rfl hl1 k2 hf2 g3 hw.1 hw.2.1 hw.2.2 λh' xs' c1 c2 c3=>wpAny_pure ?_)
    exact h2 hni h' xs' (b1.trans c1) c2 (c3.trans hperm)
   ·rw [if_neg (by rw [hfull,decide_eq_false c];decide)]
    exact wpAny_pure (h2 hni _ _ b1 (k3 (by rw [g1];omega)) hperm)
  split
  ·obtain⟨kx,as,rx⟩:=hx
   refine wpAny_bind (Qby 6 8 _ _ as _ _ _ _ kx.dep kx.can rx λbv=>?_)
   cases bv
   ·exact fin _ e3 hsz (hT1.plain false) (hQ2.pln false)
   ·exact fin _ e3 hsz hT1 hQ2
  ·exact wpAny_bind (wpAny_pure (fin _ e3 hsz hT1 hQ2))
 ·have:SetTable.turns t.mask<=600:=by unfold SetTable.turns;rcases hQ.msk with c | c | c | c <;> omega
  omega
end
end L2
namespace L2
open PySem PySem.Spec PyProof.Rows
section
variable {prog:Program}{w:World}{A:Around}{R:Result->Shared->Prop}{sa it t:Addr}{led:Bool}
structure StepIt(prog:Program)(w:World)(it t:Addr)(items:Array Value)(St:Nat->Heap->Prop):Prop where
 item:∀{A:Around} {E:Value->Shared->Prop} {s:Shared} {i:Nat} {x:Value} {Q:Option Value->Shared->Prop},St i s.heap->items[i]?=some x->(∀h',St (i+1) h'->Heap.SameBut it s.heap h'->Q (some x) { s with heap:=h' })->wpAny (model prog w) A (pyNext (.ref it)) Q E s
 fin:∀{A:Around} {E:Value->Shared->Prop} {s:Shared} {i:Nat} {Q:Option Value->Shared->Prop},A.handled=none->St i s.heap->items[i]?=none->(∀h',Heap.ExtBut it s.heap h'->Q none { s with heap:=h' })->wpAny (model prog w) A (pyNext (.ref it)) Q E s
 keep:∀{i:Nat} {h h':Heap} {p:Addr},it≠p->t≠p->St i h->Heap.SameBut p h h'->St i h'
 noseq:∀{i:Nat} {h:Heap} {o:Obj} {vs:Array Value} {n:Nat},St i h->h.get? it=some o->o.data≠.seq vs n
theorem Kz{items:Array Value}(hit:t≠it):StepIt prog w it t items λi h=>h.IsListIter it t i/\h.IsList t items where
 item:=λst hx q=>wpAny_pyNext_list_item st.1 st.2 hx λh' s1 sb=>q h' ⟨s1,let⟨o,e,r⟩:=st.2;⟨o,(sb.2 t hit).trans e,r⟩⟩ sb
 fin:=λhh st hx q=>wpAny_pyNext_list_end hh st.1 st.2 hx q
 keep:=λh1 h2 st sb=>⟨st.1.at λo e=>(sb.2 it h1).trans e,let⟨o,e,r⟩:=st.2;⟨o,(sb.2 t h2).trans e,r⟩⟩
 noseq:=λst e q=>by
  obtain⟨⟨o,e',c,d⟩,_⟩:=st
  rw [e]at e';cases e'
  rw [d]at q;cases q
theorem Jp{items:Array Value}(hit:t≠it):StepIt prog w it t items λi h=>h.IsTupleIter it t i/\h.IsTuple t items where
 item:=λst hx q=>wpAny_pyNext_tuple_item st.1 st.2 hx λh' s1 sb=>q h' ⟨s1,st.2.at λo e=>(sb.2 t hit).trans e⟩ sb
 fin:=λhh st hx q=>wpAny_pyNext_tuple_end hh st.1 st.2 hx q
 keep:=λh1 h2 st sb=>⟨st.1.at λo e=>(sb.2 it h1).trans e,st.2.at λo e=>(sb.2 t h2).trans e⟩
 noseq:=λst e q=>by
  obtain⟨⟨o,e',c,d⟩,_⟩:=st
  rw [e]at e';cases e'
  rw [d]at q;cases q
theorem Ei.at{h h':Heap}{xs:List (PyData×Addr)}(x:Ei w h sa xs led)(hs:∀o,h.get? sa=some o->h'.get? sa=some o)(hX:∀x∈xs,Cg h x.1 x.2->Cg h' x.1 x.2):Ei w h' sa xs led:=by
 obtain⟨o,es,ep,tt,e,a1,a2,a3,a4,r⟩:=x
 exact⟨o,es,ep,tt,hs o e,a1,a2,a3,λx hx=>hX x hx (a4 x hx),r⟩
theorem Ei.noseq{h:Heap}{xs:List (PyData×Addr)}(x:Ei w h sa xs led){o:Obj}{vs:Array Value}{n:Nat}(e:h.get? sa=some o):o.data≠.seq vs n:=λq=>by
 obtain⟨o',es,ep,tt,e',_,a2,_⟩:=x
 rw [e]at e';cases e'
 rw [a2]at q;cases q
theorem K0{St:Nat->Heap->Prop}{items:Array Value}(S:StepIt prog w it t items St)(hh:A.handled=none)(hu:A.units+20 < cLine)(hne:sa≠it)(hst:sa≠t){ks:List (PyData×Addr)}(hks:items.toList=ks.map λx=>.ref x.2)(hsz:items.size < 304) :
  ∀(m i:Nat) (s:Shared) (xs:List (PyData×Addr)),m+i=items.size->St i s.heap->Ei w s.heap sa xs led->(∀x∈ks,Cg s.heap x.1 x.2)->(xs.map (·.1)).Nodup->(∀d,d∈xs.map (·.1)↔d∈(ks.take i).map (·.1))->(∀x∈xs,x∈ks)->xs.length<=i ->
   (∀h' tk xs',(∀b o,b≠sa->b≠it->s.heap.get? b=some o->h'.get? b=some o)->Ei w h' sa xs' led->(xs'.map (·.1)).Nodup->(∀d,d∈xs'.map (·.1)↔d∈ks.map (·.1))->(∀x∈xs',x∈ks)->xs'.length<=items.size->R (.ok (.ret .none)) { s with heap:=h',toks:=tk }) ->
   codeAny (model prog w) A (.builtin "set.update.loop" ⟨[.ref sa,.ref it],[]⟩) R s:=by
 have hkl:ks.length=items.size:=by rw [<- Array.length_toList,hks,List.length_map]
 intro m
 induction m with
 | zero =>
  intro i s xs hm hI hS hX hN hd hin hl q
  refine codeAny_builtin Gh ?_
  rw [Around.under_plainId Dd _]
  refine(show wpAny _ A.in1 (pyNext (.ref it) >>= _) _ _ s from wpAny_bind (S.fin (show A.in1.handled=none from hh) hI (by rw [Array.getElem?_eq_none (by omega)]) λh' hx=>?_))
  refine wpAny_pure (q h' s.toks xs (λb o h1 h2 e=>hx b o h2 e) ?_ hN (λd=>?_) hin (by omega))
  ·exact hS.at (λo e=>hx sa o hne e) λx _ tr=>tr.but (p:=it) (λc o hc e=>hx c o hc e) λo vs n e=>S.noseq hI e
  ·rw [hd d,List.take_of_length_le (by omega)]
 | succ m ih =>
  intro i s xs hm hI hS hX hN hd hin hl q
  have hi:i < items.size:=by omega
  have hki:i < ks.length:=by omega
  have hx:items[i]?=some (.ref ks[i].2):=by
   rw [<- Array.getElem?_toList,hks,List.getElem?_map,List.getElem?_eq_getElem hki];rfl
  have htk:∀d,d∈(ks.take (i+1)).map (·.1)↔d=ks[i].1\/d∈(ks.take i).map (·.1):=λd=>by
   rw [List.take_succ,List.getElem?_eq_getElem hki,List.map_append,List.mem_append]
   simp only [Option.toList_some,List.map_cons,List.map_nil,List.mem_singleton]
   exact Or.comm
  have hkm:=List.getElem_mem hki
  generalize ks[i]=kx at hx htk hkm
  obtain⟨d0,b0⟩:=kx
  refine codeAny_builtin Gh ?_
  rw [Around.under_plainId Dd _]
  refine(show wpAny _ A.in1 (pyNext (.ref it) >>= _) _ _ s from wpAny_bind (S.item hI hx λh1 st1 sb1=>?_))
  have tr1:∀{d:PyData} {b:Addr},Cg s.heap d b->Cg h1 d b:=λtr=>tr.but (p:=it) (λc o hc e=>(sb1.2 c hc).trans e) λo vs n e=>S.noseq hI e
  have hS1:Ei w h1 sa xs led:=hS.at (λo e=>(sb1.2 sa hne).trans e) λx _ tr=>tr1 tr
  have hT0:Cg h1 d0 b0:=tr1 (hX _ hkm)
  refine(show wpAny _ A.in1 (holding [.ref b0] (setAdd sa (.ref b0)) >>= _) _ _ _ from wpAny_bind (wpAny_holding ?_))
  unfold setAdd
  have hu1:A.in1.units+6 < cLine:=by show A.units+1+6 < cLine;omega
  refine wpAny_holding (wpAny_bind ((Jj prog w).pyHash (s:={ s with heap:=h1 }) hu1 hT0 ?_))
  refine Uz (s:={ s with heap:=h1,toks:=s.toks+G1 d0 }) hu1 hT0 hS1 (by omega) (λhex=>?_) (λhno h2 xs' sb2 hS2 hp=>?_)
  ·refine wpAny_pure ⟨plainId_quiet Dd _,ih (i+1) _ xs (by omega) st1 hS1 (λx hx'=>tr1 (hX x hx')) hN (λd=>?_) hin (by omega) λh' tk xs'' hkeep a1 a2 a3 a4 a5=>?_⟩
   ·rw [htk d,<- hd d]
    exact⟨.inr,λh=>h.elim (λe=>by rw [e];exact hex) id⟩
   ·exact q h' tk xs'' (λb o b1 b2 e=>hkeep b o b1 b2 ((sb1.2 b b2).trans e)) a1 a2 a3 a4 a5
  ·have hlen:xs'.length=xs.length+1:=hp.length_eq
   have tr2:∀{d:PyData} {b:Addr},Cg h1 d b->Cg h2 d b:=λtr=>tr.but (p:=sa) (λc o hc e=>(sb2.2 c hc).trans e) λo vs n e=>hS1.noseq e
   have hpm:=hp.map (·.1)
   refine wpAny_pure ⟨plainId_quiet Dd _,ih (i+1) _ xs' (by omega) (S.keep hne.symm hst.symm st1 sb2) hS2 (λx hx'=>tr2 (tr1 (hX x hx'))) (hpm.nodup_iff.mpr (List.nodup_cons.mpr ⟨hno,hN⟩)) (λd=>?_) (λx hx'=>?_) (by omega) λh' tk xs'' hkeep a1 a2 a3 a4 a5=>?_⟩
   ·rw [hpm.mem_iff,htk d,<- hd d]
    exact List.mem_cons
   ·rcases List.mem_cons.mp (hp.mem_iff.mp hx') with rfl | hx'
    ·exact hkm
    ·exact hin x hx'
   ·exact q h' tk xs'' (λb o b1 b2 e=>hkeep b o b1 b2 ((sb2.2 b b1).trans ((sb1.2 b b2).trans e))) a1 a2 a3 a4 a5
theorem Hi:isSubtype (.type "list") (.type "set")=pure false:=by rw [isSubtype_type];kernel_rfl
theorem Hj:isSubtype (.type "list") (.type "frozenset")=pure false:=by rw [isSubtype_type];kernel_rfl
theorem Nf{h:Heap}:Ei w (h.push (Bz w)) h.objs.size [] (D6 w) :=
 ⟨_,#[],0,_,Heap.get?_push_size _ rfl,⟨rfl,rfl,rfl⟩,rfl,rfl,(λ_ z=>nomatch z),rfl,TblOk.fresh _,⟨.inl rfl,rfl,(λ_ z=>nomatch z),(λ_ z=>nomatch z)⟩,(show 0 * 5 < 7 * 3 by decide)⟩
theorem U0{E:Value->Shared->Prop}{s:Shared}{id:String}{items:Array Value}{ks:List (PyData×Addr)}{Q:Unit->Shared->Prop}(hh:A.handled=none)(hu:A.units+20 < cLine)(ht:s.heap.IsList t items)(hks:items.toList=ks.map λx=>.ref x.2)(hX:∀x∈ks,Cg s.heap x.1 x.2)(hsz:items.size < 304)
  (hS:Ei w s.heap sa [] led) (hst:sa≠t)
  (h:∀h' tk xs',(∀b o,b≠sa->s.heap.get? b=some o->h'.get? b=some o)->Ei w h' sa xs' led->(xs'.map (·.1)).Nodup->(∀d,d∈xs'.map (·.1)↔d∈ks.map (·.1))->(∀x∈xs',x∈ks)->xs'.length<=items.size->Q () { s with heap:=h',toks:=tk }) :
  wpAny (model prog w) A (Builtin.Frozenset.updateFrom id sa (.ref t)) Q E s:=by
 have T:s.TypeIs (.ref t) "list" := ht.typeIs
 have k1:=Hi
 have k2:=Hj
 have k3:(Value.type "list" == Value.type "dict")=false:=by decide
 unfold Builtin.Frozenset.updateFrom
 generalize hPI:pyIter=PI
 wp_walk
 subst hPI
 refine wpAny_pyIter_list ht (show wpAny _ _ _ _ _ _ from wpAny_bind (wpAny_runValue ?_))
 have lt1:t < s.heap.objs.size:=by obtain⟨o,e,_⟩:=ht;exact Heap.lt_size e
 have lt2:sa < s.heap.objs.size:=by obtain⟨o,_,_,_,e,_⟩:=hS;exact Heap.lt_size e
 have up:∀{d:PyData} {b:Addr},Cg s.heap d b->Cg (s.heap.push { cls:=.type "list_iterator",data:=.fields #[.ref t,.int 0 0] }) d b:=λ⟨k,as,r⟩=>⟨k,as,PyProof.Rows.Reads.keeps (λb o e=>Heap.get?_push_of_some _ e) r⟩
 refine K0 (led:=led) (Kz (items:=items) (Nat.ne_of_lt lt1)) hh hu (Nat.ne_of_lt lt2) hst hks hsz items.size 0 _ [] (by omega) ⟨⟨_,Heap.get?_push_size _ rfl,rfl,rfl⟩,let⟨o,e,r⟩:=ht;⟨o,Heap.get?_push_of_some _ e,r⟩⟩ (hS.at (λo e=>Heap.get?_push_of_some _ e) λ_ _ tr=>up tr) (λx hx=>up (hX x hx)) List.nodup_nil (λd=>by simp) (λ_ z=>nomatch z) (Nat.zero_le _) λh' tk xs' a1 a2 a3 a4 a5 a6=>?_
 exact wpAny_pure (h h' tk xs' (λb o n e=>a1 b o n (Nat.ne_of_lt (Heap.lt_size e)) (Heap.get?_push_of_some _ e)) a2 a3 a4 a5 a6)
theorem R4{E:Value->Shared->Prop}{s:Shared}{id:String}{items:Array Value}{ks:List (PyData×Addr)}{Q:Unit->Shared->Prop}(hh:A.handled=none)(hu:A.units+20 < cLine)(ht:s.heap.IsTuple t items)(hks:items.toList=ks.map λx=>.ref x.2)(hX:∀x∈ks,Cg s.heap x.1 x.2)(hsz:items.size < 304)
  (hS:Ei w s.heap sa [] led) (hst:sa≠t)
  (h:∀h' tk xs',(∀b o,b≠sa->s.heap.get? b=some o->h'.get? b=some o)->Ei w h' sa xs' led->(xs'.map (·.1)).Nodup->(∀d,d∈xs'.map (·.1)↔d∈ks.map (·.1))->(∀x∈xs',x∈ks)->xs'.length<=items.size->Q () { s with heap:=h',toks:=tk }) :
  wpAny (model prog w) A (Builtin.Frozenset.updateFrom id sa (.ref t)) Q E s:=by
 have T:s.TypeIs (.ref t) "tuple" := ht.typeIs
 have k1:=He
 have k2:=Hf
 have k3:(Value.type "tuple" == Value.type "dict")=false:=by decide
 unfold Builtin.Frozenset.updateFrom
 generalize hPI:pyIter=PI
 wp_walk
 subst hPI
 refine wpAny_pyIter_tuple ht (show wpAny _ _ _ _ _ _ from wpAny_bind (wpAny_runValue ?_))
 have lt1:t < s.heap.objs.size:=by obtain⟨o,e,_⟩:=ht;exact Heap.lt_size e
 have lt2:sa < s.heap.objs.size:=by obtain⟨o,_,_,_,e,_⟩:=hS;exact Heap.lt_size e
 have up:∀{u:Obj} {d:PyData} {b:Addr},Cg s.heap d b->Cg (s.heap.push u) d b:=λ⟨k,as,r⟩=>⟨k,as,PyProof.Rows.Reads.keeps (λb o e=>Heap.get?_push_of_some _ e) r⟩
 refine K0 (led:=led) (Jp (items:=items) (Nat.ne_of_lt lt1)) hh hu (Nat.ne_of_lt lt2) hst hks hsz items.size 0 _ [] (by omega) ⟨⟨_,Heap.get?_push_size _ rfl,rfl,rfl⟩,ht.push _⟩ (hS.at (λo e=>Heap.get?_push_of_some _ e) λ_ _ tr=>up tr) (λx hx=>up (hX x hx)) List.nodup_nil (λd=>by simp) (λ_ z=>nomatch z) (Nat.zero_le _) λh' tk xs' a1 a2 a3 a4 a5 a6=>?_
 exact wpAny_pure (h h' tk xs' (λb o n e=>a1 b o n (Nat.ne_of_lt (Heap.lt_size e)) (Heap.get?_push_of_some _ e)) a2 a3 a4 a5 a6)
theorem Cg.keeps{h h':Heap}{d:PyData}{b:Addr}(x:Cg h d b)(hk:∀b o,h.get? b=some o->h'.get? b=some o):Cg h' d b:=let⟨k,as,r⟩:=x;⟨k,as,PyProof.Rows.Reads.keeps hk r⟩
theorem Ly{α β:Type}{f:α->β}{l m:List β}(h:l.Perm m):∀xs:List α,m=xs.map f->∃ys:List α,l=ys.map f/\ys.Perm xs:=by
 induction h with
 | nil =>
  intro xs e
  have:xs=[]:=by simpa using e.symm
  subst this
  exact⟨[],rfl,.nil⟩
 | cons a h ih =>
  intro xs e
  cases xs with
  | nil=>cases e
  | cons x xs =>
   injection e with e1 e2
   obtain⟨ys,rfl,p⟩:=ih xs e2
   exact⟨x :: ys,by rw [e1];rfl,p.cons x⟩
 | swap a b l =>
  intro xs e
  match xs,e with
  | x :: y :: xs,e =>
   injection e with e1 e2
   injection e2 with e2 e3
   exact⟨y :: x :: xs,by rw [e1,e2,e3];rfl,.swap x y xs⟩
 | trans h1 h2 ih1 ih2 =>
  intro xs e
  obtain⟨ys,e1,p1⟩:=ih2 xs e
  obtain⟨zs,e2,p2⟩:=ih1 ys e1
  exact⟨zs,e2,p2.trans p1⟩
theorem Hk{h:Heap}:∀{zs:List (PyData×Addr)},(∀x∈zs,Cg h x.1 x.2)->∃as,ReadsAll h (zs.map λx=>.ref x.2) (zs.map (·.1)) as
 | [],_=>⟨_,.nil⟩
 | z :: zs,hx=>by
  obtain⟨as,r⟩:=Hk λx hx'=>hx x (.tail _ hx')
  obtain⟨_,bs,r1⟩:=hx z (.head _)
  exact⟨_,.cons r1 r⟩
theorem Ng{E:Value->Shared->Prop}{s:Shared}{a:Addr}{xs:List (PyData×Addr)}{Q:Value->Shared->Prop}(hh:A.handled=none)(hu:A.units+100 < cLine)(hS:Ei w s.heap a xs (D6 w))(hok:∀ys:List (PyData×Addr),ys.Perm xs->SortOk (ys.map (·.1)))
  (h:∀(h':Heap) (d':Drawn) (tk p c:Nat) (zs:List (PyData×Addr)),(∀b o,s.heap.get? b=some o->h'.get? b=some o)->s.heap.objs.size<=p->h'.get? p=some (seqObj "list" (zs.map λx=>Value.ref x.2).toArray c)->zs.Perm xs->(zs.map (·.1)).Pairwise (λa b=>Ff a b=true)->Q (.ref p) { s with heap:=h',drawn:=d',toks:=tk }) :
  wpAny (model prog w) A (call (.builtin "sorted") [.ref a]) Q E s:=by
 obtain⟨o,es,ep,t,ho,hex,hd,hl,hX,hf,hT,hQ,hB⟩:=hS
 have hes:es.size=xs.length:=by rw [<- Array.length_toList,hl,List.length_map]
 have hx64:xs.length < 1000:=by have:=(hok xs (.refl _)).len;rwa [List.length_map]at this
 refine E4 (Hg (show A.in1.handled=none from hh) ⟨o,ho,hex.1,hd,hf⟩ hT (by omega) λh1 d1 t1 ord k1 z1 hp=>?_)
 rw [hl,List.map_map]at hp
 obtain⟨ys,rfl,py⟩:=Ly hp xs (f:=λx=>Value.ref x.2) rfl
 have ok:=hok ys py
 have hly:ys.length < 1000:=by rw [py.length_eq];exact hx64
 have l1:(ys.map λx=>Value.ref x.2).length=(ys.map (·.1)).length:=by rw [List.length_map,List.length_map]
 have hXy:∀x∈ys,Cg h1 x.1 x.2:=λx hx=>(hX x (py.mem_iff.mp hx)).keeps k1
 refine⟨ltI (ys.map (·.1)),by rw [List.length_map];exact hly,by rw [l1];exact ok.ord,λh2 h' kp=>?_,λp h' l c pm up hlb kp e=>?_⟩
 ·obtain⟨bs,rd'⟩:=Hk (h:=h') λx hx=>(hXy x hx).keeps kp
  obtain⟨fs,kt,kl,kz⟩:=Iw rd' (ok.fst (by rw [<- l1];exact h2))
  refine⟨tuples' true,λQ q=>?_,λi j C hi hj q=>?_⟩
  ·refine PySem.W.kat_kind (T:=.type "int") kt (by omega) (λv hv=>?_) rfl q
   obtain⟨i,t,rfl⟩:=kz v hv
   exact PySem.W.Looks.of_pure rfl
  ·rw [l1]at hi hj
   obtain⟨b1,q1⟩:=Uf rd' hi
   obtain⟨b2,q2⟩:=Uf rd' hj
   have m1:=B9 (d:=PyData.none) hi
   have m2:=B9 (d:=PyData.none) hj
   obtain⟨x1,r1,e1⟩:=ok.fst (by rw [<- l1];exact h2) _ m1
   obtain⟨x2,r2,e2⟩:=ok.fst (by rw [<- l1];exact h2) _ m2
   have c1:=Dl ok.can _ m1
   have c2:=Dl ok.can _ m2
   have d1:=Nat.le_trans (Gy _ m1) ok.dp
   have cm:=ok.cmp _ m1 _ m2
   have q':C (Ff ((ys.map (·.1)).getD i .none) ((ys.map (·.1)).getD j .none)) _:=q
   rw [e1]at q1 c1 d1 cm q'
   rw [e2]at q2 c2 cm q'
   unfold PySem.W.kas_ask
   generalize (ys.map λx=>Value.ref x.2).getD i Value.none=u1 at q1 ⊢
   generalize (ys.map λx=>Value.ref x.2).getD j Value.none=u2 at q2 ⊢
   cases q1 with
   | tuple a1 a2 a3 a4 =>
    cases q2 with
    | tuple b1 b2 b3 b4 =>
     exact Ue (.tuple a1 a2 a3 a4) (.tuple b1 b2 b3 b4) c1 c2 cm (by show A.units+1+1+64 < _;omega) d1 q'
 ·have hp1:∀i∈p.toList,i < ys.length:=λi hi=>by
   have:=pm.perm.mem_iff.mp hi
   rw [List.length_map]at this
   exact List.mem_range.mp this
  have ev:(p.toList.map λi=>(ys.map λx=>Value.ref x.2).getD i Value.none)=(p.toList.map λi=>ys.getD i (.none,0)).map λx=>Value.ref x.2:=by
   rw [List.map_map]
   refine List.map_congr_left λi hi=>?_
   have:=hp1 i hi
   simp [List.getD_eq_getElem?_getD,this]
  rw [ev]at e
  have e2:(p.toList.map λi=>ys.getD i (.none,0)).Perm ys:=by
   have e1:p.toList.Perm (List.range ys.length):=by have:=pm.perm;rwa [List.length_map]at this
   have e2:=e1.map λi=>ys.getD i (PyData.none,0)
   rwa [C5]at e2
  refine h h' d1 t1 l c _ (λb o q=>kp b o (k1 b o q)) (Nat.le_trans z1 hlb) e (e2.trans py) ?_
  rw [List.map_map,List.pairwise_map]
  refine List.pairwise_iff_getElem.mpr λi j hi hj hij=>?_
  have hj':j < (ys.map λx=>Value.ref x.2).length:=by rw [<- pm.size];simpa using hj
  have:=up i j hij hj'
  have gi:p.getD i 0=p.toList[i]:=by simp [Array.getD,show i < p.size by simpa using hi]
  have gj:p.getD j 0=p.toList[j]:=by simp [Array.getD,show j < p.size by simpa using hj]
  rw [gi,gj]at this
  have a1:=hp1 _ (List.getElem_mem hi)
  have a2:=hp1 _ (List.getElem_mem hj)
  unfold ltI at this
  simp only [List.getD_eq_getElem?_getD,List.getElem?_map,List.getElem?_eq_getElem a1,List.getElem?_eq_getElem a2]at this
  simp only [Function.comp,List.getD_eq_getElem?_getD,List.getElem?_eq_getElem a1,List.getElem?_eq_getElem a2]
  exact this
end
section
variable {X:Cx}{pins:List (Addr×Obj)}{σ:St}{H:Hp}{s:Shared}{k:Nat}
structure TOk(ds:List PyData):Prop where
 len:ds.length < 300
 key:∀d∈ds,KeyTree d
 fst:∀d∈ds,∃i r,d=.tuple (.int i :: r)
 cmp:∀d∈ds,∀e∈ds,cmpb d e=true
theorem Qo:∀{ds:List PyData},(∀d∈ds,KeyTree d)->PyData.canLayAll0 ds=true/\PyData.depthAll ds<=6/\Aq ds=true
 | [],_=>⟨rfl,Nat.zero_le _,rfl⟩
 | d :: ds,h=>by
  obtain⟨a,b,c⟩:=Qo λe he=>h e (.tail _ he)
  have k:=h d (.head _)
  refine⟨?_,?_,?_⟩
  ·simp only [PyData.canLayAll0,k.lay,a];rfl
  ·simp only [PyData.depthAll];have:=k.dep;omega
  ·simp only [Aq,k.can,c];rfl
theorem TOk.sort{ds es:List PyData}(h:TOk ds)(hs:∀d∈es,d∈ds)(hn:es.Nodup):SortOk es:=by
 obtain⟨a,b,c⟩:=Qo λd hd=>h.key d (hs d hd)
 have:=Ct hn hs
 have:=h.len
 exact⟨by omega,a,by omega,c,hn,λ_ d hd=>h.fst d (hs d hd),λd hd e he=>h.cmp d (hs d hd) e (hs e he)⟩
theorem U1(I:Inv X pins σ H s):∀(ds:List PyData) (ws:List V) (its:List Value),Ao X.K H ds ws->Vals ws its->(∀d∈ds,KeyTree d)->(∀d∈ds,∃i r,d=.tuple (.int i :: r))->∃ks:List (PyData×Addr),ks.map (·.1)=ds/\its=ks.map (λx=>.ref x.2)/\∀x∈ks,Cg s.heap x.1 x.2/\Dk X.K H x.1 (.ref x.2)
 | [],ws,its,h,r,_,_=>by
  have e:=h.nil
  subst e
  cases r
  exact⟨[],rfl,rfl,λ_ z=>nomatch z⟩
 | d :: ds,ws,its,h,r,hk,hf=>by
  obtain⟨x,rw',rfl,h1,h2⟩:=Ao.cons (K:=X.K) (H:=H) h
  cases r with
  | @cons _ _ u us r1 r2 =>
   obtain⟨ks,e1,e2,e3⟩:=U1 I ds rw' us h2 r2 (λd hd=>hk d (.tail _ hd)) (λd hd=>hf d (.tail _ hd))
   obtain⟨i,tl,rfl⟩:=hf d (.head _)
   obtain⟨a,xs,rfl,ha,hd⟩:=Dk.tup (K:=X.K) (H:=H) h1
   cases r1
   refine⟨(.tuple (.int i :: tl),a) :: ks,by rw [List.map_cons,e1],by rw [List.map_cons,<- e2],λy hy=>?_⟩
   rcases List.mem_cons.mp hy with rfl | hy
   ·exact⟨⟨hk _ (.head _),Dk.reads I _ _ _ h1 rfl⟩,h1⟩
   ·exact e3 y hy
theorem U3{K:PySem.W.Frag}:∀{zs:List (PyData×Addr)},(∀x∈zs,Dk K H x.1 (.ref x.2))->Ao K H (zs.map (·.1)) (zs.map λx=>.ref x.2)
 | [],_=>Ds
 | z :: zs,h=>Dc (h z (.head _)) (U3 λx hx=>h x (.tail _ hx))
theorem Qp:∀(zs:List (PyData×Addr)),Vals (zs.map λx=>V.ref x.2) (zs.map λx=>Value.ref x.2)
 | []=>.nil
 | z :: zs=>.cons rfl (Qp zs)
def Qen(te:AE):AE:=fun τ μ R=>te τ μ λx μ1=>opt (items μ1 x) λys=>opt (dats ys) λds=>TOk ds/\∀(es:List PyData) (p:Addr),es.Nodup->(∀d,d∈es↔d∈ds)->es.Pairwise (λa b=>Ff a b=true)->μ1 p=none->R (.R p) (Ar μ1 p (.lst (es.map .D)))
theorem Lz{e:Expr}{te:AE}{p p2 pos pos2:Pos}(hr:Room k X.A)(hg:Gl X "sorted") (hm:X.mg "sorted" = none) (hg2:Gl X "set") (hm2:X.mg "set" = none) (he:VE X e te)
  (hs:starEach [.Call (.Name "set" p2) [e] [] pos2] X.env=[(false,eval (.Call (.Name "set" p2) [e] [] pos2) X.env)]:=by rfl) (hs2:starEach [e] X.env=[(false,eval e X.env)]:=by rfl) :
  VE X (.Call (.Name "sorted" p) [.Call (.Name "set" p2) [e] [] pos2] [] pos) (Qen te):=by
 intro pins s σ H Q I zz129
 refine Ce zz129 fun τ μ R hst hcn h hq=>?_
 refine wpAny_Call_Name_kw (C0 I hg hm boot_sorted (PyProof.Rows.callWith_builtin1 ?_ hs rfl))
 rw [hs]
 refine Calls.spliced_cons (wpAny_Call_Name_kw (C0 I hg2 hm2 boot_set (PyProof.Rows.callWith_type1 ?_ hs2 rfl)))
 rw [hs2]
 refine Calls.spliced_cons (wpAny_mono (he.run I hst hcn h) (λu s1 zz130=>V4 zz130 λx v μ1 H1 I1 rv S1 c1 rx h1=>Calls.spliced_nil ?_) λ_ _ e=>e)
 obtain⟨ys,ey,h1⟩:=Bj h1
 obtain⟨ds,ed,ok,h1⟩:=Bj h1
 obtain⟨p0,ws,rfl,hk,rs⟩:=B3 c1 rx ey
 cases rv
 have dk:=rs.dats ed
 have hd:X.A.handled=none:=hr.hd
 have hun:=hr.un
 have l2:=dk.length
 have hlen:=ok.len
 have fin:∀(ks:List (PyData×Addr)),ks.map (·.1)=ds->(∀x∈ks,Cg s1.heap x.1 x.2/\Dk X.K H1 x.1 (.ref x.2))->∀(h1:Heap) (tk:Nat) (xs:List (PyData×Addr)),(∀b o,s1.heap.get? b=some o->h1.get? b=some o)->Ei X.w h1 s1.heap.objs.size xs (D6 X.w)->(xs.map (·.1)).Nodup->(∀d,d∈xs.map (·.1)↔d∈ks.map (·.1))->(∀x∈xs,x∈ks) ->
   wpAny (model X.prog X.w) X.A (call (.builtin "sorted") [.ref s1.heap.objs.size]) (EP X pins σ Q) X.xe { s1 with heap:=h1,toks:=tk }:=λks e1 hks h2 tk xs k1 S2 N2 M2 hin=>by
  rw [e1]at M2
  refine Ng (s:={ s1 with heap:=h2,toks:=tk }) hd (by omega) S2 (λys py=>ok.sort (λd hd=>(M2 d).mp ((py.map (·.1)).mem_iff.mp hd)) ((py.map (·.1)).nodup_iff.mpr N2)) λh3 d3 t3 q c zs k2 hp e3 pz hup=>?_
  have lS:s1.heap.objs.size < h2.objs.size:=by obtain⟨o,_,_,_,e,_⟩:=S2;exact Heap.lt_size e
  have hp':s1.heap.objs.size<=q:=Nat.le_trans (Nat.le_of_lt lS) hp
  have hzl:zs.length < 1000:=by
   have:=(ok.sort (es:=zs.map (·.1)) (λd hd=>(M2 d).mp ((pz.map (·.1)).mem_iff.mp hd)) ((pz.map (·.1)).nodup_iff.mpr N2)).len
   rwa [List.length_map]at this
  have hz:(zs.map λx=>V.ref x.2).length<=sizeLine:=by rw [List.length_map];exact Nat.le_trans (Nat.le_of_lt hzl) (by decide)
  have hn:=I1.hok.fresh hp'
  refine⟨.ref q,_,(Inv.drw I1 d3).laid (t':=t3) (λb o e=>k2 b o (k1 b o e)) hp' (show Ch X.prog X.w _ h3 _ (.lst (zs.map λx=>V.ref x.2)) from⟨hz,_,c,Qp zs,e3⟩),rfl,?_⟩
  refine hq _ _ _ _ (S1.trans (Kp.new hn _)) (c1.new hn (Cz ?_)) Di (h1 (zs.map (·.1)) q ((pz.map (·.1)).nodup_iff.mpr N2) (λd=>((pz.map (·.1)).mem_iff).trans (M2 d)) hup (c1.none hn))
  exact(U3 λx hx=>(hks x (hin x (pz.mem_iff.mp hx))).2).rel
 refine Ja (s:=s1) ?_
 rcases hk with⟨_,hk⟩ | ⟨_,hk⟩
 ·obtain⟨its,r',pl,hz⟩:=I1.list hk
  obtain⟨ks,e1,e2,e3⟩:=U1 I1 ds ws its dk r' ok.key ok.fst
  have la:p0 < s1.heap.objs.size:=by obtain⟨o,e,_⟩:=pl.isList;exact Heap.lt_size e
  have hsz:its.toArray.size < 304:=by have:=r'.length;simp only [List.size_toArray];omega
  refine U0 (s:={ s1 with heap:=s1.heap.push (Bz X.w) }) (show X.A.in1.in1.handled=none from hd) (show X.A.units+1+1+20 < cLine by omega) (let⟨o,e,r⟩:=pl.isList;⟨o,Heap.get?_push_of_some _ e,r⟩) (ks:=ks) (by simpa using e2) (λx hx=>(e3 x hx).1.keeps λb o e=>Heap.get?_push_of_some _ e) hsz Nf (Ne.symm (Nat.ne_of_lt la)) λh2 tk xs k1 S2 N2 M2 hin L2=>Calls.spliced_nil ?_
  exact fin ks e1 e3 h2 tk xs (λb o e=>k1 b o (Nat.ne_of_lt (Heap.lt_size e)) (Heap.get?_push_of_some _ e)) S2 N2 M2 hin
 ·obtain⟨its,r',pl,hz⟩:=I1.tuple hk
  obtain⟨ks,e1,e2,e3⟩:=U1 I1 ds ws its dk r' ok.key ok.fst
  have la:p0 < s1.heap.objs.size:=by obtain⟨o,e,_⟩:=pl;exact Heap.lt_size e
  have hsz:its.toArray.size < 304:=by have:=r'.length;simp only [List.size_toArray];omega
  refine R4 (s:={ s1 with heap:=s1.heap.push (Bz X.w) }) (show X.A.in1.in1.handled=none from hd) (show X.A.units+1+1+20 < cLine by omega) (Heap.IsTuple.push pl _) (ks:=ks) (by simpa using e2) (λx hx=>(e3 x hx).1.keeps λb o e=>Heap.get?_push_of_some _ e) hsz Nf (Ne.symm (Nat.ne_of_lt la)) λh2 tk xs k1 S2 N2 M2 hin L2=>Calls.spliced_nil ?_
  exact fin ks e1 e3 h2 tk xs (λb o e=>k1 b o (Nat.ne_of_lt (Heap.lt_size e)) (Heap.get?_push_of_some _ e)) S2 N2 M2 hin
end
section
variable {X:Cx}{tg:Expr}
def chA(c:Nat):AV:=.D (.str ⟨#[c]⟩)
theorem U4{K:PySem.W.Frag}{H0:Hp}{z:Str}:ItOk K H0 (Its z) (z.cps.toList.map chA) (λ_=>True):=by
 refine⟨λi H μ S c k hi=>?_,λi H μ v H' x S c k e y=>?_,λH μ S c k=>?_⟩
 ·rw [List.length_map,Array.length_toList]at hi
  exact hi
 ·obtain⟨rfl,d,e1,rfl⟩:=y
  rw [List.getElem?_map,Array.getElem?_toList,e1]at e
  cases e
  exact⟨Kp.refl,c,Og Od⟩
 ·show(List.map chA z.cps.toList).length=z.cps.size
  rw [List.length_map,Array.length_toList]
def Qeo(tl:AE):AI:=fun τ μ R=>tl τ μ λx μ1=>match x with
 | .D (.str z)=>R (z.cps.toList.map chA) (λ_=>True) μ1
 | _=>False
theorem Qbz{l:Expr}{tl:AE}(hl:VE X l tl):VI X tg l (Qeo tl) :=
 (Qa1 hl).imp fun σ H Q zz111=>Ce zz111 fun τ μ R hs hc h hq=>⟨τ,μ,_,hs,hc,h,λx μ1 v H1 S1 c1 rx hx=>by
  split at hx
  ·cases RelA.str rx
   exact⟨_,rfl,hq _ _ _ _ _ S1 c1 U4 hx⟩
  ·exact hx.elim⟩
end
section
variable {prog:Program}{w:World}{A:Around}{E:Value->Shared->Prop}
theorem K5{it t:Addr}{items:Array Value}(hne:t≠it):∀(n i:Nat) (s:Shared) (Q:List Value->Shared->Prop),s.heap.IsListIter it t i->s.heap.IsList t items->i+n<=items.size ->
  (∀h',h'.IsListIter it t (i+n)->Heap.SameBut it s.heap h'->Q ((items.toList.drop i).take n) { s with heap:=h' })->wpAny (model prog w) A (draw (.ref it) n) Q E s
 | 0,i,s,Q,hit,_,_,hQ=>by
  unfold draw
  exact wpAny_pure (by have:=hQ s.heap hit (Heap.SameBut.refl _ _);simpa using this)
 | n+1,i,s,Q,hit,ht,hle,hQ=>by
  have hlt:i < items.size:=by omega
  have hx:items[i]?=some items[i]:=Array.getElem?_eq_getElem hlt
  unfold draw
  refine wpAny_bind (wpAny_pyNext_list_item hit ht hx λh₁ hit₁ hs₁=>?_)
  refine wpAny_bind (wpAny_holding (K5 hne n (i+1) _ _ hit₁ (let⟨o,e,r⟩:=ht;⟨o,(hs₁.2 t hne).trans e,r⟩) (by omega) λh₂ hit₂ hs₂=>wpAny_pure ?_))
  have hd:items.toList.drop i=items[i] :: items.toList.drop (i+1):=by simp [List.drop_eq_getElem_cons,hlt]
  have:=hQ h₂ (by rw [show i+(n+1)=i+1+n by omega];exact hit₂) (hs₁.trans hs₂)
  rw [hd,List.take_succ_cons]at this
  exact this
theorem G6{s:Shared}{t:Addr}{items:Array Value}{Q:List Value->Shared->Prop}(hh:A.handled=none)(ht:s.heap.IsList t items)
  (hQ:∀h',Heap.ExtBut s.heap.objs.size s.heap h'->Q items.toList { s with heap:=h' }):wpAny (model prog w) A (unpackItems (.ref t) items.size none) Q E s:=by
 have hlt:t≠s.heap.objs.size:=by obtain⟨o,ho,_⟩:=ht;exact Nat.ne_of_lt (Heap.lt_size ho)
 have hpush:∀u:Obj,(s.heap.push u).IsList t items:=λu=>let⟨o,e,r⟩:=ht;⟨o,Heap.get?_push_of_some _ e,r⟩
 unfold unpackItems
 refine wpAny_bind ?_
 ·unfold notIterableAtAll
  refine wpAny_bind (wpAny_specialOf ht.typeIs slot_list_iter.lookup ?_)
  refine wpAny_pure ?_
  simp only [Bool.false_eq_true,if_false]
  refine wpAny_bind (wpAny_holding (wpAny_pyIter_list ht ?_))
  refine wpAny_bind (wpAny_holding (K5 hlt items.size 0 _ _ ⟨_,Heap.get?_push_size _ rfl,rfl,rfl⟩ (hpush _) (by omega) λh₁ hit₁ hs₁=>?_))
  have hall:List.take items.size (List.drop 0 items.toList)=items.toList:=by
   rw [List.drop_zero];exact List.take_of_length_le (by simp)
  rw [hall]
  rw [if_neg (by simp)]
  have ht₁:h₁.IsList t items:=let⟨o,e,r⟩:=hpush _;⟨o,(hs₁.2 t hlt).trans e,r⟩
  refine wpAny_bind (wpAny_holding (wpAny_pyNext_list_end hh hit₁ ht₁ (by simp) λh₂ he₂=>?_))
  simp only [Option.isSome_none,Bool.false_eq_true,if_false]
  refine wpAny_pure (hQ h₂ λb o hb e=>he₂ b o hb (hs₁.extBut b o hb (Heap.get?_push_of_some _ e)))
theorem Gm{s:Shared}{env:Env}{elts:List Expr}{x1}{pos:Pos}{t:Addr}{items:Array Value}{Q:Unit->Shared->Prop}(hh:A.handled=none)(ht:s.heap.IsList t items)
  (hn:(assignEach elts env).length=items.size) (hstar:(assignEach elts env).findIdx? (·.1)=none)
  (h:∀h',Heap.ExtBut s.heap.objs.size s.heap h'->wpAny (model prog w) A (assignInOrder ((assignEach elts env).map (·.2)) items.toList) Q E { s with heap:=h' }) :
  wpAny (model prog w) A (assign (.Tuple elts x1 pos) env (.ref t)) Q E s:=by
 rw [arm_assign_Tuple]
 refine wpAny_bind (wpAny_standAt ?_)
 unfold unpack
 rw [hn,hstar]
 exact wpAny_bind (wpAny_holding (G6 hh ht h))
end
section
variable {X:Cx}{pos:Pos}
def Qep(K:PySem.W.Frag)(n:Nat)(t:TGs):TG:=λv σ H Q=>∃a xs,v=.ref a/\Ec K H a xs/\xs.length=n/\t xs σ H Q
theorem X3{es:List Expr}{k:Nat}{t:TGs}{n:Nat}(hc:X.calm=true)(h:PGs X es t)
  (hn:(assignEach es X.env).length=n:=by rfl) (hst:(assignEach es X.env).findIdx? (·.1)=none:=by rfl):PG X (.Tuple es k pos) (Qep X.K n t):=by
 intro pins s σ H v u Q I r hw
 obtain⟨a,xs,e1,hq,hl,hw⟩:=hw
 subst e1
 cases r
 obtain⟨its,rv,ht,hz⟩:=I.list hq
 refine Gm (I.ok.hd hc) ht.isList (by simp [hn,<- hl,rv.length]) hst λh' hx=>?_
 have I1:Inv X pins σ H { s with heap:=h' }:=I.kept (t':=s.toks) λb o e=>hx b o (Nat.ne_of_lt (Heap.lt_size e)) e
 exact h pins _ σ H xs _ Q I1 (by simpa using rv) hw
def Y7(n:Nat)(t:AGs):AG:=λv τ μ R=>match v with
 | .R a=>opt (μ a) λm=>match m with
  | .lst xs=>xs.length=n/\t xs τ μ R
  | _=>False
 | _=>False
theorem L0{es:List Expr}{k:Nat}{t:AGs}{n:Nat}(hcm:X.calm=true)(h:VGs X es t)
  (hn:(assignEach es X.env).length=n:=by rfl) (hst:(assignEach es X.env).findIdx? (·.1)=none:=by rfl):VG X (.Tuple es k pos) (Y7 n t):=(X3 hcm h hn hst).imp λv σ H Q zz112=>Dw zz112 λx τ μ R rx hs hc h hq=>by
 unfold Y7 at h
 split at h
 ·obtain⟨m,em,h⟩:=Bj h
  split at h
  ·cases rx
   obtain⟨o,ho,ws,rfl,rs⟩:=hc _ _ em
   exact⟨_,ws,rfl,Ec.of ho,by rw [<- rs.length];exact h.1,_,τ,μ,R,rs,hs,hc,h.2,hq⟩
  ·exact h.elim
 ·exact h.elim
end
section
variable {prog:Program}{w:World}{Kt:Type} [DecidableEq Kt]{knd:KeyKind prog w Kt}{A:Around}{R:Result->Shared->Prop}{sa it t:Addr}{led:Bool}
theorem K6{St:Nat->Heap->Prop}{items:Array Value}(S:StepIt prog w it t items St)(hh:A.handled=none)(hne:sa≠it)(hst:sa≠t){ks:List Kt}(hks:ItemsAre knd ks items.toList)(hsc:∀v∈items.toList,v.scannable=true)(hsz:items.size < 1000) :
  ∀(m i:Nat) (s:Shared) (l:List (Int×Value)) (dn:List Kt),m+i=items.size->St i s.heap->Dn knd s.heap sa l led->Unlike knd l->Keys knd l dn->l.length<=i->(∀k,k∈dn↔k∈ks.take i) ->
   (∀h' tk l',(∀b o,b≠sa->b≠it->s.heap.get? b=some o->h'.get? b=some o)->Dn knd h' sa l' led->Unlike knd l'->Keys knd l' ks->l'.length<=items.size->R (.ok (.ret .none)) { s with heap:=h',toks:=tk }) ->
   codeAny (model prog w) A (.builtin "set.update.loop" ⟨[.ref sa,.ref it],[]⟩) R s:=by
 intro m
 induction m with
 | zero =>
  intro i s l dn hm hI hS hU hK hl hdn q
  refine codeAny_builtin Gh ?_
  rw [Around.under_plainId Dd _]
  refine(show wpAny _ A.in1 (pyNext (.ref it) >>= _) _ _ s from wpAny_bind (S.fin (show A.in1.handled=none from hh) hI (by rw [Array.getElem?_eq_none (by omega)]) λh' hx=>?_))
  refine wpAny_pure (q h' s.toks l (λb o h1 h2 e=>hx b o h2 e) ?_ hU ?_ (by omega))
  ·obtain⟨o,es,ep,tt,e,r⟩:=hS
   exact⟨o,es,ep,tt,hx sa o hne e,r⟩
  ·intro k
   rw [hK k,hdn k,List.take_of_length_le]
   have:=hks.length
   simp at this;omega
 | succ m ih =>
  intro i s l dn hm hI hS hU hK hl hdn q
  have hi:i < items.size:=by omega
  have hx:items[i]?=some items[i]:=Array.getElem?_eq_getElem hi
  obtain⟨k,ek,hk⟩:=M6 (i:=i) (x:=items[i]) hks (by rw [Array.getElem?_toList];exact hx)
  have hsx:=hsc items[i] (by simp)
  have htk:∀k',k'∈ks.take (i+1)↔k'∈ks.take i\/k'=k:=λk'=>by
   rw [List.take_succ,ek,List.mem_append];simp
  refine codeAny_builtin Gh ?_
  rw [Around.under_plainId Dd _]
  refine(show wpAny _ A.in1 (pyNext (.ref it) >>= _) _ _ s from wpAny_bind (S.item hI hx λh1 st1 sb1=>?_))
  have hS1:Dn knd h1 sa l led:=by
   obtain⟨o,es,ep,tt,e,r⟩:=hS
   exact⟨o,es,ep,tt,(sb1.2 sa hne).trans e,r⟩
  refine(show wpAny _ A.in1 (holding [items[i]] (setAdd sa items[i]) >>= _) _ _ _ from wpAny_bind (wpAny_holding ?_))
  unfold setAdd
  refine wpAny_holding (wpAny_bind (knd.pyHash hk ?_))
  refine Xp hk hsx (s:={ s with heap:=h1,toks:=s.toks+1 }) hS1 (by have:scanBound=4096:=rfl;omega) (λhex=>?_) (λhno h2 l' sb2 hS2 hp=>?_)
  ·refine wpAny_pure ⟨plainId_quiet Dd _,ih (i+1) _ l dn (by omega) st1 hS1 hU hK (by omega) (λk'=>?_) λh' tk l' hkeep a1 a2 a3 a4=>?_⟩
   ·rw [htk k',<- hdn k']
    refine⟨.inl,λh=>h.elim id λe=>?_⟩
    rw [e];exact(hK k).mp hex
   ·exact q h' tk l' (λb o b1 b2 e=>hkeep b o b1 b2 ((sb1.2 b b2).trans e)) a1 a2 a3 a4
  ·have hlen:l'.length=l.length+1:=by rw [hp.length_eq,List.length_append];rfl
   refine wpAny_pure ⟨plainId_quiet Dd _,ih (i+1) _ l' (dn++[k]) (by omega) (S.keep hne.symm hst.symm st1 sb2) hS2 ((hU.add hk hno).perm hp) (λk'=>?_) (by omega) (λk'=>?_) λh' tk l'' hkeep a1 a2 a3 a4=>?_⟩
   ·rw [List.mem_append,<- hK k']
    constructor
    ·rintro⟨e,he,hek⟩
     rcases List.mem_append.mp (hp.mem_iff.mp he) with he | he
     ·exact .inl ⟨e,he,hek⟩
     ·have e1:e=(knd.hash k,items[i]):=by simpa using he
      subst e1
      exact .inr (List.mem_singleton.mpr (knd.inj _ k' k hek hk))
    ·rintro(⟨e,he,hek⟩ | he)
     ·exact⟨e,hp.mem_iff.mpr (List.mem_append_left _ he),hek⟩
     ·have e1:k'=k:=by simpa using he
      subst e1
      exact⟨(knd.hash k',items[i]),hp.mem_iff.mpr (List.mem_append_right _ (List.mem_singleton.mpr rfl)),hk⟩
   ·rw [htk k',<- hdn k',List.mem_append,List.mem_singleton]
   ·exact q h' tk l'' (λb o b1 b2 e=>hkeep b o b1 b2 ((sb2.2 b b1).trans ((sb1.2 b b2).trans e))) a1 a2 a3 a4
variable {E:Value->Shared->Prop}{s:Shared}
theorem Pa{id:String}{items:Array Value}{ks:List Kt}{Q:Unit->Shared->Prop}(hh:A.handled=none)(ht:s.heap.IsTuple t items)(hks:ItemsAre knd ks items.toList)(hsc:∀v∈items.toList,v.scannable=true)(hsz:items.size < 1000)
  (hS:Dn knd s.heap sa [] led) (hst:sa≠t)
  (h:∀h' tk l',(∀b o,b≠sa->s.heap.get? b=some o->h'.get? b=some o)->Dn knd h' sa l' led->Unlike knd l'->Keys knd l' ks->l'.length<=items.size->Q () { s with heap:=h',toks:=tk }) :
  wpAny (model prog w) A (Builtin.Frozenset.updateFrom id sa (.ref t)) Q E s:=by
 have T:s.TypeIs (.ref t) "tuple" := ht.typeIs
 have k1:=He
 have k2:=Hf
 have k3:(Value.type "tuple" == Value.type "dict")=false:=by decide
 unfold Builtin.Frozenset.updateFrom
 generalize hPI:pyIter=PI
 wp_walk
 subst hPI
 refine wpAny_pyIter_tuple ht (show wpAny _ _ _ _ _ _ from wpAny_bind (wpAny_runValue ?_))
 have lt1:t < s.heap.objs.size:=by obtain⟨o,e,_⟩:=ht;exact Heap.lt_size e
 have lt2:sa < s.heap.objs.size:=by obtain⟨o,_,_,_,e,_⟩:=hS;exact Heap.lt_size e
 refine K6 (led:=led) (Jp (items:=items) (Nat.ne_of_lt lt1)) hh (Nat.ne_of_lt lt2) hst hks hsc hsz items.size 0 _ [] [] (by omega) ⟨⟨_,Heap.get?_push_size _ rfl,rfl,rfl⟩,ht.push _⟩ ?_ List.Pairwise.nil Ks (Nat.zero_le _) (λk=>by simp) λh' tk l' a1 a2 a3 a4 a5=>?_
 ·obtain⟨o,es,ep,tt,e,r⟩:=hS
  exact⟨o,es,ep,tt,Heap.get?_push_of_some _ e,r⟩
 ·exact wpAny_pure (h h' tk l' (λb o n e=>a1 b o n (Nat.ne_of_lt (Heap.lt_size e)) (Heap.get?_push_of_some _ e)) a2 a3 a4 a5)
theorem R5{id:String}{items:Array Value}{ks:List Kt}{Q:Unit->Shared->Prop}(hh:A.handled=none)(ht:s.heap.IsList t items)(hks:ItemsAre knd ks items.toList)(hsc:∀v∈items.toList,v.scannable=true)(hsz:items.size < 1000)
  (hS:Dn knd s.heap sa [] led) (hst:sa≠t)
  (h:∀h' tk l',(∀b o,b≠sa->s.heap.get? b=some o->h'.get? b=some o)->Dn knd h' sa l' led->Unlike knd l'->Keys knd l' ks->l'.length<=items.size->Q () { s with heap:=h',toks:=tk }) :
  wpAny (model prog w) A (Builtin.Frozenset.updateFrom id sa (.ref t)) Q E s:=by
 have T:s.TypeIs (.ref t) "list" := ht.typeIs
 have k1:=Hi
 have k2:=Hj
 have k3:(Value.type "list" == Value.type "dict")=false:=by decide
 unfold Builtin.Frozenset.updateFrom
 generalize hPI:pyIter=PI
 wp_walk
 subst hPI
 refine wpAny_pyIter_list ht (show wpAny _ _ _ _ _ _ from wpAny_bind (wpAny_runValue ?_))
 have lt1:t < s.heap.objs.size:=by obtain⟨o,e,_⟩:=ht;exact Heap.lt_size e
 have lt2:sa < s.heap.objs.size:=by obtain⟨o,_,_,_,e,_⟩:=hS;exact Heap.lt_size e
 refine K6 (led:=led) (Kz (items:=items) (Nat.ne_of_lt lt1)) hh (Nat.ne_of_lt lt2) hst hks hsc hsz items.size 0 _ [] [] (by omega) ⟨⟨_,Heap.get?_push_size _ rfl,rfl,rfl⟩,let⟨o,e,r⟩:=ht;⟨o,Heap.get?_push_of_some _ e,r⟩⟩ ?_ List.Pairwise.nil Ks (Nat.zero_le _) (λk=>by simp) λh' tk l' a1 a2 a3 a4 a5=>?_
 ·obtain⟨o,es,ep,tt,e,r⟩:=hS
  exact⟨o,es,ep,tt,Heap.get?_push_of_some _ e,r⟩
 ·exact wpAny_pure (h h' tk l' (λb o n e=>a1 b o n (Nat.ne_of_lt (Heap.lt_size e)) (Heap.get?_push_of_some _ e)) a2 a3 a4 a5)
end
section
variable {X:Cx}{pins:List (Addr×Obj)}{σ:St}{H:Hp}{s:Shared}{k:Nat}
end
theorem E6{K:PySem.W.Frag}{H:Hp}:∀{ns:List Int} {ws:List V},A9 K H (ns.map λn=>AV.D (.int n)) ws->ws=ns.map V.int
 | [],_,h=>by cases h;rfl
 | n :: ns,_,h=>by
  cases h with
  | cons r1 r2 =>
   cases RelA.int r1
   rw [E6 r2];rfl
def Qeq(te:AE):AE:=fun τ μ R=>te τ μ λx μ1=>opt (items μ1 x) λus=>∃ns:List Int,us=(ns.map λn=>AV.D (.int n))/\ns.length < 60/\∀(l:Addr) (ms:List Int),μ1 l=none->ms.Pairwise (· < ·)->(∀n,n∈ms↔n∈ns)->R (.R l) (Ar μ1 l (.lst (ms.map λn=>.D (.int n))))
section
variable {X:Cx}{k:Nat}
theorem L3{e:Expr}{te:AE}{p p2 pos pos2:Pos}(hr:Room k X.A)(hg:Gl X "sorted") (hm:X.mg "sorted" = none) (hg2:Gl X "set") (hm2:X.mg "set" = none) (he:VE X e te)
  (hs:starEach [.Call (.Name "set" p2) [e] [] pos2] X.env=[(false,eval (.Call (.Name "set" p2) [e] [] pos2) X.env)]:=by rfl) (hs2:starEach [e] X.env=[(false,eval e X.env)]:=by rfl) :
  VE X (.Call (.Name "sorted" p) [.Call (.Name "set" p2) [e] [] pos2] [] pos) (Qeq te):=by
 intro pins s σ H Q I zz129
 refine Ce zz129 fun τ μ R hst hcn h hq=>?_
 refine wpAny_Call_Name_kw (C0 I hg hm boot_sorted (PyProof.Rows.callWith_builtin1 ?_ hs rfl))
 rw [hs]
 refine Calls.spliced_cons (wpAny_Call_Name_kw (C0 I hg2 hm2 boot_set (PyProof.Rows.callWith_type1 ?_ hs2 rfl)))
 rw [hs2]
 refine Calls.spliced_cons (wpAny_mono (he.run I hst hcn h) (λu s1 zz130=>V4 zz130 λx v μ1 H1 I1 rv S1 c1 rx h1=>Calls.spliced_nil ?_) λ_ _ e=>e)
 obtain⟨us,ey,h1⟩:=Bj h1
 obtain⟨ns,rfl,hl,h1⟩:=h1
 obtain⟨p0,ws,rfl,hk,rs⟩:=B3 c1 rx ey
 cases rv
 have ew:=E6 rs
 subst ew
 have hd:X.A.handled=none:=hr.hd
 have fin:∀(h2:Heap) (tk:Nat) (l:List (Int×Value)),(∀b o,s1.heap.get? b=some o->h2.get? b=some o)->Dn (Bv X.prog X.w) h2 s1.heap.objs.size l (D6 X.w)->Unlike (Bv X.prog X.w) l->Keys (Bv X.prog X.w) l (ns.map Sum.inl)->l.length < 64 ->
   wpAny (model X.prog X.w) X.A (call (.builtin "sorted") [.ref s1.heap.objs.size]) (EP X pins σ Q) X.xe { s1 with heap:=h2,toks:=tk }:=λh2 tk l k1 S2 U2 K2 L2=>by
  refine O5 (s:={ s1 with heap:=h2,toks:=tk }) hd S2 U2 K2 L2 λh3 d3 t3 q c vs k2 hp e3 hi hr' hmem hlen=>?_
  have lS:s1.heap.objs.size < h2.objs.size:=by obtain⟨o,_,_,_,e,_⟩:=S2;exact Heap.lt_size e
  have hp':s1.heap.objs.size<=q:=Nat.le_trans (Nat.le_of_lt lS) hp
  have hz:((vs.map Bf).map V.int).length<=sizeLine:=by simp;exact Nat.le_trans (Nat.le_of_lt hlen) (by decide)
  have hn:=I1.hok.fresh hp'
  refine⟨.ref q,_,(Inv.drw I1 d3).laid (t':=t3) (λb o e=>k2 b o (k1 b o e)) hp' (show Ch X.prog X.w _ h3 _ (.lst ((vs.map Bf).map V.int)) from⟨hz,vs,c,Jg hi,e3⟩),rfl,?_⟩
  exact hq _ _ _ _ (S1.trans (Kp.new hn _)) (c1.new hn (Cz (Lu _))) Di (h1 q (vs.map Bf) (c1.none hn) hr' hmem)
 refine Ja (s:=s1) ?_
 rcases hk with⟨_,hk⟩ | ⟨_,hk⟩
 ·obtain⟨its,r',pl,hz⟩:=I1.list hk
  obtain⟨i1,i2⟩:=G0 (P:=X.prog) (w:=X.w) r'
  have hlen:=r'.length
  have hsz:its.toArray.size < 60:=by simp at hlen ⊢;omega
  have la:p0 < s1.heap.objs.size:=by obtain⟨o,e,_⟩:=pl.isList;exact Heap.lt_size e
  refine R5 (s:={ s1 with heap:=s1.heap.push (Bz X.w) }) (show X.A.in1.in1.handled=none from hd) (let⟨o,e,r⟩:=pl.isList;⟨o,Heap.get?_push_of_some _ e,r⟩) (by simpa using i1) (by simpa using i2) (by omega) Jb (Ne.symm (Nat.ne_of_lt la)) λh2 tk l k1 S2 U2 K2 L2=>Calls.spliced_nil ?_
  exact fin h2 tk l (λb o e=>k1 b o (Nat.ne_of_lt (Heap.lt_size e)) (Heap.get?_push_of_some _ e)) S2 U2 K2 (by omega)
 ·obtain⟨its,r',pl,hz⟩:=I1.tuple hk
  obtain⟨i1,i2⟩:=G0 (P:=X.prog) (w:=X.w) r'
  have hlen:=r'.length
  have hsz:its.toArray.size < 60:=by simp at hlen ⊢;omega
  have la:p0 < s1.heap.objs.size:=by obtain⟨o,e,_⟩:=pl;exact Heap.lt_size e
  refine Pa (s:={ s1 with heap:=s1.heap.push (Bz X.w) }) (show X.A.in1.in1.handled=none from hd) (Heap.IsTuple.push pl _) (by simpa using i1) (by simpa using i2) (by omega) Jb (Ne.symm (Nat.ne_of_lt la)) λh2 tk l k1 S2 U2 K2 L2=>Calls.spliced_nil ?_
  exact fin h2 tk l (λb o e=>k1 b o (Nat.ne_of_lt (Heap.lt_size e)) (Heap.get?_push_of_some _ e)) S2 U2 K2 (by omega)
end
end L2
namespace L2
open PySem PySem.Spec PySem.Calls PyProof.Rows
section
variable {prog:Program}{w:World}{A:Around}{E:Value->Shared->Prop}{s:Shared}{K:PySem.W.Frag}{env:Env}
end
section
variable {M:Model}{A A1:Around}{E E1:Value->Shared->Prop}{s:Shared}{base:Heap}{env:Env}{outer:List Env}{L e:Addr}{cls:Value}{d:Option Addr}{vs:Array Value}
end
section
variable {X:Cx}{y:Str}{p pos pos':Pos}{C:Addr}{EX:AX}
end
section
variable {P:Program}{w:World}{K:PySem.W.Frag}{mg:Str->Option Value}{base:Heap}
end
def Y8:AC:=λxs μ R=>match xs with
 | [x]=>opt (see μ x) λd=>OkD d/\R (.D (.str d.shown)) μ
 | _=>False
section
variable {X:Cx}{k:Nat}
theorem U5(hr:Room k X.A):VCall X (.builtin "repr") Y8:=by
 intro pins s σ H xs us Q I r zz114
 refine Ce zz114 λas μ R ra hc h hq=>?_
 unfold Y8 at h
 split at h
 ·cases ra with
  | cons r1 r2 =>
   cases r2
   obtain⟨u,rfl,ru⟩:=Dx r
   obtain⟨d,ed,ok,h⟩:=Bj h
   obtain⟨bs,rd⟩:=C7 I hc r1 ru ed
   have hsz:d.shown.length<=sizeLine:=Nat.le_trans (PyProof.Rows.shown_le13 ok.lay ok.sh) (by decide)
   have hn:d.hasDict=false:=PyData.hasDict_of_layable ok.lay
   have hu:=hr.un
   have hdp:=ok.depth
   have fin:∀(h':Heap) (t:Tok) (tk:Nat),(∀b o,s.heap.get? b=some o->h'.get? b=some o)->EP X pins σ Q (.str d.shown t) { s with heap:=h',toks:=tk }:=λh' t tk hk =>
    ⟨.str d.shown,H,I.kept hk,⟨_,rfl⟩,hq _ _ _ _ Kp.refl hc Fv h⟩
   cases rd with
   | none=>exact P.repr_of_none (by simpa only [PyData.shown] using fin s.heap s.toks (s.toks+1) λ_ _ e=>e)
   | bool b=>exact P.repr_of_bool (by simpa only [PyData.shown] using fin s.heap s.toks (s.toks+1) λ_ _ e=>e)
   | int i t =>
    have hs:decide (i.natAbs.log2 < 1920)=true:=by simpa only [PyData.showable] using ok.sw
    exact P.repr_of_int (of_decide_eq_true hs) (by simpa only [PyData.shown] using fin s.heap s.toks (s.toks+1) λ_ _ e=>e)
   | str z t=>exact P.repr_of_str (by simpa only [PyData.shown] using fin s.heap s.toks (s.toks+1) λ_ _ e=>e) (by simpa only [PyData.shown] using hsz)
   | list h1 h2 h3 h4=>exact repr_of_reads' (.list h1 h2 h3 h4) ok.sw (PyData.noDict_hsm hn) hr.gd (by omega) (λ_ _ e=>e) (λh' u tk hk=>fin h' u tk hk) hsz
   | tuple h1 h2 h3 h4=>exact repr_of_reads' (.tuple h1 h2 h3 h4) ok.sw (PyData.noDict_hsm hn) hr.gd (by omega) (λ_ _ e=>e) (λh' u tk hk=>fin h' u tk hk) hsz
   | dict h1 h2 h3 h4 h5=>simp [PyData.hasDict]at hn
 ·exact h.elim
end
def Qid:A2:=λx y μ R=>match x,y with
 | .D (.str i),.D (.str j)=>R (.D (.bool (decide (i=j)))) μ
 | _,_=>False
theorem Qer{X:Cx}:VOp X (compareOp .Eq) Qid:=by
 intro pins s σ H x y v u Q I rx ry zz115
 refine Dw zz115 λa b μ R ra rb hc h hq=>?_
 cases a with
 | D d =>
  cases d with
  | str i =>
   cases b with
   | D e =>
    cases e with
    | str j =>
     cases RelA.str ra
     cases RelA.str rb
     obtain⟨t,rfl⟩:=rx
     obtain⟨t',rfl⟩:=ry
     exact eq_str (N6 I (hq _ _ _ _ Kp.refl hc El h) (by rw [Bool.eq_iff_iff];simp))
    | _=>exact False.elim h
   | _=>exact False.elim h
  | _=>exact False.elim h
 | _=>exact False.elim h
section
variable {X:Cx}{x:Str}{p pos:Pos}{e:Expr}{es:List Expr}{t:AA}{k:Nat}{ps:List Str}{sp:ASp}
end
section
variable {X:Cx}{k:Nat}
def Qie:A2:=λx y μ R=>match x,y with
 | .D (.str i),.D (.str j)=>R (.D (.bool (!decide (i=j)))) μ
 | _,_=>False
theorem Qes:VOp X (compareOp .NotEq) Qie:=by
 intro pins s σ H x y v u Q I rx ry zq
 refine Dw zq λa b μ R ra rb hc h hq=>?_
 cases a with
 | D d =>
  cases d with
  | str i =>
   cases b with
   | D e =>
    cases e with
    | str j =>
     cases RelA.str ra
     cases RelA.str rb
     obtain⟨t,rfl⟩:=rx
     obtain⟨t',rfl⟩:=ry
     exact ne_str (N6 I (hq _ _ _ _ Kp.refl hc El h) (by rw [Bool.eq_iff_iff];simp))
    | _=>exact False.elim h
   | _=>exact False.elim h
  | _=>exact False.elim h
 | _=>exact False.elim h
end
def Qet:AC:=λxs μ R=>match xs with
 | [.D (.int i)]=>i.natAbs.log2 < 1920/\R (.D (.str (Str.ofString (toString i)))) μ
 | _=>False
theorem Qq{X:Cx}:VCall X (.type "str") Qet:=by
 intro pins s σ H xs us Q I r zz
 refine Ce zz λas μ R ra hc h hq=>?_
 unfold Qet at h
 split at h
 ·cases ra with
  | cons r1 r2 =>
   cases r2
   cases RelA.int r1
   obtain⟨u,rfl,t,rfl⟩:=Dx r
   exact P.str_of_int h.1 ⟨.str _,H,I.tok _,⟨_,rfl⟩,hq _ _ _ _ Kp.refl hc Fv h.2⟩
 ·exact h.elim
end L2
namespace L2
open PySem PySem.Spec PySem.Calls PyProof.Rows PySem.W
section
variable {prog:Program}{w:World}{A:Around}{E:Value->Shared->Prop}{s:Shared}
theorem Nh{v:Value}{ord:List Value}{h1:Heap}{t1:Nat}{Q:Value->Shared->Prop}(hcol:∀Q':List Value->Shared->Prop,Q' ord { s with heap:=h1,toks:=t1 }->wpAny (model prog w) A.in1 (collect v) Q' E s)(k1:∀b o,s.heap.get? b=some o->h1.get? b=some o)(z1:s.heap.objs.size<=h1.objs.size)(hlen:ord.length < 1000)
  (hi:∀v∈ord,IsI v) (hnd:(ord.map Bf).Nodup)
  (h:∀(h':Heap) (p c:Nat) (vs:List Value),(∀b o,s.heap.get? b=some o->h'.get? b=some o)->s.heap.objs.size<=p->h'.get? p=some (seqObj "list" vs.toArray c)->(∀v∈vs,IsI v)->(vs.map Bf).Pairwise (· < ·)->vs.Perm ord->Q (.ref p) { s with heap:=h',toks:=t1 }) :
  wpAny (model prog w) A (call (.builtin "sorted") [v]) Q E s:=by
 refine E4 (hcol _ ?_)
 refine⟨λi j=>decide ((ord.map Bf).getD i 0 < (ord.map Bf).getD j 0),hlen,⟨λi j k _ _ _ h1 h2=>?_,λi j hi' hj' hij h1=>?_,λi _=>decide_eq_false (Int.lt_irrefl _)⟩,λh2 h' kp=>⟨oneType',λQ q=>?_,λi j C hi' hj' q=>?_⟩,λp h' lb c pm up hlb kp e=>?_⟩
 ·simp only [decide_eq_true_eq]at h1 h2 ⊢;omega
 ·simp only [decide_eq_false_iff_not,decide_eq_true_eq]at h1 ⊢
  suffices ne:(ord.map Bf).getD j 0≠(ord.map Bf).getD i 0 by omega
  refine λq=>hij ?_
  refine((List.getElem?_inj (by simpa using hj') hnd).mp ?_).symm
  rw [Cm (d:=(0:Int)) (by simpa using hj'),Cm (d:=(0:Int)) (by simpa using hi'),q]
 ·match ord,hi,h2 with
  | v1 :: v2 :: vs,hi,_ =>
   rw [keyKind_ints (Jf hi)]
   exact wpAny_pure q
 ·unfold kas_ask
  obtain⟨n1,t1,e1⟩:=hi _ (B9 (d:=Value.none) hi')
  obtain⟨n2,t2,e2⟩:=hi _ (B9 (d:=Value.none) hj')
  have g:∀i,i < ord.length->(ord.map Bf).getD i 0=Bf (ord.getD i .none):=λi hi=>by
   simp [List.getD_eq_getElem?_getD,hi]
  dsimp only at q
  rw [g i hi',g j hj',e1,e2]at q
  rw [e1,e2,keyLt'_oneType]
  exact oneLt_int q
 ·have hp1:∀i∈p.toList,i < ord.length:=λi hi=>List.mem_range.mp (pm.perm.mem_iff.mp hi)
  have g:∀i,i < ord.length->(ord.map Bf).getD i 0=Bf (ord.getD i .none):=λi hi=>by
   simp [List.getD_eq_getElem?_getD,hi]
  have pv:(p.toList.map λi=>ord.getD i Value.none).Perm ord:=by
   have e2:=pm.perm.map λi=>ord.getD i Value.none
   rw [C5]at e2
   exact e2
  refine h h' lb c _ (λb o q=>kp b o (k1 b o q)) (Nat.le_trans z1 hlb) e (λv hv=>hi v (pv.mem_iff.mp hv)) ?_ pv
  rw [List.map_map,List.pairwise_map]
  refine List.pairwise_iff_getElem.mpr λi j hi2 hj2 hij=>?_
  have hj':j < ord.length:=by rw [<- pm.size];simpa using hj2
  have:=up i j hij hj'
  have gi:p.getD i 0=p.toList[i]:=by simp [Array.getD,show i < p.size by simpa using hi2]
  have gj:p.getD j 0=p.toList[j]:=by simp [Array.getD,show j < p.size by simpa using hj2]
  rw [gi,gj]at this
  dsimp only at this
  rw [g _ (hp1 _ (List.getElem_mem hi2)),g _ (hp1 _ (List.getElem_mem hj2))]at this
  simpa using this
end
def Ni:AC:=λxs μ R=>match xs with
 | [.R a]=>∃ns:List Int,μ a=some (.lst (ns.map λn=>.D (.int n)))/\ns.length < 1000/\ns.Nodup/\∀(ms:List Int) (p:Addr),ms.Pairwise (· < ·)->ms.Perm ns->μ p=none->R (.R p) (Ar μ p (.lst (ms.map λn=>.D (.int n))))
 | _=>False
theorem Nj:∀{ns:List Int} {us:List Value},Vals (ns.map V.int) us->(∀v∈us,IsI v)/\us.map Bf=ns
 | [],_,h=>by cases h;exact⟨(λ_ h=>nomatch h),rfl⟩
 | n :: ns,_,h=>by
  cases h with
  | cons h1 h2 =>
   obtain⟨a,b⟩:=Nj h2
   obtain⟨t,rfl⟩:=h1
   refine⟨λv hv=>?_,by rw [List.map_cons,b];rfl⟩
   rcases List.mem_cons.mp hv with rfl | hv
   ·exact⟨n,t,rfl⟩
   ·exact a v hv
theorem R6{X:Cx}{k:Nat}(hr:Room k X.A):VCall X (.builtin "sorted") Ni:=by
 intro pins s σ H xs us Q I r zz
 refine Ce zz λas μ R ra hc h hq=>?_
 unfold Ni at h
 split at h
 ·rename_i a
  cases ra with
  | cons r1 r2 =>
  cases r2
  obtain⟨ns,em,hl,hnd,h⟩:=h
  obtain⟨o,ho,ws,rfl,rs⟩:=hc _ _ em
  cases r1
  obtain⟨u,rfl,rx⟩:=Dx r
  cases rx
  have ew:=E6 rs
  subst ew
  obtain⟨its,rv,pl,hz⟩:=I.list (Ec.of (K:=X.K) ho)
  obtain⟨ii,iv⟩:=Nj rv
  have l1:its.length=ns.length:=by rw [<- iv,List.length_map]
  have sz:its.length<=sizeLine:=Nat.le_trans (show its.length<=1000 by omega) (by decide)
  have keep:∀b o,s.heap.get? b=some o->((s.heap.push (seqObj "list" #[] 0)).update s.heap.objs.size (Obj.mapSeq (·++its.toArray))).get? b=some o:=λb o q =>
   ((Heap.SameBut.update (s.heap.push (seqObj "list" #[] 0)) s.heap.objs.size _).2 b (Nat.ne_of_lt (Heap.lt_size q))).trans (Heap.get?_push_of_some _ q)
  refine Nh (t1:=s.toks) (λQ' q=>collect_list pl.isList q sz) keep (by rw [Heap.size_update];exact Nat.le_trans (Nat.le_succ _) (Nat.le_of_eq (Heap.size_push _ _).symm)) (by omega) ii (by rw [iv];exact hnd) λh' p c vs k2 hp e3 hi hr' pm=>?_
  have hlv:vs.length=ns.length:=by rw [pm.length_eq,l1]
  have hz2:((vs.map Bf).map V.int).length<=sizeLine:=by simp;exact Nat.le_trans (show vs.length<=1000 by omega) (by decide)
  have hn:=I.hok.fresh hp
  refine⟨.ref p,_,I.laid (t':=s.toks) k2 hp (show Ch X.prog X.w _ h' _ (.lst ((vs.map Bf).map V.int)) from⟨hz2,vs,c,Jg hi,e3⟩),rfl,?_⟩
  refine hq _ _ _ _ (Kp.new hn _) (hc.new hn (Cz (Lu _))) Di (h (vs.map Bf) p hr' ?_ (hc.none hn))
  rw [<- iv];exact pm.map Bf
 ·exact h.elim
end L2
namespace L2
open PySem PySem.Spec PyProof.Rows
abbrev Src(prog:Program)(w:World)(i l:Addr)(xs:Array Value)(St:Nat->Heap->Prop):Prop:=∀A:Around,A.handled=none->Draws prog w A i [i,l] xs.size (λk v=>xs[k]?=some v) St
theorem Src.keep{prog:Program}{w:World}{i l:Addr}{xs:Array Value}{St:Nat->Heap->Prop}(S:Src prog w i l xs St){k:Nat}{h h':Heap}(st:St k h)(h1:∀o,h.get? i=some o->h'.get? i=some o)(h2:∀o,h.get? l=some o->h'.get? l=some o):St k h' :=
 (S {} rfl).frame k h h' st λb hb o e=>by
  rcases List.mem_cons.mp hb with rfl | hb
  ·exact h1 o e
  ·rw [List.mem_singleton.mp hb]at e ⊢;exact h2 o e
theorem Src.live{prog:Program}{w:World}{i l:Addr}{xs:Array Value}{St:Nat->Heap->Prop}(S:Src prog w i l xs St){k:Nat}{h:Heap}(st:St k h):∃o,h.get? i=some o:=(S {} rfl).live k h st
section
variable {prog:Program}{w:World}{A:Around}{E:Value->Shared->Prop}{s:Shared}{z TI TO i1 i2 l1 l2:Addr}{xs ys:Array Value}{St1 St2:Nat->Heap->Prop}{k:Nat}
theorem U6{a b:Value}{Q:Value->Shared->Prop}(hh:A.handled=none)(D:ZipApart z TI TO i1 i2 l1 l2)(S1:Src prog w i1 l1 xs St1)(S2:Src prog w i2 l2 ys St2)(hz:IsZip s.heap z TI TO .none)(hTI:IsPair s.heap TI (.ref i1) (.ref i2))(hTO:IsPair s.heap TO a b)
  (h1:St1 k s.heap) (h2:St2 k s.heap) (hx:k < xs.size) (hy:k < ys.size)
  (hQ:∀h' tk x y,xs[k]?=some x->ys[k]?=some y->IsZip h' z TI TO (rawInt s.heap.objs.size)->IsPair h' TO x y->St1 (k+1) h'->St2 (k+1) h'->IsPair h' s.heap.objs.size x y->(∀c o,c≠z->c≠TO->c≠i1->c≠i2->s.heap.get? c=some o->h'.get? c=some o)->Q (.ref s.heap.objs.size) { s with heap:=h',toks:=tk }) :
  wpAny (model prog w) A (Builtin.«zip.__next__» ⟨[.ref z],[]⟩) (λfin s'=>∃v,fin=.done (.ret v)/\Q v s') E s:=by
 refine(show wpAny _ _ (field (.ref z) 2 >>= _) _ _ _ from wpAny_bind (wpAny_field hz rfl (x:=.bool false) rfl (show wpAny _ _ (field (.ref z) 3 >>= _) _ _ _ from wpAny_bind (wpAny_field hz rfl (x:=.ref TI) rfl (wpAny_bind (wpAny_seqItems hTI rfl (show wpAny _ _ (Builtin.SmallTypes.ownedTupleIsFree (.ref z) >>= _) _ _ _ from wpAny_bind ?_)))))))
 unfold Builtin.SmallTypes.ownedTupleIsFree
 refine wpAny_bind (wpAny_field hz rfl (x:=.none) rfl (wpAny_pure ?_))
 rw [if_pos rfl]
 refine wpAny_bind (wpAny_rule (wpAny_bind (wpAny_field hz rfl (x:=.ref TO) rfl (wpAny_bind (wpAny_setField_rec hz (by simp) λg1 e1 k1=>wpAny_bind ?_)))))
 have z1:IsZip g1 z TI TO .ellipsis:=e1
 have a1:St1 k g1:=S1.keep h1 (λo e=>k1.extBut _ _ D.i1z e) (λo e=>k1.extBut _ _ D.l1z e)
 simp only [List.zipIdx_cons,List.zipIdx_nil,List.forIn_cons,List.forIn_nil]
 refine wpAny_bind (wpAny_bind (wpAny_onRaise (show wpAny _ _ (Builtin.SmallTypes.nextOf (.ref i1) >>= _) _ _ _ from wpAny_bind ((S1 A hh).item k _ _ _ hx a1 λx g2 tk2 ex b2 k2=>wpAny_pure ?_))))
 have o2:IsPair g2 TO a b:=k2.extBut _ _ D.TOi1 (k1.extBut _ _ D.TOz hTO)
 refine wpAny_bind (wpAny_seqItems o2 rfl (wpAny_bind (wpAny_updateSeq_pair o2 λg3 e3 k3=>wpAny_bind (wpAny_letGo (wpAny_pure ?_)))))
 have o3:IsPair g3 TO x b:=e3
 have a3:St2 k g3:=S2.keep h2 (λo e=>k3.extBut _ _ D.TOi2.symm (k2.extBut _ _ D.i12.symm (k1.extBut _ _ D.i2z e))) (λo e=>k3.extBut _ _ D.l2TO (k2.extBut _ _ D.l2i1 (k1.extBut _ _ D.l2z e)))
 refine wpAny_bind (wpAny_bind (wpAny_onRaise (show wpAny _ _ (Builtin.SmallTypes.nextOf (.ref i2) >>= _) _ _ _ from wpAny_bind ((S2 A hh).item k _ _ _ hy a3 λy g4 tk4 ey b4 k4=>wpAny_pure ?_))))
 have o4:IsPair g4 TO x b:=k4.extBut _ _ D.TOi2 o3
 refine wpAny_bind (wpAny_seqItems o4 rfl (wpAny_bind (wpAny_updateSeq_pair o4 λg5 e5 k5=>wpAny_bind (wpAny_letGo (wpAny_pure (wpAny_pure ?_))))))
 have o5:IsPair g5 TO x y:=e5
 refine wpAny_bind (wpAny_seqItems o5 rfl (wpAny_bind (wpAny_newTuple ?_)))
 have sz:g5.objs.size=s.heap.objs.size:=by rw [k5.1,k4.1,k3.1,k2.1,k1.1]
 have z5:IsZip g5 z TI TO .ellipsis:=k5.extBut _ _ D.TOz.symm (k4.extBut _ _ D.i2z.symm (k3.extBut _ _ D.TOz.symm (k2.extBut _ _ D.i1z.symm z1)))
 have up5:∀c o,c≠z->c≠TO->c≠i1->c≠i2->s.heap.get? c=some o->g5.get? c=some o:=λc o c1 c2 c3 c4 e=>k5.extBut _ _ c2 (k4.extBut _ _ c4 (k3.extBut _ _ c2 (k2.extBut _ _ c3 (k1.extBut _ _ c1 e))))
 have lz:z < g5.objs.size:=Heap.lt_size z5
 refine(show wpAny _ _ (Builtin.SmallTypes.ownedTupleHandOut (.ref z) (.ref g5.objs.size) >>= _) _ _ _ from wpAny_bind ?_)
 unfold Builtin.SmallTypes.ownedTupleHandOut
 have z6:IsZip (g5.push { cls:=.type "tuple",data:=.seq #[x,y] }) z TI TO .ellipsis:=Heap.get?_push_of_some _ z5
 refine wpAny_bind (wpAny_setField_rec z6 (by simp) λg7 e7 k7=>wpAny_setField_rec (show IsZip g7 z TI TO (rawInt g5.objs.size) from e7) (by simp) λg8 e8 k8=>wpAny_pure ⟨_,rfl,?_⟩)
 have up8:∀c o,c≠z->g5.get? c=some o->g8.get? c=some o:=λc o c1 e=>k8.extBut _ _ c1 (k7.extBut _ _ c1 (Heap.get?_push_of_some _ e))
 have t8:IsPair g8 g5.objs.size x y:=k8.extBut _ _ (Nat.ne_of_gt lz) (k7.extBut _ _ (Nat.ne_of_gt lz) (Heap.get?_push_size _ rfl))
 have z8:IsZip g8 z TI TO (rawInt g5.objs.size):=e8
 have b5:St1 (k+1) g5:=S1.keep b2 (λo e=>k5.extBut _ _ D.TOi1.symm (k4.extBut _ _ D.i12 (k3.extBut _ _ D.TOi1.symm e))) (λo e=>k5.extBut _ _ D.l1TO (k4.extBut _ _ D.l1i2 (k3.extBut _ _ D.l1TO e)))
 have c5:St2 (k+1) g5:=S2.keep b4 (λo e=>k5.extBut _ _ D.TOi2.symm e) (λo e=>k5.extBut _ _ D.l2TO e)
 show Q (.ref g5.objs.size) _
 rw [sz]at z8 t8 ⊢
 exact hQ g8 _ x y ex ey z8 (up8 _ _ D.TOz o5) (S1.keep b5 (λo e=>up8 _ o D.i1z e) (λo e=>up8 _ o D.l1z e)) (S2.keep c5 (λo e=>up8 _ o D.i2z e) (λo e=>up8 _ o D.l2z e)) t8 λc o c1 c2 c3 c4 e=>up8 c o c1 (up5 c o c1 c2 c3 c4 e)
theorem Qb0{a b:Value}{Q:PySem.Fin->Shared->Prop}(hh:A.handled=none)(D:ZipApart z TI TO i1 i2 l1 l2)(S1:Src prog w i1 l1 xs St1)(S2:Src prog w i2 l2 ys St2)(hz:IsZip s.heap z TI TO .none)(hTI:IsPair s.heap TI (.ref i1) (.ref i2))(hTO:IsPair s.heap TO a b)
  (h1:St1 k s.heap) (h2:St2 k s.heap) (hend:k=xs.size\/k < xs.size/\k=ys.size)
  (hE:∀h' tk e,(∀c o,c≠z->c≠TO->c≠i1->c≠i2->s.heap.get? c=some o->h'.get? c=some o)->(∃o,h'.get? e=some o/\o.cls=.type "StopIteration")->E (.ref e) { s with heap:=h',toks:=tk }) :
  wpAny (model prog w) A (Builtin.«zip.__next__» ⟨[.ref z],[]⟩) Q E s:=by
 refine(show wpAny _ _ (field (.ref z) 2 >>= _) _ _ _ from wpAny_bind (wpAny_field hz rfl (x:=.bool false) rfl (show wpAny _ _ (field (.ref z) 3 >>= _) _ _ _ from wpAny_bind (wpAny_field hz rfl (x:=.ref TI) rfl (wpAny_bind (wpAny_seqItems hTI rfl (show wpAny _ _ (Builtin.SmallTypes.ownedTupleIsFree (.ref z) >>= _) _ _ _ from wpAny_bind ?_)))))))
 unfold Builtin.SmallTypes.ownedTupleIsFree
 refine wpAny_bind (wpAny_field hz rfl (x:=.none) rfl (wpAny_pure ?_))
 rw [if_pos rfl]
 refine wpAny_bind (wpAny_rule (wpAny_bind (wpAny_field hz rfl (x:=.ref TO) rfl (wpAny_bind (wpAny_setField_rec hz (by simp) λg1 e1 k1=>wpAny_bind ?_)))))
 have z1:IsZip g1 z TI TO .ellipsis:=e1
 have a1:St1 k g1:=S1.keep h1 (λo e=>k1.extBut _ _ D.i1z e) (λo e=>k1.extBut _ _ D.l1z e)
 simp only [List.zipIdx_cons,List.zipIdx_nil,List.forIn_cons,List.forIn_nil]
 rcases hend with he | ⟨hx,he⟩
 ·rw [he]at a1
  refine wpAny_bind (wpAny_bind (wpAny_onRaise (show wpAny _ _ (Builtin.SmallTypes.nextOf (.ref i1) >>= _) _ _ _ from wpAny_bind ((S1 A hh).done _ _ _ a1 λg2 e k2 hS=>?_))))
  obtain⟨oe,hoe,hce⟩:=hS
  have z2:IsZip g2 z TI TO .ellipsis:=k2 _ _ D.i1z.symm z1
  have ne:e≠z:=λq=>by subst q;rw [z2]at hoe;cases hoe;simp at hce
  exact wpAny_setField_rec z2 (by simp) λg3 _ k3=>hE g3 _ e (λc o c1 _ c3 _ q=>k3.extBut _ _ c1 (k2 _ _ c3 (k1.extBut _ _ c1 q))) ⟨oe,k3.extBut _ _ ne hoe,hce⟩
 ·refine wpAny_bind (wpAny_bind (wpAny_onRaise (show wpAny _ _ (Builtin.SmallTypes.nextOf (.ref i1) >>= _) _ _ _ from wpAny_bind ((S1 A hh).item k _ _ _ hx a1 λx g2 tk2 ex b2 k2=>wpAny_pure ?_))))
  have o2:IsPair g2 TO a b:=k2.extBut _ _ D.TOi1 (k1.extBut _ _ D.TOz hTO)
  refine wpAny_bind (wpAny_seqItems o2 rfl (wpAny_bind (wpAny_updateSeq_pair o2 λg3 e3 k3=>wpAny_bind (wpAny_letGo (wpAny_pure ?_)))))
  have a3:St2 k g3:=S2.keep h2 (λo e=>k3.extBut _ _ D.TOi2.symm (k2.extBut _ _ D.i12.symm (k1.extBut _ _ D.i2z e))) (λo e=>k3.extBut _ _ D.l2TO (k2.extBut _ _ D.l2i1 (k1.extBut _ _ D.l2z e)))
  rw [he]at a3
  refine wpAny_bind (wpAny_bind (wpAny_onRaise (show wpAny _ _ (Builtin.SmallTypes.nextOf (.ref i2) >>= _) _ _ _ from wpAny_bind ((S2 A hh).done _ _ _ a3 λg4 e k4 hS=>?_))))
  obtain⟨oe,hoe,hce⟩:=hS
  have z4:IsZip g4 z TI TO .ellipsis:=k4 _ _ D.i2z.symm (k3.extBut _ _ D.TOz.symm (k2.extBut _ _ D.i1z.symm z1))
  have ne:e≠z:=λq=>by subst q;rw [z4]at hoe;cases hoe;simp at hce
  exact wpAny_setField_rec z4 (by simp) λg5 _ k5=>hE g5 _ e (λc o c1 c2 c3 c4 q=>k5.extBut _ _ c1 (k4 _ _ c4 (k3.extBut _ _ c2 (k2.extBut _ _ c3 (k1.extBut _ _ c1 q))))) ⟨oe,k5.extBut _ _ ne hoe,hce⟩
end
def Sr:Bool->Heap->Addr->Array Value->Prop
 | false,h,l,xs=>h.IsList l xs
 | true,h,l,xs=>h.IsTuple l xs
def Y9:Bool->Heap->Addr->Addr->Nat->Prop
 | false,h,i,l,k=>h.IsListIter i l k
 | true,h,i,l,k=>h.IsTupleIter i l k
abbrev Qif:Bool->String
 | false => "list_iterator"
 | true => "tuple_iterator"
theorem Sr.at{b:Bool}{h h':Heap}{l:Addr}{xs:Array Value}(x:Sr b h l xs)(k:∀o,h.get? l=some o->h'.get? l=some o):Sr b h' l xs:=by
 cases b with
 | false=>exact Heap.IsList.at x λo e=>k o e
 | true=>exact Heap.IsTuple.at x λo e=>k o e
theorem R7{prog:Program}{w:World}(b:Bool)(i l:Addr)(hne:l≠i)(xs:Array Value):Src prog w i l xs (λk h=>Y9 b h i l k/\Sr b h l xs):=λA hh=>by
 cases b with
 | false=>exact Draws.list hh i l hne xs
 | true=>exact Im hh i l hne xs
abbrev R8(b:Bool)(h:Heap)(l:Addr):Heap:=h.push { cls:=.type (Qif b),data:=.fields #[.ref l,.int 0 0] }
abbrev zh3(b c:Bool)(h:Heap)(l m:Addr):Heap:=(R8 c (R8 b h l) m).push { cls:=.type "tuple",data:=.seq #[.ref h.objs.size,.ref (R8 b h l).objs.size] }
abbrev Za(b c:Bool)(h:Heap)(l m:Addr):Heap:=((zh3 b c h l m).push { cls:=.type "tuple",data:=.seq #[.none,.none] }).push { cls:=.type "zip",data:=.fields #[.none,.bool false,.bool false,.ref (R8 c (R8 b h l) m).objs.size,.ref (zh3 b c h l m).objs.size] }
section
variable {prog:Program}{w:World}{A:Around}{E:Value->Shared->Prop}{s:Shared}
theorem Zb{b:Bool}{l:Addr}{xs:Array Value}{Q:Value->Shared->Prop}(h:Sr b s.heap l xs)(hQ:Q (.ref s.heap.objs.size) { s with heap:=R8 b s.heap l }):wpAny (model prog w) A (pyIter (.ref l)) Q E s:=by
 cases b with
 | false=>exact wpAny_pyIter_list h hQ
 | true=>exact wpAny_pyIter_tuple h hQ
theorem X4(b c:Bool)(l m:Addr)(xs ys:Array Value):Meets (Builtin.«zip.__new__» ⟨[.type "zip",.ref l,.ref m],[]⟩) (λ_ R s=>Sr b s.heap l xs/\Sr c s.heap m ys/\R (.ok (.ret (.ref (((zh3 b c s.heap l m).push { cls:=.type "tuple",data:=.seq #[.none,.none] }).objs.size)))) { s with heap:=Za b c s.heap l m }) :=
 .of_wp λprog w A R s h=>by
  obtain⟨hp,g,d,tk,os⟩:=s
  obtain⟨a1,a2,q⟩:=h
  have hsub:=sub_zip
  have b1:Sr b (Shared.heap ⟨hp,g,d,tk,os⟩) l xs:=a1
  have b2:Sr c (Shared.heap ⟨R8 b hp l,g,d,tk,os⟩) m ys:=a2.at λo e=>Heap.get?_push_of_some _ e
  wp_walk using Zb b1,Zb b2
  exact⟨_,rfl,q⟩
theorem U7{b c:Bool}{l m:Addr}{xs ys:Array Value}{Q:Value->Shared->Prop}(h1:Sr b s.heap l xs)(h2:Sr c s.heap m ys)
  (h:∀h',IsZip h' (s.heap.objs.size+4) (s.heap.objs.size+2) (s.heap.objs.size+3) .none->IsPair h' (s.heap.objs.size+2) (.ref s.heap.objs.size) (.ref (s.heap.objs.size+1))->IsPair h' (s.heap.objs.size+3) .none .none->Y9 b h' s.heap.objs.size l 0->Y9 c h' (s.heap.objs.size+1) m 0->h'.objs.size=s.heap.objs.size+5 ->
   (∀d o,s.heap.get? d=some o->h'.get? d=some o)->Q (.ref (s.heap.objs.size+4)) { s with heap:=h' }):wpAny (model prog w) A (call (.type "zip") [.ref l,.ref m]) Q E s:=by
 refine callType_new F.called_zip (by decide) (F.typeCall_zip_2 _ _) (F.newCall_zip_2 _ _) (λobj=>F.args_object_init_3 obj _ _) F.entry_zip_new (X4 b c l m xs ys) ⟨h1,h2,?_⟩
 have e1:(R8 b s.heap l).objs.size=s.heap.objs.size+1:=Heap.size_push ..
 have e2:(R8 c (R8 b s.heap l) m).objs.size=s.heap.objs.size+2:=by rw [Heap.size_push,e1]
 have e3:(zh3 b c s.heap l m).objs.size=s.heap.objs.size+3:=by rw [Heap.size_push,e2]
 have e4:((zh3 b c s.heap l m).push { cls:=.type "tuple",data:=.seq #[.none,.none] }).objs.size=s.heap.objs.size+4:=by rw [Heap.size_push,e3]
 have e5:(Za b c s.heap l m).objs.size=s.heap.objs.size+5:=by rw [Heap.size_push,e4]
 have p5:(Za b c s.heap l m).get? ((zh3 b c s.heap l m).push { cls:=.type "tuple",data:=.seq #[.none,.none] }).objs.size=some _:=Heap.get?_push_size _ rfl
 have p4:(Za b c s.heap l m).get? (zh3 b c s.heap l m).objs.size=some _:=Heap.get?_push_of_some _ (Heap.get?_push_size _ rfl)
 have p3:(Za b c s.heap l m).get? (R8 c (R8 b s.heap l) m).objs.size=some _:=Heap.get?_push_of_some _ (Heap.get?_push_of_some _ (Heap.get?_push_size _ rfl))
 have p2:(Za b c s.heap l m).get? (R8 b s.heap l).objs.size=some _:=Heap.get?_push_of_some _ (Heap.get?_push_of_some _ (Heap.get?_push_of_some _ (Heap.get?_push_size _ rfl)))
 have p1:(Za b c s.heap l m).get? s.heap.objs.size=some _:=Heap.get?_push_of_some _ (Heap.get?_push_of_some _ (Heap.get?_push_of_some _ (Heap.get?_push_of_some _ (Heap.get?_push_size _ rfl))))
 have pk:∀d o,s.heap.get? d=some o->(Za b c s.heap l m).get? d=some o:=λd o x=>Heap.get?_push_of_some _ (Heap.get?_push_of_some _ (Heap.get?_push_of_some _ (Heap.get?_push_of_some _ (Heap.get?_push_of_some _ x))))
 show _/\_
 rw [e2,e3,e4]at p5
 rw [e1,e2]at p3
 rw [e3]at p4
 rw [e1]at p2
 rw [e4]
 refine⟨⟨_,p5,rfl⟩,h _ p5 p3 p4 ?_ ?_ e5 pk⟩
 ·cases b with
  | false=>exact⟨_,p1,rfl,rfl⟩
  | true=>exact⟨_,p1,rfl,rfl⟩
 ·cases c with
  | false=>exact⟨_,p2,rfl,rfl⟩
  | true=>exact⟨_,p2,rfl,rfl⟩
theorem Zc{z TI TO i1 i2 l1 l2:Addr}{xs ys:Array Value}{St1 St2:Nat->Heap->Prop}(hh:A.handled=none)(D:ZipApart z TI TO i1 i2 l1 l2)(S1:Src prog w i1 l1 xs St1)(S2:Src prog w i2 l2 ys St2) :
  WalksT prog w A z [z,TI,TO,i1,i2,l1,l2] [z,TO,i1,i2] (min xs.size ys.size) (λi vals=>∃x y,xs[i]?=some x/\ys[i]?=some y/\vals=#[x,y])
   (λi h=>IsZip h z TI TO .none/\IsPair h TI (.ref i1) (.ref i2)/\(∃a b,IsPair h TO a b)/\St1 i h/\St2 i h)
   (λi T h=>IsZip h z TI TO (rawInt T)/\IsPair h TI (.ref i1) (.ref i2)/\(∃a b,IsPair h TO a b)/\St1 (i+1) h/\St2 (i+1) h/\T≠z/\T≠TO/\T≠i1/\T≠i2) where
 sub:=λc hc=>by simp at hc ⊢;rcases hc with rfl | rfl | rfl | rfl <;> simp
 frame:=λi h h' st hk=>by
  obtain⟨a1,a2,⟨a,b,a3⟩,a4,a5⟩:=st
  exact⟨hk z (by simp) _ a1,hk TI (by simp) _ a2,⟨a,b,hk TO (by simp) _ a3⟩,S1.keep a4 (λo e=>hk i1 (by simp) o e) (λo e=>hk l1 (by simp) o e),S2.keep a5 (λo e=>hk i2 (by simp) o e) (λo e=>hk l2 (by simp) o e)⟩
 item:=λi s Q E hi st hQ=>by
  obtain⟨a1,a2,⟨a,b,a3⟩,a4,a5⟩:=st
  have ix:i < xs.size:=Nat.lt_of_lt_of_le hi (Nat.min_le_left ..)
  have iy:i < ys.size:=Nat.lt_of_lt_of_le hi (Nat.min_le_right ..)
  have hT:s.TypeIs (.ref z) "zip" := ⟨_,a1,rfl⟩
  have lt:∀{c o},s.heap.get? c=some o->s.heap.objs.size≠c:=λe=>Nat.ne_of_gt (Heap.lt_size e)
  unfold pyNext
  refine wpAny_bind (wpAny_attempt (wpAny_callSpecial?_slot (name:=Str.ofString "__next__") hT F.slot_zip_next (wpAny_call_entry F.slot_zip_next hT F.entry_zip_next (U6 (show A.in1.handled=none from hh) D S1 S2 a1 a2 a3 a4 a5 ix iy λh' tk x y ex ey b1 b2 b3 b4 b5 hk=>wpAny_pure ?_) (F.args_zip_next_1 _))))
  refine hQ s.heap.objs.size #[x,y] h' tk ⟨x,y,ex,ey,rfl⟩ (Nat.le_refl _) ⟨_,b5,rfl,_,rfl⟩ ⟨b1,hk _ _ D.TIz D.TITO D.TIi1 D.TIi2 a2,⟨_,_,b2⟩,b3,b4,lt a1,lt a3,?_,?_⟩ λc o hc e=>hk c o (λq=>hc (by simp [q])) (λq=>hc (by simp [q])) (λq=>hc (by simp [q])) (λq=>hc (by simp [q])) e
  ·obtain⟨o,e⟩:=S1.live a4;exact lt e
  ·obtain⟨o,e⟩:=S2.live a5;exact lt e
 go:=λelts k pos i T s Q E hm hQ=>by
  obtain⟨a1,a2,⟨a,b,a3⟩,a4,a5,_⟩:=hm
  exact wpAny_letOwnedTupleGo_zip a1 λh' b1 k1=>hQ h' ⟨b1,k1.extBut _ _ D.TIz a2,⟨a,b,k1.extBut _ _ D.TOz a3⟩,S1.keep a4 (λo e=>k1.extBut _ _ D.i1z e) (λo e=>k1.extBut _ _ D.l1z e),S2.keep a5 (λo e=>k1.extBut _ _ D.i2z e) (λo e=>k1.extBut _ _ D.l2z e)⟩ λc o hc e=>k1.extBut _ _ (λq=>hc (by simp [q])) e
 apart:=λi T h hm hT=>by
  obtain⟨_,_,_,_,_,t1,t2,t3,t4⟩:=hm
  simp at hT
  rcases hT with rfl | rfl | rfl | rfl
  ·exact t1 rfl
  ·exact t2 rfl
  ·exact t3 rfl
  ·exact t4 rfl
 done:=λs Q E st hQ=>by
  obtain⟨a1,a2,⟨a,b,a3⟩,a4,a5⟩:=st
  have hT:s.TypeIs (.ref z) "zip" := ⟨_,a1,rfl⟩
  have hend:min xs.size ys.size=xs.size\/min xs.size ys.size < xs.size/\min xs.size ys.size=ys.size:=by omega
  unfold pyNext
  refine wpAny_bind (wpAny_attempt (wpAny_callSpecial?_slot (name:=Str.ofString "__next__") hT F.slot_zip_next (wpAny_call_entry F.slot_zip_next hT F.entry_zip_next (Qb0 (show A.in1.handled=none from hh) D S1 S2 a1 a2 a3 a4 a5 hend λh' tk e hk he=>?_) (F.args_zip_next_1 _))))
  obtain⟨o,ho,hc⟩:=he
  refine wpAny_bind (wpAny_isInstance (T := "StopIteration") (b:=true) ⟨o,ho,hc⟩ isSubtype_stop (wpAny_pure (hQ h' tk λc o hc e=>?_)))
  exact hk c o (λq=>hc (by simp [q])) (λq=>hc (by simp [q])) (λq=>hc (by simp [q])) (λq=>hc (by simp [q])) e
 self:=λi s Q E st h=>wpAny_pyIter_zip st.1 h
end
def R9(K:PySem.W.Frag):Bool->Hp->Addr->List V->Prop
 | false,H,a,xs=>Ec K H a xs
 | true,H,a,xs=>Jv K H a xs
section
variable {X:Cx}{pins:List (Addr×Obj)}{σ:St}{H:Hp}{s:Shared}{b:Bool}{a c:Addr}{xs ys:List V}
theorem Inv.seqB(I:Inv X pins σ H s)(h:R9 X.K b H a xs):∃its:List Value,Vals xs its/\Sr b s.heap a its.toArray:=by
 cases b with
 | false=>obtain⟨its,r,p,_⟩:=I.list h;exact⟨its,r,p.isList⟩
 | true=>obtain⟨its,r,p,_⟩:=I.tuple h;exact⟨its,r,p⟩
theorem Inv.seqB_inj(I:Inv X pins σ H s)(h:R9 X.K b H a xs)(h':R9 X.K b H a ys):xs=ys:=by
 cases b with
 | false=>exact I.list_inj h h'
 | true=>exact I.tuple_inj h h'
theorem Inv.seqB_ne(I:Inv X pins σ H s)(h:R9 X.K b H a xs)(f:Fr X pins H c):a≠c:=by
 rintro rfl
 obtain⟨f0,_,_,f3,_⟩:=f
 have rd:∀{o:HO},Rd H a o->False:=λr=>by
  rcases r with r | ⟨_,r⟩
  ·rw [f0]at r;cases r
  ·rw [f0]at r;cases r
 have kk:∀{o:Obj},X.K.lookup a=some o->False:=λ{o} e=>by
  have eb:=I.ok.mod.kin a o e
  rcases f3 with f3 | f3
  ·exact I.ok.noex a o eb f3
  ·exact Nat.lt_irrefl _ (Nat.lt_of_lt_of_le (Heap.lt_size (I.ok.bs a o eb).1) f3)
 cases b with
 | false=>rcases h with h | ⟨o,_,_,e,_⟩;exact rd h;exact kk e
 | true=>rcases h with h | ⟨o,_,_,e,_⟩;exact rd h;exact kk e
end
def Izp(K:PySem.W.Frag)(p q:Bool)(a b:Addr):It :=
 ⟨λi H => ∃ xs ys x y, R9 K p H a xs /\ R9 K q H b ys /\ xs[i]? = some x /\ ys[i]? = some y,
  λi H v H' => ∃ T x y, H T = none /\ v = .ref T /\ H' = upd H T (.tup [x, y]) /\ (∀ xs, R9 K p H a xs -> xs[i]? = some x) /\ ∀ ys, R9 K q H b ys -> ys[i]? = some y,
  λi H => ∃ xs ys, R9 K p H a xs /\ R9 K q H b ys /\ i = min xs.length ys.length⟩
theorem U8{P:Program}{w:World}{K:PySem.W.Frag}{elts:List Expr}{k:Nat}{pos:Pos}(p q:Bool)(a b z TI TO i1 i2:Addr)(d1:TI≠z)(d2:TO≠z)(d3:i1≠z)(d4:i2≠z)(d5:TI≠TO)(d6:TI≠i1)(d7:TI≠i2)(d8:TO≠i1)(d9:TO≠i2)(d10:i1≠i2) :
  Turn P w K (.Tuple elts k pos) (Izp K p q a b) [z,TI,TO,i1,i2] z (λi h=>IsZip h z TI TO .none/\IsPair h TI (.ref i1) (.ref i2)/\(∃u v,IsPair h TO u v)/\Y9 p h i1 a i/\Y9 q h i2 b i) where
 mem:=by simp
 obj:=λi h st c hc=>by
  obtain⟨a1,a2,⟨u,v,a3⟩,a4,a5⟩:=st
  have it:∀{r:Bool} {j l:Addr} {n:Nat},Y9 r h j l n->∃o,h.get? j=some o/\∀v,o.data≠.cell v:=λ{r j l n} x=>by
   cases r with
   | false=>obtain⟨o,e,_,d⟩:=(show h.IsListIter j l n from x);exact⟨o,e,λv y=>by rw [d]at y;cases y⟩
   | true=>obtain⟨o,e,_,d⟩:=(show h.IsTupleIter j l n from x);exact⟨o,e,λv y=>by rw [d]at y;cases y⟩
  simp only [List.mem_cons,List.not_mem_nil,or_false]at hc
  rcases hc with rfl | rfl | rfl | rfl | rfl
  ·exact⟨_,a1,λv y=>nomatch y⟩
  ·exact⟨_,a2,λv y=>nomatch y⟩
  ·exact⟨_,a3,λv y=>nomatch y⟩
  ·exact it a4
  ·exact it a5
 keep:=λi h h' st k=>by
  obtain⟨a1,a2,⟨u,v,a3⟩,a4,a5⟩:=st
  have it:∀{r:Bool} {j l:Addr} {n:Nat},Y9 r h j l n->(∀o,h.get? j=some o->h'.get? j=some o)->Y9 r h' j l n:=λ{r j l n} x kk=>by
   cases r with
   | false=>exact Heap.IsListIter.at x λo e=>kk o e
   | true=>exact Heap.IsTupleIter.at x λo e=>kk o e
  exact⟨k z (by simp) _ a1,k TI (by simp) _ a2,⟨u,v,k TO (by simp) _ a3⟩,it a4 λo e=>k i1 (by simp) o e,it a5 λo e=>k i2 (by simp) o e⟩
 item:=by
  intro X hP hw hK hc i pins s σ H E I hf st hg
  subst hP hw hK
  obtain⟨xs,ys,x,y,sx,sy,ex,ey⟩:=hg
  obtain⟨its,rv,px⟩:=I.seqB sx
  obtain⟨jts,rw',py⟩:=I.seqB sy
  obtain⟨u,hu,ru⟩:=rv.get ex
  obtain⟨v,hv,rv2⟩:=rw'.get ey
  have na:∀c∈[z,TI,TO,i1,i2],a≠c:=λc hc=>I.seqB_ne sx (hf c hc)
  have nb:∀c∈[z,TI,TO,i1,i2],b≠c:=λc hc=>I.seqB_ne sy (hf c hc)
  have D:ZipApart z TI TO i1 i2 a b:=⟨d1,d2,d3,d4,d5,d6,d7,d8,d9,d10,na z (by simp),na TO (by simp),na i1 (by simp),na i2 (by simp),nb z (by simp),nb TO (by simp),nb i1 (by simp),nb i2 (by simp)⟩
  obtain⟨a1,a2,a3,a4,a5⟩:=id st
  have W:=Zc (prog:=X.prog) (w:=X.w) (A:=X.A) (I.ok.hd hc) D (R7 p i1 a D.l1i1 its.toArray) (R7 q i2 b D.l2i2 jts.toArray)
  refine W.item i s _ _ ?_ ⟨a1,a2,a3,⟨a4,px⟩,⟨a5,py⟩⟩ λT vals h' tk hvl hT ht hm kk=>?_
  ·have n1:=(List.getElem?_eq_some_iff.mp hu).1
   have n2:=(List.getElem?_eq_some_iff.mp hv).1
   simp only [List.size_toArray];omega
  have apart:=W.apart i T h' hm
  have hf':∀c∈[z,TO,i1,i2],Fr X pins H c:=λc hc=>hf c (by simp only [List.mem_cons,List.not_mem_nil,or_false]at hc ⊢;rcases hc with rfl | rfl | rfl | rfl <;> simp)
  refine⟨_,rfl,W.go elts k pos i T _ _ _ hm λh'' st'' kk''=>?_⟩
  obtain⟨x',y',hx',hy',rfl⟩:=hvl
  have hxu:x'=u:=by
   have:its[i]?=some x':=by simpa using hx'
   rw [hu]at this;exact(Option.some.inj this).symm
  have hyv:y'=v:=by
   have:jts[i]?=some y':=by simpa using hy'
   rw [hv]at this;exact(Option.some.inj this).symm
  subst hxu hyv
  have I1:Inv X pins σ H { s with heap:=h',toks:=tk }:=I.turnedL kk hf'
  have I2:Inv X pins σ H { s with heap:=h'',toks:=tk }:=I1.turnedL (s:={ s with heap:=h',toks:=tk }) (t':=tk) kk'' hf'
  have fT:Fr X pins H T:=I.fpOk hT (I.hok.fresh hT)
  have ht'':IsTup h'' T #[x',y']:=let⟨o,ho,r⟩:=ht;⟨o,kk'' T o apart ho,r⟩
  refine⟨.ref T,upd H T (.tup [x,y]),I2.track fT ⟨by show 2<=sizeLine;decide,[x',y'],.cons ru (.cons rv2 .nil),ht''⟩,rfl,⟨T,x,y,fT.1,rfl,rfl,λzs hz=>by rw [I.seqB_inj hz sx];exact ex,λzs hz=>by rw [I.seqB_inj hz sy];exact ey⟩,⟨st''.1,st''.2.1,st''.2.2.1,st''.2.2.2.1.1,st''.2.2.2.2.1⟩,λc hc=>?_⟩
  have hlt:∀{e:Addr} {o:Obj},s.heap.get? e=some o->e≠T:=λq=>Nat.ne_of_lt (Nat.lt_of_lt_of_le (Heap.lt_size q) hT)
  have hcT:c≠T:=by
   obtain⟨u3,v3,a3⟩:=a3
   have S1:=R7 (prog:=X.prog) (w:=X.w) p i1 a D.l1i1 its.toArray
   have S2:=R7 (prog:=X.prog) (w:=X.w) q i2 b D.l2i2 jts.toArray
   simp only [List.mem_cons,List.not_mem_nil,or_false]at hc
   rcases hc with rfl | rfl | rfl | rfl | rfl
   ·exact hlt a1
   ·exact hlt a2
   ·exact hlt a3
   ·obtain⟨o,e⟩:=S1.live (k:=i) ⟨a4,px⟩;exact hlt e
   ·obtain⟨o,e⟩:=S2.live (k:=i) ⟨a5,py⟩;exact hlt e
  rw [Bn hcT]
  exact(hf c hc).1
 done:=by
  intro X hP hw hK hc i pins s σ H E I hf st hg
  subst hP hw hK
  obtain⟨xs,ys,sx,sy,hn⟩:=hg
  obtain⟨its,rv,px⟩:=I.seqB sx
  obtain⟨jts,rw',py⟩:=I.seqB sy
  have na:∀c∈[z,TI,TO,i1,i2],a≠c:=λc hc=>I.seqB_ne sx (hf c hc)
  have nb:∀c∈[z,TI,TO,i1,i2],b≠c:=λc hc=>I.seqB_ne sy (hf c hc)
  have D:ZipApart z TI TO i1 i2 a b:=⟨d1,d2,d3,d4,d5,d6,d7,d8,d9,d10,na z (by simp),na TO (by simp),na i1 (by simp),na i2 (by simp),nb z (by simp),nb TO (by simp),nb i1 (by simp),nb i2 (by simp)⟩
  obtain⟨a1,a2,a3,a4,a5⟩:=id st
  have W:=Zc (prog:=X.prog) (w:=X.w) (A:=X.A) (I.ok.hd hc) D (R7 p i1 a D.l1i1 its.toArray) (R7 q i2 b D.l2i2 jts.toArray)
  have hf':∀c∈[z,TO,i1,i2],Fr X pins H c:=λc hc=>hf c (by simp only [List.mem_cons,List.not_mem_nil,or_false]at hc ⊢;rcases hc with rfl | rfl | rfl | rfl <;> simp)
  have hi:min its.toArray.size jts.toArray.size=i:=by rw [List.size_toArray,List.size_toArray,<- rv.length,<- rw'.length];exact hn.symm
  subst hi
  exact W.done s _ _ ⟨a1,a2,a3,⟨a4,px⟩,⟨a5,py⟩⟩ λh' tk kk=>⟨rfl,I.turnedL kk hf'⟩
 self:=λA i s Q E st h=>wpAny_pyIter_zip st.1 h
def Sa(ds es:List PyData):List AV:=List.zipWith (λd e=>AV.D (.tuple [d,e])) ds es
theorem E7(ds es:List PyData):(Sa ds es).length=min ds.length es.length:=List.length_zipWith
theorem Nk{ds es:List PyData}{i:Nat}{x:AV}(h:(Sa ds es)[i]?=some x):∃d e,ds[i]?=some d/\es[i]?=some e/\x=.D (.tuple [d,e]):=by
 unfold Sa at h
 rw [List.getElem?_zipWith]at h
 split at h
 ·rename_i d e hd he
  cases h
  exact⟨d,e,hd,he,rfl⟩
 ·cases h
theorem U9{K:PySem.W.Frag}{H0:Hp}{p q:Bool}{a b:Addr}{us vs:List AV}{ds es:List PyData}{kp:M->Prop}(hd:dats us=some ds)(he:dats vs=some es)
  (h:∀H μ,Kp H0 H->Cn K μ H->kp μ->∃xs ys,R9 K p H a xs/\A9 K H us xs/\R9 K q H b ys/\A9 K H vs ys):ItOk K H0 (Izp K p q a b) (Sa ds es) kp:=by
 have hn:ds.length=us.length:=by rw [Hs hd,List.length_map]
 have hm:es.length=vs.length:=by rw [Hs he,List.length_map]
 refine⟨λi H μ S c k hi=>?_,λi H μ v H' x S c k e y=>?_,λH μ S c k=>?_⟩
 ·obtain⟨xs,ys,s1,r1,s2,r2⟩:=h H μ S c k
  rw [E7,hn,hm,r1.length,r2.length]at hi
  exact⟨xs,ys,xs[i]'(by omega),ys[i]'(by omega),s1,s2,List.getElem?_eq_getElem _,List.getElem?_eq_getElem _⟩
 ·obtain⟨xs,ys,s1,r1,s2,r2⟩:=h H μ S c k
  obtain⟨T,x',y',hT,rfl,rfl,q1,q2⟩:=y
  obtain⟨d,e',e1,e2,rfl⟩:=Nk e
  obtain⟨u,eu,ru⟩:=(r1.dats hd).get e1
  obtain⟨v,ev,rv⟩:=(r2.dats he).get e2
  rw [q1 xs s1]at eu
  rw [q2 ys s2]at ev
  cases eu
  cases ev
  exact⟨Kp.new hT _,c.over hT,Oh Cq (Dc (Dk.kp (Kp.new hT _) _ _ ru) (Dc (Dk.kp (Kp.new hT _) _ _ rv) Ds))⟩
 ·obtain⟨xs,ys,s1,r1,s2,r2⟩:=h H μ S c k
  exact⟨xs,ys,s1,s2,by rw [E7,hn,hm,r1.length,r2.length]⟩
def Qig(ta tb:AE):AI:=fun τ μ R=>ta τ μ λx μ1=>tb τ μ1 λy μ2=>opt (items μ2 x) λus=>opt (items μ2 y) λvs=>opt (dats us) λds=>opt (dats vs) λes=>R (Sa ds es) (fun μ=>items μ x=some us/\items μ y=some vs) μ2
section
variable {X:Cx}{e1 e2:Expr}{ta tb:AE}{pos p:Pos}
theorem Qb2{elts:List Expr}{k:Nat}{tpos:Pos}(hg:Gl X "zip") (hm:X.mg "zip" = none) (h1:VE X e1 ta) (h2:VE X e2 tb) (hs:starEach [e1,e2] X.env=(false,eval e1 X.env) :: starEach [e2] X.env:=by rfl) (hs2:starEach [e2] X.env=[(false,eval e2 X.env)]:=by rfl) (hpl:(backTo pos (starEach [e2] X.env)).any (·.1)=false:=by rfl) :
  VI X (.Tuple elts k tpos) (.Call (.Name "zip" p) [e1,e2] [] pos) (Qig ta tb):=by
 intro pins s σ H R I zz119
 refine Ce zz119 fun τ μ R' hst hc h hq=>?_
 refine wpAny_Call_Name_kw (C0 I hg hm boot_zip (PyProof.Rows.callWith_type1 ?_ hs hpl))
 rw [hs]
 refine Calls.spliced_cons (wpAny_mono (h1.run I hst hc h) (λu1 s1 zz120=>V4 zz120 λx v μ1 H1 I1 rv S1 c1 rx q1=>?_) λ_ _ e=>e)
 rw [hs2]
 refine Calls.spliced_cons (wpAny_mono (h2.run I1 (hst.kp S1) c1 q1) (λu2 s2 zz121=>V4 zz121 λy v2 μ2 H2 I2 rv2 S2 c2 ry q2=>Calls.spliced_nil ?_) λ_ _ e=>e)
 obtain⟨us,eu,q2⟩:=Bj q2
 obtain⟨vs,ev,q2⟩:=Bj q2
 obtain⟨ds,ed,q2⟩:=Bj q2
 obtain⟨es,ee,q2⟩:=Bj q2
 have rx2:=rx.kp S2
 obtain⟨a,xs,rfl,ka,ra⟩:=B3 c2 rx2 eu
 obtain⟨b,ys,rfl,kb,rb⟩:=B3 c2 ry ev
 have sqOf:∀{H:Hp} {z:AV} {c:Addr} {ws:List V},(Rj z=false/\Ec X.K H c ws)\/(Rj z=true/\Jv X.K H c ws)->R9 X.K (Rj z) H c ws:=λ{H z c ws} h=>by
  rcases h with⟨t,h⟩ | ⟨t,h⟩
  ·rw [t];exact h
  ·rw [t];exact h
 cases rv
 cases rv2
 obtain⟨its,r1,p1⟩:=I2.seqB (sqOf ka)
 obtain⟨jts,r2,p2⟩:=I2.seqB (sqOf kb)
 refine U7 p1 p2 λh' z1 z2 z3 z4 z5 z6 kz=>wpAny_pyIter_zip z1 ?_
 generalize hB:s2.heap.objs.size=B at z1 z2 z3 z4 z5 z6
 have f:∀(i j:Nat),i≠j->(B+i:Nat)≠B+j:=λi j h=>by omega
 refine⟨B+4,[B+4,B+2,B+3,B,B+1],_,_,H2,rfl,I2.kept (t':=s2.toks) kz,U8 (Rj x) (Rj y) a b (B+4) (B+2) (B+3) B (B+1) (f 2 4 (by decide)) (f 3 4 (by decide)) (f 0 4 (by decide)) (f 1 4 (by decide)) (f 2 3 (by decide)) (f 2 0 (by decide)) (f 2 1 (by decide)) (f 3 0 (by decide)) (f 3 1 (by decide)) (f 0 1 (by decide)),⟨z1,z2,⟨_,_,z3⟩,z4,z5⟩,λc hc'=>?_,hq _ _ _ _ _ (S1.trans S2) c2 (U9 (p:=Rj x) (q:=Rj y) (a:=a) (b:=b) ed ee λH3 μ3 S3 c3 k3=>?_) q2⟩
 ·have hge:s2.heap.objs.size<=c:=by
   rw [hB]
   simp only [List.mem_cons,List.not_mem_nil,or_false]at hc'
   rcases hc' with rfl | rfl | rfl | rfl | rfl
   ·exact Nat.le_add_right _ _
   ·exact Nat.le_add_right _ _
   ·exact Nat.le_add_right _ _
   ·exact Nat.le_refl _
   ·exact Nat.le_add_right _ _
  exact I2.fpOk hge (I2.hok.fresh hge)
 ·obtain⟨a',xs',ea,ka',ra'⟩:=B3 c3 (rx2.kp S3) k3.1
  obtain⟨b',ys',eb,kb',rb'⟩:=B3 c3 (ry.kp S3) k3.2
  cases ea
  cases eb
  exact⟨xs',ys',sqOf ka',ra',sqOf kb',rb'⟩
end
end L2
namespace K21
open PySem L2
def top(i:Nat):Stmt:=PySem.Challenge.pw_pileduel_k21_sayings_joined.main.body.getD i (.Pass ⟨0,0,0,0⟩)
abbrev sEi:Stmt:=top 1
abbrev Zd:Stmt:=top 2
abbrev sSs:Stmt:=top 3
abbrev Ze:Stmt:=top 4
abbrev sMv:Stmt:=top 5
abbrev Zf:Stmt:=top 6
abbrev X5:Stmt:=top 8
abbrev Zg:Stmt:=top 9
abbrev sDr:Stmt:=top 11
abbrev Zh:Stmt:=top 12
abbrev Va:Stmt:=top 13
abbrev sSo:Stmt:=top 14
abbrev sSa:Stmt:=top 15
abbrev Zi:Stmt:=top 16
abbrev sLs:Stmt:=top 17
abbrev Zj:Stmt:=top 18
abbrev sBh:Stmt:=top 19
abbrev Zk:Stmt:=top 20
abbrev sLe:Stmt:=top 21
abbrev Zl:Stmt:=top 22
abbrev J4:Stmt:=top 23
section
variable {P:Program}{w:World}{K:PySem.W.Frag}{mg:Str->Option Value}{base:Heap}{f:Addr}{fd:FuncData}
def Sb(i:Int):AV:=.D (.int i)
def stM(l:Addr)(s1:Int)(s2 s3:Nat):MO:=.lst [.R l,.D (.int s1),.D (.int (s2:Nat)),.D (.int (s3:Nat))]
structure PotAt(μ:M)(a l:Addr)(s1:Int)(s2 s3:Nat)(ns:List Int):Prop where
 ha:μ a=some (stM l s1 s2 s3)
 hl:μ l=some (.lst (ns.map Sb))
 n0:0<=s1
 ne:a≠l
def Pot(μ:M)(a l:Addr):Prop:=∃s1 s2 s3 ns,PotAt μ a l s1 s2 s3 ns
def Br(a l:Addr)(μ μ':M):Prop:=∀b m,b≠a->b≠l->μ b=some m->μ' b=some m
theorem Br.refl{a l:Addr}{μ:M}:Br a l μ μ:=λ_ _ _ _ h=>h
theorem Br.trans{a l:Addr}{μ ν ρ:M}(h:Br a l μ ν)(k:Br a l ν ρ):Br a l μ ρ:=λb m h1 h2 e=>k b m h1 h2 (h b m h1 h2 e)
theorem Br.new{a l p:Addr}{μ ν:M}{o:MO}(h:Br a l μ ν)(e:ν p=none):Br a l μ (Ar ν p o):=λb m h1 h2 q=>by
 have:=h b m h1 h2 q
 rw [Ab (by intro z;subst z;rw [e]at this;cases this)];exact this
theorem Br.put{a l p:Addr}{μ ν:M}{o:MO}(h:Br a l μ ν)(e:μ p=none):Br a l μ (Ar ν p o):=λb m h1 h2 q=>by
 rw [Ab (by intro z;subst z;rw [e]at q;cases q)];exact h b m h1 h2 q
theorem Br.a{a l:Addr}{μ ν:M}{o:MO}(h:Br a l μ ν):Br a l μ (Ar ν a o):=λb m h1 h2 q=>by rw [Ab h1];exact h b m h1 h2 q
theorem Br.none{a l p:Addr}{μ ν:M}(h:Br a l μ ν)(h1:a≠p)(h2:l≠p)(e:ν p=none):μ p=none:=by
 cases q:μ p with
 | none=>rfl
 | some m=>rw [h p m h1.symm h2.symm q]at e;cases e
theorem PotAt.other{μ:M}{a l p:Addr}{s1:Int}{s2 s3:Nat}{ns:List Int}{o:MO}(h:PotAt μ a l s1 s2 s3 ns)(h1:a≠p)(h2:l≠p):PotAt (Ar μ p o) a l s1 s2 s3 ns :=
 ⟨by rw [Ab h1];exact h.ha,by rw [Ab h2];exact h.hl,h.n0,h.ne⟩
theorem PotAt.to{μ:M}{a l:Addr}{s1 t1:Int}{s2 s3 t2 t3:Nat}{ns:List Int}(h:PotAt μ a l s1 s2 s3 ns)(h0:0<=t1):PotAt (Ar μ a (stM l t1 t2 t3)) a l t1 t2 t3 ns:=⟨Ad,by rw [Ab h.ne.symm];exact h.hl,h0,h.ne⟩
theorem Pot.other{μ:M}{a l p:Addr}{o:MO}(h:Pot μ a l)(h1:a≠p)(h2:l≠p):Pot (Ar μ p o) a l:=let⟨s1,s2,s3,ns,h⟩:=h;⟨s1,s2,s3,ns,h.other h1 h2⟩
theorem Pot.ne{μ:M}{a l p:Addr}(h:Pot μ a l)(e:μ p=none):a≠p/\l≠p:=by
 obtain⟨_,_,_,_,h⟩:=h
 exact⟨λz=>by(subst z;rw [h.ha]at e;cases e),λz=>by(subst z;rw [h.hl]at e;cases e)⟩
theorem Pot.new{μ:M}{a l p:Addr}{o:MO}(h:Pot μ a l)(e:μ p=none):Pot (Ar μ p o) a l:=h.other (h.ne e).1 (h.ne e).2
def J5(ns:List Int):PyData:=.list (ns.map .int)
theorem Sc(μ:M)(ns:List Int):items μ (.D (J5 ns))=some (ns.map Sb):=by
 show some ((ns.map PyData.int).map AV.D)=_
 rw [List.map_map];rfl
abbrev nDr:List Str:=["_law_state","_law_many","_law_found","_law_cell","_law_number"]
theorem Nl:FnScope nDr ["_law_state","_law_many"] (Ah sDr):=⟨rfl,rfl,rfl,by decide +kernel,rfl,by decide +kernel,by decide +kernel⟩
def Pb:ASp:=λxs μ R=>∃(a l:Addr) (many:Nat),xs=[.R a,.D (.int many)]/\Pot μ a l/\0 < many/\many < 1000000/\∀(v:Nat) (μ':M),v < many->Pot μ' a l->Br a l μ μ'->R (.D (.int v)) μ'
theorem Qb4{v:Int}{many:Nat}(h0:0<=v)(h1:v < many):∃n:Nat,v=n/\n < many:=⟨v.toNat,by omega,by omega⟩
theorem Vb(x:Int){m:Int}(h:0 < m):0<=x % m:=Int.emod_nonneg x (by omega)
theorem Vc(x:Int){m:Int}(h:0 < m)(h2:m<=2147483648):x % m < 2147483648:=Int.lt_of_lt_of_le (Int.emod_lt_of_pos x h) h2
theorem Qr{x:Int}{many:Nat}{Q:Int->Prop}(h0:0 < many)(h:∀v:Nat,v < many->Q v):Q (x % many):=by
 obtain⟨v,ev,hv⟩:=Qb4 (Int.emod_nonneg x (show(many:Int)≠0 by omega)) (Int.emod_lt_of_pos x (show 0 < (many:Int) by omega))
 rw [ev];exact h v hv
theorem Qeu{n:Nat}(F:Fun K "_law_draw" "_law_draw" sDr f fd) (m_len:mg "len" = none):FnOk P w K mg base Fl (n+1) f fd ["_law_state","_law_many"] (Hv K 2 Pb):=by
 refine F.vok Nl λcdv A outer s H E hr=>⟨_,(Ag (Fx (A0 Bl (Ak Ay (vv 0) Af) Af) (Lp (vv 0) Af))
   (Ag (Cs (Bd Qd4 (Ak Ay (vv 0) Af) Af (nomark _)) (Ag (Aw (i:=2) Nl.nd rfl (Or.inl rfl) (A0 Ga (Ak Ay (vv 0) Af) (vv 1)))
   (Ag (Fx (A0 Tw (Ak Ay (vv 0) Af) (vv 1)) (Lp (vv 0) Af))
   (An (Bo (vv 2))))) Bt)
   (Ag (Aw (i:=3) Nl.nd rfl (Or.inl rfl) Af)
   (Ag (Cs (Bd Mp (Ak Ay (vv 0) Af) (Ba Co rfl m_len PySem.boot_len (Aa (Ak Ay (vv 0) Af) Ae)) (nomark _)) (Ag (Aw (i:=3) Nl.nd rfl (Or.inl rfl) (Ak Ay (Ak Ay (vv 0) Af) (Ak Ay (vv 0) Af)))
   (Ag (Fx (A0 Bl (Ak Ay (vv 0) Af) Af) (Lp (vv 0) Af))
   (An (Cs (Bd Rk (vv 3) (A0 Qd3 Af Af) (nomark _)) (Ag (Fx (A0 Tw (vv 3) (vv 1)) (Lp (vv 0) Af))
   (An (Bo (A0 Ga (vv 3) (vv 1))))) Bt)))) (An (Cs (Bd Qd4 (Ba Co rfl m_len PySem.boot_len (Aa (Ak Ay (vv 0) Af) Ae)) Af (nomark _)) (An (Aw (i:=3) Nl.nd rfl (Or.inl rfl) (Ak Ay (Ak Ay (vv 0) Af) (A0 Ga (Ak Ay (vv 0) Af) (Ba Co rfl m_len PySem.boot_len (Aa (Ak Ay (vv 0) Af) Ae)))))) Bt)))
   (Ag (Aw (i:=4) Nl.nd rfl (Or.inl rfl) (A0 Ga (A0 Bl (A0 Bl (A0 Ir (A0 Ga (vv 3) Af) Af) (A0 Ir Af (Ak Ay (vv 0) Af))) Af) Af))
   (Ag (Aw (i:=4) Nl.nd rfl (Or.inl rfl) (A0 Ga (A0 Bl (A0 Ir (vv 4) (vv 4)) (A0 Ir Af (Ak Ay (vv 0) Af))) Af))
   (Ag (Aw (i:=4) Nl.nd rfl (Or.inl rfl) (A0 Ga (A0 Bl (A0 Ir (vv 4) Af) Af) Af))
   (An (Bo (A0 Ga (A0 Ga (A0 Ir (vv 4) (vv 4)) Af) (vv 1))))))))))),?_⟩
 rintro xs μ R _ ⟨a,l,many,rfl,⟨s1,s2,s3,ns,D0⟩,h0,h1,q⟩
 refine A8 (fun τ μ'=>τ=[some (.R a),some (.D (.int many)),none,none,none]/\PotAt μ' a l s1 (s2+1) s3 ns/\Br a l μ μ') (λZ hZ=>?_) ?_
 ·exact Ac D0.ha (Ac rfl (Ac D0.ha (Ac rfl (hZ _ _ ⟨rfl,D0.to D0.n0,Br.refl.a⟩))))
 rintro τ μ1 ⟨rfl,D1,S1⟩
 have n0:=D1.n0
 refine A8 (fun τ μ'=>τ=[some (.R a),some (.D (.int many)),none,none,none]/\μ1=μ') (λZ hZ=>?_) ?_
 ·refine Ac D1.ha (Ac rfl (dif (λc=>?_) (λc=>hZ _ _ ⟨rfl,rfl⟩)))
  refine Ac D1.ha (Ac rfl ⟨(by show(0:Int) < _;omega),Ac D1.ha (Ac rfl ⟨⟨by omega,by omega⟩,Ac D1.ha (Ac rfl ⟨_,Sub.refl,?_⟩)⟩)⟩)
  refine Qr (Q:=λi=>R (.D (.int i)) _) h0 λv hv=>?_
  exact q v _ hv ⟨s1 / many,s2+1,s3,ns,D1.to (Int.ediv_nonneg n0 (by omega))⟩ S1.a
 rintro τ _ ⟨rfl,rfl⟩
 refine Fn ?_
 refine A8 (fun τ μ'=>∃(cell:Int) (s3:Nat),τ=[some (.R a),some (.D (.int many)),none,some (.D (.int cell)),none]/\PotAt μ' a l s1 (s2+1) s3 ns/\Br a l μ μ') (λZ hZ=>?_) ?_
 ·refine Ac D1.ha (Ac rfl (Ac D1.ha (Ac rfl (Ac D1.hl (dif (λc=>?_) (λc=>?_))))))
  ·have hs3:s3 < ns.length:=by rw [List.length_map]at c;omega
   have hx:(ns.map Sb)[s3]?=some (Sb ns[s3]):=by rw [List.getElem?_map,List.getElem?_eq_getElem hs3];rfl
   refine Ac D1.ha (Ac rfl (Ac D1.ha (Ac rfl (Ac D1.hl (Ac (Ai hx) (Ac D1.ha (Ac rfl (Ac D1.ha (Ac rfl ?_)))))))))
   have D2:PotAt (Ar μ1 a (stM l s1 (s2+1) (s3+1))) a l s1 (s2+1) (s3+1) ns:=D1.to n0
   refine⟨⟨by decide,by decide,by decide⟩,dif (λc2=>?_) (λc2=>hZ _ _ ⟨_,s3+1,rfl,D2,S1.a⟩)⟩
   refine⟨⟨by omega,by omega⟩,Ac D2.ha (Ac rfl ⟨(by show(0:Int) < _;omega),_,Sub.refl,?_⟩)⟩
   have hc2:0<=ns[s3]:=by
    have h18:(0:Int)<=10 ^ (18:Int).toNat:=by decide
    exact Int.le_trans h18 c2
   refine Qr (Q:=λi=>R (.D (.int i)) _) h0 λv hv=>?_
   exact q v _ hv ⟨ns[s3] / many,s2+1,s3+1,ns,D2.to (Int.ediv_nonneg hc2 (by omega))⟩ S1.a.a
  ·refine Ac D1.ha (Ac rfl (Ac D1.hl (dif (λc2=>?_) (λc2=>hZ _ _ ⟨7,s3,rfl,D1,S1⟩))))
   refine Ac D1.ha (Ac rfl (Ac D1.ha (Ac rfl (Ac D1.ha (Ac rfl (Ac D1.hl ⟨c2,?_⟩))))))
   have hlen:0 < (ns.map Sb).length:=by omega
   refine Qr (x:=((s2+1:Nat):Int)) (Q:=λi=>opt (μ1 l) λm=>match m with
    | .lst xs=>opt (atI xs i) λv=>Z [some (.R a),some (.D (.int many)),none,some v,none] μ1
    | _=>False) hlen λv hv=>?_
   rw [List.length_map]at hv
   refine Ac D1.hl (Ac (Ai (v:=Sb ns[v]) (by rw [List.getElem?_map,List.getElem?_eq_getElem hv];rfl)) (hZ _ _ ⟨ns[v],s3,rfl,D1,S1⟩))
 rintro τ μ2 ⟨cell,s3',rfl,D2,S2⟩
 refine A8 (fun τ μ'=>∃one:Int,τ=[some (.R a),some (.D (.int many)),none,some (.D (.int cell)),some (.D (.int one))]/\μ2=μ'/\0<=one/\one < 2147483648) (λZ hZ=>?_) ?_
 ·exact⟨(by show(0:Int) < _;decide),.inr ⟨by decide,by decide⟩,Ac D2.ha (Ac rfl ⟨.inl ⟨by decide,by decide⟩,(by show(0:Int) < _;decide),hZ _ _ ⟨_,rfl,rfl,Vb _ (by decide),Vc _ (by decide) (by decide)⟩⟩)⟩
 rintro τ _ ⟨one,rfl,rfl,o0,o1⟩
 refine A8 (fun τ μ'=>∃one:Int,τ=[some (.R a),some (.D (.int many)),none,some (.D (.int cell)),some (.D (.int one))]/\μ2=μ'/\0<=one/\one < 2147483648) (λZ hZ=>?_) ?_
 ·exact⟨.inl ⟨by omega,by omega⟩,Ac D2.ha (Ac rfl ⟨.inl ⟨by decide,by decide⟩,(by show(0:Int) < _;decide),hZ _ _ ⟨_,rfl,rfl,Vb _ (by decide),Vc _ (by decide) (by decide)⟩⟩)⟩
 rintro τ _ ⟨two,rfl,rfl,t0,t1⟩
 refine A8 (fun τ μ'=>∃one:Int,τ=[some (.R a),some (.D (.int many)),none,some (.D (.int cell)),some (.D (.int one))]/\μ2=μ'/\0<=one/\one < 2147483648) (λZ hZ=>?_) ?_
 ·exact⟨.inr ⟨by decide,by decide⟩,(by show(0:Int) < _;decide),hZ _ _ ⟨_,rfl,rfl,Vb _ (by decide),Vc _ (by decide) (by decide)⟩⟩
 rintro τ _ ⟨three,rfl,rfl,r0,r1⟩
 refine⟨.inl ⟨by omega,by omega⟩,(by show(0:Int) < _;decide),(by show(0:Int) < _;omega),_,Sub.refl,?_⟩
 exact Qr (Q:=λi=>R (.D (.int i)) _) h0 λv hv=>q v _ hv ⟨s1,s2+1,s3',ns,D2⟩ S2
end
section
variable {P:Program}{w:World}{K:PySem.W.Frag}{mg:Str->Option Value}{base:Heap}{f:Addr}{fd:FuncData}
def Bq(ns:List Nat):PyData:=.tuple (ns.map λ(n:Nat)=>.int n)
theorem Ax{μ:M}(ns:List Nat):items μ (.D (Bq ns))=some (ns.map λ(n:Nat)=>.D (.int n)):=by
 show some ((ns.map λ(n:Nat)=>PyData.int n).map AV.D)=_
 rw [List.map_map];rfl
theorem Hy{ns:List Nat}:PyData.canLayAll0 (ns.map λ(n:Nat)=>.int n)=true/\PyData.depthAll (ns.map λ(n:Nat)=>.int n)<=1:=by
 induction ns with
 | nil=>exact⟨rfl,by simp [PyData.depthAll]⟩
 | cons n ns ih =>
  simp only [List.map_cons,PyData.canLayAll0,PyData.depthAll,ih.1,Bool.and_true]
  refine⟨rfl,?_⟩
  have:=ih.2
  simp only [PyData.depth];omega
theorem D7{ns:List Nat}:Cf (Bq ns):=⟨by simp only [Bq,PyData.canLay0];exact Hy.1,by have:=(Hy (ns:=ns)).2;simp only [Bq,PyData.depth];omega⟩
def Bm(n:Nat):AV:=.D (.int n)
theorem Cu(ns:List Nat):dats (ns.map Bm)=some (ns.map λ(n:Nat)=>.int n):=by
 rw [show ns.map Bm=(ns.map λ(n:Nat)=>PyData.int n).map .D by rw [List.map_map];rfl];exact B5 _
theorem G7:∀(ns:List Nat),Aq (ns.map λ(n:Nat)=>.int n)=true
 | []=>rfl
 | n :: ns=>by simp only [List.map_cons,Aq,Cano,G7 ns,Bool.and_self]
theorem Nm:∀(ms ns:List Nat),cmpbs (ms.map λ(n:Nat)=>.int n) (ns.map λ(n:Nat)=>.int n)=true
 | [],_=>by simp only [List.map_nil,cmpbs]
 | _ :: _,[]=>by simp only [List.map_nil,List.map_cons,cmpbs]
 | m :: ms,n :: ns=>by
  simp only [List.map_cons,cmpbs,cmpb,Nm ms ns,ite_self]
end
section
variable {P:Program}{w:World}{K:PySem.W.Frag}{mg:Str->Option Value}{base:Heap}{f:Addr}{fd:FuncData}
def Av(z:Str):AV:=.D (.str z)
theorem L4{z:Str}(h:lets z):PyData.canLay0 (.str z)=true:=by
 show PyData.strOk z=true
 unfold PyData.strOk
 rw [Array.all_eq_true]
 intro i hi
 have:=h z.cps[i] (by simp)
 simp
 omega
theorem G8{z:Str}(h:lets z):Cf (.str z):=T1 (L4 h)
theorem Gn(zs:List Str):dats (zs.map Av)=some (zs.map PyData.str):=by
 rw [show zs.map Av=(zs.map PyData.str).map .D by rw [List.map_map];rfl];exact B5 _
theorem Dq:∀(zs:List Str),txts (zs.map Av)=some zs
 | []=>rfl
 | z :: zs=>by simp only [List.map_cons,Av,txts,Option.map_eq_some_iff];exact⟨zs,Dq zs,rfl⟩
theorem X6:∀i:Fin 26,∃c,("abcdefghijklmnopqrstuvwxyz" : Str).cps.toList[i.val]?=some c/\97<=c/\c<=122:=by decide +kernel
theorem Vd{v:Nat}(h:v < 26):∃c,atI ("abcdefghijklmnopqrstuvwxyz" : Str).cps.toList (v:Int)=some c/\97<=c/\c<=122:=by
 obtain⟨c,e,h1⟩:=X6 ⟨v,h⟩
 exact⟨c,Ai e,h1⟩
theorem Nn{c:Nat}(h:97<=c/\c<=122):lets ⟨#[c]⟩:=λd hd=>by
 have:d=c:=by simpa using hd
 rw [this];exact h
theorem Ve:("abcdefghijklmnopqrstuvwxyz" : Str).length<=sizeLine:=by decide +kernel
theorem Vf:("" : Str).length=0:=by decide +kernel
theorem L5(x y:Str):(x++y).length=x.length+y.length:=by rw [Lw,Lw,Lw,Qj,List.length_append]
theorem No:∀{zs:List Str},(∀z∈zs,z.length=1)->(zs.map (·.length)).sum=zs.length
 | [],_=>rfl
 | z :: zs,h=>by
  simp only [List.map_cons,List.sum_cons,List.length_cons]
  rw [h z List.mem_cons_self,No λy hy=>h y (List.mem_cons_of_mem _ hy)];omega
theorem Sd(zs:List Str):(Txt.join "" zs).length=(zs.map (·.length)).sum:=by
 show(PySem.Builtin.Str.glued "" zs).length=_
 rw [StrLaws.glued_eq_join]
 induction zs with
 | nil=>rfl
 | cons x zs ih =>
  cases zs with
  | nil=>simp [Str.join]
  | cons y zs =>
   have e:Str.join "" (x :: y :: zs)=x ++ "" ++ Str.join "" (y :: zs):=rfl
   rw [e,L5,L5,Vf,ih]
   simp
abbrev Cv:List Str:=["place","letter","rule","own","arrow","ends","one","other"]
theorem Se:Cf (.tuple (Cv.map PyData.str)):=⟨by decide +kernel,by decide +kernel⟩
theorem Qii{x:AV}{i:Nat}{u:AS}{k:ASt->M->Prop}{r:AV->M->Prop}{b c:ASt->M->Prop}{τ:ASt}{μ:M}(h:u k r b c (τ.set i (some x)) μ):W8 (Rm (vC x) (Et i)) u k r b c τ μ:=h
theorem K7{zs:List Str}(h:∀z∈zs,lets z):Cf (.tuple (zs.map PyData.str)):=by
 have h2:PyData.canLayAll0 (zs.map PyData.str)=true/\PyData.depthAll (zs.map PyData.str)=0:=by
  induction zs with
  | nil=>exact⟨rfl,rfl⟩
  | cons z zs ih =>
   obtain⟨a,b⟩:=ih λy hy=>h y (.tail _ hy)
   have:=L4 (h z (.head _))
   simp only [List.map_cons,PyData.canLayAll0,PyData.depthAll,PyData.depth,a,b,this]
   exact⟨rfl,rfl⟩
 exact⟨by simp only [PyData.canLay0];exact h2.1,by simp only [PyData.depth,h2.2];decide⟩
theorem L6(zs:List Str)(z:Str):((zs.map PyData.str).any λe=>PyData.eqv e (.str z))=decide (z∈zs):=by
 rw [Bool.eq_iff_iff,List.any_eq_true,decide_eq_true_iff]
 constructor
 ·rintro⟨e,he,h⟩
  obtain⟨y,hy,rfl⟩:=List.mem_map.mp he
  rw [Hx rfl rfl,decide_eq_true_iff]at h
  cases h;exact hy
 ·intro h
  exact⟨.str z,List.mem_map.mpr ⟨z,h,rfl⟩,by rw [Hx rfl rfl];exact decide_eq_true rfl⟩
def Np(z:Str):Bool:=z.cps.toList.all λc=>decide (97<=c) && decide (c<=122)
theorem Hz{z:Str}(h:Np z=true):lets z:=λc hc=>by
 have:=List.all_eq_true.mp h c hc
 simpa using this
structure KW(z:Str):Prop where
 l:lets z
 n:z.length<=6
 l1:lets (Txt.slice z (some 1) none)
 n1:(Txt.slice z (some 1) none).length<=5
 l2:lets (Txt.slice z none (some (-1)))
 n2:(Txt.slice z none (some (-1))).length<=5
theorem Qb5:(Cv.all λz=>Np z && decide (z.length<=6) && Np (Txt.slice z (some 1) none) && decide ((Txt.slice z (some 1) none).length<=5) && Np (Txt.slice z none (some (-1))) && decide ((Txt.slice z none (some (-1))).length<=5))=true:=by decide +kernel
theorem Qev{v:Nat}(h:v < 8):∃z,(Cv.map Av)[v]?=some (Av z)/\KW z:=by
 have hv:v < Cv.length:=h
 refine⟨Cv[v],by rw [List.getElem?_map,List.getElem?_eq_getElem hv];rfl,?_⟩
 have:=List.all_eq_true.mp Qb5 Cv[v] (List.getElem_mem hv)
 simp only [Bool.and_eq_true,decide_eq_true_iff]at this
 obtain⟨⟨⟨⟨⟨a,b⟩,c⟩,d⟩,e⟩,f⟩:=this
 exact⟨Hz a,b,Hz c,d,Hz e,f⟩
def spq(c:Nat):Str:=(⟨#[c]⟩:Str) ++ "q"
theorem Qb6:(("abcdefghijklmnopqrstuvwxyz" : Str).cps.toList.map spq).Nodup:=by decide +kernel
theorem Qb7:(("abcdefghijklmnopqrstuvwxyz" : Str).cps.toList.all λc=>Np (spq c) && decide ((spq c).length<=6) && decide (spq c∉Cv))=true:=by decide +kernel
theorem Vg:("abcdefghijklmnopqrstuvwxyz" : Str).cps.toList.length=26:=by decide +kernel
structure Nms(zs:List Str):Prop where
 l:∀z∈zs,lets z
 n:∀z∈zs,z.length<=6
 k:∀z∈zs,z∉Cv
 nd:zs.Nodup
theorem Nms.add{zs:List Str}{z:Str}(h:Nms zs)(h1:lets z)(h2:z.length<=6)(h3:z∉Cv)(h4:z∉zs):Nms (zs++[z]):=by
 refine⟨λy hy=>?_,λy hy=>?_,λy hy=>?_,?_⟩
 ·rcases List.mem_append.mp hy with hy | hy
  ·exact h.l y hy
  ·rw [List.mem_singleton.mp hy];exact h1
 ·rcases List.mem_append.mp hy with hy | hy
  ·exact h.n y hy
  ·rw [List.mem_singleton.mp hy];exact h2
 ·rcases List.mem_append.mp hy with hy | hy
  ·exact h.k y hy
  ·rw [List.mem_singleton.mp hy];exact h3
 ·refine List.nodup_append.mpr ⟨h.nd,List.nodup_cons.mpr ⟨by simp,List.nodup_nil⟩,λa ha b hb=>?_⟩
  rw [List.mem_singleton.mp hb]
  rintro rfl;exact h4 ha
abbrev nNa:List Str:=["_law_state","_law_many","_law_letters","_law_kept","_law_found","_law_k","_law_word","_law_form","_law_name"]
theorem Jq:FnScope nNa ["_law_state","_law_many"] (Ah Zh):=⟨rfl,rfl,rfl,by decide +kernel,rfl,by decide +kernel,by decide +kernel⟩
theorem Qew:(["_law_j","_law_letters","_law_state"]:List Str).Nodup:=by decide +kernel
theorem Qex:(["_law_letter","_law_found"]:List Str).Nodup:=by decide +kernel
def Qey:ASp:=λxs μ R=>∃(a l:Addr) (many:Nat),xs=[.R a,.D (.int many)]/\many<=5/\Pot μ a l/\∀(zs:List Str) (p:Addr) μ',zs.length=many->Nms zs->μ p=none->μ' p=some (.lst (zs.map Av))->Pot μ' a l->Br a l μ μ'->R (.R p) μ'
theorem Qez{n:Nat}(F:Fun K "_law_names" "_law_names" Zh f fd) (cDr:VCal P w K mg base n "_law_draw" ["_law_state","_law_many"] Pb) (m_range:mg "range" = none) (m_len:mg "len" = none):FnOk P w K mg base Fl (n+1) f fd ["_law_state","_law_many"] (Hv K 2 Qey):=by
 refine F.vok Jq λcdv A outer s H E hr=>⟨_,(Ag (Aw (i:=2) Jq.nd rfl (Or.inr rfl) Bu)
   (Ag (Aw (i:=3) Jq.nd rfl (Or.inl rfl) (Cc (Aa Bu (Aa Bu (Aa Bu (Aa Bu (Aa Bu (Aa Bu (Aa Bu (Aa Bu Ae))))))))))
   (Ag (Aw (i:=4) Jq.nd rfl (Or.inr rfl) (Cc Ae))
   (Ag (Df PassesOwn.never rfl (Dh rfl m_range (Aa (vv 1) Ae)) (Am (i:=5) Jq.nd rfl (Or.inl rfl)) (Ag (Aw (i:=6) Jq.nd rfl (Or.inl rfl) (Ak Ay (vv 3) (Al cDr hr rfl (Aa (vv 0) (Aa Af Ae)))))
   (Ag (Aw (i:=7) Jq.nd rfl (Or.inl rfl) (Al cDr hr rfl (Aa (vv 0) (Aa Af Ae))))
   (Ag (Aw (i:=8) Jq.nd rfl (Or.inl rfl) (Ki PySem.F.slot_str_join PySem.F.type_str_join G3 Bu (Aa (Bw (N':=["_law_j","_law_letters","_law_state"]) (mp:=[none,some 2,some 0]) rfl (Dh rfl m_range (Aa (A0 Bl Af (Al cDr hr rfl (Aa (vv 0) (Aa Af Ae)))) Ae)) (λ_ _ _ _=>(Am (i:=0) Qew rfl (Or.inl rfl) (Or.inr rfl))) (λ_ _ _ _=>Bs) (λ_ _ _ _=>(Ak Ay (vv 1) (Al cDr hr rfl (Aa (vv 2) (Aa Af Ae))))) (A5 (N:=nNa) (pn:=(Ah Zh).names) (by decide +kernel))) Ae)))
   (Ag (Cs (VW.pt (Fw (Bd (Hn hr) (vv 7) Af (nomark _)) (Fc (Bd Mp (Ba Co rfl m_len PySem.boot_len (Aa (vv 6) Ae)) Af (nomark _))))) (An (Aw (i:=8) Jq.nd rfl (Or.inl rfl) (A0 Bl (vv 6) (Ak Ay (vv 2) (Al cDr hr rfl (Aa (vv 0) (Aa Af Ae))))))) Bt)
   (Ag (Cs (Bd (Hn hr) (vv 7) Af (nomark _)) (An (Aw (i:=8) Jq.nd rfl (Or.inl rfl) (Ak Ay (Cc (Aa (D3 (vv 6) (Fe Af) Fd) (Aa (D3 (vv 6) Fd (Fe (Qbg Af))) Ae))) (Al cDr hr rfl (Aa (vv 0) (Aa Af Ae)))))) Bt)
   (Ag (Cs (VW.pt (Pq (Bd (Tv hr) (vv 8) (vv 3) (by with_unfolding_all rfl)) (Ll (Bd (Tv hr) (vv 8) (vv 4) (by with_unfolding_all rfl))))) (An (Aw (i:=8) Jq.nd rfl (Or.inl rfl) (Ak Ay (Bw (N':=["_law_letter","_law_found"]) (mp:=[none,some 4]) rfl (Qbz (vv 2)) (λ_ _ _ _=>(Am (i:=0) Qex rfl (Or.inl rfl) (Or.inr rfl))) (λ_ _ _ _=>(C3 (Bd (Hu hr) (A0 Bl (vv 0) Bu) (vv 1) (by with_unfolding_all rfl)))) (λ_ _ _ _=>(A0 Bl (vv 0) Bu)) (A5 (N:=nNa) (pn:=(Ah Zh).names) (by decide +kernel))) Af))) Bt)
   (An (Cw (Em PySem.F.slot_list_append PySem.F.type_list_append Cr (vv 4) (Aa (vv 8) Ae)))))))))))
   (An (Bo (vv 4))))))),?_⟩
 rintro xs μ R _ ⟨a,l,many,rfl,hm,hP,q⟩
 refine Qii (A8 (fun τ μ'=>∃pk,τ=[some (.R a),some (.D (.int many)),some (Av "abcdefghijklmnopqrstuvwxyz"),some (.R pk),none,none,none,none,none]/\μ pk=none/\μ' pk=some (.lst (Cv.map Av))/\Pot μ' a l/\Br a l μ μ') (λZ hZ=>λpk hpk=>hZ _ _ ⟨pk,rfl,hpk,Ad,hP.new hpk,Br.refl.new hpk⟩) ?_)
 rintro τ μ1 ⟨pk,rfl,hpk,e1,P1,S1⟩
 intro pf hpf
 have hnk:=hP.ne hpk
 have hne:=P1.ne hpf
 have hpf0:μ pf=none:=S1.none hne.1 hne.2 hpf
 have hkf:pk≠pf:=by rintro rfl;rw [e1]at hpf;cases hpf
 refine A8 (fun τ μ'=>∃o5 o6 o7 o8 zs,τ=[some (.R a),some (.D (.int many)),some (Av "abcdefghijklmnopqrstuvwxyz"),some (.R pk),some (.R pf),o5,o6,o7,o8]/\zs.length=many/\Nms zs/\μ' pf=some (.lst (zs.map Av))/\Pot μ' a l/\Br a l μ μ') (λZ hZ=>?_) ?_
 ·refine⟨by omega,by omega,?_⟩
  have hlen:(D4 0 (many:Int).toNat).length=many:=by rw [B7];omega
  refine En (λi τ μ'=>∃o5 o6 o7 o8 zs,τ=[some (.R a),some (.D (.int many)),some (Av "abcdefghijklmnopqrstuvwxyz"),some (.R pk),some (.R pf),o5,o6,o7,o8]/\zs.length=i/\Nms zs/\μ' pf=some (.lst (zs.map Av))/\μ' pk=some (.lst (Cv.map Av))/\Pot μ' a l/\Br a l μ μ') ⟨none,none,none,none,[],rfl,rfl,⟨(λ_ z=>nomatch z),(λ_ z=>nomatch z),(λ_ z=>nomatch z),List.nodup_nil⟩,Ad,by rw [Ab hkf];exact e1,P1.new hpf,S1.new hpf⟩ (λ_ _ _ _=>trivial) ?_ ?_
  ·rintro i y τ μ2 Z2 hy ⟨o5,o6,o7,o8,zs,rfl,hn,hz,e2,k2,P2,S2⟩ hZ2
   have hi:i < many:=by rw [<- hlen];exact(List.getElem?_eq_some_iff.mp hy).1
   have ey:=Gb _ _ _ hy
   subst ey
   refine A8 (fun τ μ'=>∃wd,τ=[some (.R a),some (.D (.int many)),some (Av "abcdefghijklmnopqrstuvwxyz"),some (.R pk),some (.R pf),some (.D (.int (0+(i:Int)))),some (Av wd),o7,o8]/\KW wd/\μ' pf=some (.lst (zs.map Av))/\μ' pk=some (.lst (Cv.map Av))/\Pot μ' a l/\Br a l μ μ') (λZ3 hZ3=>?_) ?_
   ·refine⟨a,l,8,rfl,P2,by decide,by decide,λv μ3 hv P3 S3=>?_⟩
    obtain⟨z,ez,kz⟩:=Qev hv
    have k3:=S3 pk _ hnk.1.symm hnk.2.symm k2
    exact Ac k3 (Ac (Ai ez) (hZ3 _ _ ⟨z,rfl,kz,S3 pf _ hne.1.symm hne.2.symm e2,k3,P3,S2.trans S3⟩))
   rintro τ μ3 ⟨wd,rfl,kw,e3,k3,P3,S3⟩
   have hwl:wd.length<=sizeLine:=Nat.le_trans kw.n (by decide)
   refine A8 (fun τ μ'=>∃fm:Nat,τ=[some (.R a),some (.D (.int many)),some (Av "abcdefghijklmnopqrstuvwxyz"),some (.R pk),some (.R pf),some (.D (.int (0+(i:Int)))),some (Av wd),some (.D (.int fm)),o8]/\μ' pf=some (.lst (zs.map Av))/\μ' pk=some (.lst (Cv.map Av))/\Pot μ' a l/\Br a l μ μ') (λZ3 hZ3=>?_) ?_
   ·exact⟨a,l,6,rfl,P3,by decide,by decide,λv μ4 hv P4 S4=>hZ3 _ _ ⟨v,rfl,S4 pf _ hne.1.symm hne.2.symm e3,S4 pk _ hnk.1.symm hnk.2.symm k3,P4,S3.trans S4⟩⟩
   rintro τ μ4 ⟨fm,rfl,e4,k4,P4,S4⟩
   refine A8 (fun τ μ'=>∃nm:Str,τ=[some (.R a),some (.D (.int many)),some (Av "abcdefghijklmnopqrstuvwxyz"),some (.R pk),some (.R pf),some (.D (.int (0+(i:Int)))),some (Av wd),some (.D (.int fm)),some (Av nm)]/\lets nm/\nm.length<=6/\μ' pf=some (.lst (zs.map Av))/\μ' pk=some (.lst (Cv.map Av))/\Pot μ' a l/\Br a l μ μ') (λZ3 hZ3=>?_) ?_
   ·refine⟨trivial,a,l,6,rfl,P4,by decide,by decide,λc μ5 hc P5 S5=>⟨by omega,by omega,λpl hpl=>?_⟩⟩
    have hnl:=P5.ne hpl
    have e5:=S5 pf _ hne.1.symm hne.2.symm e4
    have k5:=S5 pk _ hnk.1.symm hnk.2.symm k4
    have hlf:pf≠pl:=by rintro rfl;rw [e5]at hpl;cases hpl
    have hlk:pk≠pl:=by rintro rfl;rw [k5]at hpl;cases hpl
    have hlen5:(D4 0 (1+(c:Int)).toNat).length=1+c:=by rw [B7];omega
    refine Eg (λj acc τ μ'=>∃(o:Option AV) (ys:List Str),τ=[o,some (Av "abcdefghijklmnopqrstuvwxyz"),some (.R a)]/\acc=ys.map Av/\ys.length=j/\(∀z∈ys,lets z/\z.length=1)/\μ' pl=some (.lst acc)/\μ' pf=some (.lst (zs.map Av))/\μ' pk=some (.lst (Cv.map Av))/\Pot μ' a l/\Br a l μ5 μ') ⟨none,[],rfl,rfl,rfl,(λ_ z=>nomatch z),Ad,by rw [Ab hlf];exact e5,by rw [Ab hlk];exact k5,P5.new hpl,Br.refl.new hpl⟩ (λ_ _ _ _ _=>trivial) ?_ ?_
    ·rintro j x acc τ μ6 Z4 hx ⟨o,ys,rfl,rfl,hyl,hb,l6,e6,k6,P6,S6⟩ hZ4
     refine Ri rfl ⟨a,l,26,rfl,P6,by decide,by decide,λv μ7 hv P7 S7=>?_⟩
     have l7:=S7 pl _ hnl.1.symm hnl.2.symm l6
     obtain⟨ch,ec,hch⟩:=Vd hv
     have hj:j < 1+c:=by rw [<- hlen5];exact(List.getElem?_eq_some_iff.mp hx).1
     refine⟨Ve,Ac ec ⟨l7,Bg (by rw [List.length_map];omega),hZ4 _ _ _ ⟨_,ys++[⟨#[ch]⟩],rfl,by rw [List.map_append];rfl,by rw [List.length_append,hyl];rfl,λz hz'=>?_,Ad,by rw [Ab hlf];exact S7 pf _ hne.1.symm hne.2.symm e6,by rw [Ab hlk];exact S7 pk _ hnk.1.symm hnk.2.symm k6,P7.other hnl.1 hnl.2,(S6.trans S7).put hpl⟩⟩⟩
     rcases List.mem_append.mp hz' with h | h
     ·exact hb z h
     ·rw [List.mem_singleton.mp h];exact⟨Nn hch,rfl⟩
    ·rintro acc τ μ6 ⟨o,ys,rfl,rfl,hyl,hb,l6,e6,k6,P6,S6⟩
     rw [hlen5]at hyl
     have hsum:=No λz hz'=>(hb z hz').2
     refine Ac l6 (Ac (Dq ys) ⟨?_,hZ3 _ _ ⟨Txt.join "" ys,rfl,Rz λz hz'=>(hb z hz').1,?_,e6,k6,P6,S4.trans (S5.trans S6)⟩⟩)
     ·rw [hsum,Vf];omega
     ·rw [Sd,hsum];omega
   rintro τ μ5 ⟨nm0,rfl,ln0,hn0,e5,k5,P5,S5⟩
   refine A8 (fun τ μ'=>∃nm:Str,τ=[some (.R a),some (.D (.int many)),some (Av "abcdefghijklmnopqrstuvwxyz"),some (.R pk),some (.R pf),some (.D (.int (0+(i:Int)))),some (Av wd),some (.D (.int fm)),some (Av nm)]/\lets nm/\nm.length<=6/\μ' pf=some (.lst (zs.map Av))/\μ' pk=some (.lst (Cv.map Av))/\Pot μ' a l/\Br a l μ μ') (λZ3 hZ3=>?_) ?_
   ·refine ieq (λc=>⟨hwl,dif (λc2=>?_) (λc2=>hZ3 _ _ ⟨nm0,rfl,ln0,hn0,e5,k5,P5,S5⟩)⟩) (λc=>Oj rfl (hZ3 _ _ ⟨nm0,rfl,ln0,hn0,e5,k5,P5,S5⟩))
    refine⟨a,l,26,rfl,P5,by decide,by decide,λv μ6 hv P6 S6=>?_⟩
    obtain⟨ch,ec,hch⟩:=Vd hv
    have l1:(wd++(⟨#[ch]⟩:Str)).length=wd.length+1:=by rw [L5];rfl
    refine⟨Ve,Ac ec ⟨?_,hZ3 _ _ ⟨_,rfl,Jk kw.l (Nn hch),by rw [l1];omega,S6 pf _ hne.1.symm hne.2.symm e5,S6 pk _ hnk.1.symm hnk.2.symm k5,P6,S5.trans S6⟩⟩⟩
    show wd.length+1<=sizeLine
    exact Nat.le_trans (show _<=10 by have:=kw.n;omega) (by decide)
   rintro τ μ6 ⟨nm1,rfl,ln1,hn1,e6,k6,P6,S6⟩
   refine A8 (fun τ μ'=>∃nm:Str,τ=[some (.R a),some (.D (.int many)),some (Av "abcdefghijklmnopqrstuvwxyz"),some (.R pk),some (.R pf),some (.D (.int (0+(i:Int)))),some (Av wd),some (.D (.int fm)),some (Av nm)]/\lets nm/\nm.length<=6/\μ' pf=some (.lst (zs.map Av))/\μ' pk=some (.lst (Cv.map Av))/\Pot μ' a l/\Br a l μ μ') (λZ3 hZ3=>?_) ?_
   ·refine ieq (λc=>?_) (λc=>hZ3 _ _ ⟨nm1,rfl,ln1,hn1,e6,k6,P6,S6⟩)
    refine⟨hwl,hwl,λp2 hp2=>⟨a,l,2,rfl,P6.new hp2,by decide,by decide,λv μ7 hv P7 S7=>?_⟩⟩
    have h2f:pf≠p2:=by rintro rfl;rw [e6]at hp2;cases hp2
    have h2k:pk≠p2:=by rintro rfl;rw [k6]at hp2;cases hp2
    have hn2:=P6.ne hp2
    refine Ac (S7 p2 _ hn2.1.symm hn2.2.symm Ad) ?_
    have e7:=S7 pf _ hne.1.symm hne.2.symm (show Ar μ6 p2 _ pf=_ by rw [Ab h2f];exact e6)
    have k7:=S7 pk _ hnk.1.symm hnk.2.symm (show Ar μ6 p2 _ pk=_ by rw [Ab h2k];exact k6)
    have S8:=(S6.new hp2).trans S7
    rcases(show v=0\/v=1 by omega) with rfl | rfl
    ·exact Ac (Ai (j:=0) rfl) (hZ3 _ _ ⟨_,rfl,kw.l1,Nat.le_succ_of_le kw.n1,e7,k7,P7,S8⟩)
    ·exact Ac (Ai (j:=1) rfl) (hZ3 _ _ ⟨_,rfl,kw.l2,Nat.le_succ_of_le kw.n2,e7,k7,P7,S8⟩)
   rintro τ μ7 ⟨nm,rfl,ln,hnl,e7,k7,P7,S7⟩
   refine A8 (fun τ μ'=>∃nm:Str,τ=[some (.R a),some (.D (.int many)),some (Av "abcdefghijklmnopqrstuvwxyz"),some (.R pk),some (.R pf),some (.D (.int (0+(i:Int)))),some (Av wd),some (.D (.int fm)),some (Av nm)]/\lets nm/\nm.length<=6/\nm∉Cv/\nm∉zs/\μ' pf=some (.lst (zs.map Av))/\μ' pk=some (.lst (Cv.map Av))/\Pot μ' a l/\Br a l μ μ') (λZ3 hZ3=>?_) ?_
   ·have hspq:∀c∈("abcdefghijklmnopqrstuvwxyz" : Str).cps.toList,lets (spq c)/\(spq c).length<=6/\spq c∉Cv:=λc hc=>by
     have:=List.all_eq_true.mp Qb7 c hc
     simp only [Bool.and_eq_true,decide_eq_true_iff]at this
     exact⟨Hz this.1.1,this.1.2,this.2⟩
    have spare:Rm (Wz aIx (Pu [none,some 4] (Qeo (Ol 2)) (Et 0) (Pp (Wz (aIn λb=>!b) (Wz Qa9 (Ol 0) (vC (.D (.str "q")))) (Ol 1))) (Wz Qa9 (Ol 0) (vC (.D (.str "q"))))) (vC (.D (.int 0)))) (Et 8) Z3 (aRt R) Z Z2 [some (.R a),some (.D (.int many)),some (Av "abcdefghijklmnopqrstuvwxyz"),some (.R pk),some (.R pf),some (.D (.int (0+(i:Int)))),some (Av wd),some (.D (.int fm)),some (Av nm)] μ7:=by
     intro pq hpq
     have hqf:pf≠pq:=by rintro rfl;rw [e7]at hpq;cases hpq
     have hqk:pk≠pq:=by rintro rfl;rw [k7]at hpq;cases hpq
     have hb2:∀c:Nat,(⟨#[c]⟩:Str).length+("q" : Str).length<=sizeLine:=λc=>Nat.le_trans (show 1+1<=2 from Nat.le_refl _) (by decide)
     refine cmapf ("abcdefghijklmnopqrstuvwxyz" : Str).cps.toList chA (λc=>!decide (spq c∈zs)) (λc=>Av (spq c)) (fun τ=>∃o,τ=[o,some (.R pf)]) ⟨none,rfl⟩ Ad (by rw [Vg];decide) (λ_=>trivial) ?_ ?_
     ·rintro k c τ' acc W W2 hk ⟨o,rfl⟩ w1 w2
      have hs:=hspq c (List.mem_of_getElem? hk)
      refine⟨hb2 c,Ac rfl (Ac (Ap (by rw [Ab hqf,Ab hqf];exact e7)) (Ac (Gn zs) ⟨G8 hs.1,K7 hz.l,?_⟩))⟩
      rw [L6]
      exact br (λc1=>⟨hb2 c,w1 c1 _ ⟨_,rfl⟩⟩) (λc1=>w2 c1 _ ⟨_,rfl⟩)
     ·cases hf:("abcdefghijklmnopqrstuvwxyz" : Str).cps.toList.filter (λc=>!decide (spq c∈zs)) with
      | nil =>
       have hall:=List.filter_eq_nil_iff.mp hf
       have:=Ct Qb6 λz hz'=>by
        obtain⟨c,hc,rfl⟩:=List.mem_map.mp hz'
        have:=hall c hc
        simpa using this
       rw [List.length_map,Vg]at this
       omega
      | cons c0 rest =>
       have hc0:c0∈("abcdefghijklmnopqrstuvwxyz" : Str).cps.toList.filter (λc=>!decide (spq c∈zs)):=by rw [hf];exact .head _
       obtain⟨hm0,hn0'⟩:=List.mem_filter.mp hc0
       obtain⟨q1,q2,q3⟩:=hspq c0 hm0
       refine Ac Ad (Ac (Ai (j:=0) rfl) (hZ3 _ _ ⟨spq c0,rfl,q1,q2,q3,by simpa using hn0',by rw [Ab hqf,Ab hqf];exact e7,by rw [Ab hqk,Ab hqk];exact k7,(P7.new hpq).other (P7.ne hpq).1 (P7.ne hpq).2,(S7.new hpq).put (S7.none (P7.ne hpq).1 (P7.ne hpq).2 hpq)⟩))
    refine Ac rfl (Ac (Ap k7) (Ac (Gn Cv) ⟨G8 ln,Se,?_⟩))
    rw [L6]
    refine br (λc=>Ri rfl spare) (λc=>?_)
    refine Ac rfl (Ac (Ap e7) (Ac (Gn zs) ⟨G8 ln,K7 hz.l,?_⟩))
    rw [L6]
    exact br (λc2=>spare) (λc2=>hZ3 _ _ ⟨nm,rfl,ln,hnl,of_decide_eq_false c,of_decide_eq_false c2,e7,k7,P7,S7⟩)
   rintro τ μ8 ⟨nm',rfl,ln',hnl',hk',hz',e8,k8,P8,S8⟩
   exact⟨Ac e8 trivial,Ac e8 ⟨Bg (by rw [List.length_map];omega),hZ2 _ _ ⟨_,_,_,_,zs++[nm'],rfl,by rw [List.length_append,hn];rfl,hz.add ln' hnl' hk' hz',by rw [Ad,List.map_append];rfl,by rw [Ab hkf];exact k8,P8.other hne.1 hne.2,S8.put hpf0⟩⟩⟩
  ·rintro τ μ2 ⟨o5,o6,o7,o8,zs,rfl,hn,hz,e2,k2,P2,S2⟩
   rw [hlen]at hn
   exact hZ _ _ ⟨_,_,_,_,zs,rfl,hn,hz,e2,P2,S2⟩
 ·rintro τ μ2 ⟨o5,o6,o7,o8,zs,rfl,hn,hz,e2,P2,S2⟩
  exact⟨_,Sub.refl,q zs pf _ hn hz hpf0 e2 P2 S2⟩
end
section
variable {P:Program}{w:World}{K:PySem.W.Frag}{mg:Str->Option Value}{base:Heap}{f:Addr}{fd:FuncData}
structure Rul where
 p:Nat
 x:Nat
 q:Nat
 w:List Nat
def E8(r:Rul):PyData:=.tuple [.int r.p,.int r.x,.int r.q,Bq r.w]
def Da(r:Rul):AV:=.D (E8 r)
structure RulOk(pl le:Nat)(r:Rul):Prop where
 p:r.p < pl
 x:r.x < le
 q:r.q < pl
 w:∀z∈r.w,z < le
 n:r.w.length<=2
theorem Nq:∀(ns:List Nat),PyData.depthAll (ns.map λ(n:Nat)=>.int n)<=0
 | []=>Nat.le_refl _
 | n :: ns=>by
  have:=Nq ns
  simp only [List.map_cons,PyData.depthAll,PyData.depth];omega
theorem Pc(r:Rul):(E8 r).canLay0=true/\(E8 r).depth<=2/\Cano (E8 r)=true:=by
 have h1:=Hy (ns:=r.w)
 have h2:=G7 r.w
 refine⟨?_,?_,?_⟩
 ·simp only [E8,Bq,PyData.canLay0,PyData.canLayAll0,h1.1,Bool.and_true]
 ·have:=h1.2
  simp only [E8,Bq,PyData.depth,PyData.depthAll]
  have e:PyData.depthAll (r.w.map λ(n:Nat)=>.int n)<=0:=Nq r.w
  omega
 ·simp only [E8,Bq,Cano,Aq,h2,Bool.and_true,Bool.true_and]
theorem L7:∀(B:List Rul),PyData.canLayAll0 (B.map E8)=true/\PyData.depthAll (B.map E8)<=2/\Aq (B.map E8)=true
 | []=>⟨rfl,by simp [PyData.depthAll],rfl⟩
 | a :: B=>by
  obtain⟨h1,h2,h3⟩:=Pc a
  obtain⟨k1,k2,k3⟩:=L7 B
  simp only [List.map_cons,PyData.canLayAll0,PyData.depthAll,Aq,h1,h3,k1,k3,Bool.and_self,true_and,and_true]
  omega
theorem Vh(a:Rul):Cf (E8 a):=⟨(Pc a).1,Nat.le_trans (Pc a).2.1 (by decide)⟩
theorem Sf(B:List Rul):Cf (.tuple (B.map E8)):=⟨by simp only [PyData.canLay0];exact(L7 B).1,by have:=(L7 B).2.1;simp only [PyData.depth];omega⟩
theorem Nr(B:List Rul):dats (B.map Da)=some (B.map E8):=by
 rw [show(B.map Da)=(B.map E8).map .D by rw [List.map_map];rfl];exact B5 _
structure Gam where
 pl:List (Str×Nat)
 le:List Str
 rs:List Rul
def Go(p:Str×Nat):PyData:=.tuple [.str p.1,.int p.2]
def Bk(g:Gam):PyData:=.tuple [.tuple (g.pl.map Go),.tuple (g.le.map PyData.str),.tuple (g.rs.map E8)]
structure GamOk(g:Gam)(nr:Nat):Prop where
 p0:0 < g.pl.length
 p1:g.pl.length<=3
 l0:0 < g.le.length
 l1:g.le.length<=3
 r1:g.rs.length<=nr
 hd:∀p∈g.pl,p.2 < 2
 pn:Nms (g.pl.map (·.1))
 ln:Nms g.le
 ru:∀r∈g.rs,RulOk g.pl.length g.le.length r
theorem fives:∀v:Fin 5,∃w,([0,0,1,1,2]:List Nat)[v.val]?=some w/\w<=2:=by decide +kernel
abbrev nGa:List Str:=["_law_state","_law_most","_law_places","_law_letters","_law_rules","_law_k","_law_p","_law_x","_law_q","_law_size","_law_rule","_law_alike_here"]
theorem Ho:FnScope nGa ["_law_state","_law_most"] (Ah Va):=⟨rfl,rfl,rfl,by decide +kernel,rfl,by decide +kernel,by decide +kernel⟩
theorem Qe0:(["_law_name","_law_state"]:List Str).Nodup:=by decide +kernel
theorem Qe1:(["_law_some_here","_law_state"]:List Str).Nodup:=by decide +kernel
theorem Qe2:(["_law_rule"]:List Str).Nodup:=by decide +kernel
theorem Qe3:(["_law_j","_law_state","_law_letters"]:List Str).Nodup:=by decide +kernel
theorem Qe4:(["_law_one","_law_p","_law_x"]:List Str).Nodup:=by decide +kernel
def plA(z:Str×Nat):AV:=.D (Go z)
theorem X7(L:List (Str×Nat)):dats (L.map plA)=some (L.map Go):=by
 rw [show(L.map plA)=(L.map Go).map .D by rw [List.map_map];rfl];exact B5 _
def Qb8:ASp:=λxs μ R=>∃(a l:Addr) (nr:Nat),xs=[.R a,.D (.int nr)]/\nr<=10/\Pot μ a l/\∀(g:Gam) μ',GamOk g nr->Pot μ' a l->Br a l μ μ'->R (.D (Bk g)) μ'
theorem Qe6{n:Nat}(F:Fun K "_law_game" "_law_game" Va f fd) (cDr:VCal P w K mg base n "_law_draw" ["_law_state","_law_many"] Pb) (cNa:VCal P w K mg base n "_law_names" ["_law_state","_law_many"] Qey) (m_tuple:mg "tuple" = none) (m_range:mg "range" = none) (m_len:mg "len" = none) (m_min:mg "min" = none):FnOk P w K mg base Fl (n+1) f fd ["_law_state","_law_most"] (Hv K 2 Qb8):=by
 refine F.vok Ho λcdv A outer s H E hr=>⟨_,(Ag (Aw (i:=2) Ho.nd rfl (Or.inl rfl) (Az B6 rfl m_tuple PyProof.Rows.boot_tuple (Aa (Bw (N':=["_law_name","_law_state"]) (mp:=[none,some 0]) rfl (Bp (Al cNa hr rfl (Aa (vv 0) (Aa (A0 Bl Af (Al cDr hr rfl (Aa (vv 0) (Aa Af Ae)))) Ae)))) (λ_ _ _ _=>(Am (i:=0) Qe0 rfl (Or.inl rfl) (Or.inr rfl))) (λ_ _ _ _=>Bs) (λ_ _ _ _=>(Cb (Aa (vv 0) (Aa (Al cDr hr rfl (Aa (vv 1) (Aa Af Ae))) Ae)))) (A5 (N:=nGa) (pn:=(Ah Va).names) (by decide +kernel))) Ae)))
   (Ag (Aw (i:=3) Ho.nd rfl (Or.inr rfl) (Az B6 rfl m_tuple PyProof.Rows.boot_tuple (Aa (Al cNa hr rfl (Aa (vv 0) (Aa (A0 Bl Af (Al cDr hr rfl (Aa (vv 0) (Aa Af Ae)))) Ae))) Ae)))
   (Ag (Aw (i:=4) Ho.nd rfl (Or.inl rfl) (Cc Ae))
   (Ag (Df PassesOwn.never rfl (Dh rfl m_range (Aa (Al cDr hr rfl (Aa (vv 0) (Aa (A0 Bl (vv 1) Af) Ae))) Ae)) (Am (i:=5) Ho.nd rfl (Or.inl rfl)) (Ag (Fx (Bw (N':=["_law_some_here","_law_state"]) (mp:=[none,some 0]) rfl (Bp (Cb (Aa (vv 2) (Aa (vv 3) (Aa (vv 2) Ae))))) (λ_ _ _ _=>(Am (i:=0) Qe1 rfl (Or.inl rfl) (Or.inr rfl))) (λ_ _ _ _=>Bs) (λ_ _ _ _=>(Al cDr hr rfl (Aa (vv 1) (Aa (Ba Co rfl m_len PySem.boot_len (Aa (vv 0) Ae)) Ae)))) (A5 (N:=nGa) (pn:=(Ah Va).names) (by decide +kernel))) (L0 (n:=3) rfl (Bb (Am (i:=6) Ho.nd rfl (Or.inr rfl)) (Bb (Am (i:=7) Ho.nd rfl (Or.inr rfl)) (Bb (Am (i:=8) Ho.nd rfl (Or.inl rfl)) C2)))))
   (Ag (Aw (i:=9) Ho.nd rfl (Or.inl rfl) (Ak Ay (Cc (Aa Af (Aa Af (Aa Af (Aa Af (Aa Af Ae)))))) (Al cDr hr rfl (Aa (vv 0) (Aa Af Ae)))))
   (Ag (Cs (Bd (Hn hr) (Ba Co rfl m_len PySem.boot_len (Aa (Bw (N':=["_law_rule"]) (mp:=[none]) rfl (Bp (vv 4)) (λ_ _ _ _=>(Am (i:=0) Qe2 rfl (Or.inl rfl) (Or.inr rfl))) (λ_ _ _ _=>(C3 (Bd (Hn hr) (Ba Co rfl m_len PySem.boot_len (Aa (Ak Ay (vv 0) Af) Ae)) Af (nomark _)))) (λ_ _ _ _=>(vv 0)) (A5 (N:=nGa) (pn:=(Ah Va).names) (by decide +kernel))) Ae)) Af (nomark _)) (An (Aw (i:=9) Ho.nd rfl (Or.inl rfl) (Ba (Qbb rfl) rfl m_min PyProof.Rows.boot_min (Aa (vv 9) (Aa Af Ae))))) Bt)
   (Ag (Aw (i:=10) Ho.nd rfl (Or.inl rfl) (Cb (Aa (vv 6) (Aa (vv 7) (Aa (vv 8) (Aa (Az B6 rfl m_tuple PyProof.Rows.boot_tuple (Aa (Bw (N':=["_law_j","_law_state","_law_letters"]) (mp:=[none,some 0,some 3]) rfl (Dh rfl m_range (Aa (vv 9) Ae)) (λ_ _ _ _=>(Am (i:=0) Qe3 rfl (Or.inl rfl) (Or.inr rfl))) (λ_ _ _ _=>Bs) (λ_ _ _ _=>(Al cDr hr rfl (Aa (vv 1) (Aa (Ba Co rfl m_len PySem.boot_len (Aa (vv 2) Ae)) Ae)))) (A5 (N:=nGa) (pn:=(Ah Va).names) (by decide +kernel))) Ae)) Ae))))))
   (Ag (Ef (i:=11) (N':=["_law_one","_law_p","_law_x"]) (mp:=[none,some 6,some 7]) rfl Ho.nd rfl rfl (Bp (vv 4)) (λ_ _ _ _=>(Am (i:=0) Qe4 rfl (Or.inl rfl) (Or.inr rfl))) (λ_ _ _ _=>(C3 (Bd (Hn hr) (D3 (vv 0) Fd (Fe Af)) (Cb (Aa (vv 1) (Aa (vv 2) Ae))) (nomark _)))) (λ_ _ _ _=>(vv 0)) (A5 (N:=nGa) (pn:=(Ah Va).names) (by decide +kernel)))
   (An (Cs (VW.pt (Fw (Bd (Hu hr) (vv 10) (vv 4) (by with_unfolding_all rfl)) (Fc (VW.pt (Pq (Bd (Hn hr) (Ak Ay (Ak Ay (vv 2) (vv 6)) Af) Af (nomark _)) (Ll (Bd Mp (Ba Co rfl m_len PySem.boot_len (Aa (vv 11) Ae)) Af (nomark _)))))))) (An (Cw (Em PySem.F.slot_list_append PySem.F.type_list_append Cr (vv 4) (Aa (vv 10) Ae)))) Bt))))))))
   (An (Bo (Cb (Aa (vv 2) (Aa (vv 3) (Aa (Az B6 rfl m_tuple PyProof.Rows.boot_tuple (Aa (vv 4) Ae)) Ae)))))))))),?_⟩
 rintro xs μ R _ ⟨a,l,nr,rfl,hnr,hP,q⟩
 refine A8 (fun τ μ'=>∃(L:List (Str×Nat)),τ=[some (.R a),some (.D (.int nr)),some (.D (.tuple (L.map Go))),none,none,none,none,none,none,none,none,none]/\0 < L.length/\L.length<=3/\(∀z∈L,z.2 < 2)/\Nms (L.map (·.1))/\Pot μ' a l/\Br a l μ μ') (λZ hZ=>?_) ?_
 ·refine⟨a,l,3,rfl,hP,by decide,by decide,λv μ1 hv P1 S1=>⟨a,l,1+v,rfl,by omega,P1,λzs pz μ2 hzl hN hpz e2 P2 S2=>Ac (Ap e2) λpc hpc=>?_⟩⟩
  have hnz:=P1.ne hpz
  have hne:=P2.ne hpc
  have hzc:pz≠pc:=by rintro rfl;rw [e2]at hpc;cases hpc
  refine Eg (λj acc τ μ'=>∃(o:Option AV) (L:List (Str×Nat)),τ=[o,some (.R a)]/\acc=L.map plA/\L.map (·.1)=zs.take j/\(∀z∈L,z.2 < 2)/\μ' pc=some (.lst acc)/\μ' pz=some (.lst (zs.map Av))/\Pot μ' a l/\Br a l μ2 μ') ⟨none,[],rfl,rfl,rfl,(λ_ z=>nomatch z),Ad,by rw [Ab hzc];exact e2,P2.new hpc,Br.refl.new hpc⟩ (λ_ _ _ _ ⟨_,_,_,_,_,_,_,e,_⟩=>Ap e) ?_ ?_
  ·rintro j y acc τ μ3 Z2 hy ⟨o,L,rfl,rfl,hL,hb,e3,z3,P3,S3⟩ hZ2
   rw [List.getElem?_map]at hy
   obtain⟨z,hz,rfl⟩:=Option.map_eq_some_iff.mp hy
   have hj:j < zs.length:=(List.getElem?_eq_some_iff.mp hz).1
   have hLl:L.length<=3:=by have:=congrArg List.length hL;rw [List.length_map,List.length_take]at this;omega
   refine Ri rfl ⟨a,l,2,rfl,P3,by decide,by decide,λh μ4 hh P4 S4=>?_⟩
   refine⟨S4 pc _ hne.1.symm hne.2.symm e3,Bg (by rw [List.length_map];omega),hZ2 _ _ _ ⟨_,L++[(z,h)],rfl,by rw [List.map_append];rfl,by rw [List.map_append,hL,List.take_succ,hz];rfl,λy hy=>?_,Ad,by rw [Ab hzc];exact S4 pz _ hnz.1.symm hnz.2.symm z3,P4.other hne.1 hne.2,(S3.trans S4).put hpc⟩⟩
   rcases List.mem_append.mp hy with hy | hy
   ·exact hb y hy
   ·rw [List.mem_singleton.mp hy];exact hh
  ·rintro acc τ μ3 ⟨o,L,rfl,rfl,hL,hb,e3,z3,P3,S3⟩
   rw [List.length_map,List.take_length]at hL
   have hLl:L.length=1+v:=by have:=congrArg List.length hL;rw [List.length_map]at this;omega
   exact Ac (Ap e3) (Ac (X7 L) (hZ _ _ ⟨L,rfl,by omega,by omega,hb,by rw [hL];exact hN,P3,(S1.trans S2).trans S3⟩))
 rintro τ μ1 ⟨L,rfl,hL0,hL3,hLh,hLn,P1,S1⟩
 refine A8 (fun τ μ'=>∃(zs:List Str),τ=[some (.R a),some (.D (.int nr)),some (.D (.tuple (L.map Go))),some (.D (.tuple (zs.map PyData.str))),none,none,none,none,none,none,none,none]/\0 < zs.length/\zs.length<=3/\Nms zs/\Pot μ' a l/\Br a l μ μ') (λZ hZ=>?_) ?_
 ·exact⟨a,l,3,rfl,P1,by decide,by decide,λv μ2 hv P2 S2=>⟨a,l,1+v,rfl,by omega,P2,λzs pz μ3 hzl hN hpz e3 P3 S3=>Ac (Ap e3) (Ac (Gn zs) (hZ _ _ ⟨zs,rfl,by omega,by omega,hN,P3,(S1.trans S2).trans S3⟩))⟩⟩
 rintro τ μ2 ⟨zs,rfl,hz0,hz3,hzn,P2,S2⟩
 intro pf hpf
 have hne:=P2.ne hpf
 have hpf0:=S2.none hne.1 hne.2 hpf
 refine A8 (fun τ μ'=>∃o5 o6 o7 o8 o9 o10 o11,∃B:List Rul,τ=[some (.R a),some (.D (.int nr)),some (.D (.tuple (L.map Go))),some (.D (.tuple (zs.map PyData.str))),some (.R pf),o5,o6,o7,o8,o9,o10,o11]/\μ' pf=some (.lst (B.map Da))/\B.length<=nr/\(∀r∈B,RulOk L.length zs.length r)/\Pot μ' a l/\Br a l μ μ') (λZ hZ=>?_) ?_
 ·refine⟨a,l,nr+1,rfl,P2.new hpf,by omega,by omega,λmany μ3 hmany P3 S3=>⟨by omega,by omega,?_⟩⟩
  have e3:=S3 pf _ hne.1.symm hne.2.symm Ad
  have hlen:(D4 0 (many:Int).toNat).length=many:=by rw [B7];omega
  refine En (λi τ μ'=>∃o5 o6 o7 o8 o9 o10 o11,∃B:List Rul,τ=[some (.R a),some (.D (.int nr)),some (.D (.tuple (L.map Go))),some (.D (.tuple (zs.map PyData.str))),some (.R pf),o5,o6,o7,o8,o9,o10,o11]/\μ' pf=some (.lst (B.map Da))/\B.length<=i/\(∀r∈B,RulOk L.length zs.length r)/\Pot μ' a l/\Br a l μ μ') ⟨none,none,none,none,none,none,none,[],rfl,e3,Nat.le_refl _,(λ_ z=>nomatch z),P3,(S2.new hpf).trans S3⟩ (λ_ _ _ _=>trivial) ?_ ?_
  ·rintro i y τ μ4 Z2 hy ⟨o5,o6,o7,o8,o9,o10,o11,B,rfl,e4,hB,kB,P4,S4⟩ hZ2
   have hi:i < many:=by rw [<- hlen];exact(List.getElem?_eq_some_iff.mp hy).1
   refine A8 (fun τ μ'=>∃p x t:Nat,τ=[some (.R a),some (.D (.int nr)),some (.D (.tuple (L.map Go))),some (.D (.tuple (zs.map PyData.str))),some (.R pf),some y,some (.D (.int p)),some (.D (.int x)),some (.D (.int t)),o9,o10,o11]/\p < L.length/\x < zs.length/\t < L.length/\μ' pf=some (.lst (B.map Da))/\Pot μ' a l/\Br a l μ μ') (λZ3 hZ3=>?_) ?_
   ·refine Ac (x:=[.D (.tuple (L.map Go)),.D (.tuple (zs.map PyData.str)),.D (.tuple (L.map Go))]) rfl λpc hpc=>?_
    have hnc:=P4.ne hpc
    have hcf:pf≠pc:=by rintro rfl;rw [e4]at hpc;cases hpc
    refine Eg (λj acc τ μ'=>∃(o:Option AV) (vs:List Nat),τ=[o,some (.R a)]/\acc=vs.map Bm/\vs.length=j/\(∀k v,vs[k]?=some v->v < [L.length,zs.length,L.length].getD k 0)/\μ' pc=some (.lst acc)/\μ' pf=some (.lst (B.map Da))/\Pot μ' a l/\Br a l μ μ') ⟨none,[],rfl,rfl,rfl,(λk v z=>by simp at z),Ad,by rw [Ab hcf];exact e4,P4.new hpc,S4.new hpc⟩ (λ_ _ _ _ _=>rfl) ?_ ?_
    ·rintro j z acc τ μ5 Z4 hz ⟨o,vs,rfl,rfl,hvl,hvs,c5,e5,P5,S5⟩ hZ4
     obtain⟨ds,rfl,hds,hd0,hd3⟩:∃ds:List PyData,z=.D (.tuple ds)/\ds.length=[L.length,zs.length,L.length].getD j 0/\0 < ds.length/\ds.length<=3:=by
      match j,hz with
      | 0,hz=>cases hz;exact⟨_,rfl,by rw [List.length_map];rfl,by rw [List.length_map];omega,by rw [List.length_map];omega⟩
      | 1,hz=>cases hz;exact⟨_,rfl,by rw [List.length_map];rfl,by rw [List.length_map];omega,by rw [List.length_map];omega⟩
      | 2,hz=>cases hz;exact⟨_,rfl,by rw [List.length_map];rfl,by rw [List.length_map];omega,by rw [List.length_map];omega⟩
      | k+3,hz=>simp at hz
     have hj:j < 3:=(List.getElem?_eq_some_iff.mp hz).1
     refine Ri rfl ⟨a,l,ds.length,rfl,P5,hd0,by omega,λv μ6 hv P6 S6=>?_⟩
     refine⟨S6 pc _ hnc.1.symm hnc.2.symm c5,Bg (by rw [List.length_map];omega),hZ4 _ _ _ ⟨_,vs++[v],rfl,by rw [List.map_append];rfl,by rw [List.length_append,hvl];rfl,λk u hu=>?_,Ad,by rw [Ab hcf];exact S6 pf _ hne.1.symm hne.2.symm e5,P6.other hnc.1 hnc.2,(S5.trans S6).put (S4.none hnc.1 hnc.2 hpc)⟩⟩
     rcases Nat.lt_or_ge k vs.length with c | c
     ·rw [List.getElem?_append_left c]at hu;exact hvs k u hu
     ·rw [List.getElem?_append_right c]at hu
      have hk:k=j:=by
       rcases Nat.eq_zero_or_pos (k - vs.length) with z0 | z0
       ·omega
       ·rw [List.getElem?_eq_none (show [v].length<=k - vs.length from z0)]at hu;cases hu
      subst hk
      rw [hvl,Nat.sub_self]at hu
      cases hu
      rw [<- hds];exact hv
    ·rintro acc τ μ5 ⟨o,vs,rfl,rfl,hvl,hvs,c5,e5,P5,S5⟩
     match vs,hvl with
     | [p,x,t],_ =>
      exact Ac c5 ⟨rfl,hZ3 _ _ ⟨p,x,t,rfl,hvs 0 p rfl,hvs 1 x rfl,hvs 2 t rfl,e5,P5,S5⟩⟩
   rintro τ μ5 ⟨p,x,t,rfl,hp,hx,ht,e5,P5,S5⟩
   refine A8 (fun τ μ'=>∃sz:Nat,τ=[some (.R a),some (.D (.int nr)),some (.D (.tuple (L.map Go))),some (.D (.tuple (zs.map PyData.str))),some (.R pf),some y,some (.D (.int p)),some (.D (.int x)),some (.D (.int t)),some (.D (.int sz)),o10,o11]/\sz<=2/\μ' pf=some (.lst (B.map Da))/\Pot μ' a l/\Br a l μ μ') (λZ3 hZ3=>?_) ?_
   ·intro p8 hp8
    have hn8:=P5.ne hp8
    refine⟨a,l,5,rfl,P5.new hp8,by decide,by decide,λv μ6 hv P6 S6=>?_⟩
    obtain⟨wd,ew,hw⟩:=fives ⟨v,hv⟩
    have e8:=S6 p8 _ hn8.1.symm hn8.2.symm Ad
    have eB1:=S6 pf _ hne.1.symm hne.2.symm (by rw [Ab (by rintro rfl;rw [e5]at hp8;cases hp8)];exact e5)
    exact Ac e8 (Ac (Ai (j:=v) (xs:=[0,0,1,1,2].map Bm) (by rw [List.getElem?_map,ew];rfl)) (hZ3 _ _ ⟨wd,rfl,hw,eB1,P6,(S5.new hp8).trans S6⟩))
   rintro τ μ6 ⟨sz0,rfl,hsz0,e6,P6,S6⟩
   refine A8 (fun τ μ'=>∃sz:Nat,τ=[some (.R a),some (.D (.int nr)),some (.D (.tuple (L.map Go))),some (.D (.tuple (zs.map PyData.str))),some (.R pf),some y,some (.D (.int p)),some (.D (.int x)),some (.D (.int t)),some (.D (.int sz)),o10,o11]/\sz<=2/\μ' pf=some (.lst (B.map Da))/\Pot μ' a l/\Br a l μ μ') (λZ3 hZ3=>?_) ?_
   ·refine Ac (Ap e6) λpc hpc=>?_
    have hnc:=P6.ne hpc
    have hcf:pf≠pc:=by rintro rfl;rw [e6]at hpc;cases hpc
    refine cmapf B Da (λr=>decide (r.w.length=2)) Da (fun τ=>∃o,τ=[o]) ⟨none,rfl⟩ Ad (seven (by omega)) (λacc=>Ap (by rw [Ab hcf,Ab hcf];exact e6)) ?_ ?_
    ·rintro k r τ' acc W W2 hk ⟨o,rfl⟩ h1 h2
     exact Ac (Ai (j:=3) rfl) (ieq (λc1=>h1 (decide_eq_true (by rw [List.length_map]at c1;omega)) _ ⟨_,rfl⟩) (λc1=>h2 (decide_eq_false λz=>c1 (by rw [List.length_map,z];rfl)) _ ⟨_,rfl⟩))
    ·have e7:Ar (Ar μ6 pc (.lst [])) pc (.lst ((B.filter λr=>decide (r.w.length=2)).map Da)) pf=some (.lst (B.map Da)):=by rw [Ab hcf,Ab hcf];exact e6
     have P7:=(P6.new hpc (o:=.lst [])).other (o:=.lst ((B.filter λr=>decide (r.w.length=2)).map Da)) hnc.1 hnc.2
     have S7:=(S6.new hpc (o:=.lst [])).put (o:=.lst ((B.filter λr=>decide (r.w.length=2)).map Da)) (S6.none hnc.1 hnc.2 hpc)
     refine Ac Ad (ieq (λ_=>?_) (λ_=>hZ3 _ _ ⟨sz0,rfl,hsz0,e7,P7,S7⟩))
     refine hZ3 _ _ ⟨if(1:Int) < sz0 then 1 else sz0,?_,by split <;> omega,e7,P7,S7⟩
     split <;> rfl
   rintro τ μ7 ⟨sz,rfl,hsz,e7,P7,S7⟩
   refine A8 (fun τ μ'=>∃r:Rul,τ=[some (.R a),some (.D (.int nr)),some (.D (.tuple (L.map Go))),some (.D (.tuple (zs.map PyData.str))),some (.R pf),some y,some (.D (.int p)),some (.D (.int x)),some (.D (.int t)),some (.D (.int sz)),some (Da r),o11]/\r.p=p/\RulOk L.length zs.length r/\μ' pf=some (.lst (B.map Da))/\Pot μ' a l/\Br a l μ μ') (λZ3 hZ3=>?_) ?_
   ·refine⟨by omega,by omega,λpc hpc=>?_⟩
    have hnc:=P7.ne hpc
    have hcf:pf≠pc:=by rintro rfl;rw [e7]at hpc;cases hpc
    have hlen2:(D4 0 (sz:Int).toNat).length=sz:=by rw [B7];omega
    refine Eg (λj acc τ μ'=>∃(o:Option AV) (ns:List Nat),τ=[o,some (.R a),some (.D (.tuple (zs.map PyData.str)))]/\acc=ns.map Bm/\ns.length=j/\(∀n∈ns,n < zs.length)/\μ' pc=some (.lst acc)/\μ' pf=some (.lst (B.map Da))/\Pot μ' a l/\Br a l μ7 μ') ⟨none,[],rfl,rfl,rfl,(λ_ z=>nomatch z),Ad,by rw [Ab hcf];exact e7,P7.new hpc,Br.refl.new hpc⟩ (λ_ _ _ _ _=>trivial) ?_ ?_
    ·rintro j z acc τ μ8 Z4 hz ⟨o,ns,rfl,rfl,hn,hb,c8,e8,P8,S8⟩ hZ4
     have hj:j < sz:=by rw [<- hlen2];exact(List.getElem?_eq_some_iff.mp hz).1
     refine Ri rfl ⟨a,l,(zs.map PyData.str).length,rfl,P8,by rw [List.length_map];omega,by rw [List.length_map];omega,λv μ9 hv P9 S9=>?_⟩
     rw [List.length_map]at hv
     refine⟨S9 pc _ hnc.1.symm hnc.2.symm c8,Bg (by rw [List.length_map];omega),hZ4 _ _ _ ⟨_,ns++[v],rfl,by rw [List.map_append];rfl,by rw [List.length_append,hn];rfl,λn hn'=>?_,Ad,by rw [Ab hcf];exact S9 pf _ hne.1.symm hne.2.symm e8,P9.other hnc.1 hnc.2,(S8.trans S9).put hpc⟩⟩
     rcases List.mem_append.mp hn' with h | h
     ·exact hb n h
     ·rw [List.mem_singleton.mp h];exact hv
    ·rintro acc τ μ8 ⟨o,ns,rfl,rfl,hn,hb,c8,e8,P8,S8⟩
     rw [hlen2]at hn
     exact Ac (Ap c8) (Ac (Cu ns) (hZ3 _ _ ⟨⟨p,x,t,ns⟩,rfl,rfl,⟨hp,hx,ht,hb,(show ns.length<=2 by omega)⟩,e8,P8,S7.trans S8⟩))
   rintro τ μ8 ⟨r,rfl,hrp,hr,e8,P8,S8⟩
   refine A8 (fun τ μ'=>∃pa ys,τ=[some (.R a),some (.D (.int nr)),some (.D (.tuple (L.map Go))),some (.D (.tuple (zs.map PyData.str))),some (.R pf),some y,some (.D (.int p)),some (.D (.int x)),some (.D (.int t)),some (.D (.int sz)),some (Da r),some (.R pa)]/\μ' pa=some (.lst ys)/\μ' pf=some (.lst (B.map Da))/\Pot μ' a l/\Br a l μ μ') (λZ3 hZ3=>?_) ?_
   ·refine Ac (Ap e8) λpc hpc=>?_
    have hnc:=P8.ne hpc
    have hcf:pf≠pc:=by rintro rfl;rw [e8]at hpc;cases hpc
    refine cmapf B Da (λr=>PyData.eqv (Bq [r.p,r.x]) (Bq [p,x])) Da (fun τ=>∃o,τ=[o,some (.D (.int p)),some (.D (.int x))]) ⟨none,rfl⟩ Ad (seven (by omega)) (λacc=>Ap (by rw [Ab hcf,Ab hcf];exact e8)) ?_ ?_
    ·rintro j r' τ' acc W W2 hj ⟨o,rfl⟩ h1 h2
     exact⟨D7 (ns:=[r'.p,r'.x]),D7 (ns:=[p,x]),br (λc=>h1 c _ ⟨_,rfl⟩) (λc=>h2 c _ ⟨_,rfl⟩)⟩
    ·exact hZ3 _ _ ⟨pc,_,rfl,Ad,by rw [Ab hcf,Ab hcf];exact e8,(P8.new hpc).other hnc.1 hnc.2,(S8.new hpc).put (S8.none hnc.1 hnc.2 hpc)⟩
   rintro τ μ9 ⟨pa,ys,rfl,a9,e9,P9,S9⟩
   have yes:Z2 [some (.R a),some (.D (.int nr)),some (.D (.tuple (L.map Go))),some (.D (.tuple (zs.map PyData.str))),some (.R pf),some y,some (.D (.int p)),some (.D (.int x)),some (.D (.int t)),some (.D (.int sz)),some (Da r),some (.R pa)] (Ar μ9 pf (.lst (B.map Da++[Da r]))):=by
    refine hZ2 _ _ ⟨_,_,_,_,_,_,_,B++[r],rfl,by rw [Ad,List.map_append];rfl,by rw [List.length_append];show B.length+1<=_;omega,λr2 hr'=>?_,P9.other hne.1 hne.2,S9.put hpf0⟩
    rcases List.mem_append.mp hr' with h | h
    ·exact kB r2 h
    ·rw [List.mem_singleton.mp h];exact hr
   have no:Z2 [some (.R a),some (.D (.int nr)),some (.D (.tuple (L.map Go))),some (.D (.tuple (zs.map PyData.str))),some (.R pf),some y,some (.D (.int p)),some (.D (.int x)),some (.D (.int t)),some (.D (.int sz)),some (Da r),some (.R pa)] μ9:=hZ2 _ _ ⟨_,_,_,_,_,_,_,B,rfl,e9,by omega,kB,P9,S9⟩
   have put:Mq μ9 (.R pf)/\Lo (.R pf) [Da r] μ9 λ_ μ1=>Z2 [some (.R a),some (.D (.int nr)),some (.D (.tuple (L.map Go))),some (.D (.tuple (zs.map PyData.str))),some (.R pf),some y,some (.D (.int p)),some (.D (.int x)),some (.D (.int t)),some (.D (.int sz)),some (Da r),some (.R pa)] μ1:=⟨Ac e9 trivial,Ac e9 ⟨Bg (by rw [List.length_map];omega),yes⟩⟩
   refine Ac rfl (Ac (Ap e9) (Ac (Nr B) ⟨Vh r,Sf B,br (λ_=>?_) (λ_=>Oj rfl no)⟩))
   have hpl:(L.map Go)[p]?=some (Go L[p]):=by rw [List.getElem?_map,List.getElem?_eq_getElem hp];rfl
   refine Ac (Ai hpl) (Ac (Ai (j:=1) rfl) (ieq (λ_=>Ri rfl put) (λ_=>Ac a9 (dif (λ_=>put) (λ_=>no)))))
  ·rintro τ μ4 ⟨o5,o6,o7,o8,o9,o10,o11,B,rfl,e4,hB,kB,P4,S4⟩
   rw [hlen]at hB
   exact hZ _ _ ⟨_,_,_,_,_,_,_,B,rfl,e4,by omega,kB,P4,S4⟩
 rintro τ μ3 ⟨o5,o6,o7,o8,o9,o10,o11,B,rfl,e3,hB,kB,P3,S3⟩
 exact Ac (Ap e3) (Ac (Nr B) ⟨_,Sub.refl,q ⟨L,zs,B⟩ _ ⟨hL0,hL3,hz0,hz3,hB,hLh,hLn,hzn,kB⟩ P3 S3⟩)
end
section
variable {P:Program}{w:World}{K:PySem.W.Frag}{mg:Str->Option Value}{base:Heap}{f:Addr}{fd:FuncData}
structure Arw where
 p:Nat
 x:Nat
 ts:List Nat
 c:Option Nat
def Nt(a:Arw):List PyData:=.int a.p :: .int a.x :: Bq a.ts :: (match a.c with | none=>[] | some c=>[.int c])
def Aj(a:Arw):PyData:=.tuple (Nt a)
theorem Bh{μ:M}(A:List Arw):items μ (.D (.tuple (A.map Aj)))=some (A.map λa=>.D (Aj a)):=by
 show some ((A.map Aj).map AV.D)=_
 rw [List.map_map];rfl
theorem Qb9{a:Arw}:atI (Nt a) 2=some (Bq a.ts):=Ai (j:=2) rfl
theorem Ej(a:Arw):(Aj a).canLay0=true/\(Aj a).depth<=3/\Cano (Aj a)=true:=by
 obtain⟨p,x,ts,c⟩:=a
 have h1:=Hy (ns:=ts)
 have h2:=G7 ts
 cases c with
 | none =>
  simp only [Aj,Nt,Bq,PyData.canLay0,PyData.canLayAll0,PyData.depth,PyData.depthAll,Cano,Aq,h1.1,h2,Bool.and_true,Bool.true_and,true_and,and_true]
  have:=h1.2
  omega
 | some c =>
  simp only [Aj,Nt,Bq,PyData.canLay0,PyData.canLayAll0,PyData.depth,PyData.depthAll,Cano,Aq,h1.1,h2,Bool.and_true,Bool.true_and,true_and,and_true]
  have:=h1.2
  omega
theorem L8{a b:Arw}(h:a.c.isSome=b.c.isSome):cmpb (Aj a) (Aj b)=true:=by
 obtain⟨p,x,ts,c⟩:=a
 obtain⟨p',x',ts',c'⟩:=b
 cases c <;> cases c' <;> simp at h <;> simp only [Aj,Nt,Bq,cmpb,cmpbs,Nm,ite_self]
theorem Ia:∀(B:List Arw),PyData.canLayAll0 (B.map Aj)=true/\PyData.depthAll (B.map Aj)<=3/\Aq (B.map Aj)=true
 | []=>⟨rfl,by simp [PyData.depthAll],rfl⟩
 | a :: B=>by
  obtain⟨h1,h2,h3⟩:=Ej a
  obtain⟨k1,k2,k3⟩:=Ia B
  simp only [List.map_cons,PyData.canLayAll0,PyData.depthAll,Aq,h1,h3,k1,k3,Bool.and_self,true_and,and_true]
  omega
theorem Dr(B:List Arw):dats (B.map λa=>.D (Aj a))=some (B.map Aj):=by
 rw [show(B.map λa=>AV.D (Aj a))=(B.map Aj).map .D by rw [List.map_map];rfl];exact B5 _
theorem Nu(a:Arw):Cf (Aj a):=⟨(Ej a).1,Nat.le_trans (Ej a).2.1 (by decide)⟩
theorem K8(B:List Arw):Cf (.tuple (B.map Aj)):=⟨by simp only [PyData.canLay0];exact(Ia B).1,by have:=(Ia B).2.1;simp only [PyData.depth];omega⟩
end
section
variable {P:Program}{w:World}{K:PySem.W.Frag}{mg:Str->Option Value}{base:Heap}{f:Addr}{fd:FuncData}
theorem L9:∀(n k:Nat),D4 (k:Int) n=(List.range' k n).map Bm
 | 0,k=>rfl
 | n+1,k=>by
  rw [List.range'_succ,List.map_cons,<- L9 n (k+1)]
  rfl
theorem Vi(n:Nat):D4 0 n=(List.range n).map Bm:=by
 rw [List.range_eq_range'];exact L9 n 0
abbrev nSo:List Str:=["_law_state","_law_things"]
theorem Qik:FnScope nSo ["_law_state","_law_things"] (Ah sSo):=⟨rfl,rfl,rfl,by decide +kernel,rfl,by decide +kernel,by decide +kernel⟩
theorem Qe7:(["_law_thing","_law_state"]:List Str).Nodup:=by decide +kernel
def Qe8:ASp:=λxs μ R=>∃(a l ps:Addr) (ss:List Nat),xs=[.R a,.R ps]/\ss.length<=20/\ps≠a/\ps≠l/\μ ps=some (.lst (ss.map Bm))/\Pot μ a l/\∀(ns:List Nat) μ',ns.Sublist ss->Pot μ' a l->Br a l μ μ'->R (.D (Bq ns)) μ'
theorem Qe9{n:Nat}(F:Fun K "_law_some" "_law_some" sSo f fd) (cDr:VCal P w K mg base n "_law_draw" ["_law_state","_law_many"] Pb) (m_tuple:mg "tuple" = none):FnOk P w K mg base Fl (n+1) f fd ["_law_state","_law_things"] (Hv K 2 Qe8):=by
 refine F.vok Qik λcdv A outer s H E hr=>⟨_,(An (Bo (Az B6 rfl m_tuple PyProof.Rows.boot_tuple (Aa (Bw (N':=["_law_thing","_law_state"]) (mp:=[none,some 0]) rfl (Bp (vv 1)) (λ_ _ _ _=>(Am (i:=0) Qe7 rfl (Or.inl rfl) (Or.inr rfl))) (λ_ _ _ _=>(C3 (Bd (Hn hr) (Al cDr hr rfl (Aa (vv 1) (Aa Af Ae))) Af (nomark _)))) (λ_ _ _ _=>(vv 0)) (A5 (N:=nSo) (pn:=(Ah sSo).names) (by decide +kernel))) Ae)))),?_⟩
 rintro xs μ R _ ⟨a,l,ps,ss,rfl,hs,na,nl,eS,hP,q⟩
 refine Ac (Ap eS) λpc hpc=>?_
 have hne:=hP.ne hpc
 have hps:ps≠pc:=by rintro rfl;rw [eS]at hpc;cases hpc
 refine Eg (λj acc τ μ'=>∃(o:Option AV) (ns:List Nat),τ=[o,some (.R a)]/\acc=ns.map Bm/\ns.Sublist (ss.take j)/\μ' pc=some (.lst acc)/\μ' ps=some (.lst (ss.map Bm))/\Pot μ' a l/\Br a l μ μ') ⟨none,[],rfl,rfl,by simp,Ad,by rw [Ab hps];exact eS,hP.new hpc,Br.refl.new hpc⟩ (λ_ _ _ _ ⟨_,_,_,_,_,_,e,_⟩=>Ap e) ?_ ?_
 ·rintro j y acc τ μ2 Z2 hy ⟨o,ns,rfl,rfl,hsub,e2,s2,P2,S2⟩ hZ2
  rw [List.getElem?_map]at hy
  obtain⟨x,hx,rfl⟩:=Option.map_eq_some_iff.mp hy
  have hj:j < ss.length:=(List.getElem?_eq_some_iff.mp hx).1
  have htk:ss.take (j+1)=ss.take j++[x]:=by rw [List.take_succ,hx];rfl
  refine⟨a,l,2,rfl,P2,by decide,by decide,λv μ3 hv P3 S3=>?_⟩
  have e3:=S3 pc _ hne.1.symm hne.2.symm e2
  have s3:=S3 ps _ na nl s2
  have hl:=hsub.length_le
  rw [List.length_take]at hl
  refine ieq (λc=>⟨e3,Bg (by rw [List.length_map];omega),hZ2 _ _ _ ⟨_,ns++[x],rfl,by rw [List.map_append];rfl,by rw [htk];exact hsub.append (List.Sublist.refl _),Ad,by rw [Ab hps];exact s3,P3.other hne.1 hne.2,(S2.trans S3).put hpc⟩⟩) (λc=>hZ2 _ _ _ ⟨_,ns,rfl,rfl,by rw [htk];exact hsub.trans (List.sublist_append_left _ _),e3,s3,P3,S2.trans S3⟩)
 ·rintro acc τ μ2 ⟨o,ns,rfl,rfl,hsub,e2,s2,P2,S2⟩
  rw [List.length_map,List.take_length]at hsub
  exact Ac (Ap e2) (Ac (Cu ns) ⟨_,Sub.refl,q ns _ hsub P2 S2⟩)
structure Say where
 own:Nat
 as:List Arw
 es:List Nat
def Au(s:Say):PyData:=.tuple [.int s.own,.tuple (s.as.map Aj),Bq s.es]
structure AwOk(st le lo:Nat)(c:Bool)(a:Arw):Prop where
 c:a.c.isSome=c
 p:a.p < st
 x:a.x < le
 t:∀t∈a.ts,lo<=t/\t < st
 tn:a.ts.length<=st
theorem X8{B:List Arw}{k:Bool}(hl:B.length<=20)(hc:∀a∈B,a.c.isSome=k):TOk (B.map Aj):=by
 refine⟨by rw [List.length_map];omega,λd hd=>?_,λd hd=>?_,λd hd e he=>?_⟩
 ·obtain⟨a,ha,rfl⟩:=List.mem_map.mp hd
  obtain⟨h1,h2,h3⟩:=Ej a
  exact⟨h3,h1,by omega⟩
 ·obtain⟨a,ha,rfl⟩:=List.mem_map.mp hd
  exact⟨a.p,_,rfl⟩
 ·obtain⟨a,ha,rfl⟩:=List.mem_map.mp hd
  obtain⟨b,hb,rfl⟩:=List.mem_map.mp he
  exact L8 ((hc a ha).trans (hc b hb).symm)
theorem E9{α β:Type}{f:α->β}{B:List α}:∀{es:List β},(∀e∈es,e∈B.map f)->∃C:List α,es=C.map f/\∀c∈C,c∈B
 | [],_=>⟨[],rfl,λ_ z=>nomatch z⟩
 | e :: es,h=>by
  obtain⟨b,hb,rfl⟩:=List.mem_map.mp (h e (.head _))
  obtain⟨C,rfl,hC⟩:=E9 λe' he'=>h e' (.tail _ he')
  exact⟨b :: C,rfl,λc hc=>by
   rcases List.mem_cons.mp hc with rfl | hc
   ·exact hb
   ·exact hC c hc⟩
theorem X9{B:List Arw}{k:Bool}{es:List PyData}(hl:B.length<=20)(hn:es.Nodup)(hm:∀d,d∈es↔d∈B.map Aj):∃C:List Arw,es=C.map Aj/\(∀c∈C,c∈B)/\(∀d,d∈C.map Aj↔d∈B.map Aj)/\C.length<=B.length:=by
 obtain⟨C,rfl,hC⟩:=E9 (f:=Aj) (B:=B) λe he=>(hm e).mp he
 have:=Ct hn λd hd=>(hm d).mp hd
 rw [List.length_map,List.length_map]at this
 exact⟨C,rfl,hC,hm,this⟩
structure SayOk(g:Gam)(s:Say)(most:Nat):Prop where
 o:s.own<=2
 n:s.as.length<=most
 a:∀a∈s.as,AwOk (g.pl.length+s.own) g.le.length g.pl.length false a
 e:s.es.Sublist (List.range (g.pl.length+s.own))
 d:(s.as.map Aj).Nodup
 su:∀a∈s.as,a.ts.Sublist (List.range' g.pl.length s.own)
abbrev nSa:List Str:=["_law_state","_law_game_here","_law_most","_law_many","_law_places","_law_arrows","_law_k","_law_stand_here","_law_letter"]
theorem Pd:FnScope nSa ["_law_state","_law_game_here","_law_most"] (Ah sSa):=⟨rfl,rfl,rfl,by decide +kernel,rfl,by decide +kernel,by decide +kernel⟩
def Qca:ASp:=λxs μ R=>∃(a l:Addr) (g:Gam) (most:Nat),xs=[.R a,.D (Bk g),.D (.int most)]/\0 < g.pl.length/\g.pl.length<=3/\0 < g.le.length/\g.le.length<=3/\most<=20/\Pot μ a l/\∀(s:Say) μ',SayOk g s most->Pot μ' a l->Br a l μ μ'->R (.D (Au s)) μ'
theorem Qfa{n:Nat}(F:Fun K "_law_saying" "_law_saying" sSa f fd) (cDr:VCal P w K mg base n "_law_draw" ["_law_state","_law_many"] Pb) (cSo:VCal P w K mg base n "_law_some" ["_law_state","_law_things"] Qe8) (m_len:mg "len" = none) (m_range:mg "range" = none) (m_list:mg "list" = none) (m_tuple:mg "tuple" = none) (m_sorted:mg "sorted" = none) (m_set:mg "set" = none):FnOk P w K mg base Fl (n+1) f fd ["_law_state","_law_game_here","_law_most"] (Hv K 3 Qca):=by
 refine F.vok Pd λcdv A outer s H E hr=>⟨_,(Ag (Aw (i:=3) Pd.nd rfl (Or.inl rfl) (Al cDr hr rfl (Aa (vv 0) (Aa Af Ae))))
   (Ag (Aw (i:=4) Pd.nd rfl (Or.inl rfl) (Ba Co rfl m_len PySem.boot_len (Aa (Ak Ay (vv 1) Af) Ae)))
   (Ag (Aw (i:=5) Pd.nd rfl (Or.inl rfl) (Cc Ae))
   (Ag (Df PassesOwn.never rfl (Dh rfl m_range (Aa (Al cDr hr rfl (Aa (vv 0) (Aa (A0 Bl (vv 2) Af) Ae))) Ae)) (Am (i:=6) Pd.nd rfl (Or.inl rfl)) (Ag (Aw (i:=7) Pd.nd rfl (Or.inl rfl) (Al cDr hr rfl (Aa (vv 0) (Aa (A0 Bl (vv 4) (vv 3)) Ae))))
   (Ag (Aw (i:=8) Pd.nd rfl (Or.inl rfl) (Al cDr hr rfl (Aa (vv 0) (Aa (Ba Co rfl m_len PySem.boot_len (Aa (Ak Ay (vv 1) Af) Ae)) Ae))))
   (An (Cw (Em PySem.F.slot_list_append PySem.F.type_list_append Cr (vv 5) (Aa (Cb (Aa (vv 7) (Aa (vv 8) (Aa (Al cSo hr rfl (Aa (vv 0) (Aa (Uo rfl rfl m_list rfl m_range (vv 4) (A0 Bl (vv 4) (vv 3))) Ae))) Ae)))) Ae)))))))
   (An (Bo (Cb (Aa (vv 3) (Aa (Az B6 rfl m_tuple PyProof.Rows.boot_tuple (Aa (Lz hr rfl m_sorted rfl m_set (vv 5)) Ae)) (Aa (Al cSo hr rfl (Aa (vv 0) (Aa (Um rfl rfl m_list rfl m_range (A0 Bl (vv 4) (vv 3))) Ae))) Ae)))))))))),?_⟩
 rintro xs μ R _ ⟨a,l,g,most,rfl,hp0,hp3,hl0,hl3,hm,hP,q⟩
 refine A8 (fun τ μ'=>∃ow:Nat,τ=[some (.R a),some (.D (Bk g)),some (.D (.int most)),some (.D (.int ow)),none,none,none,none,none]/\ow<=2/\Pot μ' a l/\Br a l μ μ') (λZ hZ=>⟨a,l,3,rfl,hP,by decide,by decide,λv μ1 hv P1 S1=>hZ _ _ ⟨v,rfl,by omega,P1,S1⟩⟩) ?_
 rintro τ μ1 ⟨ow,rfl,how,P1,S1⟩
 refine A8 (fun τ μ'=>τ=[some (.R a),some (.D (Bk g)),some (.D (.int most)),some (.D (.int ow)),some (.D (.int g.pl.length)),none,none,none,none]/\μ1=μ') (λZ hZ=>Ac (Ai (j:=0) rfl) (by rw [<- List.length_map (f:=Go)]at hZ;exact hZ _ _ ⟨rfl,rfl⟩)) ?_
 rintro τ _ ⟨rfl,rfl⟩
 intro pf hpf
 have hne:=P1.ne hpf
 have hpf0:μ pf=none:=S1.none hne.1 hne.2 hpf
 refine A8 (fun τ μ'=>∃o6 o7 o8,∃B:List Arw,τ=[some (.R a),some (.D (Bk g)),some (.D (.int most)),some (.D (.int ow)),some (.D (.int g.pl.length)),some (.R pf),o6,o7,o8]/\μ' pf=some (.lst (B.map λb=>.D (Aj b)))/\B.length<=most/\(∀b∈B,AwOk (g.pl.length+ow) g.le.length g.pl.length false b/\b.ts.Sublist (List.range' g.pl.length ow))/\Pot μ' a l/\Br a l μ μ') (λZ hZ=>?_) ?_
 ·refine⟨a,l,most+1,rfl,P1.new hpf,by omega,by omega,λc μ2 hc P2 S2=>⟨by omega,by omega,?_⟩⟩
  have hlen:(D4 0 (c:Int).toNat).length=c:=by rw [B7];omega
  refine En (λi τ μ'=>∃o6 o7 o8,∃B:List Arw,τ=[some (.R a),some (.D (Bk g)),some (.D (.int most)),some (.D (.int ow)),some (.D (.int g.pl.length)),some (.R pf),o6,o7,o8]/\μ' pf=some (.lst (B.map λb=>.D (Aj b)))/\B.length<=i/\(∀b∈B,AwOk (g.pl.length+ow) g.le.length g.pl.length false b/\b.ts.Sublist (List.range' g.pl.length ow))/\Pot μ' a l/\Br a l μ μ') ⟨none,none,none,[],rfl,S2 pf _ hne.1.symm hne.2.symm Ad,Nat.le_refl _,(λ_ z=>nomatch z),P2,(S1.new hpf).trans S2⟩ (λ_ _ _ _=>trivial) ?_ ?_
  ·rintro i y τ μ3 Z2 hy ⟨o6,o7,o8,B,rfl,e3,hB,kB,P3,S3⟩ hZ2
   have hi:i < c:=by rw [<- hlen];exact(List.getElem?_eq_some_iff.mp hy).1
   refine A8 (fun τ μ'=>∃p:Nat,τ=[some (.R a),some (.D (Bk g)),some (.D (.int most)),some (.D (.int ow)),some (.D (.int g.pl.length)),some (.R pf),some y,some (.D (.int p)),o8]/\p < g.pl.length+ow/\μ' pf=some (.lst (B.map λb=>.D (Aj b)))/\Pot μ' a l/\Br a l μ μ') (λZ3 hZ3=>⟨a,l,g.pl.length+ow,rfl,P3,by omega,by omega,λp μ4 hp P4 S4=>hZ3 _ _ ⟨p,rfl,hp,S4 pf _ hne.1.symm hne.2.symm e3,P4,S3.trans S4⟩⟩) ?_
   rintro τ μ4 ⟨p,rfl,hp,e4,P4,S4⟩
   refine A8 (fun τ μ'=>∃x:Nat,τ=[some (.R a),some (.D (Bk g)),some (.D (.int most)),some (.D (.int ow)),some (.D (.int g.pl.length)),some (.R pf),some y,some (.D (.int p)),some (.D (.int x))]/\x < g.le.length/\μ' pf=some (.lst (B.map λb=>.D (Aj b)))/\Pot μ' a l/\Br a l μ μ') (λZ3 hZ3=>Ac (Ai (j:=1) rfl) ⟨a,l,g.le.length,by rw [List.length_map],P4,hl0,by omega,λx μ5 hx P5 S5=>hZ3 _ _ ⟨x,rfl,hx,S5 pf _ hne.1.symm hne.2.symm e4,P5,S4.trans S5⟩⟩) ?_
   rintro τ μ5 ⟨x,rfl,hx,e5,P5,S5⟩
   refine⟨Ac e5 trivial,⟨by omega,by omega,by omega⟩,λps hps=>?_⟩
   have hns:=P5.ne hps
   have hsf:pf≠ps:=by rintro rfl;rw [e5]at hps;cases hps
   refine⟨a,l,ps,List.range' g.pl.length ow,rfl,by rw [List.length_range'];omega,hns.1.symm,hns.2.symm,by rw [Ad,show((g.pl.length:Int)+(ow:Int) - (g.pl.length:Int)).toNat=ow by omega,L9],P5.new hps,λts μ6 hsub P6 S6=>?_⟩
   have e6:=S6 pf _ hne.1.symm hne.2.symm (show Ar μ5 ps _ pf=_ by rw [Ab hsf];exact e5)
   refine Ac e6 ⟨Bg (by rw [List.length_map];omega),hZ2 _ _ ⟨_,_,_,B++[⟨p,x,ts,none⟩],rfl,by rw [Ad,List.map_append];rfl,by rw [List.length_append];show B.length+1<=_;omega,λb hb=>?_,P6.other hne.1 hne.2,((S5.new hps).trans S6).put hpf0⟩⟩
   rcases List.mem_append.mp hb with hb | hb
   ·exact kB b hb
   ·rw [List.mem_singleton.mp hb]
    have hl:=hsub.length_le
    rw [List.length_range']at hl
    refine⟨⟨rfl,hp,hx,λt ht=>?_,(show ts.length<=_ by omega)⟩,hsub⟩
    have:=List.mem_range'_1.mp (hsub.subset ht)
    omega
  ·rintro τ μ3 ⟨o6,o7,o8,B,rfl,e3,hB,kB,P3,S3⟩
   rw [hlen]at hB
   exact hZ _ _ ⟨_,_,_,B,rfl,e3,by omega,kB,P3,S3⟩
 rintro τ μ2 ⟨o6,o7,o8,B,rfl,e2,hB,kB,P2,S2⟩
 refine Ac (Ap e2) (Ac (Dr B) ⟨X8 (by omega) λb hb=>(kB b hb).1.c,λes p hnd hmem hup hp=>?_⟩)
 obtain⟨C,rfl,hC,hCm,hCl⟩:=X9 (k:=false) (by omega) hnd hmem
 refine Ac (Ap Ad) (Ac (B5 _) ⟨⟨by omega,by omega⟩,λps hps=>?_⟩)
 have hnp:=P2.ne hp
 have P3:=P2.new hp (o:=.lst ((C.map Aj).map .D))
 have hns:=P3.ne hps
 refine⟨a,l,ps,List.range (g.pl.length+ow),rfl,by rw [List.length_range];omega,hns.1.symm,hns.2.symm,by rw [Ad,show((g.pl.length:Int)+(ow:Int)).toNat=g.pl.length+ow by omega,Vi],P3.new hps,λns μ3 hsub P4 S4=>⟨_,Sub.refl,q ⟨ow,C,ns⟩ _ ⟨how,(show C.length<=most by omega),λb hb=>(kB b (hC b hb)).1,hsub,hnd,λb hb=>(kB b (hC b hb)).2⟩ P4 (((S2.new hp).new hps).trans S4)⟩⟩
end
section
variable {P:Program}{w:World}{K:PySem.W.Frag}{mg:Str->Option Value}{base:Heap}{f:Addr}{fd:FuncData}
structure SayLe(s:Say):Prop where
 a:s.as.length<=400
 t:∀a∈s.as,a.ts.length<=400
 e:s.es.length<=400
theorem Vj{a b:List Nat}(h:Bq a=Bq b):a=b:=by
 unfold Bq at h
 rw [PyData.tuple.injEq]at h
 induction a generalizing b with
 | nil=>cases b with
  | nil=>rfl
  | cons y b=>cases h
 | cons x a ih=>cases b with
  | nil=>cases h
  | cons y b =>
   simp only [List.map_cons,List.cons.injEq,PyData.int.injEq]at h
   rw [ih h.2,show x=y by omega]
theorem D8{a b:Arw}(h:Aj a=Aj b):a=b:=by
 obtain⟨p,x,ts,c⟩:=a
 obtain⟨p',x',ts',c'⟩:=b
 unfold Aj Nt at h
 rw [PyData.tuple.injEq]at h
 simp only [List.cons.injEq,PyData.int.injEq]at h
 obtain⟨h1,h2,h3,h4⟩:=h
 rw [show p=p' by omega,show x=x' by omega,Vj h3]
 cases c with
 | none=>cases c' with
  | none=>rfl
  | some _=>cases h4
 | some u=>cases c' with
  | none=>cases h4
  | some v =>
   simp only [List.cons.injEq,PyData.int.injEq,and_true]at h4
   rw [show u=v by omega]
def mv(np by_ t:Nat):Nat:=if t < np then t else t+by_
def Nv(np by_:Nat)(a:Arw):Arw:=⟨mv np by_ a.p,a.x,a.ts.map (mv np by_),a.c⟩
def D9(np by_:Nat)(s:Say):Say:=⟨s.own,s.as.map (Nv np by_),s.es.map (mv np by_)⟩
abbrev nMv:List Str:=["places","stand","by"]
theorem Qil:FnScope nMv ["places","stand","by"] (Ah sMv):=⟨rfl,rfl,rfl,by decide +kernel,rfl,by decide +kernel,by decide +kernel⟩
def Qfb:ASp:=λxs μ R=>∃(np t by_:Nat),xs=[.D (.int np),.D (.int t),.D (.int by_)]/\R (.D (.int (mv np by_ t:Nat))) μ
theorem Qfc{n:Nat}(F:Fun K "moved_stand" "moved_stand" sMv f fd):FnOk P w K mg base Fl (n+1) f fd ["places","stand","by"] (Hv K 3 Qfb):=by
 refine F.vok Qil λcdv A outer s H E hr=>⟨_,(An (Bo (Tu (Bd Mp (vv 1) (vv 0) (nomark _)) (vv 1) (A0 Bl (vv 1) (vv 2))))),?_⟩
 rintro xs μ R _ ⟨np,t,b,rfl,q⟩
 unfold mv at q
 refine dif (λc=>⟨μ,Sub.refl,?_⟩) (λc=>⟨μ,Sub.refl,?_⟩)
 ·rw [if_pos (by omega)]at q;exact q
 ·rw [if_neg (by omega)]at q;exact q
theorem Ib(f:Nat->Nat)(ns:List Nat):(ns.map λn=>Bm (f n))=(ns.map f).map Bm:=by rw [List.map_map];rfl
theorem Vk{a b c:PyData}{i j k:Nat}{τ:ASt}{μ:M}{R:ASt->M->Prop}(h:R (((τ.set i (some (.D a))).set j (some (.D b))).set k (some (.D c))) μ):Kj (Et i) (Kj (Et j) (Kj (Et k) Qbd)) (List.map AV.D [a,b,c]) τ μ R:=h
abbrev nNb:List Str:=["game","saying","by","places","arrows","stand","letter","targets","moved","ends"]
theorem Nw:FnScope nNb ["game","saying","by"] (Ah Ze):=⟨rfl,rfl,rfl,by decide +kernel,rfl,by decide +kernel,by decide +kernel⟩
theorem Qfd:(["target","places","by"]:List Str).Nodup:=by decide +kernel
theorem Qfe:(["end","places","by"]:List Str).Nodup:=by decide +kernel
def Qcb:ASp:=λxs μ R=>∃(g:Gam) (s:Say) (by_:Nat),xs=[.D (Bk g),.D (Au s),.D (.int by_)]/\SayLe s/\(∀a∈s.as,a.c=none)/\∀ μ',Sub μ μ'->R (.D (Au (D9 g.pl.length by_ s))) μ'
theorem Qff{n:Nat}(F:Fun K "numbered_behind" "numbered_behind" Ze f fd) (cMv:VCal P w K mg base n "moved_stand" ["places","stand","by"] Qfb) (m_len:mg "len" = none) (m_tuple:mg "tuple" = none):FnOk P w K mg base Fl (n+1) f fd ["game","saying","by"] (Hv K 3 Qcb):=by
 refine F.vok Nw λcdv A outer s H E hr=>⟨_,(Ag (Aw (i:=3) Nw.nd rfl (Or.inr rfl) (Ba Co rfl m_len PySem.boot_len (Aa (Ak Ay (vv 0) Af) Ae)))
   (Ag (Aw (i:=4) Nw.nd rfl (Or.inl rfl) (Cc Ae))
   (Ag (Df PassesOwn.never rfl (Bp (Ak Ay (vv 1) Af)) (Eu (n:=3) rfl (Bb (Am (i:=5) Nw.nd rfl (Or.inl rfl)) (Bb (Am (i:=6) Nw.nd rfl (Or.inl rfl)) (Bb (Am (i:=7) Nw.nd rfl (Or.inl rfl)) C2)))) (Ag (Aw (i:=8) Nw.nd rfl (Or.inl rfl) (Az B6 rfl m_tuple PyProof.Rows.boot_tuple (Aa (Bw (N':=["target","places","by"]) (mp:=[none,some 3,some 2]) rfl (Bp (vv 7)) (λ_ _ _ _=>(Am (i:=0) Qfd rfl (Or.inl rfl) (Or.inr rfl))) (λ_ _ _ _=>Bs) (λ_ _ _ _=>(Al cMv hr rfl (Aa (vv 1) (Aa (vv 0) (Aa (vv 2) Ae))))) (A5 (N:=nNb) (pn:=(Ah Ze).names) (by decide +kernel))) Ae)))
   (An (Cw (Em PySem.F.slot_list_append PySem.F.type_list_append Cr (vv 4) (Aa (Cb (Aa (Al cMv hr rfl (Aa (vv 3) (Aa (vv 5) (Aa (vv 2) Ae)))) (Aa (vv 6) (Aa (vv 8) Ae)))) Ae))))))
   (Ag (Ef (i:=9) (N':=["end","places","by"]) (mp:=[none,some 3,some 2]) rfl Nw.nd rfl rfl (Bp (Ak Ay (vv 1) Af)) (λ_ _ _ _=>(Am (i:=0) Qfe rfl (Or.inl rfl) (Or.inr rfl))) (λ_ _ _ _=>Bs) (λ_ _ _ _=>(Al cMv hr rfl (Aa (vv 1) (Aa (vv 0) (Aa (vv 2) Ae))))) (A5 (N:=nNb) (pn:=(Ah Ze).names) (by decide +kernel)))
   (An (Bo (Cb (Aa (Ak Ay (vv 1) Af) (Aa (Az B6 rfl m_tuple PyProof.Rows.boot_tuple (Aa (vv 4) Ae)) (Aa (Az B6 rfl m_tuple PyProof.Rows.boot_tuple (Aa (vv 9) Ae)) Ae)))))))))),?_⟩
 rintro xs μ R _ ⟨g,S,b,rfl,hS,hc,q⟩
 have hA:=hS.a
 have hE:=hS.e
 refine A8 (fun τ μ'=>τ=[some (.D (Bk g)),some (.D (Au S)),some (.D (.int b)),some (.D (.int g.pl.length)),none,none,none,none,none,none]/\μ=μ') (λZ hZ=>?_) ?_
 ·refine Ac (Ai (j:=0) rfl) (hZ _ _ ⟨?_,rfl⟩)
  rw [List.length_map];rfl
 rintro τ _ ⟨rfl,rfl⟩
 intro pa hpa
 refine A8 (fun τ μ'=>∃o5 o6 o7 o8,τ=[some (.D (Bk g)),some (.D (Au S)),some (.D (.int b)),some (.D (.int g.pl.length)),some (.R pa),o5,o6,o7,o8,none]/\μ' pa=some (.lst ((S.as.map (Nv g.pl.length b)).map λa=>.D (Aj a)))/\Sub μ μ') (λZ hZ=>?_) ?_
 ·refine Ac (Ai (j:=1) rfl) (Ac (Bh S.as) ?_)
  refine En (λi τ μ'=>∃o5 o6 o7 o8,τ=[some (.D (Bk g)),some (.D (Au S)),some (.D (.int b)),some (.D (.int g.pl.length)),some (.R pa),o5,o6,o7,o8,none]/\μ' pa=some (.lst (((S.as.take i).map (Nv g.pl.length b)).map λa=>.D (Aj a)))/\Sub μ μ') ⟨none,none,none,none,rfl,Ad,Sub.refl.new hpa⟩ (λ_ _ _ _=>Bh S.as) ?_ ?_
  ·rintro i y τ μ1 Z2 hy ⟨o5,o6,o7,o8,rfl,e1,S1⟩ hZ2
   rw [List.getElem?_map]at hy
   obtain⟨a,ha,rfl⟩:=Option.map_eq_some_iff.mp hy
   have hi:i < S.as.length:=(List.getElem?_eq_some_iff.mp ha).1
   have hm:=List.mem_of_getElem? ha
   have htk:S.as.take (i+1)=S.as.take i++[a]:=by rw [List.take_succ,ha];rfl
   have hac:=hc a hm
   have hat:=hS.t a hm
   obtain⟨p,x,ts,c⟩:=a
   dsimp only at hac hat
   subst hac
   refine⟨rfl,Vk ?_⟩
   dsimp only [List.set]
   refine A8 (fun τ μ'=>τ=[some (.D (Bk g)),some (.D (Au S)),some (.D (.int b)),some (.D (.int g.pl.length)),some (.R pa),some (.D (.int p)),some (.D (.int x)),some (.D (Bq ts)),some (.D (Bq (ts.map (mv g.pl.length b)))),none]/\μ' pa=some (.lst (((S.as.take i).map (Nv g.pl.length b)).map λa=>.D (Aj a)))/\Sub μ μ') (λZ3 hZ3=>?_) ?_
   ·refine Ac (Ax ts) λpc hpc=>?_
    have hpp:pa≠pc:=by rintro rfl;rw [e1]at hpc;cases hpc
    refine cmap ts _ (λt=>Bm (mv g.pl.length b t)) (fun τ=>∃o,τ=[o,some (.D (.int g.pl.length)),some (.D (.int b))]) ⟨none,rfl⟩ Ad (seven (by omega)) (λ_=>Ax ts) ?_ ?_
    ·rintro j t τ' acc W hj ⟨o,rfl⟩ hW
     exact⟨g.pl.length,t,b,rfl,hW _ ⟨_,rfl⟩⟩
    ·rw [Ib]
     exact Ac (Ap Ad) (Ac (Cu _) (hZ3 _ _ ⟨rfl,by rw [Ab hpp,Ab hpp];exact e1,(S1.new (S1.none hpc)).new (S1.none hpc)⟩))
   rintro τ μ2 ⟨rfl,e2,S2⟩
   refine⟨Ac e2 trivial,g.pl.length,p,b,rfl,Ac e2 ⟨Bg (by simp only [List.length_map,List.length_take];omega),hZ2 _ _ ⟨_,_,_,_,rfl,?_,S2.new hpa⟩⟩⟩
   rw [Ad,htk,List.map_append,List.map_append];rfl
  ·rintro τ μ1 ⟨o5,o6,o7,o8,rfl,e1,S1⟩
   rw [List.length_map,List.take_length]at e1
   exact hZ _ _ ⟨_,_,_,_,rfl,e1,S1⟩
 rintro τ μ1 ⟨o5,o6,o7,o8,rfl,e1,S1⟩
 refine A8 (fun τ μ'=>∃pe,τ=[some (.D (Bk g)),some (.D (Au S)),some (.D (.int b)),some (.D (.int g.pl.length)),some (.R pa),o5,o6,o7,o8,some (.R pe)]/\μ' pa=some (.lst ((S.as.map (Nv g.pl.length b)).map λa=>.D (Aj a)))/\μ' pe=some (.lst ((S.es.map (mv g.pl.length b)).map Bm))/\Sub μ μ') (λZ hZ=>?_) ?_
 ·refine Ac (Ai (j:=2) rfl) (Ac (Ax S.es) λpc hpc=>?_)
  have hpp:pa≠pc:=by rintro rfl;rw [e1]at hpc;cases hpc
  refine cmap S.es _ (λt=>Bm (mv g.pl.length b t)) (fun τ=>∃o,τ=[o,some (.D (.int g.pl.length)),some (.D (.int b))]) ⟨none,rfl⟩ Ad (seven (by omega)) (λ_=>Ax S.es) ?_ ?_
  ·rintro j t τ' acc W hj ⟨o,rfl⟩ hW
   exact⟨g.pl.length,t,b,rfl,hW _ ⟨_,rfl⟩⟩
  ·rw [Ib]
   exact hZ _ _ ⟨pc,rfl,by rw [Ab hpp,Ab hpp];exact e1,Ad,(S1.new (S1.none hpc)).new (S1.none hpc)⟩
 rintro τ μ2 ⟨pe,rfl,e2,f2,S2⟩
 refine Ac (Ai (j:=0) rfl) (Ac (Ap e2) (Ac (Dr _) (Ac (Ap f2) (Ac (Cu _) ⟨_,Sub.refl,q _ S2⟩))))
def sm(a b:Arw):Bool:=decide (b.p=a.p/\b.x=a.x)
def jn(a b:Arw):Arw:=⟨a.p,a.x,a.ts++b.ts,none⟩
def Ma(np:Nat)(B:List Arw)(a:Arw):List Arw:=if a.p < np then(B.filter (sm a)).map (jn a) else []
def prs(np:Nat)(A B:List Arw):List Arw:=A.flatMap (Ma np B)
theorem Jr(np:Nat)(A:List Arw)(a:Arw)(B:List Arw):prs np (A++[a]) B=prs np A B++Ma np B a:=by
 unfold prs
 rw [List.flatMap_append,List.flatMap_singleton]
theorem Vl(np:Nat)(A B:List Arw)(i:Nat):(prs np (A.take i) B).length<=(prs np A B).length:=by
 conv=>rhs;rw [<- List.take_append_drop i A]
 unfold prs
 rw [List.flatMap_append,List.length_append];omega
theorem Zm(a b:Arw):PyData.eqv (.tuple [.int b.p,.int b.x]) (.tuple [.int a.p,.int a.x])=sm a b:=by
 show(decide ((b.p:Int)=a.p) && (decide ((b.x:Int)=a.x) && true))=_
 unfold sm
 rw [Bool.and_true,<- Bool.decide_and]
 exact decide_eq_decide.mpr ⟨λh=>⟨by omega,by omega⟩,λh=>⟨by omega,by omega⟩⟩
theorem Mb(a b:Int):Cf (.tuple [.int a,.int b]):=⟨rfl,by simp [PyData.depth,PyData.depthAll]⟩
abbrev nAp:List Str:=["places","arrows","seconds","told","stand","letter","targets","beside"]
theorem Sg:FnScope nAp ["places","arrows","seconds"] (Ah Zf):=⟨rfl,rfl,rfl,by decide +kernel,rfl,by decide +kernel,by decide +kernel⟩
theorem Qfg:(["second","stand","letter"]:List Str).Nodup:=by decide +kernel
theorem Qfh:(["others","stand","letter","targets"]:List Str).Nodup:=by decide +kernel
def Qfi:ASp:=λxs μ R=>∃(np:Nat) (A B:List Arw),xs=[.D (.int np),.D (.tuple (A.map Aj)),.D (.tuple (B.map Aj))]/\A.length<=400/\B.length<=400/\(∀a∈A,a.c=none/\a.ts.length<=400)/\(∀a∈B,a.c=none/\a.ts.length<=400)/\(prs np A B).length<=900/\∀p μ',μ p=none->μ' p=some (.lst ((prs np A B).map λa=>.D (Aj a)))->Sub μ μ'->R (.R p) μ'
theorem Qfj{n:Nat}(F:Fun K "arrows_of_places" "arrows_of_places" Zf f fd):FnOk P w K mg base Fl (n+1) f fd ["places","arrows","seconds"] (Hv K 3 Qfi):=by
 refine F.vok Sg λcdv A outer s H E hr=>⟨_,(Ag (Aw (i:=3) Sg.nd rfl (Or.inl rfl) (Cc Ae))
   (Ag (Df PassesOwn.never rfl (Bp (vv 1)) (Eu (n:=3) rfl (Bb (Am (i:=4) Sg.nd rfl (Or.inr rfl)) (Bb (Am (i:=5) Sg.nd rfl (Or.inr rfl)) (Bb (Am (i:=6) Sg.nd rfl (Or.inr rfl)) C2)))) (An (Cs (Bd Mp (vv 4) (vv 0) (nomark _)) (Ag (Ef (i:=7) (N':=["second","stand","letter"]) (mp:=[none,some 4,some 5]) rfl Sg.nd rfl rfl (Bp (vv 2)) (λ_ _ _ _=>(Am (i:=0) Qfg rfl (Or.inl rfl) (Or.inr rfl))) (λ_ _ _ _=>(C3 (Bd (Hn hr) (D3 (vv 0) Fd (Fe Af)) (Cb (Aa (vv 1) (Aa (vv 2) Ae))) (nomark _)))) (λ_ _ _ _=>(Ak Ay (vv 0) Af)) (A5 (N:=nAp) (pn:=(Ah Zf).names) (by decide +kernel)))
   (An (Cw (Em PySem.F.slot_list_extend PySem.F.type_list_extend Mr (vv 3) (Aa (Bw (N':=["others","stand","letter","targets"]) (mp:=[none,some 4,some 5,some 6]) rfl (Bp (vv 7)) (λ_ _ _ _=>(Am (i:=0) Qfh rfl (Or.inl rfl) (Or.inr rfl))) (λ_ _ _ _=>Bs) (λ_ _ _ _=>(Cb (Aa (vv 1) (Aa (vv 2) (Aa (A0 Bl (vv 3) (vv 0)) Ae))))) (A5 (N:=nAp) (pn:=(Ah Zf).names) (by decide +kernel))) Ae))))) Bt)))
   (An (Bo (vv 3))))),?_⟩
 rintro xs μ R _ ⟨np,A,B,rfl,hA,hB,kA,kB,hn,q⟩
 intro pt hpt
 refine A8 (fun τ μ'=>∃o4 o5 o6 o7,τ=[some (.D (.int np)),some (.D (.tuple (A.map Aj))),some (.D (.tuple (B.map Aj))),some (.R pt),o4,o5,o6,o7]/\μ' pt=some (.lst ((prs np A B).map λa=>.D (Aj a)))/\Sub μ μ') (λZ hZ=>?_) ?_
 ·refine Ac (Bh A) ?_
  refine En (λi τ μ'=>∃o4 o5 o6 o7,τ=[some (.D (.int np)),some (.D (.tuple (A.map Aj))),some (.D (.tuple (B.map Aj))),some (.R pt),o4,o5,o6,o7]/\μ' pt=some (.lst ((prs np (A.take i) B).map λa=>.D (Aj a)))/\Sub μ μ') ⟨none,none,none,none,rfl,Ad,Sub.refl.new hpt⟩ (λ_ _ _ _=>Bh A) ?_ ?_
  ·rintro i y τ μ1 Z2 hy ⟨o4,o5,o6,o7,rfl,e1,S1⟩ hZ2
   rw [List.getElem?_map]at hy
   obtain⟨a,ha,rfl⟩:=Option.map_eq_some_iff.mp hy
   have hi:i < A.length:=(List.getElem?_eq_some_iff.mp ha).1
   have hm:=List.mem_of_getElem? ha
   have htk:A.take (i+1)=A.take i++[a]:=by rw [List.take_succ,ha];rfl
   have hac:=(kA a hm).1
   have hat:=(kA a hm).2
   have hlen:=Vl np A B (i+1)
   rw [htk,Jr,List.length_append]at hlen
   have e2:(prs np (A.take (i+1)) B)=prs np (A.take i) B++Ma np B a:=by rw [htk,Jr]
   have hrfl:Ma np B a=if a.p < np then(B.filter (sm a)).map (jn a) else []:=rfl
   obtain⟨p,x,ts,c⟩:=a
   dsimp only at hac hat
   subst hac
   refine⟨rfl,Vk ?_⟩
   dsimp only [List.set]
   refine dif (λc=>?_) (λc=>hZ2 _ _ ⟨_,_,_,_,rfl,?_,S1⟩)
   ·rw [if_pos (show p < np by omega)]at hrfl
    refine A8 (fun τ μ'=>∃pb,τ=[some (.D (.int np)),some (.D (.tuple (A.map Aj))),some (.D (.tuple (B.map Aj))),some (.R pt),some (.D (.int p)),some (.D (.int x)),some (.D (Bq ts)),some (.R pb)]/\μ' pb=some (.lst ((B.filter (sm ⟨p,x,ts,none⟩)).map λb=>.D (Bq b.ts)))/\μ' pt=some (.lst ((prs np (A.take i) B).map λa=>.D (Aj a)))/\Sub μ μ') (λZ3 hZ3=>?_) ?_
    ·refine Ac (Bh B) λpc hpc=>?_
     have hpp:pt≠pc:=by rintro rfl;rw [e1]at hpc;cases hpc
     refine cmapf B (λb=>.D (Aj b)) (sm ⟨p,x,ts,none⟩) (λb=>.D (Bq b.ts)) (fun τ=>∃o,τ=[o,some (.D (.int p)),some (.D (.int x))]) ⟨none,rfl⟩ Ad (seven (by omega)) (λ_=>Bh B) ?_ ?_
     ·rintro j b τ' acc W W2 hj ⟨o,rfl⟩ h1 h2
      have e:=Zm ⟨p,x,ts,none⟩ b
      have hbc:=(kB b (List.mem_of_getElem? hj)).1
      obtain⟨bp,bx,bt,bc⟩:=b
      dsimp only at hbc
      subst hbc
      exact⟨Mb bp bx,Mb p x,br (λc=>Ac (Ai (j:=2) rfl) (h1 (e.symm.trans c) _ ⟨_,rfl⟩)) (λc=>h2 (e.symm.trans c) _ ⟨_,rfl⟩)⟩
     ·exact hZ3 _ _ ⟨pc,rfl,Ad,by rw [Ab hpp,Ab hpp];exact e1,(S1.new (S1.none hpc)).new (S1.none hpc)⟩
    rintro τ μ2 ⟨pb,rfl,b2,t2,S2⟩
    have hfl:=List.length_filter_le (sm ⟨p,x,ts,none⟩) B
    have hfm:∀b∈B.filter (sm ⟨p,x,ts,none⟩),b.c=none/\b.ts.length<=400:=λb hb=>kB b (List.mem_filter.mp hb).1
    generalize B.filter (sm ⟨p,x,ts,none⟩)=L at b2 hfl hfm hrfl
    refine⟨Ac t2 trivial,Ac (Ap b2) λpc hpc=>?_⟩
    have hpb:pb≠pc:=by rintro rfl;rw [b2]at hpc;cases hpc
    have hpp:pt≠pc:=by rintro rfl;rw [t2]at hpc;cases hpc
    refine cmap L _ (λb=>.D (Aj (jn ⟨p,x,ts,none⟩ b))) (fun τ=>∃o,τ=[o,some (.D (.int p)),some (.D (.int x)),some (.D (Bq ts))]) ⟨none,rfl⟩ Ad (seven (by omega)) (λ_=>Ap (by rw [Ab hpb,Ab hpb];exact b2)) ?_ ?_
    ·rintro j b τ' acc W hj ⟨o,rfl⟩ hW
     have hbt:=(hfm b (List.mem_of_getElem? hj)).2
     refine⟨by simp only [List.length_map];exact seven (by omega),?_⟩
     have:=hW [some (.D (Bq b.ts)),some (.D (.int p)),some (.D (.int x)),some (.D (Bq ts))] ⟨_,rfl⟩
     have ej:Aj (jn ⟨p,x,ts,none⟩ b)=.tuple [.int p,.int x,.tuple ((ts.map λ(n:Nat)=>PyData.int n)++b.ts.map λ(n:Nat)=>PyData.int n)]:=by
      unfold jn Aj Nt Bq
      rw [List.map_append]
     rw [ej]at this
     exact this
    ·have hl2:(Ma np B ⟨p,x,ts,none⟩).length=L.length:=by rw [hrfl,List.length_map]
     refine Ac (x:=MO.lst ((prs np (A.take i) B).map λa=>.D (Aj a))) (by rw [Ab hpp,Ab hpp];exact t2) (Ac Ad ⟨seven (by rw [List.length_map,List.length_map];omega),hZ2 _ _ ⟨_,_,_,_,rfl,?_,?_⟩⟩)
     ·rw [Ad,e2,hrfl,List.map_append,List.map_map];rfl
     ·exact((S2.new (S2.none hpc)).new (S2.none hpc)).new hpt
   ·rw [if_neg (show ¬p < np by omega)]at hrfl
    rw [e2,hrfl,List.append_nil];exact e1
  ·rintro τ μ1 ⟨o4,o5,o6,o7,rfl,e1,S1⟩
   rw [List.length_map,List.take_length]at e1
   exact hZ _ _ ⟨_,_,_,_,rfl,e1,S1⟩
 rintro τ μ1 ⟨o4,o5,o6,o7,rfl,e1,S1⟩
 exact⟨_,Sub.refl,q pt _ hpt e1 S1⟩
theorem Si{μ μ':M}{x:AV}{us:List AV}(h:items μ x=some us)(S:Sub μ μ'):items μ' x=some us:=by
 cases x with
 | R a =>
  have h:(match μ a with | some (.lst xs)=>some xs | _=>none)=some us:=h
  cases e:μ a with
  | none=>rw [e]at h;cases h
  | some m =>
   rw [e]at h
   cases m with
   | lst xs=>cases h;exact Ap (S a _ e)
   | _=>cases h
 | D d=>cases d <;> exact h
 | _=>exact h
theorem Nx{B:List Arw}(hl:B.length < 300)(hc:∀a∈B,a.c=none):TOk (B.map Aj):=by
 refine⟨by rw [List.length_map];omega,λd hd=>?_,λd hd=>?_,λd hd e he=>?_⟩
 ·obtain⟨a,ha,rfl⟩:=List.mem_map.mp hd
  obtain⟨h1,h2,h3⟩:=Ej a
  exact⟨h3,h1,by omega⟩
 ·obtain⟨a,ha,rfl⟩:=List.mem_map.mp hd
  exact⟨a.p,_,rfl⟩
 ·obtain⟨a,ha,rfl⟩:=List.mem_map.mp hd
  obtain⟨b,hb,rfl⟩:=List.mem_map.mp he
  exact L8 (by rw [hc a ha,hc b hb])
theorem G9:∀{ms:List Int},(∀n∈ms,∃e:Nat,n=e)->ms=(ms.map Int.toNat).map λ(n:Nat)=>(n:Int)
 | [],_=>rfl
 | m :: ms,h=>by
  obtain⟨e,rfl⟩:=h m (.head _)
  rw [List.map_cons,List.map_cons,<- G9 λn hn=>h n (.tail _ hn),Int.toNat_natCast]
abbrev nSs:List Str:=["many","arrows","ends"]
theorem Qio:FnScope nSs ["many","arrows","ends"] (Ah sSs):=⟨rfl,rfl,rfl,by decide +kernel,rfl,by decide +kernel,by decide +kernel⟩
def Qcc:ASp:=λxs μ R=>∃(many:Nat) (x y:AV) (L:List Arw) (Es:List Nat),xs=[.D (.int many),x,y]/\items μ x=some (L.map λa=>.D (Aj a))/\items μ y=some (Es.map Bm)/\L.length < 300/\Es.length < 60/\(∀a∈L,a.c=none)/\∀C F μ',(C.map Aj).Nodup->(∀a,a∈C↔a∈L)->F.Nodup->(∀e,e∈F↔e∈Es)->(C.map Aj).Pairwise (λa b=>Ff a b=true)->F.Pairwise (· < ·)->Sub μ μ'->R (.D (Au ⟨many,C,F⟩)) μ'
theorem Qfk{n:Nat}(F:Fun K "sorted_saying" "sorted_saying" sSs f fd) (m_tuple:mg "tuple" = none) (m_sorted:mg "sorted" = none) (m_set:mg "set" = none):FnOk P w K mg base Fl (n+1) f fd ["many","arrows","ends"] (Hv K 3 Qcc):=by
 refine F.vok Qio λcdv A outer s H E hr=>⟨_,(An (Bo (Cb (Aa (vv 0) (Aa (Az B6 rfl m_tuple PyProof.Rows.boot_tuple (Aa (Lz hr rfl m_sorted rfl m_set (vv 1)) Ae)) (Aa (Az B6 rfl m_tuple PyProof.Rows.boot_tuple (Aa (L3 hr rfl m_sorted rfl m_set (vv 2)) Ae)) Ae)))))),?_⟩
 rintro xs μ R _ ⟨many,x,y,L,Es,rfl,ix,iy,hL,hE,hc,q⟩
 refine Ac ix (Ac (Dr L) ⟨Nx hL hc,λes p hnd hmem hso hp=>?_⟩)
 obtain⟨C,rfl,hC⟩:=E9 (f:=Aj) (B:=L) λe he=>(hmem e).mp he
 have hCm:∀a,a∈C↔a∈L:=λa=>⟨hC a,λh=>by
  obtain⟨b,hb,e⟩:=List.mem_map.mp ((hmem (Aj a)).mpr (List.mem_map.mpr ⟨a,h,rfl⟩))
  rw [<- D8 e];exact hb⟩
 have S1:Sub μ (Ar μ p (.lst ((C.map Aj).map .D))):=Sub.refl.new hp
 refine Ac (Ap Ad) (Ac (B5 _) (Ac (Si iy S1) ⟨Es.map λ(n:Nat)=>(n:Int),?_,by rw [List.length_map];exact hE,λl ms hl hup hms=>?_⟩))
 ·rw [List.map_map];rfl
 have hms':∀n∈ms,∃e:Nat,n=e:=λn hn=>by
  obtain⟨e,_,rfl⟩:=List.mem_map.mp ((hms n).mp hn)
  exact⟨e,rfl⟩
 have em:=G9 hms'
 generalize ms.map Int.toNat=Fs at em
 subst em
 rw [show(Fs.map λ(n:Nat)=>(n:Int)).map (λn=>AV.D (.int n))=Fs.map Bm by rw [List.map_map];rfl]
 refine Ac (Ap Ad) (Ac (Cu Fs) ⟨_,Sub.refl,q C Fs _ hnd hCm ?_ (λe=>?_) hso ?_ (S1.new (S1.none hl))⟩)
 ·rw [List.pairwise_map]at hup
  exact hup.imp λ{a b} h=>by omega
 ·have:=hms (e:Int)
  constructor
  ·intro h
   obtain⟨e',h1,h2⟩:=List.mem_map.mp (this.mp (List.mem_map.mpr ⟨e,h,rfl⟩))
   rw [show e=e' by omega];exact h1
  ·intro h
   obtain⟨e',h1,h2⟩:=List.mem_map.mp (this.mpr (List.mem_map.mpr ⟨e,h,rfl⟩))
   rw [show e=e' by omega];exact h1
 ·rw [List.pairwise_map]at hup
  exact hup.imp λ{a b} h=>by omega
end
section
variable {P:Program}{w:World}{K:PySem.W.Frag}{mg:Str->Option Value}{base:Heap}{f:Addr}{fd:FuncData}
structure Gd(np:Nat)(s:Say):Prop where
 t:∀a∈s.as,∀t∈a.ts,np<=t/\t < np+s.own
 p:∀a∈s.as,a.p < np+s.own
 c:∀a∈s.as,a.c=none
 e:∀e∈s.es,e < np+s.own
def Hq(np:Nat)(s t:Say):List Arw:=s.as++(D9 np s.own t).as
def Jw(np:Nat)(s t:Say):List Nat:=s.es++(D9 np s.own t).es
def Dg(np:Nat)(a:Arw):Bool:=decide (np<=a.p)
def Ny(np:Nat)(s t:Say):List Arw:=(Hq np s t).filter (Dg np)++prs np s.as (D9 np s.own t).as
def boT(np:Nat)(s t:Say)(e:Nat):Bool:=decide (np<=e) || (decide (e∈s.es) && decide (e∈(D9 np s.own t).es))
def Sj(np:Nat)(s t:Say):List Nat:=(Jw np s t).filter (boT np s t)
structure Jn(np:Nat)(L:List Arw)(Es:List Nat)(s t j:Say):Prop where
 o:j.own=s.own+t.own
 a:∀a,a∈j.as↔a∈L
 e:∀e,e∈j.es↔e∈Es
 up:(j.as.map Aj).Pairwise λa b=>Ff a b=true
 ue:j.es.Pairwise (· < ·)
theorem Vm{np b t:Nat}(h:np<=t):mv np b t=t+b:=by unfold mv;rw [if_neg (by omega)]
theorem Qfl{np b t:Nat}(h:t < np):mv np b t=t:=by unfold mv;rw [if_pos h]
section
variable {np:Nat}{s t j:Say}{L:List Arw}{Es:List Nat}
theorem Fo{b:Nat}{a:Arw}:a∈(D9 np b t).as↔∃c∈t.as,Nv np b c=a:=List.mem_map
theorem Vn{b e:Nat}:e∈(D9 np b t).es↔∃c∈t.es,mv np b c=e:=List.mem_map
theorem Fh{A B:List Arw}{a:Arw}:a∈prs np A B↔∃b∈A,b.p < np/\∃c∈B,c.p=b.p/\c.x=b.x/\jn b c=a:=by
 unfold prs
 rw [List.mem_flatMap]
 constructor
 ·rintro⟨b,hb,h⟩
  unfold Ma at h
  split at h
  ·rename_i hp
   obtain⟨c,hc,e⟩:=List.mem_map.mp h
   obtain⟨h1,h2⟩:=List.mem_filter.mp hc
   have h2:=of_decide_eq_true h2
   exact⟨b,hb,hp,c,h1,h2.1,h2.2,e⟩
  ·cases h
 ·rintro⟨b,hb,hp,c,hc,e1,e2,e⟩
  refine⟨b,hb,?_⟩
  unfold Ma
  rw [if_pos hp]
  exact List.mem_map.mpr ⟨c,List.mem_filter.mpr ⟨hc,decide_eq_true ⟨e1,e2⟩⟩,e⟩
theorem Vo(gt:Gd np t){c:Arw}(hc:c∈t.as):(∀u∈(Nv np s.own c).ts,np<=u/\u < np+(s.own+t.own))/\(Nv np s.own c).p < np+(s.own+t.own)/\(Nv np s.own c).c=none:=by
 refine⟨λu hu=>?_,?_,gt.c c hc⟩
 ·obtain⟨u',hu',rfl⟩:=List.mem_map.mp hu
  have:=gt.t c hc u' hu'
  rw [Vm this.1];omega
 ·show mv np s.own c.p < _
  have:=gt.p c hc
  unfold mv;split <;> omega
theorem Vp(J:Jn np (Hq np s t) (Jw np s t) s t j)(gs:Gd np s)(gt:Gd np t):Gd np j:=by
 have key:∀a∈j.as,(∀u∈a.ts,np<=u/\u < np+j.own)/\a.p < np+j.own/\a.c=none:=λa ha=>by
  rw [J.a]at ha
  rw [J.o]
  rcases List.mem_append.mp ha with ha | ha
  ·exact⟨λu hu=>by have:=gs.t a ha u hu;omega,by have:=gs.p a ha;omega,gs.c a ha⟩
  ·obtain⟨c,hc,rfl⟩:=Fo.mp ha
   exact Vo gt hc
 refine⟨λa ha=>(key a ha).1,λa ha=>(key a ha).2.1,λa ha=>(key a ha).2.2,λe he=>?_⟩
 rw [J.e]at he
 rw [J.o]
 rcases List.mem_append.mp he with he | he
 ·have:=gs.e e he;omega
 ·obtain⟨c,hc,rfl⟩:=Vn.mp he
  have:=gt.e c hc
  unfold mv;split <;> omega
theorem Zn(J:Jn np (Ny np s t) (Sj np s t) s t j)(gs:Gd np s)(gt:Gd np t):Gd np j:=by
 have key0:∀a∈Hq np s t,(∀u∈a.ts,np<=u/\u < np+j.own)/\a.p < np+j.own/\a.c=none:=λa ha=>by
  rw [J.o]
  rcases List.mem_append.mp ha with ha | ha
  ·exact⟨λu hu=>by have:=gs.t a ha u hu;omega,by have:=gs.p a ha;omega,gs.c a ha⟩
  ·obtain⟨c,hc,rfl⟩:=Fo.mp ha
   exact Vo gt hc
 have key:∀a∈j.as,(∀u∈a.ts,np<=u/\u < np+j.own)/\a.p < np+j.own/\a.c=none:=λa ha=>by
  rw [J.a]at ha
  rcases List.mem_append.mp ha with ha | ha
  ·exact key0 a (List.mem_filter.mp ha).1
  ·obtain⟨b,hb,hp,c,hc,f1,f2,rfl⟩:=Fh.mp ha
   have k1:=key0 b (List.mem_append_left _ hb)
   have k2:=key0 c (List.mem_append_right _ hc)
   refine⟨λu hu=>?_,k1.2.1,rfl⟩
   rcases List.mem_append.mp hu with hu | hu
   ·exact k1.1 u hu
   ·exact k2.1 u hu
 refine⟨λa ha=>(key a ha).1,λa ha=>(key a ha).2.1,λa ha=>(key a ha).2.2,λe he=>?_⟩
 rw [J.e]at he
 rw [J.o]
 have he:=(List.mem_filter.mp he).1
 rcases List.mem_append.mp he with he | he
 ·have:=gs.e e he;omega
 ·obtain⟨c,hc,rfl⟩:=Vn.mp he
  have:=gt.e c hc
  unfold mv;split <;> omega
def grp(A:List Arw)(p x:Nat):Nat:=(A.filter λa=>decide (a.p=p/\a.x=x)).length
structure Sz(np:Nat)(s:Say)(tot oc gr tl en:Nat):Prop where
 n:s.as.length<=tot
 o:(s.as.filter (Dg np)).length<=oc
 g:∀p x,p < np->grp s.as p x<=gr
 t:∀a∈s.as,a.ts.length<=tl
 e:s.es.length<=en
theorem Fi{C M:List Arw}(hn:(C.map Aj).Nodup)(h:∀a∈C,a∈M)(f:Arw->Bool):(C.filter f).length<=(M.filter f).length:=by
 have hn':((C.filter f).map Aj).Nodup:=hn.sublist ((List.filter_sublist).map _)
 have:=Ct hn' (ys:=(M.filter f).map Aj) λd hd=>by
  obtain⟨a,ha,rfl⟩:=List.mem_map.mp hd
  obtain⟨h1,h2⟩:=List.mem_filter.mp ha
  exact List.mem_map.mpr ⟨a,List.mem_filter.mpr ⟨h a h1,h2⟩,rfl⟩
 simpa using this
theorem Pe{b p x:Nat}(hp:p < np):grp (D9 np b t).as p x=grp t.as p x:=by
 unfold grp
 show((t.as.map (Nv np b)).filter _).length=_
 rw [List.filter_map,List.length_map]
 congr 1
 refine List.filter_congr λa _=>?_
 refine decide_eq_decide.mpr ⟨λh=>⟨?_,h.2⟩,λh=>⟨?_,h.2⟩⟩
 ·have:mv np b a.p=p:=h.1
  unfold mv at this;split at this <;> omega
 ·show mv np b a.p=p
  rw [Qfl (by omega)];exact h.1
theorem Pf{b:Nat}:((D9 np b t).as.filter (Dg np)).length=(t.as.filter (Dg np)).length:=by
 show((t.as.map (Nv np b)).filter _).length=_
 rw [List.filter_map,List.length_map]
 congr 1
 refine List.filter_congr λa _=>?_
 refine decide_eq_decide.mpr ⟨λh=>?_,λh=>?_⟩
 ·have h:np<=mv np b a.p:=h
  unfold mv at h;split at h <;> omega
 ·show np<=mv np b a.p
  rw [Vm h];omega
theorem Qs{α β:Type}(f:α->List β)(k:Nat):∀(l:List α),(∀a∈l,(f a).length<=k)->(l.flatMap f).length<=l.length * k
 | [],_=>by simp
 | a :: l,h=>by
  rw [List.flatMap_cons,List.length_append,List.length_cons,Nat.add_mul,Nat.one_mul]
  have h1:=h a (.head _)
  have h2:=Qs f k l λb hb=>h b (.tail _ hb)
  omega
theorem Ya{A B:List Arw}{k:Nat}(hB:∀p x,p < np->grp B p x<=k):(prs np A B).length<=A.length * k:=by
 refine Qs _ _ _ λa _=>?_
 unfold Ma
 split
 ·rw [List.length_map];exact hB a.p a.x ‹_›
 ·exact Nat.zero_le _
theorem Qt{B:List Arw}{k p x:Nat}(hp:p < np)(hB:∀p x,p < np->grp B p x<=k):∀(A:List Arw),grp (prs np A B) p x<=grp A p x * k
 | []=>by simp [prs,grp]
 | a :: A=>by
  have ih:=Qt (x:=x) hp hB A
  unfold prs at ih ⊢
  unfold grp at ih ⊢
  rw [List.flatMap_cons,List.filter_append,List.length_append]
  by_cases c:a.p=p/\a.x=x
  ·rw [List.filter_cons_of_pos (by rw [decide_eq_true c]),List.length_cons,Nat.add_mul,Nat.one_mul]
   have:((Ma np B a).filter λa=>decide (a.p=p/\a.x=x)).length<=k:=by
    refine Nat.le_trans (List.length_filter_le _ _) ?_
    unfold Ma
    rw [if_pos (by omega),List.length_map]
    exact hB a.p a.x (by omega)
   omega
  ·rw [List.filter_cons_of_neg (by rw [decide_eq_false c];decide)]
   have:((Ma np B a).filter λa=>decide (a.p=p/\a.x=x))=[]:=by
    rw [List.filter_eq_nil_iff]
    intro b hb
    unfold Ma at hb
    split at hb
    ·obtain⟨c',_,rfl⟩:=List.mem_map.mp hb
     show ¬decide (a.p=p/\a.x=x)=true
     rw [decide_eq_false c];decide
    ·cases hb
   rw [this]
   simpa using ih
end
end
section
variable {P:Program}{w:World}{K:PySem.W.Frag}{mg:Str->Option Value}{base:Heap}{f:Addr}{fd:FuncData}
section
variable {np:Nat}{s t j:Say}{t1 o1 g1 l1 e1 t2 o2 g2 l2 e2:Nat}
theorem Js{b:Nat}{c:Arw}:(Nv np b c).ts.length=c.ts.length:=List.length_map _
theorem Qfm(J:Jn np (Hq np s t) (Jw np s t) s t j)(hd:(j.as.map Aj).Nodup)(he:j.es.Nodup)(z1:Sz np s t1 o1 g1 l1 e1)(z2:Sz np t t2 o2 g2 l2 e2):Sz np j (t1+t2) (o1+o2) (g1+g2) (l1+l2) (e1+e2):=by
 have hm:∀a∈j.as,a∈Hq np s t:=λa ha=>(J.a a).mp ha
 refine⟨?_,?_,λp x hp=>?_,λa ha=>?_,?_⟩
 ·have:=Fi hd hm λ_=>true
  rw [List.filter_eq_self.mpr λ_ _=>rfl,List.filter_eq_self.mpr λ_ _=>rfl]at this
  unfold Hq at this
  rw [List.length_append]at this
  have h1:=z1.n
  have h2:(D9 np s.own t).as.length<=t2:=by show(t.as.map _).length<=_;rw [List.length_map];exact z2.n
  omega
 ·have:=Fi hd hm (Dg np)
  unfold Hq at this
  rw [List.filter_append,List.length_append,Pf]at this
  have h1:=z1.o
  have h2:=z2.o
  omega
 ·have:=Fi hd hm λa=>decide (a.p=p/\a.x=x)
  unfold Hq at this
  rw [List.filter_append,List.length_append]at this
  have h1:=z1.g p x hp
  have h2:=z2.g p x hp
  rw [<- Pe (b:=s.own) hp]at h2
  unfold grp at h1 h2 ⊢
  omega
 ·rcases List.mem_append.mp (hm a ha) with h | h
  ·have:=z1.t a h;omega
  ·obtain⟨c,hc,rfl⟩:=Fo.mp h
   rw [Js]
   have:=z2.t c hc;omega
 ·have:=Ct he λe h=>(J.e e).mp h
  unfold Jw at this
  rw [List.length_append]at this
  have h1:=z1.e
  have h2:(D9 np s.own t).es.length<=e2:=by show(t.es.map _).length<=_;rw [List.length_map];exact z2.e
  omega
theorem Vq(z1:Sz np s t1 o1 g1 l1 e1)(z2:Sz np t t2 o2 g2 l2 e2):(prs np s.as (D9 np s.own t).as).length<=t1 * g2/\(Ny np s t).length<=o1+o2+t1 * g2:=by
 have h1:=z1.o
 have h2:=z2.o
 have h3:=Ya (np:=np) (A:=s.as) (B:=(D9 np s.own t).as) (k:=g2) λp x hp=>by rw [Pe hp];exact z2.g p x hp
 have h4:=Nat.mul_le_mul_right g2 z1.n
 refine⟨by omega,?_⟩
 unfold Ny Hq
 rw [List.length_append,List.filter_append,List.length_append,Pf]
 omega
theorem Qfn(J:Jn np (Ny np s t) (Sj np s t) s t j)(hd:(j.as.map Aj).Nodup)(he:j.es.Nodup)(z1:Sz np s t1 o1 g1 l1 e1)(z2:Sz np t t2 o2 g2 l2 e2):Sz np j (o1+o2+t1 * g2) (o1+o2) (g1 * g2) (l1+l2) (e1+e2):=by
 have hm:∀a∈j.as,a∈Ny np s t:=λa ha=>(J.a a).mp ha
 have hB:∀p x,p < np->grp (D9 np s.own t).as p x<=g2:=λp x hp=>by rw [Pe hp];exact z2.g p x hp
 refine⟨?_,?_,λp x hp=>?_,λa ha=>?_,?_⟩
 ·have:=Fi hd hm λ_=>true
  rw [List.filter_eq_self.mpr λ_ _=>rfl,List.filter_eq_self.mpr λ_ _=>rfl]at this
  have:=(Vq z1 z2).2
  omega
 ·have:=Fi hd hm (Dg np)
  have h0:(prs np s.as (D9 np s.own t).as).filter (Dg np)=[]:=by
   rw [List.filter_eq_nil_iff]
   intro a ha
   obtain⟨b,hb,hp,c,hc,f1,f2,rfl⟩:=Fh.mp ha
   unfold Dg
   rw [decide_eq_false (show ¬np<=(jn b c).p by show ¬np<=b.p;omega)]
   decide
  unfold Ny Hq at this
  rw [List.filter_append,h0,List.append_nil,List.filter_filter]at this
  have h3:(List.filter (λa=>Dg np a && Dg np a) (s.as++(D9 np s.own t).as)).length=(List.filter (Dg np) (s.as++(D9 np s.own t).as)).length:=by
   congr 1
   exact List.filter_congr λa _=>Bool.and_self _
  rw [h3,List.filter_append,List.length_append,Pf]at this
  have h1:=z1.o
  have h2:=z2.o
  omega
 ·have:=Fi hd hm λa=>decide (a.p=p/\a.x=x)
  have h0:((Hq np s t).filter (Dg np)).filter (λa=>decide (a.p=p/\a.x=x))=[]:=by
   rw [List.filter_eq_nil_iff]
   intro a ha
   have h:=of_decide_eq_true (List.mem_filter.mp ha).2
   rw [decide_eq_false (by omega)]
   decide
  unfold Ny at this
  rw [List.filter_append,h0,List.nil_append]at this
  have h2:=Qt (x:=x) hp hB s.as
  have h3:=Nat.mul_le_mul_right g2 (z1.g p x hp)
  unfold grp at h2 h3 ⊢
  omega
 ·rcases List.mem_append.mp (hm a ha) with h | h
  ·rcases List.mem_append.mp (List.mem_filter.mp h).1 with h | h
   ·have:=z1.t a h;omega
   ·obtain⟨c,hc,rfl⟩:=Fo.mp h
    rw [Js]
    have:=z2.t c hc;omega
  ·obtain⟨b,hb,hp,c',hc',f1,f2,rfl⟩:=Fh.mp h
   obtain⟨c,hc,rfl⟩:=Fo.mp hc'
   have h1:=z1.t b hb
   have h2:=z2.t c hc
   show(b.ts++(Nv np s.own c).ts).length<=_
   rw [List.length_append,Js];omega
 ·have:=Ct he λe h=>(J.e e).mp h
  have h0:=List.length_filter_le (boT np s t) (Jw np s t)
  unfold Sj at this
  have h3:(Jw np s t).length<=e1+e2:=by
   unfold Jw
   rw [List.length_append]
   have h1:=z1.e
   have h2:(D9 np s.own t).es.length<=e2:=by show(t.es.map _).length<=_;rw [List.length_map];exact z2.e
   omega
  omega
end
theorem Sz.le{np:Nat}{s:Say}{tot oc gr tl en:Nat}(z:Sz np s tot oc gr tl en)(h1:tot<=400)(h2:tl<=400)(h3:en<=400):SayLe s:=⟨by have:=z.n;omega,λa ha=>by have:=z.t a ha;omega,by have:=z.e;omega⟩
theorem Yb{np b:Nat}{t:Say}(h:∀a∈t.as,a.c=none):∀a∈(D9 np b t).as,a.c=none:=λa ha=>by
 obtain⟨c,hc,rfl⟩:=Fo.mp ha
 exact h c hc
theorem Qfo(A B:List Arw):(A.map Aj)++(B.map Aj)=(A++B).map Aj:=List.map_append.symm
abbrev nEi:List Str:=["game","one","other","second"]
theorem Qfp:FnScope nEi ["game","one","other"] (Ah sEi):=⟨rfl,rfl,rfl,by decide +kernel,rfl,by decide +kernel,by decide +kernel⟩
def Qce:ASp:=λxs μ R=>∃(g:Gam) (s t:Say) (t1 o1 g1 l1 e1 t2 o2 g2 l2 e2:Nat),xs=[.D (Bk g),.D (Au s),.D (Au t)]/\Gd g.pl.length s/\Gd g.pl.length t/\Sz g.pl.length s t1 o1 g1 l1 e1/\Sz g.pl.length t t2 o2 g2 l2 e2/\t1+t2 < 300/\l1+l2<=400/\e1+e2 < 60 /\
 ∀j μ',Jn g.pl.length (Hq g.pl.length s t) (Jw g.pl.length s t) s t j->Sz g.pl.length j (t1+t2) (o1+o2) (g1+g2) (l1+l2) (e1+e2)->Sub μ μ'->R (.D (Au j)) μ'
theorem Qfq{n:Nat}(F:Fun K "either" "either" sEi f fd) (cNb:VCal P w K mg base n "numbered_behind" ["game","saying","by"] Qcb) (cSs:VCal P w K mg base n "sorted_saying" ["many","arrows","ends"] Qcc):FnOk P w K mg base Fl (n+1) f fd ["game","one","other"] (Hv K 3 Qce):=by
 refine F.vok Qfp λcdv A outer s H E hr=>⟨_,(Ag (Aw (i:=3) Qfp.nd rfl (Or.inl rfl) (Al cNb hr rfl (Aa (vv 0) (Aa (vv 2) (Aa (Ak Ay (vv 1) Af) Ae)))))
   (An (Bo (Al cSs hr rfl (Aa (A0 Bl (Ak Ay (vv 1) Af) (Ak Ay (vv 3) Af)) (Aa (A0 Bl (Ak Ay (vv 1) Af) (Ak Ay (vv 3) Af)) (Aa (A0 Bl (Ak Ay (vv 1) Af) (Ak Ay (vv 3) Af)) Ae))))))),?_⟩
 rintro xs μ R _ ⟨g,s,t,t1,o1,g1,l1,e1,t2,o2,g2,l2,e2,rfl,gs,gt,z1,z2,b1,b2,b3,q⟩
 have n1:=z1.n
 have n2:=z2.n
 have m1:=z1.e
 have m2:=z2.e
 have k1:(D9 g.pl.length s.own t).as.length=t.as.length:=List.length_map _
 have k2:(D9 g.pl.length s.own t).es.length=t.es.length:=List.length_map _
 refine Fn (Ac (Ai (j:=0) rfl) ⟨g,t,s.own,rfl,z2.le (by omega) (by omega) (by omega),gt.c,fun μ1 S1=>?_⟩)
 refine Ac (Ai (j:=0) rfl) (Ac (Ai (j:=0) rfl) (Ac (Ai (j:=1) rfl) (Ac (Ai (j:=1) rfl) ⟨by rw [List.length_map,List.length_map];exact seven (by omega),Ac (Ai (j:=2) rfl) (Ac (Ai (j:=2) rfl) ⟨by rw [List.length_map,List.length_map];exact seven (by omega),s.own+t.own,.D (.tuple ((Hq g.pl.length s t).map Aj)),.D (Bq (Jw g.pl.length s t)),Hq g.pl.length s t,Jw g.pl.length s t,?_,Bh _,Ax _,?_,?_,?_,λC F μ2 hC1 hC2 hF1 hF2 hC3 hF3 S2=>?_⟩)⟩)))
 ·unfold Hq Jw Bq
  rw [List.map_append,List.map_append];rfl
 ·unfold Hq;rw [List.length_append];omega
 ·unfold Jw;rw [List.length_append];omega
 ·intro a ha
  rcases List.mem_append.mp ha with h | h
  ·exact gs.c a h
  ·exact Yb gt.c a h
 ·have J:Jn g.pl.length (Hq g.pl.length s t) (Jw g.pl.length s t) s t ⟨s.own+t.own,C,F⟩:=⟨rfl,hC2,hF2,hC3,hF3⟩
  exact⟨μ2,Sub.refl,q _ μ2 J (Qfm J hC1 hF1 z1 z2) (λb m h=>S2 b m (S1 b m h))⟩
theorem Mc(ns:List Nat)(k:Nat):((ns.map λ(n:Nat)=>PyData.int n).any λe=>PyData.eqv e (.int k))=decide (k∈ns):=by
 rw [Bool.eq_iff_iff,List.any_eq_true,decide_eq_true_iff]
 constructor
 ·rintro⟨d,hd,e⟩
  obtain⟨m,hm,rfl⟩:=List.mem_map.mp hd
  rw [Gc,decide_eq_true_iff]at e
  rw [show k=m by omega];exact hm
 ·intro h
  exact⟨_,List.mem_map.mpr ⟨k,h,rfl⟩,by rw [Gc,decide_eq_true_iff]⟩
abbrev nBo:List Str:=["game","one","other","places","second","arrows","ends"]
theorem Vr:FnScope nBo ["game","one","other"] (Ah Zd):=⟨rfl,rfl,rfl,by decide +kernel,rfl,by decide +kernel,by decide +kernel⟩
theorem Qfr:(["arrow","places"]:List Str).Nodup:=by decide +kernel
theorem Qfs:(["end","places","one","second"]:List Str).Nodup:=by decide +kernel
def Qcf:ASp:=λxs μ R=>∃(g:Gam) (s t:Say) (t1 o1 g1 l1 e1 t2 o2 g2 l2 e2:Nat),xs=[.D (Bk g),.D (Au s),.D (Au t)]/\Gd g.pl.length s/\Gd g.pl.length t/\Sz g.pl.length s t1 o1 g1 l1 e1/\Sz g.pl.length t t2 o2 g2 l2 e2/\t1+t2 < 300/\o1+o2+t1 * g2 < 300/\l1+l2<=400/\e1+e2 < 60 /\
 ∀j μ',Jn g.pl.length (Ny g.pl.length s t) (Sj g.pl.length s t) s t j->Sz g.pl.length j (o1+o2+t1 * g2) (o1+o2) (g1 * g2) (l1+l2) (e1+e2)->Sub μ μ'->R (.D (Au j)) μ'
theorem Qft{n:Nat}(F:Fun K "both" "both" Zd f fd) (cAp:VCal P w K mg base n "arrows_of_places" ["places","arrows","seconds"] Qfi) (cNb:VCal P w K mg base n "numbered_behind" ["game","saying","by"] Qcb) (cSs:VCal P w K mg base n "sorted_saying" ["many","arrows","ends"] Qcc) (m_len:mg "len" = none):FnOk P w K mg base Fl (n+1) f fd ["game","one","other"] (Hv K 3 Qcf):=by
 refine F.vok Vr λcdv A outer s H E hr=>⟨_,(Ag (Aw (i:=3) Vr.nd rfl (Or.inr rfl) (Ba Co rfl m_len PySem.boot_len (Aa (Ak Ay (vv 0) Af) Ae)))
   (Ag (Aw (i:=4) Vr.nd rfl (Or.inr rfl) (Al cNb hr rfl (Aa (vv 0) (Aa (vv 2) (Aa (Ak Ay (vv 1) Af) Ae)))))
   (Ag (Ef (i:=5) (N':=["arrow","places"]) (mp:=[none,some 3]) rfl Vr.nd rfl rfl (Bp (A0 Bl (Ak Ay (vv 1) Af) (Ak Ay (vv 4) Af))) (λ_ _ _ _=>(Am (i:=0) Qfr rfl (Or.inl rfl) (Or.inr rfl))) (λ_ _ _ _=>(C3 (Bd Rk (Ak Ay (vv 0) Af) (vv 1) (nomark _)))) (λ_ _ _ _=>(vv 0)) (A5 (N:=nBo) (pn:=(Ah Zd).names) (by decide +kernel)))
   (Ag (Cw (Em PySem.F.slot_list_extend PySem.F.type_list_extend Mr (vv 5) (Aa (Al cAp hr rfl (Aa (vv 3) (Aa (Ak Ay (vv 1) Af) (Aa (Ak Ay (vv 4) Af) Ae)))) Ae)))
   (Ag (Ef (i:=6) (N':=["end","places","one","second"]) (mp:=[none,some 3,some 1,some 4]) rfl Vr.nd rfl rfl (Bp (A0 Bl (Ak Ay (vv 1) Af) (Ak Ay (vv 4) Af))) (λ_ _ _ _=>(Am (i:=0) Qfs rfl (Or.inl rfl) (Or.inr rfl))) (λ_ _ _ _=>(C3 (VW.pt (Pq (Bd Rk (vv 0) (vv 1) (nomark _)) (Ll (VW.pt (Fw (Bd (Tv hr) (vv 0) (Ak Ay (vv 2) Af) (by with_unfolding_all rfl)) (Fc (Bd (Tv hr) (vv 0) (Ak Ay (vv 3) Af) (by with_unfolding_all rfl)))))))))) (λ_ _ _ _=>(vv 0)) (A5 (N:=nBo) (pn:=(Ah Zd).names) (by decide +kernel)))
   (An (Bo (Al cSs hr rfl (Aa (A0 Bl (Ak Ay (vv 1) Af) (Ak Ay (vv 4) Af)) (Aa (vv 5) (Aa (vv 6) Ae))))))))))),?_⟩
 rintro xs μ R _ ⟨g,s,t,t1,o1,g1,l1,e1,t2,o2,g2,l2,e2,rfl,gs,gt,z1,z2,b1,b0,b2,b3,q⟩
 have n1:=z1.n
 have n2:=z2.n
 have m1:=z1.e
 have m2:=z2.e
 have hbl:=Vq z1 z2
 have k1:(D9 g.pl.length s.own t).as.length=t.as.length:=List.length_map _
 have k2:(D9 g.pl.length s.own t).es.length=t.es.length:=List.length_map _
 refine A8 (fun τ μ'=>τ=[some (.D (Bk g)),some (.D (Au s)),some (.D (Au t)),some (.D (.int g.pl.length)),none,none,none]/\μ=μ') (λZ hZ=>?_) ?_
 ·refine Ac (Ai (j:=0) rfl) (hZ _ _ ⟨?_,rfl⟩)
  rw [List.length_map];rfl
 rintro τ _ ⟨rfl,rfl⟩
 refine Fn (Ac (Ai (j:=0) rfl) ⟨g,t,s.own,rfl,z2.le (by omega) (by omega) (by omega),gt.c,fun μ1 S1=>?_⟩)
 have hnc:=Yb (np:=g.pl.length) (b:=s.own) gt.c
 have hnt:∀a∈(D9 g.pl.length s.own t).as,a.ts.length<=400:=λa ha=>by
  obtain⟨c,hc,rfl⟩:=Fo.mp ha
  rw [Js];have:=z2.t c hc;omega
 generalize hN:D9 g.pl.length s.own t=N at k1 k2 hnc hnt hbl
 have eL:Hq g.pl.length s t=s.as++N.as:=by unfold Hq;rw [hN]
 have eE:Jw g.pl.length s t=s.es++N.es:=by unfold Jw;rw [hN]
 refine A8 (fun τ μ'=>∃pa,τ=[some (.D (Bk g)),some (.D (Au s)),some (.D (Au t)),some (.D (.int g.pl.length)),some (.D (Au N)),some (.R pa),none]/\μ' pa=some (.lst (((s.as++N.as).filter (Dg g.pl.length)).map λa=>.D (Aj a)))/\μ pa=none/\Sub μ μ') (λZ hZ=>?_) ?_
 ·refine Ac (Ai (j:=1) rfl) (Ac (Ai (j:=1) rfl) ⟨by rw [List.length_map,List.length_map];exact seven (by omega),?_⟩)
  show opt (items μ1 (.D (.tuple (s.as.map Aj++N.as.map Aj)))) _
  rw [Qfo]
  refine Ac (Bh _) λpc hpc=>?_
  refine cmapf (s.as++N.as) (λa=>.D (Aj a)) (Dg g.pl.length) (λa=>.D (Aj a)) (fun τ=>∃o,τ=[o,some (.D (.int g.pl.length))]) ⟨none,rfl⟩ Ad (seven (by rw [List.length_append];omega)) (λ_=>?_) ?_ ?_
  ·exact Bh _
  ·rintro i a τ' acc W W2 hi ⟨o,rfl⟩ h1 h2
   refine Ac (Ai (j:=0) rfl) (dif (λc=>h1 (decide_eq_true (by omega)) _ ⟨_,rfl⟩) (λc=>h2 (decide_eq_false (by omega)) _ ⟨_,rfl⟩))
  ·exact hZ _ _ ⟨pc,rfl,Ad,S1.none hpc,(S1.new (S1.none hpc)).new (S1.none hpc)⟩
 rintro τ μ2 ⟨pa,rfl,f2,na,S2⟩
 refine A8 (fun τ μ'=>τ=[some (.D (Bk g)),some (.D (Au s)),some (.D (Au t)),some (.D (.int g.pl.length)),some (.D (Au N)),some (.R pa),none]/\μ' pa=some (.lst ((Ny g.pl.length s t).map λa=>.D (Aj a)))/\Sub μ μ') (λZ hZ=>?_) ?_
 ·refine⟨Ac f2 trivial,Ac (Ai (j:=1) rfl) (Ac (Ai (j:=1) rfl) ⟨g.pl.length,s.as,N.as,rfl,by omega,by omega,λa ha=>⟨gs.c a ha,by have:=z1.t a ha;omega⟩,λa ha=>⟨hnc a ha,hnt a ha⟩,by omega,λp μ3 hp e3 S3=>?_⟩)⟩
  have hfl:=List.length_filter_le (Dg g.pl.length) (s.as++N.as)
  rw [List.length_append]at hfl
  refine Ac (S3 pa _ f2) (Ac e3 ⟨seven (by rw [List.length_map,List.length_map];omega),hZ _ _ ⟨rfl,?_,(show Sub μ μ3 from λb m h=>S3 b m (S2 b m h)).new na⟩⟩)
  rw [Ad,<- List.map_append]
  unfold Ny
  rw [eL,hN]
 rintro τ μ3 ⟨rfl,f3,S3⟩
 refine A8 (fun τ μ'=>∃pe,τ=[some (.D (Bk g)),some (.D (Au s)),some (.D (Au t)),some (.D (.int g.pl.length)),some (.D (Au N)),some (.R pa),some (.R pe)]/\μ' pa=some (.lst ((Ny g.pl.length s t).map λa=>.D (Aj a)))/\μ' pe=some (.lst ((Sj g.pl.length s t).map Bm))/\Sub μ μ') (λZ hZ=>?_) ?_
 ·refine Ac (Ai (j:=2) rfl) (Ac (Ai (j:=2) rfl) ⟨by rw [List.length_map,List.length_map];exact seven (by omega),?_⟩)
  have en:PyData.tuple ((s.es.map λ(n:Nat)=>PyData.int n)++N.es.map λ(n:Nat)=>PyData.int n)=Bq (s.es++N.es):=by unfold Bq;rw [List.map_append]
  show opt (items μ3 (.D (.tuple ((s.es.map λ(n:Nat)=>PyData.int n)++N.es.map λ(n:Nat)=>PyData.int n)))) _
  rw [en]
  refine Ac (Ax _) λpc hpc=>?_
  have hpp:pa≠pc:=by rintro rfl;rw [f3]at hpc;cases hpc
  refine cmapf (s.es++N.es) Bm (boT g.pl.length s t) Bm (fun τ=>∃o,τ=[o,some (.D (.int g.pl.length)),some (.D (Au s)),some (.D (Au N))]) ⟨none,rfl⟩ Ad (seven (by rw [List.length_append];omega)) (λ_=>?_) ?_ ?_
  ·exact Ax _
  ·rintro i e τ' acc W W2 hi ⟨o,rfl⟩ h1 h2
   have hb:boT g.pl.length s t e=(decide (g.pl.length<=e) || (decide (e∈s.es) && decide (e∈N.es))):=by unfold boT;rw [hN]
   rw [hb]at h1 h2
   refine dif (λc=>Ri rfl (h1 ?_ _ ⟨_,rfl⟩)) (λc=>?_)
   ·rw [decide_eq_true (show g.pl.length<=e by omega)];rfl
   ·rw [decide_eq_false (show ¬g.pl.length<=e by omega),Bool.false_or]at h1 h2
    refine Ac (Ai (j:=2) rfl) (Ac rfl ⟨C4 _,D7,?_⟩)
    rw [Mc]
    refine dif (λc1=>?_) (λc1=>Oj rfl (h2 (by rw [decide_eq_false c1];rfl) _ ⟨_,rfl⟩))
    refine Ac (Ai (j:=2) rfl) (Ac rfl ⟨C4 _,D7,?_⟩)
    rw [Mc]
    refine dif (λc2=>h1 (by rw [decide_eq_true c1,decide_eq_true c2];rfl) _ ⟨_,rfl⟩) (λc2=>h2 (by rw [decide_eq_false c2,Bool.and_false]) _ ⟨_,rfl⟩)
  ·refine hZ _ _ ⟨pc,rfl,by rw [Ab hpp,Ab hpp];exact f3,?_,(S3.new (S3.none hpc)).new (S3.none hpc)⟩
   rw [Ad]
   unfold Sj
   rw [eE]
 rintro τ μ4 ⟨pe,rfl,f4,h4,S4⟩
 have hE:(Sj g.pl.length s t).length < 60:=by
  have:=List.length_filter_le (boT g.pl.length s t) (Jw g.pl.length s t)
  rw [eE,List.length_append]at this
  unfold Sj
  rw [eE]
  omega
 refine Ac (Ai (j:=0) rfl) (Ac (Ai (j:=0) rfl) ⟨s.own+t.own,.R pa,.R pe,Ny g.pl.length s t,Sj g.pl.length s t,?_,Ap f4,Ap h4,by omega,hE,?_,λC F μ5 hC1 hC2 hF1 hF2 hC3 hF3 S5=>?_⟩)
 ·rw [<- hN];rfl
 ·intro a ha
  rcases List.mem_append.mp ha with h | h
  ·have:=(List.mem_filter.mp h).1
   rw [eL]at this
   rcases List.mem_append.mp this with h | h
   ·exact gs.c a h
   ·exact hnc a h
  ·obtain⟨b,hb,hp,c,hc,x1,x2,rfl⟩:=Fh.mp h
   rfl
 ·have J:Jn g.pl.length (Ny g.pl.length s t) (Sj g.pl.length s t) s t ⟨s.own+t.own,C,F⟩:=⟨rfl,hC2,hF2,hC3,hF3⟩
  exact⟨μ5,Sub.refl,q _ μ5 J (Qfn J hC1 hF1 z1 z2) (λb m h=>S5 b m (S4 b m h))⟩
end
section
variable {P:Program}{w:World}{K:PySem.W.Frag}{mg:Str->Option Value}{base:Heap}{f:Addr}{fd:FuncData}
theorem Nz:∀{xs ys:List PyData},xs.Pairwise (λa b=>Ff a b=true)->ys.Pairwise (λa b=>Ff a b=true)->(∀d∈xs,Cano d=true)->(∀d,d∈xs↔d∈ys)->xs=ys
 | [],[],_,_,_,_=>rfl
 | [],y :: ys,_,_,_,h=>absurd ((h y).mpr (.head _)) (by simp)
 | x :: xs,[],_,_,_,h=>absurd ((h x).mp (.head _)) (by simp)
 | x :: xs,y :: ys,hx,hy,hc,h=>by
  obtain⟨hx1,hx2⟩:=List.pairwise_cons.mp hx
  obtain⟨hy1,hy2⟩:=List.pairwise_cons.mp hy
  have cx:=hc x (.head _)
  have cy:Cano y=true:=hc y ((h y).mpr (.head _))
  have e:x=y:=by
   rcases List.mem_cons.mp ((h x).mp (.head _)) with e | m1
   ·exact e
   ·rcases List.mem_cons.mp ((h y).mpr (.head _)) with e | m2
    ·exact e.symm
    ·have:=Op x y x cx cy cx (hx1 y m2) (hy1 x m1)
     rw [Gf x cx]at this;cases this
  subst e
  rw [Nz hx2 hy2 (λd hd=>hc d (.tail _ hd)) λd=>?_]
  constructor
  ·intro hd
   rcases List.mem_cons.mp ((h d).mp (.tail _ hd)) with rfl | m
   ·have:=hx1 d hd;rw [Gf d cx]at this;cases this
   ·exact m
  ·intro hd
   rcases List.mem_cons.mp ((h d).mpr (.tail _ hd)) with rfl | m
   ·have:=hy1 d hd;rw [Gf d cx]at this;cases this
   ·exact m
theorem Md:∀{xs ys:List Nat},xs.Pairwise (· < ·)->ys.Pairwise (· < ·)->(∀n,n∈xs↔n∈ys)->xs=ys
 | [],[],_,_,_=>rfl
 | [],y :: ys,_,_,h=>absurd ((h y).mpr List.mem_cons_self) (by simp)
 | x :: xs,[],_,_,h=>absurd ((h x).mp List.mem_cons_self) (by simp)
 | x :: xs,y :: ys,hx,hy,h=>by
  obtain⟨hx1,hx2⟩:=List.pairwise_cons.mp hx
  obtain⟨hy1,hy2⟩:=List.pairwise_cons.mp hy
  have e:x=y:=by
   rcases List.mem_cons.mp ((h x).mp List.mem_cons_self) with e | e
   ·exact e
   ·rcases List.mem_cons.mp ((h y).mpr List.mem_cons_self) with e2 | e2
    ·exact e2.symm
    ·have:=hy1 x e
     have:=hx1 y e2
     omega
  subst e
  rw [Md hx2 hy2 λn=>?_]
  constructor
  ·intro hn
   rcases List.mem_cons.mp ((h n).mp (List.mem_cons_of_mem _ hn)) with e | e
   ·have:=hx1 n hn;omega
   ·exact e
  ·intro hn
   rcases List.mem_cons.mp ((h n).mpr (List.mem_cons_of_mem _ hn)) with e | e
   ·have:=hy1 n hn;omega
   ·exact e
theorem N0:∀{A B:List Arw},A.map Aj=B.map Aj->A=B
 | [],[],_=>rfl
 | [],_ :: _,h=>by cases h
 | _ :: _,[],h=>by cases h
 | a :: A,b :: B,h=>by
  rw [List.map_cons,List.map_cons,List.cons.injEq]at h
  rw [D8 h.1,N0 h.2]
theorem Ic{np:Nat}{L:List Arw}{Es:List Nat}{s t j j':Say}(h:Jn np L Es s t j)(k:Jn np L Es s t j'):j=j':=by
 have e1:j.as=j'.as:=by
  refine N0 (Nz h.up k.up (λd hd=>?_) λd=>?_)
  ·obtain⟨a,_,rfl⟩:=List.mem_map.mp hd
   exact(Ej a).2.2
  ·rw [List.mem_map,List.mem_map]
   exact⟨λ⟨a,ha,e⟩=>⟨a,(k.a a).mpr ((h.a a).mp ha),e⟩,λ⟨a,ha,e⟩=>⟨a,(h.a a).mpr ((k.a a).mp ha),e⟩⟩
 have e2:j.es=j'.es:=Md h.ue k.ue λe=>(h.e e).trans (k.e e).symm
 have e3:j.own=j'.own:=h.o.trans k.o.symm
 cases j;cases j'
 simp only at e1 e2 e3
 rw [e1,e2,e3]
abbrev nBh:List Str:=["_law_game_here","_law_many","_law_stand_here"]
theorem Qiq:FnScope nBh ["_law_game_here","_law_many","_law_stand_here"] (Ah sBh):=⟨rfl,rfl,rfl,by decide +kernel,rfl,by decide +kernel,by decide +kernel⟩
def Qfu:ASp:=λxs μ R=>∃(g:Gam) (m t:Nat),xs=[.D (Bk g),.D (.int m),.D (.int t)]/\R (.D (.int (mv g.pl.length m t:Nat))) μ
theorem Qfv{n:Nat}(F:Fun K "_law_behind" "_law_behind" sBh f fd) (m_int:mg "int" = none) (m_len:mg "len" = none):FnOk P w K mg base Fl (n+1) f fd ["_law_game_here","_law_many","_law_stand_here"] (Hv K 3 Qfu):=by
 refine F.vok Qiq λcdv A outer s H E hr=>⟨_,(An (Bo (A0 Bl (vv 2) (A0 Ir (vv 1) (Az Qel rfl m_int PyProof.Rows.boot_int (Aa (Lk Rk (vv 2) (Ba Co rfl m_len PySem.boot_len (Aa (Ak Ay (vv 0) Af) Ae)) (nomark _)) Ae)))))),?_⟩
 rintro xs μ R _ ⟨g,m,t,rfl,q⟩
 have e:((mv g.pl.length m t:Nat):Int)=(t:Int)+(m:Int) * (if decide ((t:Int)>=((g.pl.map Go).length:Nat)) then 1 else 0):=by
  unfold mv
  rw [List.length_map]
  by_cases h:t < g.pl.length
  ·rw [if_pos h,decide_eq_false (by omega)];simp
  ·rw [if_neg h,decide_eq_true (by omega)];simp
 rw [e]at q
 refine Ac (Ai (j:=0) rfl) ⟨.inr ?_,μ,Sub.refl,q⟩
 split <;> decide
abbrev nPb:List Str:=["_law_game_here","_law_one","_law_other","_law_arrows","_law_stand_here","_law_letter","_law_targets","_law_some_here"]
theorem Sk:FnScope nPb ["_law_game_here","_law_one","_law_other"] (Ah Zk):=⟨rfl,rfl,rfl,by decide +kernel,rfl,by decide +kernel,by decide +kernel⟩
theorem Qfw:(["_law_target","_law_game_here","_law_one"]:List Str).Nodup:=by decide +kernel
theorem Qfx:(["_law_stand_here","_law_game_here","_law_one"]:List Str).Nodup:=by decide +kernel
def Qcg:ASp:=λxs μ R=>∃(g:Gam) (s S:Say),xs=[.D (Bk g),.D (Au s),.D (Au S)]/\SayLe S/\(∀a∈S.as,a.c=none)/\∀p pa pe μ',μ' p=some (.lst [.R pa,.R pe])->μ' pa=some (.lst ((D9 g.pl.length s.own S).as.map λa=>.D (Aj a)))->μ' pe=some (.lst ((D9 g.pl.length s.own S).es.map Bm))->Sub μ μ'->R (.R p) μ'
theorem Qfy{n:Nat}(F:Fun K "_law_put_behind" "_law_put_behind" Zk f fd) (cBh:VCal P w K mg base n "_law_behind" ["_law_game_here","_law_many","_law_stand_here"] Qfu) (m_tuple:mg "tuple" = none):FnOk P w K mg base Fl (n+1) f fd ["_law_game_here","_law_one","_law_other"] (Hv K 3 Qcg):=by
 refine F.vok Sk λcdv A outer s H E hr=>⟨_,(Ag (Aw (i:=3) Sk.nd rfl (Or.inl rfl) (Cc Ae))
   (Ag (Df PassesOwn.never rfl (Bp (Ak Ay (vv 2) Af)) (Eu (n:=3) rfl (Bb (Am (i:=4) Sk.nd rfl (Or.inl rfl)) (Bb (Am (i:=5) Sk.nd rfl (Or.inl rfl)) (Bb (Am (i:=6) Sk.nd rfl (Or.inl rfl)) C2)))) (Ag (Aw (i:=7) Sk.nd rfl (Or.inl rfl) (Az B6 rfl m_tuple PyProof.Rows.boot_tuple (Aa (Bw (N':=["_law_target","_law_game_here","_law_one"]) (mp:=[none,some 0,some 1]) rfl (Bp (vv 6)) (λ_ _ _ _=>(Am (i:=0) Qfw rfl (Or.inl rfl) (Or.inr rfl))) (λ_ _ _ _=>Bs) (λ_ _ _ _=>(Al cBh hr rfl (Aa (vv 1) (Aa (Ak Ay (vv 2) Af) (Aa (vv 0) Ae))))) (A5 (N:=nPb) (pn:=(Ah Zk).names) (by decide +kernel))) Ae)))
   (An (Cw (Em PySem.F.slot_list_append PySem.F.type_list_append Cr (vv 3) (Aa (Cb (Aa (Al cBh hr rfl (Aa (vv 0) (Aa (Ak Ay (vv 1) Af) (Aa (vv 4) Ae)))) (Aa (vv 5) (Aa (vv 7) Ae)))) Ae))))))
   (An (Bo (Cc (Aa (vv 3) (Aa (Bw (N':=["_law_stand_here","_law_game_here","_law_one"]) (mp:=[none,some 0,some 1]) rfl (Bp (Ak Ay (vv 2) Af)) (λ_ _ _ _=>(Am (i:=0) Qfx rfl (Or.inl rfl) (Or.inr rfl))) (λ_ _ _ _=>Bs) (λ_ _ _ _=>(Al cBh hr rfl (Aa (vv 1) (Aa (Ak Ay (vv 2) Af) (Aa (vv 0) Ae))))) (A5 (N:=nPb) (pn:=(Ah Zk).names) (by decide +kernel))) Ae))))))),?_⟩
 rintro xs μ R _ ⟨g,s,S,rfl,hS,hc,q⟩
 have hA:=hS.a
 have hE:=hS.e
 intro pa hpa
 refine A8 (fun τ μ'=>∃o5 o6 o7 o8,τ=[some (.D (Bk g)),some (.D (Au s)),some (.D (Au S)),some (.R pa),o5,o6,o7,o8]/\μ' pa=some (.lst ((S.as.map (Nv g.pl.length s.own)).map λa=>.D (Aj a)))/\Sub μ μ') (λZ hZ=>?_) ?_
 ·refine Ac (Ai (j:=1) rfl) (Ac (Bh S.as) ?_)
  refine En (λi τ μ'=>∃o5 o6 o7 o8,τ=[some (.D (Bk g)),some (.D (Au s)),some (.D (Au S)),some (.R pa),o5,o6,o7,o8]/\μ' pa=some (.lst (((S.as.take i).map (Nv g.pl.length s.own)).map λa=>.D (Aj a)))/\Sub μ μ') ⟨none,none,none,none,rfl,Ad,Sub.refl.new hpa⟩ (λ_ _ _ _=>Bh S.as) ?_ ?_
  ·rintro i y τ μ1 Z2 hy ⟨o5,o6,o7,o8,rfl,e1,S1⟩ hZ2
   rw [List.getElem?_map]at hy
   obtain⟨a,ha,rfl⟩:=Option.map_eq_some_iff.mp hy
   have hi:i < S.as.length:=(List.getElem?_eq_some_iff.mp ha).1
   have hm:=List.mem_of_getElem? ha
   have htk:S.as.take (i+1)=S.as.take i++[a]:=by rw [List.take_succ,ha];rfl
   have hac:=hc a hm
   have hat:=hS.t a hm
   obtain⟨p,x,ts,c⟩:=a
   dsimp only at hac hat
   subst hac
   refine⟨rfl,Vk ?_⟩
   dsimp only [List.set]
   refine A8 (fun τ μ'=>τ=[some (.D (Bk g)),some (.D (Au s)),some (.D (Au S)),some (.R pa),some (.D (.int p)),some (.D (.int x)),some (.D (Bq ts)),some (.D (Bq (ts.map (mv g.pl.length s.own))))]/\μ' pa=some (.lst (((S.as.take i).map (Nv g.pl.length s.own)).map λa=>.D (Aj a)))/\Sub μ μ') (λZ3 hZ3=>?_) ?_
   ·refine Ac (Ax ts) λpc hpc=>?_
    have hpp:pa≠pc:=by rintro rfl;rw [e1]at hpc;cases hpc
    refine cmap ts _ (λt=>Bm (mv g.pl.length s.own t)) (fun τ=>∃o,τ=[o,some (.D (Bk g)),some (.D (Au s))]) ⟨none,rfl⟩ Ad (seven (by omega)) (λ_=>Ax ts) ?_ ?_
    ·rintro j t τ' acc W hj ⟨o,rfl⟩ hW
     exact Ac (Ai (j:=0) rfl) ⟨g,s.own,t,rfl,hW _ ⟨_,rfl⟩⟩
    ·rw [Ib]
     exact Ac (Ap Ad) (Ac (Cu _) (hZ3 _ _ ⟨rfl,by rw [Ab hpp,Ab hpp];exact e1,(S1.new (S1.none hpc)).new (S1.none hpc)⟩))
   rintro τ μ2 ⟨rfl,e2,S2⟩
   refine⟨Ac e2 trivial,Ac (Ai (j:=0) rfl) ⟨g,s.own,p,rfl,Ac e2 ⟨Bg (by simp only [List.length_map,List.length_take];omega),hZ2 _ _ ⟨_,_,_,_,rfl,?_,S2.new hpa⟩⟩⟩⟩
   rw [Ad,htk,List.map_append,List.map_append];rfl
  ·rintro τ μ1 ⟨o5,o6,o7,o8,rfl,e1,S1⟩
   rw [List.length_map,List.take_length]at e1
   exact hZ _ _ ⟨_,_,_,_,rfl,e1,S1⟩
 rintro τ μ1 ⟨o5,o6,o7,o8,rfl,e1,S1⟩
 refine Ac (Ai (j:=2) rfl) (Ac (Ax S.es) λpc hpc=>?_)
 have hpp:pa≠pc:=by rintro rfl;rw [e1]at hpc;cases hpc
 refine cmap S.es _ (λt=>Bm (mv g.pl.length s.own t)) (fun τ=>∃o,τ=[o,some (.D (Bk g)),some (.D (Au s))]) ⟨none,rfl⟩ Ad (seven (by omega)) (λ_=>Ax S.es) ?_ ?_
 ·rintro j t τ' acc W hj ⟨o,rfl⟩ hW
  exact Ac (Ai (j:=0) rfl) ⟨g,s.own,t,rfl,hW _ ⟨_,rfl⟩⟩
 ·rw [Ib]
  intro pl hpl
  have e2:Ar (Ar μ1 pc (.lst [])) pc (.lst ((S.es.map (mv g.pl.length s.own)).map Bm)) pa=some (.lst ((S.as.map (Nv g.pl.length s.own)).map λa=>.D (Aj a))):=by rw [Ab hpp,Ab hpp];exact e1
  have h1:pa≠pl:=by rintro rfl;rw [e2]at hpl;cases hpl
  have h2:pc≠pl:=by rintro rfl;rw [Ad]at hpl;cases hpl
  have S3:Sub μ (Ar (Ar μ1 pc (.lst [])) pc (.lst ((S.es.map (mv g.pl.length s.own)).map Bm))):=(S1.new (S1.none hpc)).new (S1.none hpc)
  exact⟨_,Sub.refl,q pl pa pc _ Ad (by rw [Ab h1];exact e2) (by rw [Ab h2];exact Ad) (S3.new (S3.none hpl))⟩
theorem Ek{ms:List Int}{Es:List Nat}(hup:ms.Pairwise (· < ·))(hms:∀n,n∈ms↔n∈Es.map λ(n:Nat)=>(n:Int)):∃Fs:List Nat,ms=(Fs.map λ(n:Nat)=>(n:Int))/\Fs.Pairwise (· < ·)/\∀e,e∈Fs↔e∈Es:=by
 have hms':∀n∈ms,∃e:Nat,n=e:=λn hn=>by
  obtain⟨e,_,rfl⟩:=List.mem_map.mp ((hms n).mp hn)
  exact⟨e,rfl⟩
 have em:=G9 hms'
 generalize ms.map Int.toNat=Fs at em
 subst em
 refine⟨Fs,rfl,?_,λe=>?_⟩
 ·rw [List.pairwise_map]at hup
  exact hup.imp λ{a b} h=>by omega
 ·have:=hms (e:Int)
  constructor
  ·intro h
   obtain⟨e',h1,h2⟩:=List.mem_map.mp (this.mp (List.mem_map.mpr ⟨e,h,rfl⟩))
   rw [show e=e' by omega];exact h1
  ·intro h
   obtain⟨e',h1,h2⟩:=List.mem_map.mp (this.mpr (List.mem_map.mpr ⟨e,h,rfl⟩))
   rw [show e=e' by omega];exact h1
theorem Ea(Fs:List Nat):(Fs.map λ(n:Nat)=>(n:Int)).map (λn=>AV.D (.int n))=Fs.map Bm:=by rw [List.map_map];rfl
abbrev nLe:List Str:=["_law_game_here","_law_one","_law_other","_law_arrows","_law_ends","_law_some_here"]
theorem Yc:FnScope nLe ["_law_game_here","_law_one","_law_other"] (Ah sLe):=⟨rfl,rfl,rfl,by decide +kernel,rfl,by decide +kernel,by decide +kernel⟩
def Qch:ASp:=λxs μ R=>∃(g:Gam) (s t:Say),xs=[.D (Bk g),.D (Au s),.D (Au t)]/\SayLe t/\(∀a∈s.as,a.c=none)/\(∀a∈t.as,a.c=none)/\s.as.length+t.as.length < 300/\s.es.length+t.es.length < 60 /\
 ∀j μ',Jn g.pl.length (Hq g.pl.length s t) (Jw g.pl.length s t) s t j->Sub μ μ'->R (.D (Au j)) μ'
theorem Qfz{n:Nat}(F:Fun K "_law_either" "_law_either" sLe f fd) (cPb:VCal P w K mg base n "_law_put_behind" ["_law_game_here","_law_one","_law_other"] Qcg) (m_sorted:mg "sorted" = none) (m_set:mg "set" = none) (m_list:mg "list" = none) (m_tuple:mg "tuple" = none):FnOk P w K mg base Fl (n+1) f fd ["_law_game_here","_law_one","_law_other"] (Hv K 3 Qch):=by
 refine F.vok Yc λcdv A outer s H E hr=>⟨_,(Ag (Fx (Al cPb hr rfl (Aa (vv 0) (Aa (vv 1) (Aa (vv 2) Ae)))) (L0 (n:=2) rfl (Bb (Am (i:=3) Yc.nd rfl (Or.inl rfl)) (Bb (Am (i:=4) Yc.nd rfl (Or.inl rfl)) C2))))
   (Ag (Aw (i:=5) Yc.nd rfl (Or.inl rfl) (Lz hr rfl m_sorted rfl m_set (A0 Bl (Az Is rfl m_list PyProof.Rows.boot_list (Aa (Ak Ay (vv 1) Af) Ae)) (vv 3))))
   (An (Bo (Cb (Aa (A0 Bl (Ak Ay (vv 1) Af) (Ak Ay (vv 2) Af)) (Aa (Az B6 rfl m_tuple PyProof.Rows.boot_tuple (Aa (vv 5) Ae)) (Aa (Az B6 rfl m_tuple PyProof.Rows.boot_tuple (Aa (L3 hr rfl m_sorted rfl m_set (A0 Bl (Az Is rfl m_list PyProof.Rows.boot_list (Aa (Ak Ay (vv 1) Af) Ae)) (vv 4))) Ae)) Ae)))))))),?_⟩
 rintro xs μ R _ ⟨g,s,t,rfl,ht,cs,ct,hl,he,q⟩
 have k1:(D9 g.pl.length s.own t).as.length=t.as.length:=List.length_map _
 have k2:(D9 g.pl.length s.own t).es.length=t.es.length:=List.length_map _
 have hnc:=Yb (np:=g.pl.length) (b:=s.own) ct
 refine A8 (fun τ μ'=>∃pa pe,τ=[some (.D (Bk g)),some (.D (Au s)),some (.D (Au t)),some (.R pa),some (.R pe),none]/\μ' pa=some (.lst ((D9 g.pl.length s.own t).as.map λa=>.D (Aj a)))/\μ' pe=some (.lst ((D9 g.pl.length s.own t).es.map Bm))/\Sub μ μ') (λZ hZ=>?_) ?_
 ·exact⟨g,s,t,rfl,ht,ct,λp pa pe μ1 e1 e2 e3 S1=>Ac e1 ⟨rfl,hZ _ _ ⟨pa,pe,rfl,e2,e3,S1⟩⟩⟩
 rintro τ μ1 ⟨pa,pe,rfl,e1,f1,S1⟩
 generalize hN:D9 g.pl.length s.own t=N at e1 f1 k1 k2 hnc
 have eL:Hq g.pl.length s t=s.as++N.as:=by unfold Hq;rw [hN]
 have eE:Jw g.pl.length s t=s.es++N.es:=by unfold Jw;rw [hN]
 refine A8 (fun τ μ'=>∃(ps:Addr) (C:List Arw),τ=[some (.D (Bk g)),some (.D (Au s)),some (.D (Au t)),some (.R pa),some (.R pe),some (.R ps)]/\μ' ps=some (.lst ((C.map Aj).map .D))/\(C.map Aj).Pairwise (λa b=>Ff a b=true)/\(∀a,a∈C↔a∈s.as++N.as)/\μ' pe=some (.lst (N.es.map Bm))/\Sub μ μ') (λZ hZ=>?_) ?_
 ·refine Ac (Ai (j:=1) rfl) (Ac (Bh s.as) λp1 hp1=>?_)
  have n1:pa≠p1:=by rintro rfl;rw [e1]at hp1;cases hp1
  have n2:pe≠p1:=by rintro rfl;rw [f1]at hp1;cases hp1
  refine Ac Ad (Ac (x:=MO.lst (N.as.map λa=>.D (Aj a))) (by rw [Ab n1];exact e1) ⟨by rw [List.length_map,List.length_map];exact seven (by omega),λp2 hp2=>?_⟩)
  have n3:pe≠p2:=by rintro rfl;rw [Ab n2,f1]at hp2;cases hp2
  rw [<- List.map_append]
  refine Ac (Ap Ad) (Ac (Dr _) ⟨Nx (by rw [List.length_append];omega) ?_,λes p hnd hmem hso hp=>?_⟩)
  ·intro a ha
   rcases List.mem_append.mp ha with h | h
   ·exact cs a h
   ·exact hnc a h
  obtain⟨C,rfl,hC⟩:=E9 (f:=Aj) (B:=s.as++N.as) λe he=>(hmem e).mp he
  have n4:pe≠p:=by rintro rfl;rw [Ab n3,Ab n2,f1]at hp;cases hp
  have S2:Sub μ (Ar (Ar μ1 p1 (.lst (s.as.map λa=>.D (Aj a)))) p2 (.lst ((s.as++N.as).map λa=>.D (Aj a)))):=by
   have S0:=S1.new (m:=.lst (s.as.map λa=>.D (Aj a))) (S1.none hp1)
   exact S0.new (S0.none hp2)
  refine hZ _ _ ⟨p,C,rfl,Ad,hso,λa=>⟨hC a,λh=>?_⟩,by rw [Ab n4,Ab n3,Ab n2];exact f1,S2.new (S2.none hp)⟩
  obtain⟨b,hb,e⟩:=List.mem_map.mp ((hmem (Aj a)).mpr (List.mem_map.mpr ⟨a,h,rfl⟩))
  rw [<- D8 e];exact hb
 rintro τ μ2 ⟨ps,C,rfl,e2,hso,hC,f2,S2⟩
 refine Ac (Ai (j:=0) rfl) (Ac (Ai (j:=0) rfl) (Ac (Ap e2) (Ac (B5 _) (Ac (Ai (j:=2) rfl) (Ac (Ax s.es) λp1 hp1=>?_)))))
 have n1:pe≠p1:=by rintro rfl;rw [f2]at hp1;cases hp1
 refine Ac Ad (Ac (x:=MO.lst (N.es.map Bm)) (by rw [Ab n1];exact f2) ⟨by rw [List.length_map,List.length_map];exact seven (by omega),λp2 hp2=>?_⟩)
 rw [show(s.es.map λ(n:Nat)=>AV.D (.int n))++N.es.map Bm=(s.es++N.es).map Bm by rw [List.map_append];rfl]
 refine Ac (Ap Ad) ⟨(s.es++N.es).map λ(n:Nat)=>(n:Int),(Ea _).symm,by rw [List.length_map,List.length_append];omega,λl ms hl hup hms=>?_⟩
 obtain⟨Fs,rfl,hF1,hF2⟩:=Ek hup hms
 rw [Ea]
 refine Ac (Ap Ad) (Ac (Cu Fs) ⟨_,Sub.refl,?_⟩)
 have S0:=S2.new (m:=.lst (s.es.map λ(n:Nat)=>AV.D (.int n))) (S2.none hp1)
 have S3:=S0.new (m:=.lst ((s.es++N.es).map Bm)) (S0.none hp2)
 exact q ⟨s.own+t.own,C,Fs⟩ _ ⟨rfl,λa=>by rw [eL];exact hC a,λe=>by rw [eE];exact hF2 e,hso,hF1⟩ (S3.new (S3.none hl))
end
section
variable {P:Program}{w:World}{K:PySem.W.Frag}{mg:Str->Option Value}{base:Heap}{f:Addr}{fd:FuncData}
theorem Ie{B:List Arw}{a:Arw}:((B.map Aj).any λe=>PyData.eqv e (Aj a))=true↔a∈B:=by
 rw [List.any_eq_true]
 constructor
 ·rintro⟨d,hd,e⟩
  obtain⟨b,hb,rfl⟩:=List.mem_map.mp hd
  rw [Hx (Ej b).2.2 (Ej a).2.2,decide_eq_true_iff]at e
  rw [<- D8 e];exact hb
 ·intro h
  exact⟨_,List.mem_map.mpr ⟨a,h,rfl⟩,Ew _ (Ej a).2.2⟩
theorem Sl{B:List Arw}(hl:B.length < 1000)(hn:(B.map Aj).Nodup)(hc:∀a∈B,a.c=none):SortOk (B.map Aj):=by
 obtain⟨k1,k2,k3⟩:=Ia B
 refine⟨by rw [List.length_map];exact hl,k1,by omega,k3,hn,λ_ d hd=>?_,λd hd e he=>?_⟩
 ·obtain⟨a,ha,rfl⟩:=List.mem_map.mp hd
  exact⟨a.p,_,rfl⟩
 ·obtain⟨a,ha,rfl⟩:=List.mem_map.mp hd
  obtain⟨b,hb,rfl⟩:=List.mem_map.mp he
  exact L8 (by rw [hc a ha,hc b hb])
theorem K9{B:List Arw}{a:Arw}(hn:(B.map Aj).Nodup)(h:a∉B):((B++[a]).map Aj).Nodup:=by
 rw [List.map_append]
 refine List.nodup_append.mpr ⟨hn,List.nodup_cons.mpr ⟨by simp,List.nodup_nil⟩,λz hz z' hz' e=>?_⟩
 have e':z'=Aj a:=by simpa using hz'
 rw [e,e']at hz
 obtain⟨b,hb,e2⟩:=List.mem_map.mp hz
 rw [D8 e2]at hb;exact h hb
theorem Yd{np b x y:Nat}(h:x < y):mv np b x < mv np b y:=by
 unfold mv
 split <;> split <;> omega
theorem Vs{np b:Nat}{ts:List Nat}(h:ts.Pairwise (· < ·)):(ts.map (mv np b)).Pairwise (· < ·):=by
 rw [List.pairwise_map]
 exact h.imp λh=>Yd h
theorem Vt{k:Nat}{xs ys:List Nat}(h1:xs.Pairwise (· < ·))(h2:ys.Pairwise (· < ·))(h3:∀x∈xs,x < k)(h4:∀y∈ys,k<=y):(xs++ys).Pairwise (· < ·) :=
 List.pairwise_append.mpr ⟨h1,h2,λx hx y hy=>by have:=h3 x hx;have:=h4 y hy;omega⟩
theorem Vu{np:Nat}{B:List Arw}{a b:Arw}:∀x,x∈Ma np (B++[b]) a↔x∈Ma np B a\/(a.p < np/\sm a b=true/\x=jn a b):=λx=>by
 unfold Ma
 by_cases h:a.p < np
 ·rw [if_pos h,if_pos h,List.filter_append,List.map_append,List.mem_append]
  refine or_congr Iff.rfl ?_
  by_cases h2:sm a b=true
  ·rw [List.filter_cons,if_pos h2];simp [h,h2]
  ·rw [List.filter_cons,if_neg h2];simp [h2]
 ·rw [if_neg h,if_neg h];simp [h]
structure BoIn(np:Nat)(s t:Say):Prop where
 gs:Gd np s
 gt:Gd np t
 su:∀a∈s.as,a.ts.Pairwise (· < ·)
 tu:∀a∈t.as,a.ts.Pairwise (· < ·)
 st:∀a∈s.as,a.ts.length<=5
 tt:∀a∈t.as,a.ts.length<=5
 sn:s.as.length<=8
 tn:t.as.length<=8
 se:s.es.Pairwise (· < ·)
 te:t.es.Pairwise (· < ·)
 sl:s.es.length<=5
 tl:t.es.length<=5
theorem BoIn.ts{np:Nat}{s t:Say}(h:BoIn np s t){a b:Arw}(ha:a∈s.as)(hb:b∈(D9 np s.own t).as):(a.ts++b.ts).Pairwise (· < ·)/\b.ts.length<=5/\b.c=none:=by
 obtain⟨c,hc,rfl⟩:=Fo.mp hb
 refine⟨Vt (k:=np+s.own) (h.su a ha) (Vs (h.tu c hc)) (λx hx=>(h.gs.t a ha x hx).2) λy hy=>?_,?_,h.gt.c c hc⟩
 ·obtain⟨z,hz,rfl⟩:=List.mem_map.mp hy
  have:=(h.gt.t c hc z hz).1
  rw [Vm this];omega
 ·rw [Js];exact h.tt c hc
theorem BoIn.own{np:Nat}{s t:Say}(h:BoIn np s t):((s.es++(D9 np s.own t).es).filter λe=>decide (np<=e)).Nodup:=by
 rw [List.filter_append]
 have n1:s.es.Nodup:=h.se.imp λh=>Nat.ne_of_lt h
 have n2:(D9 np s.own t).es.Nodup:=(Vs h.te).imp λh=>Nat.ne_of_lt h
 refine List.nodup_append.mpr ⟨n1.filter _,n2.filter _,λa ha b hb e=>?_⟩
 subst e
 obtain⟨h1,h2⟩:=List.mem_filter.mp ha
 obtain⟨h3,_⟩:=List.mem_filter.mp hb
 have h2:=of_decide_eq_true h2
 have:=h.gs.e a h1
 obtain⟨c,hc,e⟩:=Vn.mp h3
 unfold mv at e
 split at e <;> omega
abbrev nLb:List Str:=["_law_game_here","_law_one","_law_other","_law_arrows","_law_ends","_law_found","_law_arrow","_law_stand_here","_law_letter","_law_targets","_law_other_arrow","_law_here","_law_places","_law_own"]
theorem Hr:FnScope nLb ["_law_game_here","_law_one","_law_other"] (Ah Zl):=⟨rfl,rfl,rfl,by decide +kernel,rfl,by decide +kernel,by decide +kernel⟩
theorem Qf0:(["_law_stand_here","_law_ends","_law_game_here"]:List Str).Nodup:=by decide +kernel
theorem Qf1:(["_law_stand_here","_law_game_here"]:List Str).Nodup:=by decide +kernel
def Qci:ASp:=λxs μ R=>∃(g:Gam) (s t:Say),xs=[.D (Bk g),.D (Au s),.D (Au t)]/\BoIn g.pl.length s t /\
 ∀j μ',Jn g.pl.length (Ny g.pl.length s t) (Sj g.pl.length s t) s t j->Sub μ μ'->R (.D (Au j)) μ'
theorem Qf2{n:Nat}(F:Fun K "_law_both" "_law_both" Zl f fd) (cPb:VCal P w K mg base n "_law_put_behind" ["_law_game_here","_law_one","_law_other"] Qcg) (m_list:mg "list" = none) (m_len:mg "len" = none) (m_tuple:mg "tuple" = none) (m_sorted:mg "sorted" = none) (m_set:mg "set" = none):FnOk P w K mg base Fl (n+1) f fd ["_law_game_here","_law_one","_law_other"] (Hv K 3 Qci):=by
 refine F.vok Hr λcdv A outer s H E hr=>⟨_,(Ag (Fx (Al cPb hr rfl (Aa (vv 0) (Aa (vv 1) (Aa (vv 2) Ae)))) (L0 (n:=2) rfl (Bb (Am (i:=3) Hr.nd rfl (Or.inl rfl)) (Bb (Am (i:=4) Hr.nd rfl (Or.inr rfl)) C2))))
   (Ag (Aw (i:=5) Hr.nd rfl (Or.inl rfl) (Cc Ae))
   (Ag (Df PassesOwn.never rfl (Bp (A0 Bl (Az Is rfl m_list PyProof.Rows.boot_list (Aa (Ak Ay (vv 1) Af) Ae)) (vv 3))) (Am (i:=6) Hr.nd rfl (Or.inl rfl)) (An (Cs (VW.pt (Fw (Bd Rk (Ak Ay (vv 6) Af) (Ba Co rfl m_len PySem.boot_len (Aa (Ak Ay (vv 0) Af) Ae)) (nomark _)) (Fc (Bd (Hu hr) (vv 6) (vv 5) (by with_unfolding_all rfl))))) (An (Cw (Em PySem.F.slot_list_append PySem.F.type_list_append Cr (vv 5) (Aa (vv 6) Ae)))) Bt)))
   (Ag (Df PassesOwn.never rfl (Bp (Ak Ay (vv 1) Af)) (Eu (n:=3) rfl (Bb (Am (i:=7) Hr.nd rfl (Or.inl rfl)) (Bb (Am (i:=8) Hr.nd rfl (Or.inl rfl)) (Bb (Am (i:=9) Hr.nd rfl (Or.inl rfl)) C2)))) (An (Df PassesOwn.never rfl (Bp (vv 3)) (Am (i:=10) Hr.nd rfl (Or.inl rfl)) (Ag (Aw (i:=11) Hr.nd rfl (Or.inl rfl) (Cb (Aa (vv 7) (Aa (vv 8) (Aa (Az B6 rfl m_tuple PyProof.Rows.boot_tuple (Aa (L3 hr rfl m_sorted rfl m_set (A0 Bl (vv 9) (Ak Ay (vv 10) Af))) Ae)) Ae)))))
   (An (Cs (VW.pt (Fw (Bd Mp (vv 7) (Ba Co rfl m_len PySem.boot_len (Aa (Ak Ay (vv 0) Af) Ae)) (nomark _)) (Fw (Bd (Hn hr) (D3 (vv 10) Fd (Fe Af)) (D3 (vv 11) Fd (Fe Af)) (nomark _)) (Fc (Bd (Hu hr) (vv 11) (vv 5) (by with_unfolding_all rfl)))))) (An (Cw (Em PySem.F.slot_list_append PySem.F.type_list_append Cr (vv 5) (Aa (vv 11) Ae)))) Bt))))))
   (Ag (Ef (i:=12) (N':=["_law_stand_here","_law_ends","_law_game_here"]) (mp:=[none,some 4,some 0]) rfl Hr.nd rfl rfl (Bp (Ak Ay (vv 1) Af)) (λ_ _ _ _=>(Am (i:=0) Qf0 rfl (Or.inl rfl) (Or.inr rfl))) (λ_ _ _ _=>(C3 (VW.pt (Fw (Bd Mp (vv 0) (Ba Co rfl m_len PySem.boot_len (Aa (Ak Ay (vv 2) Af) Ae)) (nomark _)) (Fc (Bd (Tv hr) (vv 0) (vv 1) (by with_unfolding_all rfl))))))) (λ_ _ _ _=>(vv 0)) (A5 (N:=nLb) (pn:=(Ah Zl).names) (by decide +kernel)))
   (Ag (Ef (i:=13) (N':=["_law_stand_here","_law_game_here"]) (mp:=[none,some 0]) rfl Hr.nd rfl rfl (Bp (A0 Bl (Az Is rfl m_list PyProof.Rows.boot_list (Aa (Ak Ay (vv 1) Af) Ae)) (vv 4))) (λ_ _ _ _=>(Am (i:=0) Qf1 rfl (Or.inl rfl) (Or.inr rfl))) (λ_ _ _ _=>(C3 (Bd Rk (vv 0) (Ba Co rfl m_len PySem.boot_len (Aa (Ak Ay (vv 1) Af) Ae)) (nomark _)))) (λ_ _ _ _=>(vv 0)) (A5 (N:=nLb) (pn:=(Ah Zl).names) (by decide +kernel)))
   (An (Bo (Cb (Aa (A0 Bl (Ak Ay (vv 1) Af) (Ak Ay (vv 2) Af)) (Aa (Az B6 rfl m_tuple PyProof.Rows.boot_tuple (Aa (Ba (Ug hr) rfl m_sorted PyProof.Rows.boot_sorted (Aa (vv 5) Ae)) Ae)) (Aa (Az B6 rfl m_tuple PyProof.Rows.boot_tuple (Aa (A0 Bl (vv 12) (Ba (R6 hr) rfl m_sorted PyProof.Rows.boot_sorted (Aa (vv 13) Ae))) Ae)) Ae)))))))))))),?_⟩
 rintro xs μ R _ ⟨g,s,t,rfl,hB,q⟩
 have k1:(D9 g.pl.length s.own t).as.length=t.as.length:=List.length_map _
 have k2:(D9 g.pl.length s.own t).es.length=t.es.length:=List.length_map _
 have hnc:=Yb (np:=g.pl.length) (b:=s.own) hB.gt.c
 have hts:=λa ha b hb=>hB.ts (a:=a) (b:=b) ha hb
 have hown:=hB.own
 have hnu:(D9 g.pl.length s.own t).es.Pairwise (· < ·):=Vs hB.te
 have sn:=hB.sn
 have tn:=hB.tn
 have sl:=hB.sl
 have tl:=hB.tl
 refine A8 (fun τ μ'=>∃pa pe,τ=[some (.D (Bk g)),some (.D (Au s)),some (.D (Au t)),some (.R pa),some (.R pe),none,none,none,none,none,none,none,none,none]/\μ' pa=some (.lst ((D9 g.pl.length s.own t).as.map λa=>.D (Aj a)))/\μ' pe=some (.lst ((D9 g.pl.length s.own t).es.map Bm))/\Sub μ μ') (λZ hZ=>?_) ?_
 ·exact⟨g,s,t,rfl,⟨by omega,λa ha=>by have:=hB.tt a ha;omega,by omega⟩,hB.gt.c,λp pa pe μ1 e1 e2 e3 S1=>Ac e1 ⟨rfl,hZ _ _ ⟨pa,pe,rfl,e2,e3,S1⟩⟩⟩
 rintro τ μ1 ⟨pa,pe,rfl,e1,f1,S1⟩
 generalize hN:D9 g.pl.length s.own t=N at e1 f1 k1 k2 hnc hts hown hnu
 have eL:Hq g.pl.length s t=s.as++N.as:=by unfold Hq;rw [hN]
 have eE:Jw g.pl.length s t=s.es++N.es:=by unfold Jw;rw [hN]
 refine Fn λpf hpf=>?_
 have nfa:pa≠pf:=by rintro rfl;rw [e1]at hpf;cases hpf
 have nfe:pe≠pf:=by rintro rfl;rw [f1]at hpf;cases hpf
 have hpf0:=S1.none hpf
 refine A8 (fun τ μ'=>∃(o6:Option AV) (B:List Arw),τ=[some (.D (Bk g)),some (.D (Au s)),some (.D (Au t)),some (.R pa),some (.R pe),some (.R pf),o6,none,none,none,none,none,none,none]/\μ' pf=some (.lst (B.map λa=>.D (Aj a)))/\(B.map Aj).Nodup/\(∀a,a∈B↔a∈(s.as++N.as).filter (Dg g.pl.length))/\B.length<=16/\μ' pa=some (.lst (N.as.map λa=>.D (Aj a)))/\μ' pe=some (.lst (N.es.map Bm))/\Sub μ μ') (λZ hZ=>?_) ?_
 ·refine Ac (Ai (j:=1) rfl) (Ac (Bh s.as) λp1 hp1=>?_)
  have n1:pa≠p1:=by rintro rfl;rw [Ab nfa,e1]at hp1;cases hp1
  have n2:pe≠p1:=by rintro rfl;rw [Ab nfe,f1]at hp1;cases hp1
  have n3:pf≠p1:=by rintro rfl;rw [Ad]at hp1;cases hp1
  refine Ac Ad (Ac (x:=MO.lst (N.as.map λa=>.D (Aj a))) (by rw [Ab n1,Ab nfa];exact e1) ⟨by rw [List.length_map,List.length_map];exact seven (by omega),λp2 hp2=>?_⟩)
  have n4:pa≠p2:=by rintro rfl;rw [Ab n1,Ab nfa,e1]at hp2;cases hp2
  have n5:pe≠p2:=by rintro rfl;rw [Ab n2,Ab nfe,f1]at hp2;cases hp2
  have n6:pf≠p2:=by rintro rfl;rw [Ab n3,Ad]at hp2;cases hp2
  rw [<- List.map_append]
  refine Ac (Ap Ad) ?_
  have S2:Sub μ (Ar (Ar (Ar μ1 pf (.lst [])) p1 (.lst (s.as.map λa=>.D (Aj a)))) p2 (.lst ((s.as++N.as).map λa=>.D (Aj a)))):=by
   have S0:=S1.new (m:=.lst []) hpf0
   have S00:=S0.new (m:=.lst (s.as.map λa=>.D (Aj a))) (S0.none hp1)
   exact S00.new (S00.none hp2)
  have g1:Ar (Ar (Ar μ1 pf (.lst [])) p1 (.lst (s.as.map λa=>.D (Aj a)))) p2 (.lst ((s.as++N.as).map λa=>.D (Aj a))) pf=some (.lst []):=by rw [Ab n6,Ab n3];exact Ad
  have g2:Ar (Ar (Ar μ1 pf (.lst [])) p1 (.lst (s.as.map λa=>.D (Aj a)))) p2 (.lst ((s.as++N.as).map λa=>.D (Aj a))) pa=some (.lst (N.as.map λa=>.D (Aj a))):=by rw [Ab n4,Ab n1,Ab nfa];exact e1
  have g3:Ar (Ar (Ar μ1 pf (.lst [])) p1 (.lst (s.as.map λa=>.D (Aj a)))) p2 (.lst ((s.as++N.as).map λa=>.D (Aj a))) pe=some (.lst (N.es.map Bm)):=by rw [Ab n5,Ab n2,Ab nfe];exact f1
  have g4:Ar (Ar (Ar μ1 pf (.lst [])) p1 (.lst (s.as.map λa=>.D (Aj a)))) p2 (.lst ((s.as++N.as).map λa=>.D (Aj a))) p2=some (.lst ((s.as++N.as).map λa=>.D (Aj a))):=Ad
  generalize Ar (Ar (Ar μ1 pf (.lst [])) p1 (.lst (s.as.map λa=>.D (Aj a)))) p2 (.lst ((s.as++N.as).map λa=>.D (Aj a)))=μ2 at S2 g1 g2 g3 g4
  have hLl:(s.as++N.as).length<=16:=by rw [List.length_append];omega
  refine En (λi τ μ'=>∃(o6:Option AV) (B:List Arw),τ=[some (.D (Bk g)),some (.D (Au s)),some (.D (Au t)),some (.R pa),some (.R pe),some (.R pf),o6,none,none,none,none,none,none,none]/\μ'=Ar μ2 pf (.lst (B.map λa=>.D (Aj a)))/\(B.map Aj).Nodup/\(∀a,a∈B↔a∈((s.as++N.as).take i).filter (Dg g.pl.length))/\B.length<=i) ⟨none,[],rfl,(Kl g1).symm,List.nodup_nil,(λa=>by simp),Nat.le_refl _⟩ ?_ ?_ ?_
  ·rintro i τ μ' ⟨o6,B,rfl,rfl,_⟩
   exact Ap (by rw [Ab n6.symm];exact g4)
  ·rintro i y τ μ' Z2 hy ⟨o6,B,rfl,rfl,hn,hm,hl⟩ hZ2
   rw [List.getElem?_map]at hy
   obtain⟨a,ha,rfl⟩:=Option.map_eq_some_iff.mp hy
   have hi:i < (s.as++N.as).length:=(List.getElem?_eq_some_iff.mp ha).1
   have htk:(s.as++N.as).take (i+1)=(s.as++N.as).take i++[a]:=by rw [List.take_succ,ha];rfl
   have hsn:∀x,x∈((s.as++N.as).take (i+1)).filter (Dg g.pl.length)↔x∈((s.as++N.as).take i).filter (Dg g.pl.length)\/(Dg g.pl.length a=true/\x=a):=λx=>by
    rw [htk,List.filter_append,List.mem_append]
    refine or_congr Iff.rfl ?_
    by_cases h2:Dg g.pl.length a=true
    ·rw [List.filter_cons,if_pos h2];simp [h2]
    ·rw [List.filter_cons,if_neg h2];simp [h2]
   refine Ac (Ai (j:=0) rfl) (Ac (Ai (j:=0) rfl) (dif (λc=>?_) (λc=>Oj rfl (hZ2 _ _ ⟨_,B,rfl,rfl,hn,λx=>?_,by omega⟩))))
   ·rw [List.length_map]at c
    have ho:Dg g.pl.length a=true:=decide_eq_true (by omega)
    refine Ac rfl (Ac (Ap Ad) (Ac (Dr B) ⟨Nu a,K8 B,br (λc1=>?_) (λc1=>?_)⟩))
    ·have hna:a∉B:=λh=>by rw [Ie.mpr h]at c1;cases c1
     refine⟨Ac Ad trivial,Ac Ad ⟨Bg (by rw [List.length_map];omega),hZ2 _ _ ⟨_,B++[a],rfl,?_,K9 hn hna,λx=>?_,by rw [List.length_append];show B.length+1<=_;omega⟩⟩⟩
     ·rw [Fb,List.map_append];rfl
     ·rw [hsn,List.mem_append,hm x,List.mem_singleton]
      exact or_congr Iff.rfl ⟨λh=>⟨ho,h⟩,λh=>h.2⟩
    ·have ha2:a∈B:=Ie.mp (by simpa using c1)
     refine hZ2 _ _ ⟨_,B,rfl,rfl,hn,λx=>?_,by omega⟩
     rw [hsn,hm x]
     refine⟨.inl,λh=>h.elim id λh=>?_⟩
     rw [h.2];exact(hm a).mp ha2
   ·rw [List.length_map]at c
    have ho:¬Dg g.pl.length a=true:=by
     unfold Dg;rw [decide_eq_true_iff];omega
    rw [hsn,hm x]
    exact⟨.inl,λh=>h.elim id λh=>absurd h.1 ho⟩
  ·rintro τ μ' ⟨o6,B,rfl,rfl,hn,hm,hl⟩
   rw [List.length_map]at hm hl
   rw [List.take_length]at hm
   exact hZ _ _ ⟨_,B,rfl,Ad,hn,hm,by omega,by rw [Ab nfa];exact g2,by rw [Ab nfe];exact g3,S2.new hpf0⟩
 rintro τ μ2 ⟨o6,B0,rfl,b2,nB0,mB0,lB0,e2,f2,S2⟩
 refine A8 (fun τ μ'=>∃(o7 o8 o9 o10 o11:Option AV) (B:List Arw),τ=[some (.D (Bk g)),some (.D (Au s)),some (.D (Au t)),some (.R pa),some (.R pe),some (.R pf),o6,o7,o8,o9,o10,o11,none,none]/\μ' pf=some (.lst (B.map λa=>.D (Aj a)))/\(B.map Aj).Nodup/\(∀a,a∈B↔a∈Ny g.pl.length s t)/\B.length<=80/\μ' pe=some (.lst (N.es.map Bm))/\Sub μ μ') (λZ hZ=>?_) ?_
 ·refine Ac (Ai (j:=1) rfl) (Ac (Bh s.as) ?_)
  refine En (λi τ μ'=>∃(o7 o8 o9 o10 o11:Option AV) (B:List Arw),τ=[some (.D (Bk g)),some (.D (Au s)),some (.D (Au t)),some (.R pa),some (.R pe),some (.R pf),o6,o7,o8,o9,o10,o11,none,none]/\μ' pf=some (.lst (B.map λa=>.D (Aj a)))/\(B.map Aj).Nodup/\(∀a,a∈B↔a∈B0\/a∈prs g.pl.length (s.as.take i) N.as)/\B.length<=16+8 * i/\μ' pa=some (.lst (N.as.map λa=>.D (Aj a)))/\μ' pe=some (.lst (N.es.map Bm))/\Sub μ μ') ⟨none,none,none,none,none,B0,rfl,b2,nB0,(λa=>by simp [prs]),by omega,e2,f2,S2⟩ (λ_ _ _ _=>Bh s.as) ?_ ?_
  ·rintro i y τ μ3 Z2 hy ⟨o7,o8,o9,o10,o11,B1,rfl,b3,nB1,mB1,lB1,e3,f3,S3⟩ hZ2
   rw [List.getElem?_map]at hy
   obtain⟨a,ha,rfl⟩:=Option.map_eq_some_iff.mp hy
   have hi:i < s.as.length:=(List.getElem?_eq_some_iff.mp ha).1
   have hma:=List.mem_of_getElem? ha
   have htk:s.as.take (i+1)=s.as.take i++[a]:=by rw [List.take_succ,ha];rfl
   have hac:=hB.gs.c a hma
   have hal:=hB.st a hma
   have hats:=hts a hma
   have hprs:∀x,x∈prs g.pl.length (s.as.take (i+1)) N.as↔x∈prs g.pl.length (s.as.take i) N.as\/x∈Ma g.pl.length N.as a:=λx=>by rw [htk,Jr,List.mem_append]
   obtain⟨p,x,ts,c⟩:=a
   dsimp only at hac hal
   subst hac
   refine⟨rfl,Vk ?_⟩
   dsimp only [List.set]
   refine Ac (Ap e3) ?_
   refine En (λk τ μ'=>∃(o10 o11:Option AV) (B:List Arw),τ=[some (.D (Bk g)),some (.D (Au s)),some (.D (Au t)),some (.R pa),some (.R pe),some (.R pf),o6,some (.D (.int p)),some (.D (.int x)),some (.D (Bq ts)),o10,o11,none,none]/\μ' pf=some (.lst (B.map λa=>.D (Aj a)))/\(B.map Aj).Nodup/\(∀a,a∈B↔a∈B1\/a∈Ma g.pl.length (N.as.take k) ⟨p,x,ts,none⟩)/\B.length<=16+8 * i+k/\μ' pa=some (.lst (N.as.map λa=>.D (Aj a)))/\μ' pe=some (.lst (N.es.map Bm))/\Sub μ μ') ⟨o10,o11,B1,rfl,b3,nB1,(λa=>by simp [Ma]),by omega,e3,f3,S3⟩ (λ_ _ _ ⟨_,_,_,_,_,_,_,_,e,_⟩=>Ap e) ?_ ?_
   ·rintro k y τ μ4 Z3 hy ⟨o10',o11',B,rfl,b4,nB,mB,lB,e4,f4,S4⟩ hZ3
    rw [List.getElem?_map]at hy
    obtain⟨b,hb,rfl⟩:=Option.map_eq_some_iff.mp hy
    have hk:k < N.as.length:=(List.getElem?_eq_some_iff.mp hb).1
    have hmb:=List.mem_of_getElem? hb
    have hbk:N.as.take (k+1)=N.as.take k++[b]:=by rw [List.take_succ,hb];rfl
    obtain⟨hup,hbl,hbc⟩:=hats b hmb
    have hsn:=Vu (np:=g.pl.length) (B:=N.as.take k) (a:=⟨p,x,ts,none⟩) (b:=b)
    rw [<- hbk]at hsn
    have hse:=Zm ⟨p,x,ts,none⟩ b
    obtain⟨bp,bx,bt,bc⟩:=b
    dsimp only at hup hbl hbc hse
    subst hbc
    refine A8 (fun τ μ'=>τ=[some (.D (Bk g)),some (.D (Au s)),some (.D (Au t)),some (.R pa),some (.R pe),some (.R pf),o6,some (.D (.int p)),some (.D (.int x)),some (.D (Bq ts)),some (.D (Aj ⟨bp,bx,bt,none⟩)),some (.D (Aj (jn ⟨p,x,ts,none⟩ ⟨bp,bx,bt,none⟩))),none,none]/\μ' pf=some (.lst (B.map λa=>.D (Aj a)))/\μ' pa=some (.lst (N.as.map λa=>.D (Aj a)))/\μ' pe=some (.lst (N.es.map Bm))/\Sub μ μ') (λZ4 hZ4=>?_) ?_
    ·refine Ac (Ai (j:=2) rfl) ⟨by rw [List.length_map,List.length_map];exact seven (show ts.length+bt.length<=1000 by omega),?_⟩
     show opt (items μ4 (.D (.tuple ((ts.map λ(n:Nat)=>PyData.int n)++bt.map λ(n:Nat)=>PyData.int n)))) _
     rw [<- List.map_append]
     refine Ac (Ax (ts++bt)) ⟨(ts++bt).map λ(n:Nat)=>(n:Int),(Ea _).symm,by rw [List.length_map,List.length_append];omega,λl ms hl hr hms=>?_⟩
     obtain⟨Fs,rfl,hF1,hF2⟩:=Ek hr hms
     have eF:Fs=ts++bt:=Md hF1 hup hF2
     subst eF
     rw [Ea]
     have m1:pf≠l:=by rintro rfl;rw [b4]at hl;cases hl
     have m2:pa≠l:=by rintro rfl;rw [e4]at hl;cases hl
     have m3:pe≠l:=by rintro rfl;rw [f4]at hl;cases hl
     exact Ac (Ap Ad) (Ac (Cu _) (hZ4 _ _ ⟨rfl,by rw [Ab m1];exact b4,by rw [Ab m2];exact e4,by rw [Ab m3];exact f4,S4.new (S4.none hl)⟩))
    rintro τ μ5 ⟨rfl,b5,e5,f5,S5⟩
    have no:(¬(p < g.pl.length/\sm ⟨p,x,ts,none⟩ ⟨bp,bx,bt,none⟩=true))->∀z,z∈B↔z∈B1\/z∈Ma g.pl.length (N.as.take (k+1)) ⟨p,x,ts,none⟩:=λhno z=>by
     rw [hsn z,mB z]
     exact⟨λh=>h.elim .inl λh=>.inr (.inl h),λh=>h.elim .inl λh=>h.elim .inr λh=>absurd ⟨h.1,h.2.1⟩ hno⟩
    refine Ac (Ai (j:=0) rfl) (dif (λc=>?_) (λc=>Oj rfl (hZ3 _ _ ⟨_,_,B,rfl,b5,nB,no λh=>c (by rw [List.length_map];have:=h.1;omega),by omega,e5,f5,S5⟩)))
    rw [List.length_map]at c
    refine⟨Mb bp bx,Mb p x,br (λc1=>?_) (λc1=>Oj rfl (hZ3 _ _ ⟨_,_,B,rfl,b5,nB,no λh=>?_,by omega,e5,f5,S5⟩))⟩
    ·have hsm:sm ⟨p,x,ts,none⟩ ⟨bp,bx,bt,none⟩=true:=hse.symm.trans c1
     have hpn:p < g.pl.length:=by omega
     refine Ac rfl (Ac (Ap b5) (Ac (Dr B) ⟨Nu _,K8 B,br (λc2=>?_) (λc2=>?_)⟩))
     ·have hna:jn ⟨p,x,ts,none⟩ ⟨bp,bx,bt,none⟩∉B:=λh=>by rw [Ie.mpr h]at c2;cases c2
      refine⟨Ac b5 trivial,Ac b5 ⟨Bg (by rw [List.length_map];omega),hZ3 _ _ ⟨_,_,B++[jn ⟨p,x,ts,none⟩ ⟨bp,bx,bt,none⟩],rfl,by rw [Ad,List.map_append];rfl,K9 nB hna,λz=>?_,by rw [List.length_append];show B.length+1<=_;omega,?_,?_,S5.new hpf0⟩⟩⟩
      ·rw [hsn z,List.mem_append,mB z,List.mem_singleton]
       constructor
       ·rintro((h | h) | h)
        ·exact .inl h
        ·exact .inr (.inl h)
        ·exact .inr (.inr ⟨hpn,hsm,h⟩)
       ·rintro(h | h | h)
        ·exact .inl (.inl h)
        ·exact .inl (.inr h)
        ·exact .inr h.2.2
      ·rw [Ab nfa];exact e5
      ·rw [Ab nfe];exact f5
     ·have ha2:jn ⟨p,x,ts,none⟩ ⟨bp,bx,bt,none⟩∈B:=Ie.mp (by simpa using c2)
      refine hZ3 _ _ ⟨_,_,B,rfl,b5,nB,λz=>?_,by omega,e5,f5,S5⟩
      rw [hsn z,mB z]
      refine⟨λh=>h.elim .inl λh=>.inr (.inl h),λh=>h.elim .inl λh=>h.elim .inr λh=>?_⟩
      rw [h.2.2];exact(mB _).mp ha2
    ·have hsf:sm ⟨p,x,ts,none⟩ ⟨bp,bx,bt,none⟩=false:=hse.symm.trans c1
     rw [hsf]at h;cases h.2
   ·rintro τ μ4 ⟨o10',o11',B,rfl,b4,nB,mB,lB,e4,f4,S4⟩
    rw [List.length_map]at mB lB
    rw [List.take_length]at mB
    refine hZ2 _ _ ⟨_,_,_,_,_,B,rfl,b4,nB,λz=>?_,by omega,e4,f4,S4⟩
    rw [mB z,hprs z,mB1 z]
    exact⟨λh=>h.elim (λh=>h.elim .inl λh=>.inr (.inl h)) λh=>.inr (.inr h),λh=>h.elim (λh=>.inl (.inl h)) λh=>h.elim (λh=>.inl (.inr h)) .inr⟩
  ·rintro τ μ3 ⟨o7,o8,o9,o10,o11,B,rfl,b3,nB,mB,lB,e3,f3,S3⟩
   rw [List.length_map]at mB lB
   rw [List.take_length]at mB
   refine hZ _ _ ⟨_,_,_,_,_,B,rfl,b3,nB,λz=>?_,by omega,f3,S3⟩
   rw [mB z,mB0 z]
   unfold Ny
   rw [eL,hN,List.mem_append]
 rintro τ μ3 ⟨o7,o8,o9,o10,o11,B,rfl,b3,nB,mB,lB,f3,S3⟩
 refine A8 (fun τ μ'=>∃pp,τ=[some (.D (Bk g)),some (.D (Au s)),some (.D (Au t)),some (.R pa),some (.R pe),some (.R pf),o6,o7,o8,o9,o10,o11,some (.R pp),none]/\μ' pp=some (.lst ((s.es.filter λe=>decide (e < g.pl.length) && decide (e∈N.es)).map Bm))/\μ' pf=some (.lst (B.map λa=>.D (Aj a)))/\μ' pe=some (.lst (N.es.map Bm))/\Sub μ μ') (λZ hZ=>?_) ?_
 ·refine Ac (Ai (j:=2) rfl) (Ac (Ax s.es) λpc hpc=>?_)
  have m1:pf≠pc:=by rintro rfl;rw [b3]at hpc;cases hpc
  have m3:pe≠pc:=by rintro rfl;rw [f3]at hpc;cases hpc
  refine cmapf s.es Bm (λe=>decide (e < g.pl.length) && decide (e∈N.es)) Bm (fun τ=>∃o,τ=[o,some (.R pe),some (.D (Bk g))]) ⟨none,rfl⟩ Ad (seven (by omega)) (λ_=>Ax s.es) ?_ ?_
  ·rintro i e τ' acc W W2 hi ⟨o,rfl⟩ h1 h2
   refine Ac (Ai (j:=0) rfl) (dif (λc=>?_) (λc=>Oj rfl (h2 ?_ _ ⟨_,rfl⟩)))
   ·rw [List.length_map]at c
    refine Ac rfl (Ac (Ap (xs:=N.es.map Bm) (by rw [Ab m3,Ab m3];exact f3)) (Ac (Cu N.es) ⟨C4 _,D7,?_⟩))
    rw [Mc]
    refine dif (λc1=>h1 (by rw [decide_eq_true (show e < g.pl.length by omega),decide_eq_true c1];rfl) _ ⟨_,rfl⟩) (λc1=>h2 (by rw [decide_eq_false c1,Bool.and_false]) _ ⟨_,rfl⟩)
   ·rw [List.length_map]at c
    rw [decide_eq_false (show ¬e < g.pl.length by omega),Bool.false_and]
  ·exact hZ _ _ ⟨pc,rfl,Ad,by rw [Ab m1,Ab m1];exact b3,by rw [Ab m3,Ab m3];exact f3,(S3.new (S3.none hpc)).new (S3.none hpc)⟩
 rintro τ μ4 ⟨pp,rfl,p4,b4,f4,S4⟩
 refine A8 (fun τ μ'=>∃po,τ=[some (.D (Bk g)),some (.D (Au s)),some (.D (Au t)),some (.R pa),some (.R pe),some (.R pf),o6,o7,o8,o9,o10,o11,some (.R pp),some (.R po)]/\μ' po=some (.lst (((s.es++N.es).filter λe=>decide (g.pl.length<=e)).map Bm))/\μ' pp=some (.lst ((s.es.filter λe=>decide (e < g.pl.length) && decide (e∈N.es)).map Bm))/\μ' pf=some (.lst (B.map λa=>.D (Aj a)))/\Sub μ μ') (λZ hZ=>?_) ?_
 ·refine Ac (Ai (j:=2) rfl) (Ac (Ax s.es) λp1 hp1=>?_)
  have n1:pe≠p1:=by rintro rfl;rw [f4]at hp1;cases hp1
  have n2:pp≠p1:=by rintro rfl;rw [p4]at hp1;cases hp1
  have n3:pf≠p1:=by rintro rfl;rw [b4]at hp1;cases hp1
  refine Ac Ad (Ac (x:=MO.lst (N.es.map Bm)) (by rw [Ab n1];exact f4) ⟨by rw [List.length_map,List.length_map];exact seven (by omega),λp2 hp2=>?_⟩)
  have n4:pp≠p2:=by rintro rfl;rw [Ab n2,p4]at hp2;cases hp2
  have n5:pf≠p2:=by rintro rfl;rw [Ab n3,b4]at hp2;cases hp2
  rw [show(s.es.map λ(n:Nat)=>AV.D (.int n))++N.es.map Bm=(s.es++N.es).map Bm by rw [List.map_append];rfl]
  refine Ac (Ap Ad) λpc hpc=>?_
  have S5:Sub μ (Ar (Ar μ4 p1 (.lst (s.es.map λ(n:Nat)=>AV.D (.int n)))) p2 (.lst ((s.es++N.es).map Bm))):=by
   have S0:=S4.new (m:=.lst (s.es.map λ(n:Nat)=>AV.D (.int n))) (S4.none hp1)
   exact S0.new (S0.none hp2)
  have g1:Ar (Ar μ4 p1 (.lst (s.es.map λ(n:Nat)=>AV.D (.int n)))) p2 (.lst ((s.es++N.es).map Bm)) pp=some (.lst ((s.es.filter λe=>decide (e < g.pl.length) && decide (e∈N.es)).map Bm)):=by rw [Ab n4,Ab n2];exact p4
  have g2:Ar (Ar μ4 p1 (.lst (s.es.map λ(n:Nat)=>AV.D (.int n)))) p2 (.lst ((s.es++N.es).map Bm)) pf=some (.lst (B.map λa=>.D (Aj a))):=by rw [Ab n5,Ab n3];exact b4
  have g3:Ar (Ar μ4 p1 (.lst (s.es.map λ(n:Nat)=>AV.D (.int n)))) p2 (.lst ((s.es++N.es).map Bm)) p2=some (.lst ((s.es++N.es).map Bm)):=Ad
  generalize Ar (Ar μ4 p1 (.lst (s.es.map λ(n:Nat)=>AV.D (.int n)))) p2 (.lst ((s.es++N.es).map Bm))=μ5 at S5 g1 g2 g3 hpc
  have m1:pp≠pc:=by rintro rfl;rw [g1]at hpc;cases hpc
  have m2:pf≠pc:=by rintro rfl;rw [g2]at hpc;cases hpc
  have m3:p2≠pc:=by rintro rfl;rw [g3]at hpc;cases hpc
  refine cmapf (s.es++N.es) Bm (λe=>decide (g.pl.length<=e)) Bm (fun τ=>∃o,τ=[o,some (.D (Bk g))]) ⟨none,rfl⟩ Ad (seven (by rw [List.length_append];omega)) (λ_=>Ap (by rw [Ab m3,Ab m3];exact g3)) ?_ ?_
  ·rintro i e τ' acc W W2 hi ⟨o,rfl⟩ h1 h2
   refine Ac (Ai (j:=0) rfl) (dif (λc=>h1 ?_ _ ⟨_,rfl⟩) (λc=>h2 ?_ _ ⟨_,rfl⟩))
   ·rw [List.length_map]at c;exact decide_eq_true (by omega)
   ·rw [List.length_map]at c;exact decide_eq_false (by omega)
  ·exact hZ _ _ ⟨pc,rfl,Ad,by rw [Ab m1,Ab m1];exact g1,by rw [Ab m2,Ab m2];exact g2,(S5.new (S5.none hpc)).new (S5.none hpc)⟩
 rintro τ μ5 ⟨po,rfl,o5,p5,b5,S5⟩
 generalize hO:(s.es++N.es).filter (λe=>decide (g.pl.length<=e))=O at o5 hown
 generalize hPl:s.es.filter (λe=>decide (e < g.pl.length) && decide (e∈N.es))=Pl at p5
 have lO:O.length<=10:=by
  rw [<- hO]
  have:=List.length_filter_le (λe=>decide (g.pl.length<=e)) (s.es++N.es)
  rw [List.length_append]at this;omega
 have lP:Pl.length<=5:=by
  rw [<- hPl]
  have:=List.length_filter_le (λe=>decide (e < g.pl.length) && decide (e∈N.es)) s.es
  omega
 have cB:∀a∈B,a.c=none:=λa ha=>by
  rcases List.mem_append.mp ((mB a).mp ha) with h | h
  ·have:=(List.mem_filter.mp h).1
   rw [eL]at this
   rcases List.mem_append.mp this with h | h
   ·exact hB.gs.c a h
   ·exact hnc a h
  ·obtain⟨b,hb,hp,c,hc,x1,x2,rfl⟩:=Fh.mp h
   rfl
 refine Ac (Ai (j:=0) rfl) (Ac (Ai (j:=0) rfl) (Ac b5 (Ac (Dr B) ⟨Sl (by omega) nB cB,λes p1 hperm hso hp1=>?_⟩)))
 obtain⟨C,rfl,hC⟩:=E9 (f:=Aj) (B:=B) (es:=es) λe he=>hperm.mem_iff.mp he
 have n1:po≠p1:=by rintro rfl;rw [o5]at hp1;cases hp1
 have n2:pp≠p1:=by rintro rfl;rw [p5]at hp1;cases hp1
 refine Ac (Ap Ad) (Ac (B5 _) ⟨O.map λ(n:Nat)=>(n:Int),?_,by rw [List.length_map];omega,?_,λms p2 hup hpm hp2=>?_⟩)
 ·rw [Ab n1,Ea];exact o5
 ·exact List.pairwise_map.mpr (hown.imp λ{a b} h e=>h (by omega))
 obtain⟨Gs,rfl,hG1,hG2⟩:=Ek hup λn=>hpm.mem_iff
 have n3:pp≠p2:=by rintro rfl;rw [Ab n2,p5]at hp2;cases hp2
 have lG:Gs.length<=10:=by
  have:=hpm.length_eq
  rw [List.length_map,List.length_map]at this;omega
 rw [Ea]
 refine Ac (x:=MO.lst (Pl.map Bm)) (by rw [Ab n3,Ab n2];exact p5) (Ac Ad ⟨by rw [List.length_map,List.length_map];exact seven (by omega),λp3 hp3=>?_⟩)
 rw [<- List.map_append]
 refine Ac (Ap Ad) (Ac (Cu _) ⟨_,Sub.refl,?_⟩)
 have S0:=S5.new (m:=.lst ((C.map Aj).map .D)) (S5.none hp1)
 have S1':=S0.new (m:=.lst (Gs.map Bm)) (S0.none hp2)
 refine q ⟨s.own+t.own,C,Pl++Gs⟩ _ ⟨rfl,λa=>?_,λe=>?_,hso,?_⟩ (S1'.new (S1'.none hp3))
 ·rw [<- mB a]
  refine⟨hC a,λh=>?_⟩
  obtain⟨b,hb,e⟩:=List.mem_map.mp (hperm.mem_iff.mpr (List.mem_map.mpr ⟨a,h,rfl⟩))
  rw [<- D8 e];exact hb
 ·show e∈Pl++Gs↔_
  rw [List.mem_append,hG2 e,<- hO,<- hPl]
  unfold Sj boT
  rw [eE,hN,List.mem_filter,List.mem_filter,List.mem_filter,List.mem_append]
  simp only [Bool.and_eq_true,Bool.or_eq_true,decide_eq_true_iff]
  constructor
  ·rintro(⟨h1,h2,h3⟩ | ⟨h1,h2⟩)
   ·exact⟨.inl h1,.inr ⟨h1,h3⟩⟩
   ·exact⟨h1,.inl h2⟩
  ·rintro⟨h1,h2 | ⟨h2,h3⟩⟩
   ·exact .inr ⟨h1,h2⟩
   ·by_cases h4:e < g.pl.length
    ·exact .inl ⟨h2,h4,h3⟩
    ·exact .inr ⟨h1,by omega⟩
 ·refine Vt (k:=g.pl.length) ?_ hG1 (λx hx=>?_) λy hy=>?_
  ·rw [<- hPl];exact hB.se.filter _
  ·rw [<- hPl]at hx
   have:=(List.mem_filter.mp hx).2
   simp only [Bool.and_eq_true,decide_eq_true_iff]at this
   exact this.1
  ·have:=(hG2 y).mp hy
   rw [<- hO]at this
   exact of_decide_eq_true (List.mem_filter.mp this).2
end
section
variable {P:Program}{w:World}{K:PySem.W.Frag}{mg:Str->Option Value}{base:Heap}{f:Addr}{fd:FuncData}
def Sm:Nat->PyData->Prop
 | _,.int _=>True
 | d+1,.tuple ds=>ds.length<=900/\∀x∈ds,Sm d x
 | _,_=>False
theorem Qit:kit "tuple" "tuple" = true:=by decide
theorem Qiu:(!kit "tuple" "tuple")=false:=by decide
theorem Qiv:kit "int" "tuple" = false:=by decide
theorem Qiw:kit "int" "str" = false:=by decide
theorem Qix:kit "int" "int" = true:=by decide
theorem Qiy:(!kit "int" "bool")=true:=by decide
abbrev nAl:List Str:=["_law_found","_law_due"]
theorem Qf3:FnScope nAl ["_law_found","_law_due"] (Ah Zi):=⟨rfl,rfl,rfl,by decide +kernel,rfl,by decide +kernel,by decide +kernel⟩
theorem Zo:(["_law_one","_law_other"]:List Str).Nodup:=by decide +kernel
def Sn(d:Nat):ASp:=λxs μ R=>∃a,xs=[.D a,.D a]/\Sm d a/\∀ μ',Sub μ μ'->R (.D (.bool true)) μ'
theorem Qu{n:Nat}(F:Fun K "_law_alike" "_law_alike" Zi f fd) (d:Nat) (sp':ASp) (hsp:∀d',d=d'+1->sp'=Sn d') (cAl:VCal P w K mg base n "_law_alike" ["_law_found","_law_due"] sp') (m_isinstance:mg "isinstance" = none) (m_tuple:mg "tuple" = none) (m_len:mg "len" = none) (m_all:mg "all" = none) (m_zip:mg "zip" = none) (m_str:mg "str" = none) (m_bool:mg "bool" = none) (m_int:mg "int" = none) :
  FnOk P w K mg base Fl (n+1) f fd ["_law_found","_law_due"] (Hv K 2 (Sn d)):=by
 refine F.vok Qf3 λcdv A outer s H E hr=>⟨_,(Ag (Cs (Gr (Gv rfl m_isinstance rfl m_tuple PyProof.Rows.boot_tuple Iu (vv 1))) (Ag (Cs (VW.pt (Pq (Lm (Gr (Gv rfl m_isinstance rfl m_tuple PyProof.Rows.boot_tuple Iu (vv 0)))) (Ll (Bd (Qhs hr) (Ba Co rfl m_len PySem.boot_len (Aa (vv 0) Ae)) (Ba Co rfl m_len PySem.boot_len (Aa (vv 1) Ae)) (nomark _))))) (An (Bo Mn)) Bt)
   (An (Bo (Ba (Qd8 rfl) rfl m_all PyProof.Rows.boot_all (Aa (Bw (N':=["_law_one","_law_other"]) (mp:=[none,none]) rfl (Qb2 rfl m_zip (vv 0) (vv 1)) (λ_ _ _ _=>(Eu (n:=2) rfl (Bb (Am (i:=0) Zo rfl (Or.inl rfl) (Or.inr rfl)) (Bb (Am (i:=1) Zo rfl (Or.inl rfl) (Or.inr rfl)) C2)))) (λ_ _ _ _=>Bs) (λ_ _ _ _=>(Al cAl hr rfl (Aa (vv 0) (Aa (vv 1) Ae)))) (A5 (N:=nAl) (pn:=(Ah Zi).names) (by decide +kernel))) Ae))))) Bt)
   (Ag (Cs (Gr (Gv rfl m_isinstance rfl m_str PyProof.Rows.boot_str Ms (vv 1))) (An (Bo (Om (Gv rfl m_isinstance rfl m_str PyProof.Rows.boot_str Ms (vv 0)) (Tt (Lk (Hn hr) (vv 0) (vv 1) (nomark _)))))) Bt)
   (An (Bo (Om (Gv rfl m_isinstance rfl m_int PyProof.Rows.boot_int T3 (vv 0)) (Om (Qa7 (Gv rfl m_isinstance rfl m_bool PyProof.Rows.boot_bool Ro (vv 0))) (Tt (Lk (Hn hr) (vv 0) (vv 1) (nomark _))))))))),?_⟩
 rintro xs μ R _ ⟨a,rfl,ha,q⟩
 cases a with
 | int i =>
  refine Ac (x := "int") rfl (Oj Qiv (Ac (x := "int") rfl (Oj Qiw (Ac (x := "int") rfl (Ri Qix (Ac (x := "int") rfl (Ri Qiy ⟨C4 _,C4 _,μ,Sub.refl,?_⟩)))))))
  rw [Gc,decide_eq_true rfl]
  exact q _ Sub.refl
 | tuple ds =>
  cases d with
  | zero=>exact ha.elim
  | succ d =>
   obtain rfl:=hsp d rfl
   have hl:ds.length<=900:=ha.1
   have hm:∀x∈ds,Sm d x:=ha.2
   refine Ac (x := "tuple") rfl (Ri Qit (Ac (x := "tuple") rfl (Oj Qiu ⟨C4 _,C4 _,Oj (by rw [Gc,decide_eq_true rfl];rfl) ?_⟩)))
   refine Ac (x:=ds.map .D) rfl (Ac (x:=ds.map .D) rfl (Ac (B5 ds) (Ac (B5 ds) λp hp=>?_)))
   have hz:(Sa ds ds).length=ds.length:=by rw [E7];omega
   refine Eg (λi acc τ μ'=>∃o1 o2,τ=[o1,o2]/\acc=(ds.take i).map (λ_=>.D (.bool true))/\μ' p=some (.lst acc)/\Sub μ μ') ⟨none,none,rfl,rfl,Ad,Sub.refl.new hp⟩ (λ_ _ _ _ _=>⟨rfl,rfl⟩) ?_ ?_
   ·rintro i x acc τ μ1 W hx ⟨o1,o2,rfl,rfl,e1,S1⟩ hW
    obtain⟨d1,d2,h1,h2,rfl⟩:=Nk hx
    rw [h1]at h2
    cases h2
    have hi:i < ds.length:=(List.getElem?_eq_some_iff.mp h1).1
    refine⟨rfl,Ri rfl ⟨d1,rfl,hm d1 (List.mem_of_getElem? h1),fun μ2 S2=>⟨S2 _ _ e1,Bg (by rw [List.length_map,List.length_take];omega),hW _ _ _ ⟨_,_,rfl,?_,Ad,?_⟩⟩⟩⟩
    ·rw [List.take_succ,h1,List.map_append];rfl
    ·exact Sub.new (λb m h=>S2 b m (S1 b m h)) hp
   ·rintro acc τ μ1 ⟨o1,o2,rfl,rfl,e1,S1⟩
    rw [hz,List.take_length]at e1
    refine Qeh (g:=λ_=>true) e1 ⟨_,Sub.refl,?_⟩
    rw [show(ds.all λ_=>true)=true by simp]
    exact q _ S1
 | _=>cases d <;> exact ha.elim
theorem Qf4(F:Fun K "_law_alike" "_law_alike" Zi f fd) (hbd:Binds K fd ["_law_found","_law_due"] []) (hkp:PySem.W.keepIn K (.ref f)=true) (hmg:mg "_law_alike" = some (.ref f)) (m_isinstance:mg "isinstance" = none) (m_tuple:mg "tuple" = none) (m_len:mg "len" = none) (m_all:mg "all" = none) (m_zip:mg "zip" = none) (m_str:mg "str" = none) (m_bool:mg "bool" = none) (m_int:mg "int" = none) :
  ∀d:Nat,FnOk P w K mg base Fl (d+1+1) f fd ["_law_found","_law_due"] (Hv K 2 (Sn d)):=by
 intro d
 induction d with
 | zero =>
  refine Qu F 0 (λ_ _ _=>False) (by intro d' h;cases h) ⟨f,fd,F.ok Qf3 (λvs H Q E h=>?_) (λcdv A outer s H vs Q E hr h=>?_),hbd,hkp,hmg⟩ m_isinstance m_tuple m_len m_all m_zip m_str m_bool m_int
  ·obtain⟨_,_,_,_,_,_,h,_⟩:=h
   exact h.elim
  ·obtain⟨_,_,_,_,_,_,h,_⟩:=h
   exact h.elim
 | succ d ih=>exact Qu F (d+1) (Sn d) (by rintro d' h;cases h;rfl) ⟨f,fd,ih,hbd,hkp,hmg⟩ m_isinstance m_tuple m_len m_all m_zip m_str m_bool m_int
theorem Qv{d:Nat}{ns:List Nat}(hl:ns.length<=900):Sm (d+1) (Bq ns):=by
 refine⟨by rw [List.length_map];exact hl,λx hx=>?_⟩
 obtain⟨n,_,rfl⟩:=List.mem_map.mp hx
 cases d <;> exact trivial
theorem Qcj{s:Say}(h1:s.as.length<=900)(h2:∀a∈s.as,a.ts.length<=900/\a.c=none)(h3:s.es.length<=900):Sm 4 (Au s):=by
 refine⟨(by decide:3<=900),λx hx=>?_⟩
 simp only [List.mem_cons,List.not_mem_nil,or_false]at hx
 rcases hx with rfl | rfl | rfl
 ·exact trivial
 ·refine⟨by rw [List.length_map];exact h1,λy hy=>?_⟩
  obtain⟨a,ha,rfl⟩:=List.mem_map.mp hy
  obtain⟨p,x,ts,c⟩:=a
  have:=(h2 _ ha).2
  dsimp only at this
  subst this
  refine⟨(by decide:3<=900),λz hz=>?_⟩
  simp only [Nt,List.mem_cons,List.not_mem_nil,or_false]at hz
  rcases hz with rfl | rfl | rfl
  ·exact trivial
  ·exact trivial
  ·exact Qv (h2 _ ha).1
 ·exact Qv h3
def toS(i:Int):Str:=Str.ofString (toString i)
theorem Ye:∀i:Fin 12,(toS (i.val:Int)).length<=6:=by decide +kernel
theorem Pg{n:Nat}(h:n < 12):(toS (n:Int)).length<=6:=Ye ⟨n,h⟩
def Gp(g:Gam)(k:Nat):Str:=match g.pl[k]? with
 | some p=>p.1
 | none=>toS (((k+1 - g.pl.length:Nat)):Int)
def Ss(g:Gam)(m:Nat):List Str:=g.pl.map (·.1)++(List.range m).map λk=>toS ((k+1:Nat):Int)
theorem Yf{g:Gam}{m k:Nat}(h:k < g.pl.length+m):(Ss g m)[k]?=some (Gp g k):=by
 unfold Ss Gp
 by_cases h1:k < g.pl.length
 ·rw [List.getElem?_append_left (by rw [List.length_map];exact h1),List.getElem?_map,List.getElem?_eq_getElem h1];rfl
 ·rw [List.getElem?_append_right (by rw [List.length_map];omega),List.length_map,List.getElem?_map,List.getElem?_range (by omega),List.getElem?_eq_none (by omega)]
  show some (toS ((k - g.pl.length+1:Nat):Int))=some (toS ((k+1 - g.pl.length:Nat):Int))
  rw [show k - g.pl.length+1=k+1 - g.pl.length by omega]
theorem lg{i:Int}(h:i.natAbs<=100):i.natAbs.log2 < 1920:=Nat.lt_of_le_of_lt (Nat.log2_le_self _) (by omega)
structure ShIn(g:Gam)(s:Say):Prop where
 pl:g.pl.length<=3
 pn:∀p∈g.pl,p.1.length<=6
 ln:∀z∈g.le,z.length<=6
 o:s.own<=8
 n:s.as.length<=300
 p:∀a∈s.as,a.p < g.pl.length+s.own
 x:∀a∈s.as,a.x < g.le.length
 t:∀a∈s.as,∀t∈a.ts,t < g.pl.length+s.own
 tn:∀a∈s.as,a.ts.length<=10
 c:∀a∈s.as,a.c=none
 e:∀e∈s.es,e < g.pl.length+s.own
 en:s.es.length<=30
theorem ShIn.st{g:Gam}{s:Say}(h:ShIn g s){k:Nat}(hk:k < g.pl.length+s.own):(Gp g k).length<=6:=by
 unfold Gp
 by_cases h1:k < g.pl.length
 ·rw [List.getElem?_eq_getElem h1];exact h.pn _ (List.getElem_mem h1)
 ·rw [List.getElem?_eq_none (by omega)]
  have:=h.o
  exact Pg (by omega)
theorem Ig(f:Nat->Str)(ns:List Nat):(ns.map λn=>Av (f n))=(ns.map f).map Av:=by rw [List.map_map];rfl
abbrev nSd:List Str:=["game","many"]
theorem Qi0:FnScope nSd ["game","many"] (Ah Zg):=⟨rfl,rfl,rfl,by decide +kernel,rfl,by decide +kernel,by decide +kernel⟩
theorem Zp:(["name","hand"]:List Str).Nodup:=by decide +kernel
theorem Qf5:(["number"]:List Str).Nodup:=by decide +kernel
def Qf6:ASp:=λxs μ R=>∃(g:Gam) (m:Nat),xs=[.D (Bk g),.D (.int m)]/\g.pl.length<=3/\m<=8/\∀p μ',μ p=none->μ' p=some (.lst ((Ss g m).map Av))->Sub μ μ'->R (.R p) μ'
theorem Qf7{n:Nat}(F:Fun K "stand_words" "stand_words" Zg f fd) (m_range:mg "range" = none) (m_str:mg "str" = none):FnOk P w K mg base Fl (n+1) f fd ["game","many"] (Hv K 2 Qf6):=by
 refine F.vok Qi0 λcdv A outer s H E hr=>⟨_,(An (Bo (A0 Bl (Bw (N':=["name","hand"]) (mp:=[none,none]) rfl (Bp (Ak Ay (vv 0) Af)) (λ_ _ _ _=>(Eu (n:=2) rfl (Bb (Am (i:=0) Zp rfl (Or.inl rfl) (Or.inr rfl)) (Bb (Am (i:=1) Zp rfl (Or.inl rfl) (Or.inr rfl)) C2)))) (λ_ _ _ _=>Bs) (λ_ _ _ _=>(vv 0)) (A5 (N:=nSd) (pn:=(Ah Zg).names) (by decide +kernel))) (Bw (N':=["number"]) (mp:=[none]) rfl (Dh rfl m_range (Aa (vv 1) Ae)) (λ_ _ _ _=>(Am (i:=0) Qf5 rfl (Or.inl rfl) (Or.inr rfl))) (λ_ _ _ _=>Bs) (λ_ _ _ _=>(Az Qq rfl m_str PyProof.Rows.boot_str (Aa (A0 Bl (vv 0) Af) Ae))) (A5 (N:=nSd) (pn:=(Ah Zg).names) (by decide +kernel)))))),?_⟩
 rintro xs μ R _ ⟨g,m,rfl,hp,hm,q⟩
 have hit:∀ μ:M,items μ (.D (.tuple (g.pl.map Go)))=some (g.pl.map plA):=fun μ=>by
  show some ((g.pl.map Go).map AV.D)=_
  rw [List.map_map];rfl
 refine Ac (Ai (j:=0) rfl) (Ac (hit _) λp1 hp1=>?_)
 refine cmap g.pl plA (λp=>Av p.1) (fun τ=>∃o1 o2,τ=[o1,o2]) ⟨none,none,rfl⟩ Ad (seven (by omega)) (λ_=>hit _) ?_ ?_
 ·rintro i x τ' acc W hi ⟨o1,o2,rfl⟩ hW
  exact⟨rfl,hW _ ⟨_,_,rfl⟩⟩
 ·have S1:Sub μ (Ar (Ar μ p1 (.lst [])) p1 (.lst (g.pl.map λp=>Av p.1))):=(Sub.refl.new hp1).new hp1
  have e1:Ar (Ar μ p1 (.lst [])) p1 (.lst (g.pl.map λp=>Av p.1)) p1=some (.lst (g.pl.map λp=>Av p.1)):=Ad
  generalize Ar (Ar μ p1 (.lst [])) p1 (.lst (g.pl.map λp=>Av p.1))=μ1 at S1 e1
  refine⟨by omega,by omega,λp2 hp2=>?_⟩
  have n1:p1≠p2:=by rintro rfl;rw [e1]at hp2;cases hp2
  have hlen:(D4 0 (m:Int).toNat).length=m:=by rw [B7];omega
  refine Eg (λi acc τ μ'=>∃o,τ=[o]/\acc=((List.range i).map λk=>toS ((k+1:Nat):Int)).map Av/\μ'=Ar μ1 p2 (.lst acc)) ⟨none,rfl,rfl,rfl⟩ (λ_ _ _ _ _=>trivial) ?_ ?_
  ·rintro i x acc τ μ' W hx ⟨o,rfl,rfl,rfl⟩ hW
   have hi:i < m:=by rw [<- hlen];exact(List.getElem?_eq_some_iff.mp hx).1
   have ex:=Gb _ _ _ hx
   rw [Int.zero_add]at ex
   subst ex
   refine Ri rfl ⟨lg (by omega),Ad,Bg (by rw [List.length_map,List.length_map,List.length_range];omega),hW _ _ _ ⟨_,rfl,?_,Fb⟩⟩
   rw [List.range_succ,List.map_append,List.map_append];rfl
  ·rintro acc τ μ' ⟨o,rfl,rfl,rfl⟩
   rw [hlen]
   refine Ac (x:=MO.lst (g.pl.map λp=>Av p.1)) (by rw [Ab n1];exact e1) (Ac Ad ⟨by rw [List.length_map,List.length_map,List.length_map,List.length_range];exact seven (by omega),λp3 hp3=>⟨_,Sub.refl,?_⟩⟩)
   have S2:=S1.new (m:=.lst (((List.range m).map λk=>toS ((k+1:Nat):Int)).map Av)) (S1.none hp2)
   refine q p3 _ (S2.none hp3) ?_ (S2.new (S2.none hp3))
   rw [Ad]
   unfold Ss
   rw [List.map_append,show(g.pl.map (·.1)).map Av=g.pl.map (λp=>Av p.1) by rw [List.map_map];rfl]
abbrev nLs:List Str:=["_law_game_here","_law_stand_here"]
theorem Qi1:FnScope nLs ["_law_game_here","_law_stand_here"] (Ah sLs):=⟨rfl,rfl,rfl,by decide +kernel,rfl,by decide +kernel,by decide +kernel⟩
def Qf8:ASp:=λxs μ R=>∃(g:Gam) (k:Nat),xs=[.D (Bk g),.D (.int k)]/\k<=20/\R (Av (Gp g k)) μ
theorem Qf9{n:Nat}(F:Fun K "_law_stand" "_law_stand" sLs f fd) (m_len:mg "len" = none) (m_str:mg "str" = none):FnOk P w K mg base Fl (n+1) f fd ["_law_game_here","_law_stand_here"] (Hv K 2 Qf8):=by
 refine F.vok Qi1 λcdv A outer s H E hr=>⟨_,(Ag (Cs (Bd Mp (vv 1) (Ba Co rfl m_len PySem.boot_len (Aa (Ak Ay (vv 0) Af) Ae)) (nomark _)) (An (Bo (Ak Ay (Ak Ay (Ak Ay (vv 0) Af) (vv 1)) Af))) Bt)
   (An (Bo (Az Qq rfl m_str PyProof.Rows.boot_str (Aa (A0 Qd2 (A0 Bl Af (vv 1)) (Ba Co rfl m_len PySem.boot_len (Aa (Ak Ay (vv 0) Af) Ae))) Ae))))),?_⟩
 rintro xs μ R _ ⟨g,k,rfl,hk,q⟩
 unfold Gp at q
 refine Ac (Ai (j:=0) rfl) (dif (λc=>?_) (λc=>?_))
 ·rw [List.length_map]at c
  have hk2:k < g.pl.length:=by omega
  rw [List.getElem?_eq_getElem hk2]at q
  have e:(g.pl.map Go)[k]?=some (Go g.pl[k]):=by rw [List.getElem?_map,List.getElem?_eq_getElem hk2];rfl
  exact Ac (Ai (j:=0) rfl) (Ac (Ai e) (Ac (Ai (j:=0) rfl) ⟨μ,Sub.refl,q⟩))
 ·rw [List.length_map]at c
  rw [List.getElem?_eq_none (by omega)]at q
  have e:(1:Int)+k - ((g.pl.map Go).length:Nat)=((k+1 - g.pl.length:Nat):Int):=by rw [List.length_map];omega
  refine Ac (Ai (j:=0) rfl) ⟨?_,μ,Sub.refl,?_⟩
  ·rw [e];exact lg (by omega)
  ·rw [e];exact q
end
section
variable {P:Program}{w:World}{K:PySem.W.Frag}{mg:Str->Option Value}{base:Heap}{f:Addr}{fd:FuncData}
def leN(g:Gam)(x:Nat):Str:=g.le.getD x Str.empty
def Yg(g:Gam)(a:Arw):List Str:=["arrow",Gp g a.p,leN g a.x,":"]
abbrev Zq:List Str:=["ends"]
def Fz(g:Gam)(a:Arw):List Str:=Yg g a++a.ts.map (Gp g)
def Eb(g:Gam)(s:Say):List (List Str):=["own",toS (s.own:Int)] :: (s.as.map (Fz g)++[Zq++s.es.map (Gp g)])
structure RowsAt(μ:M)(pr:Addr)(qs:List Addr)(rws:List (List Str)):Prop where
 n:qs.length=rws.length
 a:∀(j:Nat) (q:Addr) (ws:List Str),qs[j]?=some q->rws[j]?=some ws->μ q=some (.lst (ws.map Av))
 ne:pr∉qs
theorem RowsAt.sub{μ μ':M}{pr:Addr}{qs:List Addr}{rws:List (List Str)}(h:RowsAt μ pr qs rws)(S:∀q∈qs,∀m,μ q=some m->μ' q=some m):RowsAt μ' pr qs rws :=
 ⟨h.n,λj q ws e1 e2=>S q (List.mem_of_getElem? e1) _ (h.a j q ws e1 e2),h.ne⟩
theorem RowsAt.add{μ:M}{pr q:Addr}{qs:List Addr}{rws:List (List Str)}{ws:List Str}(h:RowsAt μ pr qs rws)(e:μ q=some (.lst (ws.map Av)))(hn:pr≠q):RowsAt μ pr (qs++[q]) (rws++[ws]):=by
 refine⟨by rw [List.length_append,List.length_append,h.n];rfl,λj q' ws' e1 e2=>?_,λhm=>?_⟩
 ·by_cases hj:j < qs.length
  ·rw [List.getElem?_append_left hj]at e1
   rw [List.getElem?_append_left (by rw [<- h.n];exact hj)]at e2
   exact h.a j q' ws' e1 e2
  ·rw [List.getElem?_append_right (by omega)]at e1
   rw [List.getElem?_append_right (by rw [<- h.n];omega),<- h.n]at e2
   have hk:j - qs.length=0:=by
    have:=(List.getElem?_eq_some_iff.mp e1).1
    simp at this;omega
   rw [hk]at e1 e2
   cases e1;cases e2;exact e
 ·rcases List.mem_append.mp hm with hm | hm
  ·exact h.ne hm
  ·exact hn (by simpa using hm)
theorem Zr{g:Gam}{x:Nat}(h:x < g.le.length):atI (g.le.map PyData.str) (x:Int)=some (.str (leN g x)):=by
 refine Ai ?_
 rw [List.getElem?_map,List.getElem?_eq_getElem h]
 unfold leN
 rw [List.getD_eq_getElem?_getD,List.getElem?_eq_getElem h];rfl
theorem Qck{g:Gam}{x:Nat}(h:x < g.le.length)(hl:∀z∈g.le,z.length<=6):(leN g x).length<=6:=by
 unfold leN
 rw [List.getD_eq_getElem?_getD,List.getElem?_eq_getElem h]
 exact hl _ (List.getElem_mem h)
theorem Qgb:("arrow" : Str).length<=6/\(":" : Str).length<=6/\("ends" : Str).length<=6/\("own" : Str).length<=6:=by decide +kernel
theorem Vv:(" " : Str).length=1/\("\n" : Str).length=1:=by decide +kernel
theorem Ph{g:Gam}{s:Say}(h:ShIn g s):∀ws∈Eb g s,ws.length<=40/\∀z∈ws,z.length<=6:=by
 obtain⟨w1,w2,w3,w4⟩:=Qgb
 intro ws hws
 rcases List.mem_cons.mp hws with rfl | hws
 ·refine⟨(by decide:2<=40),λz hz=>?_⟩
  simp only [List.mem_cons,List.not_mem_nil,or_false]at hz
  rcases hz with rfl | rfl
  ·exact w4
  ·have:=h.o
   exact Pg (by omega)
 rcases List.mem_append.mp hws with hws | hws
 ·obtain⟨a,ha,rfl⟩:=List.mem_map.mp hws
  have hn:=h.tn a ha
  refine⟨?_,λz hz=>?_⟩
  ·unfold Fz
   rw [List.length_append,List.length_map]
   show 4+_<=_
   omega
  ·rcases List.mem_append.mp hz with hz | hz
   ·unfold Yg at hz
    simp only [List.mem_cons,List.not_mem_nil,or_false]at hz
    rcases hz with rfl | rfl | rfl | rfl
    ·exact w1
    ·exact h.st (h.p a ha)
    ·exact Qck (h.x a ha) h.ln
    ·exact w2
   ·obtain⟨t,ht,rfl⟩:=List.mem_map.mp hz
    exact h.st (h.t a ha t ht)
 ·rw [List.mem_singleton.mp hws]
  have hn:=h.en
  refine⟨?_,λz hz=>?_⟩
  ·rw [List.length_append,List.length_map]
   show 1+_<=_
   omega
  ·rcases List.mem_append.mp hz with hz | hz
   ·rw [List.mem_singleton.mp hz];exact w3
   ·obtain⟨t,ht,rfl⟩:=List.mem_map.mp hz
    exact h.st (h.e t ht)
theorem Ih{ws:List Str}(h:ws.length<=40/\∀z∈ws,z.length<=6):(ws.map (·.length)).sum+ws.length * (" " : Str).length<=280:=by
 have b:=StrLaws.sumLen_le ws h.2
 rw [Vv.1]
 have:=h.1
 omega
theorem Yh{ws:List Str}(h:ws.length<=40/\∀z∈ws,z.length<=6):(Txt.join " " ws).length<=280:=by
 have a:=StrLaws.join_length_le " " ws
 have:=Ih h
 show(PySem.Builtin.Str.glued " " ws).length<=_
 rw [StrLaws.glued_eq_join]
 omega
theorem Vw{g:Gam}{s:Say}:(Eb g s).length=s.as.length+2:=by
 unfold Eb
 rw [List.length_cons,List.length_append,List.length_map];rfl
theorem N1{g:Gam}{s:Say}(h:ShIn g s):(((Eb g s).map (Txt.join " ")).map (·.length)).sum+((Eb g s).map (Txt.join " ")).length * ("\n" : Str).length<=16777216:=by
 have b:=StrLaws.sumLen_le (B:=280) ((Eb g s).map (Txt.join " ")) λz hz=>by
  obtain⟨ws,hws,rfl⟩:=List.mem_map.mp hz
  exact Yh (Ph h ws hws)
 rw [Vv.2]
 rw [List.length_map,Vw]at b ⊢
 have:=h.n
 omega
abbrev nSh:List Str:=["game","saying","stands","rows","arrow","words"]
theorem Vx:FnScope nSh ["game","saying"] (Ah X5):=⟨rfl,rfl,rfl,by decide +kernel,rfl,by decide +kernel,by decide +kernel⟩
theorem Qgc:(["target","stands"]:List Str).Nodup:=by decide +kernel
theorem Qgd:(["end","stands"]:List Str).Nodup:=by decide +kernel
theorem Qge:(["words"]:List Str).Nodup:=by decide +kernel
def Qcl:ASp:=λxs μ R=>∃(g:Gam) (s:Say),xs=[.D (Bk g),.D (Au s)]/\ShIn g s/\∀ μ',Sub μ μ'->R (.D (.str (Txt.join "\n" ((Eb g s).map (Txt.join " "))))) μ'
theorem Qgf{n:Nat}(F:Fun K "show_saying" "show_saying" X5 f fd) (cSd:VCal P w K mg base n "stand_words" ["game","many"] Qf6) (m_str:mg "str" = none):FnOk P w K mg base Fl (n+1) f fd ["game","saying"] (Hv K 2 Qcl):=by
 refine F.vok Vx λcdv A outer s H E hr=>⟨_,(Ag (Aw (i:=2) Vx.nd rfl (Or.inr rfl) (Al cSd hr rfl (Aa (vv 0) (Aa (Ak Ay (vv 1) Af) Ae))))
   (Ag (Aw (i:=3) Vx.nd rfl (Or.inl rfl) (Cc (Aa (Cc (Aa Bu (Aa (Az Qq rfl m_str PyProof.Rows.boot_str (Aa (Ak Ay (vv 1) Af) Ae)) Ae))) Ae)))
   (Ag (Df PassesOwn.never rfl (Bp (Ak Ay (vv 1) Af)) (Am (i:=4) Vx.nd rfl (Or.inl rfl)) (Ag (Aw (i:=5) Vx.nd rfl (Or.inl rfl) (Cc (Aa Bu (Aa (Ak Ay (vv 2) (Ak Ay (vv 4) Af)) (Aa (Ak Ay (Ak Ay (vv 0) Af) (Ak Ay (vv 4) Af)) (Aa Bu Ae))))))
   (An (Cw (Em PySem.F.slot_list_append PySem.F.type_list_append Cr (vv 3) (Aa (A0 Bl (vv 5) (Bw (N':=["target","stands"]) (mp:=[none,some 2]) rfl (Bp (Ak Ay (vv 4) Af)) (λ_ _ _ _=>(Am (i:=0) Qgc rfl (Or.inl rfl) (Or.inr rfl))) (λ_ _ _ _=>Bs) (λ_ _ _ _=>(Ak Ay (vv 1) (vv 0))) (A5 (N:=nSh) (pn:=(Ah X5).names) (by decide +kernel)))) Ae))))))
   (Ag (Cw (Em PySem.F.slot_list_append PySem.F.type_list_append Cr (vv 3) (Aa (A0 Bl (Cc (Aa Bu Ae)) (Bw (N':=["end","stands"]) (mp:=[none,some 2]) rfl (Bp (Ak Ay (vv 1) Af)) (λ_ _ _ _=>(Am (i:=0) Qgd rfl (Or.inl rfl) (Or.inr rfl))) (λ_ _ _ _=>Bs) (λ_ _ _ _=>(Ak Ay (vv 1) (vv 0))) (A5 (N:=nSh) (pn:=(Ah X5).names) (by decide +kernel)))) Ae)))
   (An (Bo (Ki PySem.F.slot_str_join PySem.F.type_str_join G3 Bu (Aa (Bw (N':=["words"]) (mp:=[none]) rfl (Bp (vv 3)) (λ_ _ _ _=>(Am (i:=0) Qge rfl (Or.inl rfl) (Or.inr rfl))) (λ_ _ _ _=>Bs) (λ_ _ _ _=>(Ki PySem.F.slot_str_join PySem.F.type_str_join G3 Bu (Aa (vv 0) Ae))) (A5 (N:=nSh) (pn:=(Ah X5).names) (by decide +kernel))) Ae)))))))),?_⟩
 rintro xs μ R _ ⟨g,S,rfl,h,q⟩
 have ho:=h.o
 have hsn:=h.n
 have hen:=h.en
 refine Fn (Ac (Ai (j:=0) rfl) ⟨g,S.own,rfl,h.pl,h.o,λpw μ1 _ e1 S1=>?_⟩)
 have hst:∀{k:Nat},k < g.pl.length+S.own->atI ((Ss g S.own).map Av) (k:Int)=some (Av (Gp g k)):=λ{k} hk=>Ai (by rw [List.getElem?_map,Yf hk];rfl)
 refine A8 (fun τ μ'=>∃pr q0,τ=[some (.D (Bk g)),some (.D (Au S)),some (.R pw),some (.R pr),none,none]/\μ' pr=some (.lst [.R q0])/\μ pr=none/\RowsAt μ' pr [q0] [["own",toS (S.own:Int)]]/\μ' pw=some (.lst ((Ss g S.own).map Av))/\Sub μ μ') (λZ hZ=>?_) ?_
 ·refine Ac (Ai (j:=0) rfl) ⟨lg (by omega),λq0 hq0=>λpr hpr=>?_⟩
  have n1:q0≠pr:=by rintro rfl;rw [Ad]at hpr;cases hpr
  have n2:pw≠q0:=by rintro rfl;rw [e1]at hq0;cases hq0
  have n3:pw≠pr:=by rintro rfl;rw [Ab n2,e1]at hpr;cases hpr
  have S2:=S1.new (m:=.lst [.D (.str "own"),.D (.str (Str.ofString (toString (S.own:Int))))]) (S1.none hq0)
  refine hZ _ _ ⟨pr,q0,rfl,Ad,S2.none hpr,⟨rfl,λj q' ws e2 e3=>?_,by simpa using n1.symm⟩,by rw [Ab n3,Ab n2];exact e1,S2.new (S2.none hpr)⟩
  cases j with
  | zero=>cases e2;cases e3;rw [Ab n1,Ad];rfl
  | succ j=>cases e2
 rintro τ μ2 ⟨pr,q0,rfl,r2,hpr,A2,e2,S2⟩
 have npw:pw≠pr:=by rintro rfl;rw [r2]at e2;cases e3:Ss g S.own <;> rw [e3]at e2 <;> cases e2
 refine A8 (fun τ μ'=>∃(o4 o5:Option AV) (qs:List Addr),τ=[some (.D (Bk g)),some (.D (Au S)),some (.R pw),some (.R pr),o4,o5]/\μ' pr=some (.lst (qs.map .R))/\RowsAt μ' pr qs (["own",toS (S.own:Int)] :: S.as.map (Fz g))/\μ' pw=some (.lst ((Ss g S.own).map Av))/\Sub μ μ') (λZ hZ=>?_) ?_
 ·refine Ac (Ai (j:=1) rfl) (Ac (Bh S.as) ?_)
  refine En (λi τ μ'=>∃(o4 o5:Option AV) (qs:List Addr),τ=[some (.D (Bk g)),some (.D (Au S)),some (.R pw),some (.R pr),o4,o5]/\μ' pr=some (.lst (qs.map .R))/\RowsAt μ' pr qs (["own",toS (S.own:Int)] :: (S.as.take i).map (Fz g))/\μ' pw=some (.lst ((Ss g S.own).map Av))/\Sub μ μ') ⟨none,none,[q0],rfl,r2,A2,e2,S2⟩ (λ_ _ _ _=>Bh S.as) ?_ ?_
  ·rintro i y τ μ3 Z2 hy ⟨o4,o5,qs,rfl,r3,A3,e3,S3⟩ hZ2
   rw [List.getElem?_map]at hy
   obtain⟨a,ha,rfl⟩:=Option.map_eq_some_iff.mp hy
   have hi:i < S.as.length:=(List.getElem?_eq_some_iff.mp ha).1
   have hm:=List.mem_of_getElem? ha
   have htk:S.as.take (i+1)=S.as.take i++[a]:=by rw [List.take_succ,ha];rfl
   have hat:=h.tn a hm
   have hql:qs.length<=400:=by
    rw [A3.n,List.length_cons,List.length_map,List.length_take];omega
   refine A8 (fun τ μ'=>∃qw,τ=[some (.D (Bk g)),some (.D (Au S)),some (.R pw),some (.R pr),some (.D (Aj a)),some (.R qw)]/\μ' qw=some (.lst ((Yg g a).map Av))/\μ' pr=some (.lst (qs.map .R))/\RowsAt μ' pr qs (["own",toS (S.own:Int)] :: (S.as.take i).map (Fz g))/\μ' pw=some (.lst ((Ss g S.own).map Av))/\Sub μ μ') (λZ3 hZ3=>?_) ?_
   ·refine Ac (Ai (j:=0) rfl) (Ac e3 (Ac (hst (h.p a hm)) (Ac (Ai (j:=1) rfl) (Ac (Ai (j:=1) rfl) (Ac (Zr (h.x a hm)) λqw hqw=>?_)))))
    have n1:pr≠qw:=by rintro rfl;rw [r3]at hqw;cases hqw
    have n2:pw≠qw:=by rintro rfl;rw [e3]at hqw;cases hqw
    refine hZ3 _ _ ⟨qw,rfl,Ad,by rw [Ab n1];exact r3,A3.sub λq' hq' m hm'=>?_,by rw [Ab n2];exact e3,S3.new (S3.none hqw)⟩
    rw [Ab (by rintro rfl;rw [hm']at hqw;cases hqw)];exact hm'
   rintro τ μ4 ⟨qw,rfl,w4,r4,A4,e4,S4⟩
   refine⟨Ac r4 trivial,Ac (Qb9 (a:=a)) (Ac (Ax a.ts) λpc hpc=>?_)⟩
   have n1:pr≠pc:=by rintro rfl;rw [r4]at hpc;cases hpc
   have n2:pw≠pc:=by rintro rfl;rw [e4]at hpc;cases hpc
   have n3:qw≠pc:=by rintro rfl;rw [w4]at hpc;cases hpc
   refine cmap a.ts Bm (λt=>Av (Gp g t)) (fun τ=>∃o,τ=[o,some (.R pw)]) ⟨none,rfl⟩ Ad (seven (by omega)) (λ_=>Ax a.ts) ?_ ?_
   ·rintro j t τ' acc W hj ⟨o,rfl⟩ hW
    have htm:=h.t a hm t (List.mem_of_getElem? hj)
    exact Ac (x:=MO.lst ((Ss g S.own).map Av)) (by rw [Ab n2,Ab n2];exact e4) (Ac (hst htm) (hW _ ⟨_,rfl⟩))
   ·rw [Ig]
    have S5:Sub μ (Ar (Ar μ4 pc (.lst [])) pc (.lst ((a.ts.map (Gp g)).map Av))):=(S4.new (S4.none hpc)).new (S4.none hpc)
    refine Ac (x:=MO.lst ((Yg g a).map Av)) (by rw [Ab n3,Ab n3];exact w4) (Ac Ad ⟨by rw [List.length_map,List.length_map,List.length_map];exact seven (show 4+a.ts.length<=1000 by omega),λpd hpd=>?_⟩)
    have m1:pr≠pd:=by rintro rfl;rw [Ab n1,Ab n1,r4]at hpd;cases hpd
    have m2:pw≠pd:=by rintro rfl;rw [Ab n2,Ab n2,e4]at hpd;cases hpd
    have S6:=S5.new (m:=.lst ((Yg g a).map Av++(a.ts.map (Gp g)).map Av)) (S5.none hpd)
    have A6:RowsAt (Ar (Ar (Ar μ4 pc (.lst [])) pc (.lst ((a.ts.map (Gp g)).map Av))) pd (.lst ((Yg g a).map Av++(a.ts.map (Gp g)).map Av))) pr qs (["own",toS (S.own:Int)] :: (S.as.take i).map (Fz g)):=A4.sub λq' hq' m hm'=>by
     have k1:q'≠pc:=by rintro rfl;rw [hm']at hpc;cases hpc
     have k2:q'≠pd:=by rintro rfl;rw [Ab k1,Ab k1,hm']at hpd;cases hpd
     rw [Ab k2,Ab k1,Ab k1];exact hm'
    have A7:=A6.add (q:=pd) (ws:=Fz g a) (by rw [Ad];unfold Fz;rw [List.map_append]) m1
    refine Ac (x:=MO.lst (qs.map .R)) (by rw [Ab m1,Ab n1,Ab n1];exact r4) ⟨Bg (by rw [List.length_map];omega),hZ2 _ _ ⟨_,_,qs++[pd],rfl,by rw [Ad,List.map_append];rfl,?_,by rw [Ab npw,Ab m2,Ab n2,Ab n2];exact e4,S6.new hpr⟩⟩
    rw [htk,List.map_append]
    refine RowsAt.sub A7 λq' hq' m hm'=>?_
    have hne:q'≠pr:=λz=>A7.ne (z ▸ hq')
    rw [Ab hne];exact hm'
  ·rintro τ μ3 ⟨o4,o5,qs,rfl,r3,A3,e3,S3⟩
   rw [List.length_map,List.take_length]at A3
   exact hZ _ _ ⟨_,_,qs,rfl,r3,A3,e3,S3⟩
 rintro τ μ3 ⟨o4,o5,qs,rfl,r3,A3,e3,S3⟩
 have hql:qs.length<=400:=by
  rw [A3.n,List.length_cons,List.length_map];omega
 refine A8 (fun τ μ'=>∃(qs:List Addr),τ=[some (.D (Bk g)),some (.D (Au S)),some (.R pw),some (.R pr),o4,o5]/\μ' pr=some (.lst (qs.map .R))/\RowsAt μ' pr qs (Eb g S)/\Sub μ μ') (λZ hZ=>?_) ?_
 ·refine⟨Ac r3 trivial,λq1 hq1=>?_⟩
  have l1:pr≠q1:=by rintro rfl;rw [r3]at hq1;cases hq1
  have l2:pw≠q1:=by rintro rfl;rw [e3]at hq1;cases hq1
  refine Ac (Ai (j:=2) rfl) (Ac (Ax S.es) λpc hpc=>?_)
  have n0:q1≠pc:=by rintro rfl;rw [Ad]at hpc;cases hpc
  have n1:pr≠pc:=by rintro rfl;rw [Ab l1,r3]at hpc;cases hpc
  have n2:pw≠pc:=by rintro rfl;rw [Ab l2,e3]at hpc;cases hpc
  refine cmap S.es Bm (λt=>Av (Gp g t)) (fun τ=>∃o,τ=[o,some (.R pw)]) ⟨none,rfl⟩ Ad (seven (by omega)) (λ_=>Ax S.es) ?_ ?_
  ·rintro j t τ' acc W hj ⟨o,rfl⟩ hW
   have htm:=h.e t (List.mem_of_getElem? hj)
   exact Ac (x:=MO.lst ((Ss g S.own).map Av)) (by rw [Ab n2,Ab n2,Ab l2];exact e3) (Ac (hst htm) (hW _ ⟨_,rfl⟩))
  ·rw [Ig]
   have S4:=S3.new (m:=.lst [.D (.str "ends")]) (S3.none hq1)
   have S5:Sub μ (Ar (Ar (Ar μ3 q1 (.lst [.D (.str "ends")])) pc (.lst [])) pc (.lst ((S.es.map (Gp g)).map Av))):=(S4.new (S4.none hpc)).new (S4.none hpc)
   refine Ac (x:=MO.lst [.D (.str "ends")]) (by rw [Ab n0,Ab n0];exact Ad) (Ac Ad ⟨by rw [List.length_map,List.length_map];exact seven (show 1+S.es.length<=1000 by omega),λpd hpd=>?_⟩)
   have m1:pr≠pd:=by rintro rfl;rw [Ab n1,Ab n1,Ab l1,r3]at hpd;cases hpd
   have S6:=S5.new (m:=.lst ([.D (.str "ends")]++(S.es.map (Gp g)).map Av)) (S5.none hpd)
   have A6:RowsAt (Ar (Ar (Ar (Ar μ3 q1 (.lst [.D (.str "ends")])) pc (.lst [])) pc (.lst ((S.es.map (Gp g)).map Av))) pd (.lst ([.D (.str "ends")]++(S.es.map (Gp g)).map Av))) pr qs (["own",toS (S.own:Int)] :: S.as.map (Fz g)):=A3.sub λq' hq' m hm'=>by
    have k0:q'≠q1:=by rintro rfl;rw [hm']at hq1;cases hq1
    have k1:q'≠pc:=by rintro rfl;rw [Ab k0,hm']at hpc;cases hpc
    have k2:q'≠pd:=by rintro rfl;rw [Ab k1,Ab k1,Ab k0,hm']at hpd;cases hpd
    rw [Ab k2,Ab k1,Ab k1,Ab k0];exact hm'
   have A7:=A6.add (q:=pd) (ws:=Zq++S.es.map (Gp g)) (by rw [Ad,List.map_append];rfl) m1
   refine Ac (x:=MO.lst (qs.map .R)) (by rw [Ab m1,Ab n1,Ab n1,Ab l1];exact r3) ⟨Bg (by rw [List.length_map];omega),hZ _ _ ⟨qs++[pd],rfl,by rw [Ad,List.map_append];rfl,?_,S6.new hpr⟩⟩
   refine RowsAt.sub A7 λq' hq' m hm'=>?_
   have hne:q'≠pr:=λz=>A7.ne (z ▸ hq')
   rw [Ab hne];exact hm'
 rintro τ μ4 ⟨qs4,rfl,r4,A4,S4⟩
 have hql4:qs4.length<=400:=by
  rw [A4.n,Vw];omega
 refine⟨trivial,Ac (Ap r4) λpc hpc=>?_⟩
 have n1:pr≠pc:=by rintro rfl;rw [r4]at hpc;cases hpc
 refine Eg (λi acc τ μ'=>∃o,τ=[o]/\acc=(((Eb g S).take i).map (Txt.join " ")).map Av/\μ'=Ar μ4 pc (.lst acc)) ⟨none,rfl,rfl,rfl⟩ ?_ ?_ ?_
 ·rintro i acc τ μ' ⟨o,rfl,rfl,rfl⟩
  exact Ap (by rw [Ab n1];exact r4)
 ·rintro i y acc τ μ' W hy ⟨o,rfl,rfl,rfl⟩ hW
  rw [List.getElem?_map]at hy
  obtain⟨q',hq',rfl⟩:=Option.map_eq_some_iff.mp hy
  have hi:i < qs4.length:=(List.getElem?_eq_some_iff.mp hq').1
  have hi2:i < (Eb g S).length:=by rw [<- A4.n];exact hi
  have ew:=List.getElem?_eq_getElem hi2
  have e5:=A4.a i q' _ hq' ew
  have k1:q'≠pc:=by rintro rfl;rw [e5]at hpc;cases hpc
  have hfit:=Ih (Ph h _ (List.getElem_mem hi2))
  refine Ri rfl ⟨trivial,Ac (x:=MO.lst ((Eb g S)[i].map Av)) (by rw [Ab k1];exact e5) (Ac (Dq _) ⟨by omega,Ad,Bg (by rw [List.length_map,List.length_map,List.length_take];omega),hW _ _ _ ⟨_,rfl,?_,Fb⟩⟩)⟩
  rw [List.take_succ,ew,List.map_append,List.map_append];rfl
 ·rintro acc τ μ' ⟨o,rfl,rfl,rfl⟩
  rw [List.length_map,A4.n,List.take_length]
  exact Ac Ad (Ac (Dq _) ⟨N1 h,_,Sub.refl,q _ (S4.new (S4.none hpc))⟩)
end
section
variable {P:Program}{w:World}{K:PySem.W.Frag}{mg:Str->Option Value}{base:Heap}{f:Addr}{fd:FuncData}
theorem Yi{a b:Nat}{ts:List Nat}(h:ts.Sublist [a,b]):ts=[]\/ts=[a]\/ts=[b]\/ts=[a,b]:=by
 have h1:∀{c:Nat} {us:List Nat},us.Sublist [c]->us=[]\/us=[c]:=λ{c us} h=>by
  cases h with
  | cons _ h=>exact .inl (List.sublist_nil.mp h)
  | cons_cons _ h=>rw [List.sublist_nil.mp h];exact .inr rfl
 cases h with
 | cons _ h =>
  rcases h1 h with rfl | rfl
  ·exact .inl rfl
  ·exact .inr (.inr (.inl rfl))
 | cons_cons _ h =>
  rcases h1 h with rfl | rfl
  ·exact .inr (.inl rfl)
  ·exact .inr (.inr (.inr rfl))
theorem Hl{g:Gam}{s:Say}{m:Nat}(h:SayOk g s m):Gd g.pl.length s:=by
 refine⟨λa ha t ht=>(h.a a ha).t t ht,λa ha=>(h.a a ha).p,λa ha=>?_,λe he=>?_⟩
 ·have:=(h.a a ha).c
  cases c:a.c with
  | none=>rfl
  | some v=>rw [c]at this;cases this
 ·have:=h.e.subset he
  rw [List.mem_range]at this;exact this
theorem Qw{g:Gam}{s:Say}(h:SayOk g s 8)(hp:g.pl.length<=3):Sz g.pl.length s 8 8 4 2 5:=by
 have ho:=h.o
 refine⟨h.n,Nat.le_trans (List.length_filter_le _ _) h.n,λp x _=>?_,λa ha=>?_,?_⟩
 ·have hn:((s.as.filter λa=>decide (a.p=p/\a.x=x)).map Aj).Nodup:=h.d.sublist ((List.filter_sublist).map _)
  have hs:∀ts:List Nat,ts.Sublist (List.range' g.pl.length s.own)->ts.Sublist [g.pl.length,g.pl.length+1]:=λts hts=>by
   refine hts.trans ?_
   have:[g.pl.length,g.pl.length+1]=List.range' g.pl.length 2:=rfl
   rw [this]
   exact List.range'_sublist_right.mpr ho
  have:=Ct hn (ys:=([[],[g.pl.length],[g.pl.length+1],[g.pl.length,g.pl.length+1]]:List (List Nat)).map λts=>Aj ⟨p,x,ts,none⟩) λd hd=>by
   obtain⟨a,ha,rfl⟩:=List.mem_map.mp hd
   obtain⟨ha,hpx⟩:=List.mem_filter.mp ha
   have hpx:=of_decide_eq_true hpx
   have hc:=(Hl h).c a ha
   have ht:=Yi (hs _ (h.su a ha))
   obtain⟨p',x',ts,c⟩:=a
   dsimp only at hpx hc ht
   obtain⟨rfl,rfl⟩:=hpx
   subst hc
   refine List.mem_map.mpr ⟨ts,?_,rfl⟩
   rcases ht with rfl | rfl | rfl | rfl <;> simp
  rw [List.length_map]at this
  exact this
 ·have:=(h.su a ha).length_le
  rw [List.length_range']at this;omega
 ·have:=h.e.length_le
  rw [List.length_range]at this;omega
theorem Yj(x:Str):("own " : Str)++x=Txt.join " " ["own",x]:=by
 show _=PySem.Builtin.Str.glued " " ["own",x]
 rw [StrLaws.glued_eq_join]
 have e:Str.join " " ["own",x] = "own" ++ " " ++ Str.join " " [x]:=rfl
 have e2:Str.join " " [x]=x:=by simp [Str.join]
 rw [e,e2,show("own" : Str)++(" " : Str) = "own " by decide +kernel]
abbrev nRw:List Str:=["_law_game_here","_law_saying_here","_law_rows_here","_law_stand_here","_law_letter","_law_targets","_law_words"]
theorem So:FnScope nRw ["_law_game_here","_law_saying_here"] (Ah Zj):=⟨rfl,rfl,rfl,by decide +kernel,rfl,by decide +kernel,by decide +kernel⟩
theorem Qgg:(["_law_one","_law_game_here"]:List Str).Nodup:=by decide +kernel
theorem Qgh:(["_law_stand_here","_law_game_here"]:List Str).Nodup:=by decide +kernel
def Qcm:ASp:=λxs μ R=>∃(g:Gam) (s:Say),xs=[.D (Bk g),.D (Au s)]/\ShIn g s/\∀p μ',μ' p=some (.lst (((Eb g s).map (Txt.join " ")).map Av))->Sub μ μ'->R (.R p) μ'
theorem Qgi{n:Nat}(F:Fun K "_law_rows" "_law_rows" Zj f fd) (cLs:VCal P w K mg base n "_law_stand" ["_law_game_here","_law_stand_here"] Qf8) (m_str:mg "str" = none):FnOk P w K mg base Fl (n+1) f fd ["_law_game_here","_law_saying_here"] (Hv K 2 Qcm):=by
 refine F.vok So λcdv A outer s H E hr=>⟨_,(Ag (Aw (i:=2) So.nd rfl (Or.inl rfl) (Cc (Aa (A0 Bl Bu (Az Qq rfl m_str PyProof.Rows.boot_str (Aa (Ak Ay (vv 1) Af) Ae))) Ae)))
   (Ag (Df PassesOwn.never rfl (Bp (Ak Ay (vv 1) Af)) (Eu (n:=3) rfl (Bb (Am (i:=3) So.nd rfl (Or.inl rfl)) (Bb (Am (i:=4) So.nd rfl (Or.inl rfl)) (Bb (Am (i:=5) So.nd rfl (Or.inl rfl)) C2)))) (Ag (Aw (i:=6) So.nd rfl (Or.inl rfl) (Cc (Aa Bu (Aa (Al cLs hr rfl (Aa (vv 0) (Aa (vv 3) Ae))) (Aa (Ak Ay (Ak Ay (vv 0) Af) (vv 4)) (Aa Bu Ae))))))
   (An (Cw (Em PySem.F.slot_list_append PySem.F.type_list_append Cr (vv 2) (Aa (Ki PySem.F.slot_str_join PySem.F.type_str_join G3 Bu (Aa (A0 Bl (vv 6) (Bw (N':=["_law_one","_law_game_here"]) (mp:=[none,some 0]) rfl (Bp (vv 5)) (λ_ _ _ _=>(Am (i:=0) Qgg rfl (Or.inl rfl) (Or.inr rfl))) (λ_ _ _ _=>Bs) (λ_ _ _ _=>(Al cLs hr rfl (Aa (vv 1) (Aa (vv 0) Ae)))) (A5 (N:=nRw) (pn:=(Ah Zj).names) (by decide +kernel)))) Ae)) Ae))))))
   (An (Bo (A0 Bl (vv 2) (Cc (Aa (Ki PySem.F.slot_str_join PySem.F.type_str_join G3 Bu (Aa (A0 Bl (Cc (Aa Bu Ae)) (Bw (N':=["_law_stand_here","_law_game_here"]) (mp:=[none,some 0]) rfl (Bp (Ak Ay (vv 1) Af)) (λ_ _ _ _=>(Am (i:=0) Qgh rfl (Or.inl rfl) (Or.inr rfl))) (λ_ _ _ _=>Bs) (λ_ _ _ _=>(Al cLs hr rfl (Aa (vv 1) (Aa (vv 0) Ae)))) (A5 (N:=nRw) (pn:=(Ah Zj).names) (by decide +kernel)))) Ae)) Ae))))))),?_⟩
 rintro xs μ R _ ⟨g,S,rfl,h,q⟩
 have ho:=h.o
 have hsn:=h.n
 have hen:=h.en
 have hpl:=h.pl
 have hrw:=Ph h
 have hol:("own " : Str).length+(toS (S.own:Int)).length<=sizeLine:=by
  have:=Pg (n:=S.own) (by omega)
  have e:("own " : Str).length=4:=by decide +kernel
  exact seven (by omega)
 refine A8 (fun τ μ'=>∃pr,τ=[some (.D (Bk g)),some (.D (Au S)),some (.R pr),none,none,none,none]/\μ' pr=some (.lst ([Txt.join " " ["own",toS (S.own:Int)]].map Av))/\μ pr=none/\Sub μ μ') (λZ hZ=>?_) ?_
 ·refine Ac (Ai (j:=0) rfl) ⟨lg (by omega),hol,λpr hpr=>hZ _ _ ⟨pr,rfl,?_,hpr,Sub.refl.new hpr⟩⟩
  rw [Ad,<- Yj];rfl
 rintro τ μ1 ⟨pr,rfl,r1,hpr,S1⟩
 refine A8 (fun τ μ'=>∃o3 o4 o5 o6,τ=[some (.D (Bk g)),some (.D (Au S)),some (.R pr),o3,o4,o5,o6]/\μ' pr=some (.lst ((Txt.join " " ["own",toS (S.own:Int)] :: (S.as.map (Fz g)).map (Txt.join " ")).map Av))/\Sub μ μ') (λZ hZ=>?_) ?_
 ·refine Ac (Ai (j:=1) rfl) (Ac (Bh S.as) ?_)
  refine En (λi τ μ'=>∃o3 o4 o5 o6,τ=[some (.D (Bk g)),some (.D (Au S)),some (.R pr),o3,o4,o5,o6]/\μ' pr=some (.lst ((Txt.join " " ["own",toS (S.own:Int)] :: ((S.as.take i).map (Fz g)).map (Txt.join " ")).map Av))/\Sub μ μ') ⟨none,none,none,none,rfl,r1,S1⟩ (λ_ _ _ _=>Bh S.as) ?_ ?_
  ·rintro i y τ μ3 Z2 hy ⟨o3,o4,o5,o6,rfl,r3,S3⟩ hZ2
   rw [List.getElem?_map]at hy
   obtain⟨a,ha,rfl⟩:=Option.map_eq_some_iff.mp hy
   have hi:i < S.as.length:=(List.getElem?_eq_some_iff.mp ha).1
   have hm:=List.mem_of_getElem? ha
   have htk:S.as.take (i+1)=S.as.take i++[a]:=by rw [List.take_succ,ha];rfl
   have hat:=h.tn a hm
   have hap:=h.p a hm
   have hax:=h.x a hm
   have hts:=h.t a hm
   have hac:=h.c a hm
   have hfit:=Ih (hrw (Fz g a) (List.mem_cons_of_mem _ (List.mem_append_left _ (List.mem_map.mpr ⟨a,hm,rfl⟩))))
   obtain⟨p,x,ts,c⟩:=a
   dsimp only at hat hap hax hts hac
   subst hac
   refine⟨rfl,Vk ?_⟩
   dsimp only [List.set]
   refine A8 (fun τ μ'=>∃qw,τ=[some (.D (Bk g)),some (.D (Au S)),some (.R pr),some (.D (.int p)),some (.D (.int x)),some (.D (Bq ts)),some (.R qw)]/\μ' qw=some (.lst ((Yg g ⟨p,x,ts,none⟩).map Av))/\μ' pr=some (.lst ((Txt.join " " ["own",toS (S.own:Int)] :: ((S.as.take i).map (Fz g)).map (Txt.join " ")).map Av))/\Sub μ μ') (λZ3 hZ3=>?_) ?_
   ·refine⟨g,p,rfl,by omega,Ac (Ai (j:=1) rfl) (Ac (Zr hax) λqw hqw=>?_)⟩
    have n1:pr≠qw:=by rintro rfl;rw [r3]at hqw;cases hqw
    exact hZ3 _ _ ⟨qw,rfl,Ad,by rw [Ab n1];exact r3,S3.new (S3.none hqw)⟩
   rintro τ μ4 ⟨qw,rfl,w4,r4,S4⟩
   refine⟨Ac r4 trivial,trivial,Ac (Ax ts) λpc hpc=>?_⟩
   have n1:pr≠pc:=by rintro rfl;rw [r4]at hpc;cases hpc
   have n3:qw≠pc:=by rintro rfl;rw [w4]at hpc;cases hpc
   refine cmap ts Bm (λt=>Av (Gp g t)) (fun τ=>∃o,τ=[o,some (.D (Bk g))]) ⟨none,rfl⟩ Ad (seven (by omega)) (λ_=>Ax ts) ?_ ?_
   ·rintro j t τ' acc W hj ⟨o,rfl⟩ hW
    have htm:=hts t (List.mem_of_getElem? hj)
    exact⟨g,t,rfl,by omega,hW _ ⟨_,rfl⟩⟩
   ·rw [Ig]
    have S5:Sub μ (Ar (Ar μ4 pc (.lst [])) pc (.lst ((ts.map (Gp g)).map Av))):=(S4.new (S4.none hpc)).new (S4.none hpc)
    refine Ac (x:=MO.lst ((Yg g ⟨p,x,ts,none⟩).map Av)) (by rw [Ab n3,Ab n3];exact w4) (Ac Ad ⟨by rw [List.length_map,List.length_map,List.length_map];exact seven (show 4+ts.length<=1000 by omega),λpd hpd=>?_⟩)
    have m1:pr≠pd:=by rintro rfl;rw [Ab n1,Ab n1,r4]at hpd;cases hpd
    have S6:=S5.new (m:=.lst ((Yg g ⟨p,x,ts,none⟩).map Av++(ts.map (Gp g)).map Av)) (S5.none hpd)
    rw [<- List.map_append]
    refine Ac Ad (Ac (Dq _) ⟨Nat.le_trans hfit (by decide),Ac (x:=MO.lst ((Txt.join " " ["own",toS (S.own:Int)] :: ((S.as.take i).map (Fz g)).map (Txt.join " ")).map Av)) (by rw [Ab m1,Ab n1,Ab n1];exact r4) ⟨Bg (by simp only [List.length_map,List.length_cons,List.length_take];omega),hZ2 _ _ ⟨_,_,_,_,rfl,?_,?_⟩⟩⟩)
    ·rw [Ad,htk]
     simp only [List.map_append,List.map_cons,List.map_nil,List.cons_append]
     rfl
    ·rw [List.map_append];exact S6.new hpr
  ·rintro τ μ3 ⟨o3,o4,o5,o6,rfl,r3,S3⟩
   rw [List.length_map,List.take_length]at r3
   exact hZ _ _ ⟨_,_,_,_,rfl,r3,S3⟩
 rintro τ μ3 ⟨o3,o4,o5,o6,rfl,r3,S3⟩
 have hfit:=Ih (hrw (Zq++S.es.map (Gp g)) (List.mem_cons_of_mem _ (List.mem_append_right _ (by simp))))
 refine⟨trivial,λq1 hq1=>?_⟩
 have l1:pr≠q1:=by rintro rfl;rw [r3]at hq1;cases hq1
 refine Ac (Ai (j:=2) rfl) (Ac (Ax S.es) λpc hpc=>?_)
 have n0:q1≠pc:=by rintro rfl;rw [Ad]at hpc;cases hpc
 have n1:pr≠pc:=by rintro rfl;rw [Ab l1,r3]at hpc;cases hpc
 refine cmap S.es Bm (λt=>Av (Gp g t)) (fun τ=>∃o,τ=[o,some (.D (Bk g))]) ⟨none,rfl⟩ Ad (seven (by omega)) (λ_=>Ax S.es) ?_ ?_
 ·rintro j t τ' acc W hj ⟨o,rfl⟩ hW
  have htm:=h.e t (List.mem_of_getElem? hj)
  exact⟨g,t,rfl,by omega,hW _ ⟨_,rfl⟩⟩
 ·rw [Ig]
  have S4:=S3.new (m:=.lst (Zq.map Av)) (S3.none hq1)
  have S5:Sub μ (Ar (Ar (Ar μ3 q1 (.lst (Zq.map Av))) pc (.lst [])) pc (.lst ((S.es.map (Gp g)).map Av))):=(S4.new (S4.none hpc)).new (S4.none hpc)
  refine Ac (x:=MO.lst (Zq.map Av)) (by rw [Ab n0,Ab n0];exact Ad) (Ac Ad ⟨by rw [List.length_map,List.length_map,List.length_map];exact seven (show 1+S.es.length<=1000 by omega),λpd hpd=>?_⟩)
  have m1:pr≠pd:=by rintro rfl;rw [Ab n1,Ab n1,Ab l1,r3]at hpd;cases hpd
  have S6:=S5.new (m:=.lst ((Zq++S.es.map (Gp g)).map Av)) (S5.none hpd)
  rw [<- List.map_append]
  refine Ac Ad (Ac (Dq _) ⟨Nat.le_trans hfit (by decide),λpe hpe=>?_⟩)
  have m2:pr≠pe:=by rintro rfl;rw [Ab m1,Ab n1,Ab n1,Ab l1,r3]at hpe;cases hpe
  have S7:=S6.new (m:=.lst [Av (Txt.join " " (Zq++S.es.map (Gp g)))]) (S6.none hpe)
  refine Ac (x:=MO.lst ((Txt.join " " ["own",toS (S.own:Int)] :: (S.as.map (Fz g)).map (Txt.join " ")).map Av)) (by rw [Ab m2,Ab m1,Ab n1,Ab n1,Ab l1];exact r3) (Ac Ad ⟨by simp only [List.length_map,List.length_cons,List.length_nil];exact seven (by omega),λp hp=>⟨_,Sub.refl,q p _ ?_ (S7.new (S7.none hp))⟩⟩)
  rw [Ad]
  unfold Eb
  simp only [List.map_append,List.map_cons,List.map_nil,List.cons_append]
  rfl
end
section
variable {P:Program}{w:World}{K:PySem.W.Frag}{mg:Str->Option Value}{base:Heap}{f:Addr}{fd:FuncData}
theorem Jt{i:Nat}(h:i<=1000):OkB 0 40 (.int i):=Wv (by omega) (by omega)
theorem Ju{ns:List Nat}{n:Nat}(h:∀x∈ns,x<=1000)(hl:ns.length<=n):OkB 1 (n * 41) (Bq ns):=(OkBs.all (dep:=0) (w:=40) (n:=n) (λd hd=>by
 obtain⟨x,hx,rfl⟩:=List.mem_map.mp hd
 exact Jt (h x hx)) (by rw [List.length_map];exact hl)).tup
theorem Vy{z:Str}(h:lets z)(hl:z.length<=6):OkB 0 40 (.str z):=⟨L4 h,Nat.le_refl _,Nat.le_trans hl (by decide),rfl,rfl⟩
theorem Qcn{p:Str×Nat}(h:lets p.1)(hl:p.1.length<=6)(h2:p.2 < 2):OkB 1 82 (Go p) :=
 (OkBs.cons' (Vy h hl) (OkBs.cons' (w3:=41) (Jt (i:=p.2) (by omega)) (OkBs.nil (wt:=0)) (by decide)) (by decide)).tup
theorem Qco{r:Rul}{pl le:Nat}(h:RulOk pl le r)(h1:pl<=3)(h2:le<=3):OkB 2 206 (E8 r):=by
 have a:=h.p
 have b:=h.x
 have c:=h.q
 have b0:∀{i:Nat},i<=1000->OkB 1 40 (.int i):=λ{i} h0=>(Jt h0).mono (by decide) (Nat.le_refl _)
 exact(OkBs.cons' (b0 (i:=r.p) (by omega)) (OkBs.cons' (w3:=165) (b0 (i:=r.x) (by omega)) (OkBs.cons' (w3:=124) (b0 (i:=r.q) (by omega)) (OkBs.cons' (w3:=83) (Ju (n:=2) (λx hx=>by have:=h.w x hx;omega) h.n) (OkBs.nil (wt:=0)) (by decide)) (by decide)) (by decide)) (by decide)).tup
theorem Qcp{g:Gam}(h:GamOk g 2):OkB 4 789 (Bk g):=by
 have hp:OkBs 1 (3 * 83) (g.pl.map Go):=OkBs.all (λd hd=>by
  obtain⟨p,hp,rfl⟩:=List.mem_map.mp hd
  exact Qcn (h.pn.l _ (List.mem_map.mpr ⟨p,hp,rfl⟩)) (h.pn.n _ (List.mem_map.mpr ⟨p,hp,rfl⟩)) (h.hd p hp)) (by rw [List.length_map];exact h.p1)
 have hl:OkBs 0 (3 * 41) (g.le.map PyData.str):=OkBs.all (λd hd=>by
  obtain⟨z,hz,rfl⟩:=List.mem_map.mp hd
  exact Vy (h.ln.l z hz) (h.ln.n z hz)) (by rw [List.length_map];exact h.l1)
 have hr:OkBs 2 (2 * 207) (g.rs.map E8):=OkBs.all (λd hd=>by
  obtain⟨r,hr,rfl⟩:=List.mem_map.mp hd
  exact Qco (h.ru r hr) h.p1 h.l1) (by rw [List.length_map];exact h.r1)
 exact(OkBs.cons' (dep:=3) (hp.tup.mono (by decide) (Nat.le_refl _)) (OkBs.cons' (w3:=539) (hl.tup.mono (by decide) (Nat.le_refl _)) (OkBs.cons' (w3:=415) hr.tup (OkBs.nil (wt:=0)) (by decide)) (by decide)) (by decide)).tup
theorem Qcq{a:Arw}(h1:a.p<=1000)(h2:a.x<=1000)(h3:∀t∈a.ts,t<=1000)(h4:a.ts.length<=5)(h5:a.c=none):OkB 2 288 (Aj a):=by
 obtain⟨p,x,ts,c⟩:=a
 dsimp only at h5
 subst h5
 have b0:∀{i:Nat},i<=1000->OkB 1 40 (.int i):=λ{i} h0=>(Jt h0).mono (by decide) (Nat.le_refl _)
 exact(OkBs.cons' (b0 h1) (OkBs.cons' (w3:=247) (b0 h2) (OkBs.cons' (w3:=206) (Ju (n:=5) h3 h4) (OkBs.nil (wt:=0)) (by decide)) (by decide)) (by decide)).tup
theorem Vz{g:Gam}{s:Say}(h:SayOk g s 8){a:Arw}(ha:a∈s.as):a.ts.length<=5:=by
 have:=(h.su a ha).length_le
 have:=h.o
 rw [List.length_range']at *;omega
theorem V0{g:Gam}{s:Say}(h:SayOk g s 8)(hp:g.pl.length<=3):s.es.length<=5:=by
 have:=h.e.length_le
 have:=h.o
 rw [List.length_range]at *;omega
theorem V1{g:Gam}{s:Say}(h:SayOk g s 8)(hp:g.pl.length<=3)(hl:g.le.length<=3):OkB 4 2560 (Au s):=by
 have gd:=Hl h
 have ho:=h.o
 have ha:OkBs 2 (8 * 289) (s.as.map Aj):=OkBs.all (λd hd=>by
  obtain⟨a,ha,rfl⟩:=List.mem_map.mp hd
  have h1:=gd.p a ha
  have h2:=(h.a a ha).x
  exact Qcq (by omega) (by omega) (λt ht=>by have:=(gd.t a ha t ht).2;omega) (Vz h ha) (gd.c a ha)) (by rw [List.length_map];exact h.n)
 exact(OkBs.cons' (dep:=3) ((Jt (i:=s.own) (by omega)).mono (by decide) (Nat.le_refl _)) (OkBs.cons' (w3:=2519) ha.tup (OkBs.cons' (w3:=206) ((Ju (n:=5) (λe he=>by have:=gd.e e he;omega) (V0 h hp)).mono (by decide) (Nat.le_refl _)) (OkBs.nil (wt:=0)) (by decide)) (by decide)) (by decide)).tup
theorem Qgj{g:Gam}{s t:Say}(h:SayOk g s 8)(k:SayOk g t 8)(hp:g.pl.length<=3):BoIn g.pl.length s t :=
 ⟨Hl h,Hl k,λa ha=>(List.pairwise_lt_range' (step:=1)).sublist (h.su a ha),λa ha=>(List.pairwise_lt_range' (step:=1)).sublist (k.su a ha),λa ha=>Vz h ha,λa ha=>Vz k ha,h.n,k.n,List.pairwise_lt_range.sublist h.e,List.pairwise_lt_range.sublist k.e,V0 h hp,V0 k hp⟩
theorem Qi3{np L:Nat}{s t j:Say}(J:Jn np (Hq np s t) (Jw np s t) s t j)(h1:∀a∈s.as,a.x < L)(h2:∀a∈t.as,a.x < L):∀a∈j.as,a.x < L:=λa ha=>by
 rw [J.a]at ha
 rcases List.mem_append.mp ha with h | h
 ·exact h1 a h
 ·obtain⟨c,hc,rfl⟩:=Fo.mp h
  exact h2 c hc
theorem Qi4{np L:Nat}{s t j:Say}(J:Jn np (Ny np s t) (Sj np s t) s t j)(h1:∀a∈s.as,a.x < L)(h2:∀a∈t.as,a.x < L):∀a∈j.as,a.x < L:=λa ha=>by
 rw [J.a]at ha
 rcases List.mem_append.mp ha with h | h
 ·rcases List.mem_append.mp (List.mem_filter.mp h).1 with h | h
  ·exact h1 a h
  ·obtain⟨c,hc,rfl⟩:=Fo.mp h
   exact h2 c hc
 ·obtain⟨b,hb,hp,c,hc,f1,f2,rfl⟩:=Fh.mp h
  exact h1 b hb
theorem V2{np:Nat}{j:Say}{a b c d e:Nat}(z:Sz np j a b c d e)(g:Gd np j)(h1:a<=900)(h2:d<=900)(h3:e<=900):Sm 4 (Au j) :=
 Qcj (by have:=z.n;omega) (λx hx=>⟨by have:=z.t x hx;omega,g.c x hx⟩) (by have:=z.e;omega)
theorem Qi5{a b:PyData}{i j:Nat}{τ:ASt}{μ:M}{R:ASt->M->Prop}(h:R ((τ.set i (some (.D a))).set j (some (.D b))) μ):Kj (Et i) (Kj (Et j) Qbd) (List.map AV.D [a,b]) τ μ R:=h
abbrev Qi6:List Str:=["_law_script","_law_state","_law_game_here","_law_one","_law_other","_law_kept","_law_first","_law_second","_law_told"]
theorem Fp:FnScope Qi6 ["_law_script"] (Ah J4):=⟨rfl,rfl,rfl,by decide +kernel,rfl,by decide +kernel,by decide +kernel⟩
def spL:ASp:=λxs μ R=>∃(ns:List Int),xs=[.D (J5 ns)]/\ns.length<=63/\∀ μ',R (.D (.bool true)) μ'
theorem Yk{n:Nat}(F:Fun K "law" "law" J4 f fd) (cGa:VCal P w K mg base n "_law_game" ["_law_state","_law_most"] Qb8) (cSa:VCal P w K mg base n "_law_saying" ["_law_state","_law_game_here","_law_most"] Qca) (cDr:VCal P w K mg base n "_law_draw" ["_law_state","_law_many"] Pb) (cEi:VCal P w K mg base n "either" ["game","one","other"] Qce) (cBo:VCal P w K mg base n "both" ["game","one","other"] Qcf) (cLe:VCal P w K mg base n "_law_either" ["_law_game_here","_law_one","_law_other"] Qch) (cLb:VCal P w K mg base n "_law_both" ["_law_game_here","_law_one","_law_other"] Qci) (cAl:VCal P w K mg base n "_law_alike" ["_law_found","_law_due"] (Sn 4)) (cSh:VCal P w K mg base n "show_saying" ["game","saying"] Qcl) (cRw:VCal P w K mg base n "_law_rows" ["_law_game_here","_law_saying_here"] Qcm) (m_list:mg "list" = none) (m_repr:mg "repr" = none):FnOk P w K mg base Fl (n+1) f fd ["_law_script"] (Hv K 1 spL):=by
 refine F.vok Fp λcdv A outer s H E hr=>⟨_,(Ag (Aw (i:=1) Fp.nd rfl (Or.inl rfl) (Cc (Aa (Az Is rfl m_list PyProof.Rows.boot_list (Aa (vv 0) Ae)) (Aa Af (Aa Af (Aa Af Ae))))))
   (Ag (Aw (i:=2) Fp.nd rfl (Or.inl rfl) (Al cGa hr rfl (Aa (vv 1) (Aa Af Ae))))
   (Ag (Aw (i:=3) Fp.nd rfl (Or.inl rfl) (Al cSa hr rfl (Aa (vv 1) (Aa (vv 2) (Aa Af Ae)))))
   (Ag (Aw (i:=4) Fp.nd rfl (Or.inl rfl) (Al cSa hr rfl (Aa (vv 1) (Aa (vv 2) (Aa Af Ae)))))
   (Ag (Cs (Bd (Hn hr) (Al cDr hr rfl (Aa (vv 1) (Aa Af Ae))) Af (nomark _)) (An (Aw (i:=4) Fp.nd rfl (Or.inl rfl) (vv 3))) Bt)
   (Ag (Aw (i:=5) Fp.nd rfl (Or.inl rfl) (Ba (U5 hr) rfl m_repr PyProof.Rows.boot_repr (Aa (Cb (Aa (vv 2) (Aa (vv 3) (Aa (vv 4) Ae)))) Ae)))
   (Ag (Df PassesOwn.never rfl (Bp (Cc (Aa (Cb (Aa (vv 3) (Aa (vv 4) Ae))) (Aa (Cb (Aa (vv 4) (Aa (vv 3) Ae))) (Aa (Cb (Aa (vv 3) (Aa (vv 4) Ae))) Ae))))) (Eu (n:=2) rfl (Bb (Am (i:=6) Fp.nd rfl (Or.inl rfl)) (Bb (Am (i:=7) Fp.nd rfl (Or.inl rfl)) C2))) (Ag (Cs (Lm (Gr (Al cAl hr rfl (Aa (Al cEi hr rfl (Aa (vv 2) (Aa (vv 6) (Aa (vv 7) Ae)))) (Aa (Al cLe hr rfl (Aa (vv 2) (Aa (vv 6) (Aa (vv 7) Ae)))) Ae))))) (An (Bo Mn)) Bt)
   (An (Cs (Lm (Gr (Al cAl hr rfl (Aa (Al cBo hr rfl (Aa (vv 2) (Aa (vv 6) (Aa (vv 7) Ae)))) (Aa (Al cLb hr rfl (Aa (vv 2) (Aa (vv 6) (Aa (vv 7) Ae)))) Ae))))) (An (Bo Mn)) Bt))))
   (Ag (Aw (i:=8) Fp.nd rfl (Or.inl rfl) (Al cBo hr rfl (Aa (vv 2) (Aa (vv 3) (Aa (vv 4) Ae)))))
   (Ag (Cs (Lm (Gr (Al cAl hr rfl (Aa (Al cEi hr rfl (Aa (vv 2) (Aa (vv 8) (Aa (vv 3) Ae)))) (Aa (Al cLe hr rfl (Aa (vv 2) (Aa (vv 8) (Aa (vv 3) Ae)))) Ae))))) (An (Bo Mn)) Bt)
   (Ag (Cs (Bd Qes (Al cSh hr rfl (Aa (vv 2) (Aa (Al cEi hr rfl (Aa (vv 2) (Aa (vv 8) (Aa (vv 3) Ae)))) Ae))) (Ki PySem.F.slot_str_join PySem.F.type_str_join G3 Bu (Aa (Al cRw hr rfl (Aa (vv 2) (Aa (Al cLe hr rfl (Aa (vv 2) (Aa (vv 8) (Aa (vv 3) Ae)))) Ae))) Ae)) (nomark _)) (An (Bo Mn)) Bt)
   (An (Bo (Lk Qer (Ba (U5 hr) rfl m_repr PyProof.Rows.boot_repr (Aa (Cb (Aa (vv 2) (Aa (vv 3) (Aa (vv 4) Ae)))) Ae)) (vv 5) (nomark _)))))))))))))),?_⟩
 rintro xs μ R _ ⟨ns,rfl,hns,q⟩
 refine A8 (fun τ μ'=>∃a l,τ=[some (.D (J5 ns)),some (.R a),none,none,none,none,none,none,none]/\Pot μ' a l) (λZ hZ=>?_) ?_
 ·refine Ac (Sc _ ns) λl hl=>λa ha=>?_
  have hla:l≠a:=by rintro rfl;rw [Ad]at ha;cases ha
  exact hZ _ _ ⟨a,l,rfl,0,0,0,ns,Ad,by rw [Ab hla,Ad],Int.le_refl _,hla.symm⟩
 rintro τ μ1 ⟨a,l,rfl,P1⟩
 refine Fn ⟨a,l,2,rfl,by decide,P1,λg μ2 hg P2 _=>?_⟩
 have hp0:=hg.p0
 have hp1:=hg.p1
 have hl0:=hg.l0
 have hl1:=hg.l1
 refine Fn ⟨a,l,g,8,rfl,hp0,hp1,hl0,hl1,by decide,P2,λs μ3 hs P3 _=>?_⟩
 refine Fn ⟨a,l,g,8,rfl,hp0,hp1,hl0,hl1,by decide,P3,λt0 μ4 ht0 P4 _=>?_⟩
 refine A8 (fun τ μ'=>∃t,τ=[some (.D (J5 ns)),some (.R a),some (.D (Bk g)),some (.D (Au s)),some (.D (Au t)),none,none,none,none]/\SayOk g t 8) (λZ hZ=>?_) ?_
 ·exact⟨a,l,4,rfl,P4,by decide,by decide,λv μ5 hv P5 S5=>ieq (λc=>hZ _ _ ⟨s,rfl,hs⟩) (λc=>hZ _ _ ⟨t0,rfl,ht0⟩)⟩
 rintro τ μ5 ⟨t,rfl,ht⟩
 have hK:OkD (.tuple [Bk g,Au s,Au t]):=(OkBs.cons' (w3:=6000) (Qcp hg) (OkBs.cons' (w3:=5200) (V1 hs hp1 hl1) (OkBs.cons' (w3:=2600) (V1 ht hp1 hl1) (OkBs.nil (wt:=0)) (by decide)) (by decide)) (by decide)).tup.ok (by decide) (by decide)
 refine Fn (Ac rfl ⟨hK,?_⟩)
 generalize hsh:(PyData.tuple [Bk g,Au s,Au t]).shown=T
 refine A8 (fun τ μ'=>∃o6 o7,τ=[some (.D (J5 ns)),some (.R a),some (.D (Bk g)),some (.D (Au s)),some (.D (Au t)),some (.D (.str T)),o6,o7,none]) (λZ hZ=>?_) ?_
 ·intro p0 hp0
  refine Ac (Ap Ad) ?_
  refine En (λi τ μ'=>∃o6 o7,τ=[some (.D (J5 ns)),some (.R a),some (.D (Bk g)),some (.D (Au s)),some (.D (Au t)),some (.D (.str T)),o6,o7,none]/\Sub (Ar μ5 p0 (.lst [.D (.tuple [Au s,Au t]),.D (.tuple [Au t,Au s]),.D (.tuple [Au s,Au t])])) μ') ⟨none,none,rfl,Sub.refl⟩ (λ_ _ _ ⟨_,_,_,S⟩=>Ap (S _ _ Ad)) ?_ (fun τ μ' ⟨_,_,e,_⟩=>hZ _ _ ⟨_,_,e⟩)
  rintro i y τ μ6 Z2 hy ⟨o6,o7,rfl,S6⟩ hZ2
  obtain⟨u,v,rfl,hu,hv⟩:∃u v,y=.D (.tuple [Au u,Au v])/\SayOk g u 8/\SayOk g v 8:=by
   match i,hy with
   | 0,hy=>exact⟨s,t,(Option.some.inj hy).symm,hs,ht⟩
   | 1,hy=>exact⟨t,s,(Option.some.inj hy).symm,ht,hs⟩
   | 2,hy=>exact⟨s,t,(Option.some.inj hy).symm,hs,ht⟩
   | i+3,hy=>cases hy
  have gu:=Hl hu
  have gv:=Hl hv
  have zu:=Qw hu hp1
  have zv:=Qw hv hp1
  refine⟨rfl,Qi5 ?_⟩
  dsimp only [List.set]
  refine A8 (fun τ μ'=>τ=[some (.D (J5 ns)),some (.R a),some (.D (Bk g)),some (.D (Au s)),some (.D (Au t)),some (.D (.str T)),some (.D (Au u)),some (.D (Au v)),none]/\Sub (Ar μ5 p0 (.lst [.D (.tuple [Au s,Au t]),.D (.tuple [Au t,Au s]),.D (.tuple [Au s,Au t])])) μ') (λZ3 hZ3=>?_) ?_
  ·refine⟨g,u,v,8,8,4,2,5,8,8,4,2,5,rfl,gu,gv,zu,zv,by decide,by decide,by decide,λj1 μ7 J1 Z1 S7=>⟨g,u,v,rfl,zv.le (by decide) (by decide) (by decide),gu.c,gv.c,by have:=zu.n;have:=zv.n;omega,by have:=zu.e;have:=zv.e;omega,λj2 μ8 J2 S8=>?_⟩⟩
   obtain rfl:=Ic J1 J2
   exact⟨_,rfl,V2 Z1 (Vp J1 gu gv) (by decide) (by decide) (by decide),fun μ9 S9=>Oj rfl (hZ3 _ _ ⟨rfl,λb m h=>S9 b m (S8 b m (S7 b m (S6 b m h)))⟩)⟩
  rintro τ μ7 ⟨rfl,S7⟩
  refine⟨g,u,v,8,8,4,2,5,8,8,4,2,5,rfl,gu,gv,zu,zv,by decide,by decide,by decide,by decide,λj1 μ8 J1 Z1 S8=>⟨g,u,v,rfl,Qgj hu hv hp1,λj2 μ9 J2 S9=>?_⟩⟩
  obtain rfl:=Ic J1 J2
  exact⟨_,rfl,V2 Z1 (Zn J1 gu gv) (by decide) (by decide) (by decide),fun μ10 S10=>Oj rfl (hZ2 _ _ ⟨_,_,rfl,λb m h=>S10 b m (S9 b m (S8 b m (S7 b m h)))⟩)⟩
 rintro τ μ6 ⟨o6,o7,rfl⟩
 have gs:=Hl hs
 have gt:=Hl ht
 have zs:=Qw hs hp1
 have zt:=Qw ht hp1
 have xs:=λa ha=>(hs.a a ha).x
 have xt:=λa ha=>(ht.a a ha).x
 refine Fn ⟨g,s,t,8,8,4,2,5,8,8,4,2,5,rfl,gs,gt,zs,zt,by decide,by decide,by decide,by decide,λjB μ7 JB zB S7=>?_⟩
 have gB:=Zn JB gs gt
 have xB:=Qi4 JB xs xt
 have b1:jB.as.length+s.as.length < 300:=by have:=zB.n;have:=zs.n;omega
 have b2:jB.es.length+s.es.length < 60:=by have:=zB.e;have:=zs.e;omega
 have b3:SayLe s:=zs.le (by decide) (by decide) (by decide)
 refine A8 (fun τ μ'=>τ=[some (.D (J5 ns)),some (.R a),some (.D (Bk g)),some (.D (Au s)),some (.D (Au t)),some (.D (.str T)),o6,o7,some (.D (Au jB))]) (λZ hZ=>?_) ?_
 ·refine⟨g,jB,s,48,16,16,4,10,8,8,4,2,5,rfl,gB,gs,zB,zs,by decide,by decide,by decide,λj1 μ8 J1 Z1 S8=>⟨g,jB,s,rfl,b3,gB.c,gs.c,b1,b2,λj2 μ9 J2 S9=>?_⟩⟩
  obtain rfl:=Ic J1 J2
  exact⟨_,rfl,V2 Z1 (Vp J1 gB gs) (by decide) (by decide) (by decide),fun μ10 S10=>Oj rfl (hZ _ _ rfl)⟩
 rintro τ μ8 rfl
 refine A8 (fun τ μ'=>τ=[some (.D (J5 ns)),some (.R a),some (.D (Bk g)),some (.D (Au s)),some (.D (Au t)),some (.D (.str T)),o6,o7,some (.D (Au jB))]) (λZ hZ=>?_) ?_
 ·refine⟨g,jB,s,48,16,16,4,10,8,8,4,2,5,rfl,gB,gs,zB,zs,by decide,by decide,by decide,λj1 μ9 J1 Z1 S9=>?_⟩
  have g1:=Vp J1 gB gs
  have hI:ShIn g j1:=⟨hp1,λp hp=>hg.pn.n _ (List.mem_map.mpr ⟨p,hp,rfl⟩),hg.ln.n,by have:=J1.o;have:=JB.o;have:=hs.o;have:=ht.o;omega,by have:=Z1.n;omega,g1.p,Qi3 J1 xB xs,λa ha t ht=>(g1.t a ha t ht).2,λa ha=>by have:=Z1.t a ha;omega,g1.c,g1.e,by have:=Z1.e;omega⟩
  refine⟨g,j1,rfl,hI,fun μ10 S10=>⟨trivial,g,jB,s,rfl,b3,gB.c,gs.c,b1,b2,λj2 μ11 J2 S11=>?_⟩⟩
  obtain rfl:=Ic J1 J2
  refine⟨g,j1,rfl,hI,λp μ12 e12 S12=>Ac e12 (Ac (Dq _) ⟨N1 hI,Oj (by rw [decide_eq_true rfl];rfl) (hZ _ _ rfl)⟩)⟩
 rintro τ μ9 rfl
 refine Ac rfl ⟨hK,_,Sub.refl,?_⟩
 rw [hsh,decide_eq_true rfl]
 exact q _
def Qx(K:PySem.W.Frag):Sp:=λvs H Q _=>∃(a:Addr) (ns:List Int),vs=[.ref a]/\Ec K H a (ns.map V.int)/\Only H/\ns.length<=63/\∀H',Q (.bl true) H'
theorem Qz{H:Hp}:∀(ns:List Int),Ao K H (ns.map .int) (ns.map V.int)
 | []=>Ds
 | n :: ns=>Dc Fu (Qz ns)
theorem Qcr{n:Nat}(F:Fun K "law" "law" J4 f fd) (cGa:VCal P w K mg base n "_law_game" ["_law_state","_law_most"] Qb8) (cSa:VCal P w K mg base n "_law_saying" ["_law_state","_law_game_here","_law_most"] Qca) (cDr:VCal P w K mg base n "_law_draw" ["_law_state","_law_many"] Pb) (cEi:VCal P w K mg base n "either" ["game","one","other"] Qce) (cBo:VCal P w K mg base n "both" ["game","one","other"] Qcf) (cLe:VCal P w K mg base n "_law_either" ["_law_game_here","_law_one","_law_other"] Qch) (cLb:VCal P w K mg base n "_law_both" ["_law_game_here","_law_one","_law_other"] Qci) (cAl:VCal P w K mg base n "_law_alike" ["_law_found","_law_due"] (Sn 4)) (cSh:VCal P w K mg base n "show_saying" ["game","saying"] Qcl) (cRw:VCal P w K mg base n "_law_rows" ["_law_game_here","_law_saying_here"] Qcm) (m_list:mg "list" = none) (m_repr:mg "repr" = none):FnOk P w K mg base Fl (n+1) f fd ["_law_script"] (Qx K):=by
 refine(Yk F cGa cSa cDr cEi cBo cLe cLb cAl cSh cRw m_list m_repr).imp ?_
 rintro vs H Q E ⟨a,ns,rfl,hS,hO,hl,q⟩
 refine⟨[.D (J5 ns)],λ_=>none,λv _=>v=.D (.bool true),rfl,.cons ?_ .nil,(λ_ _ z=>nomatch z),⟨ns,rfl,hl,λ_=>rfl⟩,?_⟩
 ·refine Qa5 (xs:=ns.map V.int) ?_ (Qz ns)
  rcases hS with(h | h) | h
  ·rcases hO a with z | ⟨o,xs,z⟩
   ·rw [z]at h;cases h
   ·rw [z]at h;cases h
  ·exact .inl h
  ·exact .inr h
 ·rintro x μ v H' _ _ rx rfl
  cases RelA.bl rx
  exact q _
end
theorem Qgk{us:List Value}(h:us.length=1):∃a0,us=[a0]:=by
 obtain⟨a0,t,rfl,h2⟩:=Ev h
 rw [List.eq_nil_of_length_eq_zero h2];exact⟨a0,rfl⟩
theorem Fq{us:List Value}(h:us.length=2):∃a0 a1,us=[a0,a1]:=by
 obtain⟨a0,t,rfl,h2⟩:=Ev h
 obtain⟨a1,rfl⟩:=Qgk h2
 exact⟨a0,a1,rfl⟩
theorem Fa{us:List Value}(h:us.length=3):∃a0 a1 a2,us=[a0,a1,a2]:=by
 obtain⟨a0,t,rfl,h2⟩:=Ev h
 obtain⟨a1,a2,rfl⟩:=Fq h2
 exact⟨a0,a1,a2,rfl⟩
theorem all_mk{l:PySem.W.OpenLaw}{w:World}{K:PySem.W.Frag}{h:Heap}{mg:Str->Option Value}{fa f1 f2 f3 f4 f5 f6 f7 f8 f9 f10 f11 f12 f13 f14 f15 f16 f17 f18 f19 f20 f21:Addr}(X:K.In h)(G:h.Ns mainGlobals mg)(hfa:mg "law" = some (.ref fa))
  {od1 an1 od2 an2 od3 an3 od4 an4 od5 an5 od6 an6 od7 an7 od8 an8 od9 an9 od10 an10 od11 an11 od12 an12 od13 an13 od14 an14 od15 an15 od16 an16 od17 an17 od18 an18 od19 an19 od20 an20 od21 an21:Option Addr} {sl1 sl2 sl3 sl4 sl5 sl6 sl7 sl8 sl9 sl10 sl11 sl12 sl13 sl14 sl15 sl16 sl17 sl18 sl19 sl20 sl21:Array (Option Value)} {oc1 kV1 dc1 pm1 cd1 ct1 oc2 kV2 dc2 pm2 cd2 ct2 oc3 kV3 dc3 pm3 cd3 ct3 oc4 kV4 dc4 pm4 cd4 ct4 oc5 kV5 dc5 pm5 cd5 ct5 oc6 kV6 dc6 pm6 cd6 ct6 oc7 kV7 dc7 pm7 cd7 ct7 oc8 kV8 dc8 pm8 cd8 ct8 oc9 kV9 dc9 pm9 cd9 ct9 oc10 kV10 dc10 pm10 cd10 ct10 oc11 kV11 dc11 pm11 cd11 ct11 oc12 kV12 dc12 pm12 cd12 ct12 oc13 kV13 dc13 pm13 cd13 ct13 oc14 kV14 dc14 pm14 cd14 ct14 oc15 kV15 dc15 pm15 cd15 ct15 oc16 kV16 dc16 pm16 cd16 ct16 oc17 kV17 dc17 pm17 cd17 ct17 oc18 kV18 dc18 pm18 cd18 ct18 oc19 kV19 dc19 pm19 cd19 ct19 oc20 kV20 dc20 pm20 cd20 ct20 oc21 kV21 dc21 pm21 cd21 ct21:Value}
  (a1:PySem.W.nsIn K mainGlobals "either" = some (some (.ref f1)))
  (l1:K.lookup f1=some ⟨oc1,od1,.func (PySem.W.fnOf "either" "either" (Bi sEi) (Be sEi) (Ah sEi) .none kV1 dc1 pm1 an1 cd1 ct1),sl1⟩)
  (c_1:PySem.W.codeIn K cd1 "either" = true)
  (k1:PySem.W.keepIn K (.ref f1)=true)
  (a2:PySem.W.nsIn K mainGlobals "both" = some (some (.ref f2)))
  (l2:K.lookup f2=some ⟨oc2,od2,.func (PySem.W.fnOf "both" "both" (Bi Zd) (Be Zd) (Ah Zd) .none kV2 dc2 pm2 an2 cd2 ct2),sl2⟩)
  (c_2:PySem.W.codeIn K cd2 "both" = true)
  (k2:PySem.W.keepIn K (.ref f2)=true)
  (a3:PySem.W.nsIn K mainGlobals "sorted_saying" = some (some (.ref f3)))
  (l3:K.lookup f3=some ⟨oc3,od3,.func (PySem.W.fnOf "sorted_saying" "sorted_saying" (Bi sSs) (Be sSs) (Ah sSs) .none kV3 dc3 pm3 an3 cd3 ct3),sl3⟩)
  (c_3:PySem.W.codeIn K cd3 "sorted_saying" = true)
  (k3:PySem.W.keepIn K (.ref f3)=true)
  (a4:PySem.W.nsIn K mainGlobals "numbered_behind" = some (some (.ref f4)))
  (l4:K.lookup f4=some ⟨oc4,od4,.func (PySem.W.fnOf "numbered_behind" "numbered_behind" (Bi Ze) (Be Ze) (Ah Ze) .none kV4 dc4 pm4 an4 cd4 ct4),sl4⟩)
  (c_4:PySem.W.codeIn K cd4 "numbered_behind" = true)
  (k4:PySem.W.keepIn K (.ref f4)=true)
  (a5:PySem.W.nsIn K mainGlobals "moved_stand" = some (some (.ref f5)))
  (l5:K.lookup f5=some ⟨oc5,od5,.func (PySem.W.fnOf "moved_stand" "moved_stand" (Bi sMv) (Be sMv) (Ah sMv) .none kV5 dc5 pm5 an5 cd5 ct5),sl5⟩)
  (c_5:PySem.W.codeIn K cd5 "moved_stand" = true)
  (k5:PySem.W.keepIn K (.ref f5)=true)
  (a6:PySem.W.nsIn K mainGlobals "arrows_of_places" = some (some (.ref f6)))
  (l6:K.lookup f6=some ⟨oc6,od6,.func (PySem.W.fnOf "arrows_of_places" "arrows_of_places" (Bi Zf) (Be Zf) (Ah Zf) .none kV6 dc6 pm6 an6 cd6 ct6),sl6⟩)
  (c_6:PySem.W.codeIn K cd6 "arrows_of_places" = true)
  (k6:PySem.W.keepIn K (.ref f6)=true)
  (a7:PySem.W.nsIn K mainGlobals "show_saying" = some (some (.ref f7)))
  (l7:K.lookup f7=some ⟨oc7,od7,.func (PySem.W.fnOf "show_saying" "show_saying" (Bi X5) (Be X5) (Ah X5) .none kV7 dc7 pm7 an7 cd7 ct7),sl7⟩)
  (c_7:PySem.W.codeIn K cd7 "show_saying" = true)
  (k7:PySem.W.keepIn K (.ref f7)=true)
  (a8:PySem.W.nsIn K mainGlobals "stand_words" = some (some (.ref f8)))
  (l8:K.lookup f8=some ⟨oc8,od8,.func (PySem.W.fnOf "stand_words" "stand_words" (Bi Zg) (Be Zg) (Ah Zg) .none kV8 dc8 pm8 an8 cd8 ct8),sl8⟩)
  (c_8:PySem.W.codeIn K cd8 "stand_words" = true)
  (k8:PySem.W.keepIn K (.ref f8)=true)
  (a9:PySem.W.nsIn K mainGlobals "_law_draw" = some (some (.ref f9)))
  (l9:K.lookup f9=some ⟨oc9,od9,.func (PySem.W.fnOf "_law_draw" "_law_draw" (Bi sDr) (Be sDr) (Ah sDr) .none kV9 dc9 pm9 an9 cd9 ct9),sl9⟩)
  (c_9:PySem.W.codeIn K cd9 "_law_draw" = true)
  (k9:PySem.W.keepIn K (.ref f9)=true)
  (a10:PySem.W.nsIn K mainGlobals "_law_names" = some (some (.ref f10)))
  (l10:K.lookup f10=some ⟨oc10,od10,.func (PySem.W.fnOf "_law_names" "_law_names" (Bi Zh) (Be Zh) (Ah Zh) .none kV10 dc10 pm10 an10 cd10 ct10),sl10⟩)
  (c_10:PySem.W.codeIn K cd10 "_law_names" = true)
  (k10:PySem.W.keepIn K (.ref f10)=true)
  (a11:PySem.W.nsIn K mainGlobals "_law_game" = some (some (.ref f11)))
  (l11:K.lookup f11=some ⟨oc11,od11,.func (PySem.W.fnOf "_law_game" "_law_game" (Bi Va) (Be Va) (Ah Va) .none kV11 dc11 pm11 an11 cd11 ct11),sl11⟩)
  (c_11:PySem.W.codeIn K cd11 "_law_game" = true)
  (k11:PySem.W.keepIn K (.ref f11)=true)
  (a12:PySem.W.nsIn K mainGlobals "_law_some" = some (some (.ref f12)))
  (l12:K.lookup f12=some ⟨oc12,od12,.func (PySem.W.fnOf "_law_some" "_law_some" (Bi sSo) (Be sSo) (Ah sSo) .none kV12 dc12 pm12 an12 cd12 ct12),sl12⟩)
  (c_12:PySem.W.codeIn K cd12 "_law_some" = true)
  (k12:PySem.W.keepIn K (.ref f12)=true)
  (a13:PySem.W.nsIn K mainGlobals "_law_saying" = some (some (.ref f13)))
  (l13:K.lookup f13=some ⟨oc13,od13,.func (PySem.W.fnOf "_law_saying" "_law_saying" (Bi sSa) (Be sSa) (Ah sSa) .none kV13 dc13 pm13 an13 cd13 ct13),sl13⟩)
  (c_13:PySem.W.codeIn K cd13 "_law_saying" = true)
  (k13:PySem.W.keepIn K (.ref f13)=true)
  (a14:PySem.W.nsIn K mainGlobals "_law_alike" = some (some (.ref f14)))
  (l14:K.lookup f14=some ⟨oc14,od14,.func (PySem.W.fnOf "_law_alike" "_law_alike" (Bi Zi) (Be Zi) (Ah Zi) .none kV14 dc14 pm14 an14 cd14 ct14),sl14⟩)
  (c_14:PySem.W.codeIn K cd14 "_law_alike" = true)
  (k14:PySem.W.keepIn K (.ref f14)=true)
  (a15:PySem.W.nsIn K mainGlobals "_law_stand" = some (some (.ref f15)))
  (l15:K.lookup f15=some ⟨oc15,od15,.func (PySem.W.fnOf "_law_stand" "_law_stand" (Bi sLs) (Be sLs) (Ah sLs) .none kV15 dc15 pm15 an15 cd15 ct15),sl15⟩)
  (c_15:PySem.W.codeIn K cd15 "_law_stand" = true)
  (k15:PySem.W.keepIn K (.ref f15)=true)
  (a16:PySem.W.nsIn K mainGlobals "_law_rows" = some (some (.ref f16)))
  (l16:K.lookup f16=some ⟨oc16,od16,.func (PySem.W.fnOf "_law_rows" "_law_rows" (Bi Zj) (Be Zj) (Ah Zj) .none kV16 dc16 pm16 an16 cd16 ct16),sl16⟩)
  (c_16:PySem.W.codeIn K cd16 "_law_rows" = true)
  (k16:PySem.W.keepIn K (.ref f16)=true)
  (a17:PySem.W.nsIn K mainGlobals "_law_behind" = some (some (.ref f17)))
  (l17:K.lookup f17=some ⟨oc17,od17,.func (PySem.W.fnOf "_law_behind" "_law_behind" (Bi sBh) (Be sBh) (Ah sBh) .none kV17 dc17 pm17 an17 cd17 ct17),sl17⟩)
  (c_17:PySem.W.codeIn K cd17 "_law_behind" = true)
  (k17:PySem.W.keepIn K (.ref f17)=true)
  (a18:PySem.W.nsIn K mainGlobals "_law_put_behind" = some (some (.ref f18)))
  (l18:K.lookup f18=some ⟨oc18,od18,.func (PySem.W.fnOf "_law_put_behind" "_law_put_behind" (Bi Zk) (Be Zk) (Ah Zk) .none kV18 dc18 pm18 an18 cd18 ct18),sl18⟩)
  (c_18:PySem.W.codeIn K cd18 "_law_put_behind" = true)
  (k18:PySem.W.keepIn K (.ref f18)=true)
  (a19:PySem.W.nsIn K mainGlobals "_law_either" = some (some (.ref f19)))
  (l19:K.lookup f19=some ⟨oc19,od19,.func (PySem.W.fnOf "_law_either" "_law_either" (Bi sLe) (Be sLe) (Ah sLe) .none kV19 dc19 pm19 an19 cd19 ct19),sl19⟩)
  (c_19:PySem.W.codeIn K cd19 "_law_either" = true)
  (k19:PySem.W.keepIn K (.ref f19)=true)
  (a20:PySem.W.nsIn K mainGlobals "_law_both" = some (some (.ref f20)))
  (l20:K.lookup f20=some ⟨oc20,od20,.func (PySem.W.fnOf "_law_both" "_law_both" (Bi Zl) (Be Zl) (Ah Zl) .none kV20 dc20 pm20 an20 cd20 ct20),sl20⟩)
  (c_20:PySem.W.codeIn K cd20 "_law_both" = true)
  (k20:PySem.W.keepIn K (.ref f20)=true)
  (a21:PySem.W.nsIn K mainGlobals "law" = some (some (.ref f21)))
  (l21:K.lookup f21=some ⟨oc21,od21,.func (PySem.W.fnOf "law" "law" (Bi J4) (Be J4) (Ah J4) .none kV21 dc21 pm21 an21 cd21 ct21),sl21⟩)
  (c_21:PySem.W.codeIn K cd21 "law" = true)
  (k21:PySem.W.keepIn K (.ref f21)=true)
  (z_len:PySem.W.nsIn K mainGlobals "len" = some none)
  (z_tuple:PySem.W.nsIn K mainGlobals "tuple" = some none)
  (z_sorted:PySem.W.nsIn K mainGlobals "sorted" = some none)
  (z_set:PySem.W.nsIn K mainGlobals "set" = some none)
  (z_str:PySem.W.nsIn K mainGlobals "str" = some none)
  (z_range:PySem.W.nsIn K mainGlobals "range" = some none)
  (z_min:PySem.W.nsIn K mainGlobals "min" = some none)
  (z_list:PySem.W.nsIn K mainGlobals "list" = some none)
  (z_isinstance:PySem.W.nsIn K mainGlobals "isinstance" = some none)
  (z_all:PySem.W.nsIn K mainGlobals "all" = some none)
  (z_zip:PySem.W.nsIn K mainGlobals "zip" = some none)
  (z_bool:PySem.W.nsIn K mainGlobals "bool" = some none)
  (z_int:PySem.W.nsIn K mainGlobals "int" = some none)
  (z_repr:PySem.W.nsIn K mainGlobals "repr" = some none) :
  ∃fd:FuncData,(∀(s:Shared) (v:Value),BindsTo s fd ⟨[v],[]⟩ [("_law_script",v)])/\∀base:Heap,K.In base->base.Ns mainGlobals mg->FnOk l.prog w K mg base Fl 65 fa fd ["_law_script"] (Qx K):=by
 have e:=hfa.symm.trans (PySem.W.mg_of X G a21)
 cases e
 have F1:=Ca (st:=sEi) l1 c_1 k1
 have F2:=Ca (st:=Zd) l2 c_2 k2
 have F3:=Ca (st:=sSs) l3 c_3 k3
 have F4:=Ca (st:=Ze) l4 c_4 k4
 have F5:=Ca (st:=sMv) l5 c_5 k5
 have F6:=Ca (st:=Zf) l6 c_6 k6
 have F7:=Ca (st:=X5) l7 c_7 k7
 have F8:=Ca (st:=Zg) l8 c_8 k8
 have F9:=Ca (st:=sDr) l9 c_9 k9
 have F10:=Ca (st:=Zh) l10 c_10 k10
 have F11:=Ca (st:=Va) l11 c_11 k11
 have F12:=Ca (st:=sSo) l12 c_12 k12
 have F13:=Ca (st:=sSa) l13 c_13 k13
 have F14:=Ca (st:=Zi) l14 c_14 k14
 have F15:=Ca (st:=sLs) l15 c_15 k15
 have F16:=Ca (st:=Zj) l16 c_16 k16
 have F17:=Ca (st:=sBh) l17 c_17 k17
 have F18:=Ca (st:=Zk) l18 c_18 k18
 have F19:=Ca (st:=sLe) l19 c_19 k19
 have F20:=Ca (st:=Zl) l20 c_20 k20
 have F21:=Ca (st:=J4) l21 c_21 k21
 have b1:=F1.binds (ps:=["game","one","other"]) λ_ _ _ _ _ _ us hl=>by obtain⟨a0,a1,a2,rfl⟩:=Fa hl;rfl
 have b2:=F2.binds (ps:=["game","one","other"]) λ_ _ _ _ _ _ us hl=>by obtain⟨a0,a1,a2,rfl⟩:=Fa hl;rfl
 have b3:=F3.binds (ps:=["many","arrows","ends"]) λ_ _ _ _ _ _ us hl=>by obtain⟨a0,a1,a2,rfl⟩:=Fa hl;rfl
 have b4:=F4.binds (ps:=["game","saying","by"]) λ_ _ _ _ _ _ us hl=>by obtain⟨a0,a1,a2,rfl⟩:=Fa hl;rfl
 have b5:=F5.binds (ps:=["places","stand","by"]) λ_ _ _ _ _ _ us hl=>by obtain⟨a0,a1,a2,rfl⟩:=Fa hl;rfl
 have b6:=F6.binds (ps:=["places","arrows","seconds"]) λ_ _ _ _ _ _ us hl=>by obtain⟨a0,a1,a2,rfl⟩:=Fa hl;rfl
 have b7:=F7.binds (ps:=["game","saying"]) λ_ _ _ _ _ _ us hl=>by obtain⟨a0,a1,rfl⟩:=Fq hl;rfl
 have b8:=F8.binds (ps:=["game","many"]) λ_ _ _ _ _ _ us hl=>by obtain⟨a0,a1,rfl⟩:=Fq hl;rfl
 have b9:=F9.binds (ps:=["_law_state","_law_many"]) λ_ _ _ _ _ _ us hl=>by obtain⟨a0,a1,rfl⟩:=Fq hl;rfl
 have b10:=F10.binds (ps:=["_law_state","_law_many"]) λ_ _ _ _ _ _ us hl=>by obtain⟨a0,a1,rfl⟩:=Fq hl;rfl
 have b11:=F11.binds (ps:=["_law_state","_law_most"]) λ_ _ _ _ _ _ us hl=>by obtain⟨a0,a1,rfl⟩:=Fq hl;rfl
 have b12:=F12.binds (ps:=["_law_state","_law_things"]) λ_ _ _ _ _ _ us hl=>by obtain⟨a0,a1,rfl⟩:=Fq hl;rfl
 have b13:=F13.binds (ps:=["_law_state","_law_game_here","_law_most"]) λ_ _ _ _ _ _ us hl=>by obtain⟨a0,a1,a2,rfl⟩:=Fa hl;rfl
 have b14:=F14.binds (ps:=["_law_found","_law_due"]) λ_ _ _ _ _ _ us hl=>by obtain⟨a0,a1,rfl⟩:=Fq hl;rfl
 have b15:=F15.binds (ps:=["_law_game_here","_law_stand_here"]) λ_ _ _ _ _ _ us hl=>by obtain⟨a0,a1,rfl⟩:=Fq hl;rfl
 have b16:=F16.binds (ps:=["_law_game_here","_law_saying_here"]) λ_ _ _ _ _ _ us hl=>by obtain⟨a0,a1,rfl⟩:=Fq hl;rfl
 have b17:=F17.binds (ps:=["_law_game_here","_law_many","_law_stand_here"]) λ_ _ _ _ _ _ us hl=>by obtain⟨a0,a1,a2,rfl⟩:=Fa hl;rfl
 have b18:=F18.binds (ps:=["_law_game_here","_law_one","_law_other"]) λ_ _ _ _ _ _ us hl=>by obtain⟨a0,a1,a2,rfl⟩:=Fa hl;rfl
 have b19:=F19.binds (ps:=["_law_game_here","_law_one","_law_other"]) λ_ _ _ _ _ _ us hl=>by obtain⟨a0,a1,a2,rfl⟩:=Fa hl;rfl
 have b20:=F20.binds (ps:=["_law_game_here","_law_one","_law_other"]) λ_ _ _ _ _ _ us hl=>by obtain⟨a0,a1,a2,rfl⟩:=Fa hl;rfl
 have m_len:=PySem.W.mg_none_of X G z_len
 have m_tuple:=PySem.W.mg_none_of X G z_tuple
 have m_sorted:=PySem.W.mg_none_of X G z_sorted
 have m_set:=PySem.W.mg_none_of X G z_set
 have m_str:=PySem.W.mg_none_of X G z_str
 have m_range:=PySem.W.mg_none_of X G z_range
 have m_min:=PySem.W.mg_none_of X G z_min
 have m_list:=PySem.W.mg_none_of X G z_list
 have m_isinstance:=PySem.W.mg_none_of X G z_isinstance
 have m_all:=PySem.W.mg_none_of X G z_all
 have m_zip:=PySem.W.mg_none_of X G z_zip
 have m_bool:=PySem.W.mg_none_of X G z_bool
 have m_int:=PySem.W.mg_none_of X G z_int
 have m_repr:=PySem.W.mg_none_of X G z_repr
 refine⟨PySem.W.fnOf "law" "law" (Bi J4) (Be J4) (Ah J4) .none kV21 dc21 pm21 an21 cd21 ct21,λs v=>.of_eq rfl,λbase _ _=>?_⟩
 have g5:=Qfc (P:=l.prog) (w:=w) (mg:=mg) (base:=base) (n:=0) F5
 have q5:VCal l.prog w K mg base 1 "moved_stand" ["places","stand","by"] _:=⟨_,_,g5,b5,k5,PySem.W.mg_of X G a5⟩
 have g4:=Qff (P:=l.prog) (w:=w) (mg:=mg) (base:=base) (n:=1) F4 (q5.mono (by decide)) m_len m_tuple
 have q4:VCal l.prog w K mg base 2 "numbered_behind" ["game","saying","by"] _:=⟨_,_,g4,b4,k4,PySem.W.mg_of X G a4⟩
 have g3:=Qfk (P:=l.prog) (w:=w) (mg:=mg) (base:=base) (n:=0) F3 m_tuple m_sorted m_set
 have q3:VCal l.prog w K mg base 1 "sorted_saying" ["many","arrows","ends"] _:=⟨_,_,g3,b3,k3,PySem.W.mg_of X G a3⟩
 have g1:=Qfq (P:=l.prog) (w:=w) (mg:=mg) (base:=base) (n:=2) F1 (q4.mono (by decide)) (q3.mono (by decide))
 have q1:VCal l.prog w K mg base 3 "either" ["game","one","other"] _:=⟨_,_,g1,b1,k1,PySem.W.mg_of X G a1⟩
 have g6:=Qfj (P:=l.prog) (w:=w) (mg:=mg) (base:=base) (n:=0) F6
 have q6:VCal l.prog w K mg base 1 "arrows_of_places" ["places","arrows","seconds"] _:=⟨_,_,g6,b6,k6,PySem.W.mg_of X G a6⟩
 have g2:=Qft (P:=l.prog) (w:=w) (mg:=mg) (base:=base) (n:=2) F2 (q6.mono (by decide)) (q4.mono (by decide)) (q3.mono (by decide)) m_len
 have q2:VCal l.prog w K mg base 3 "both" ["game","one","other"] _:=⟨_,_,g2,b2,k2,PySem.W.mg_of X G a2⟩
 have g8:=Qf7 (P:=l.prog) (w:=w) (mg:=mg) (base:=base) (n:=0) F8 m_range m_str
 have q8:VCal l.prog w K mg base 1 "stand_words" ["game","many"] _:=⟨_,_,g8,b8,k8,PySem.W.mg_of X G a8⟩
 have g7:=Qgf (P:=l.prog) (w:=w) (mg:=mg) (base:=base) (n:=1) F7 (q8.mono (by decide)) m_str
 have q7:VCal l.prog w K mg base 2 "show_saying" ["game","saying"] _:=⟨_,_,g7,b7,k7,PySem.W.mg_of X G a7⟩
 have g9:=Qeu (P:=l.prog) (w:=w) (mg:=mg) (base:=base) (n:=0) F9 m_len
 have q9:VCal l.prog w K mg base 1 "_law_draw" ["_law_state","_law_many"] _:=⟨_,_,g9,b9,k9,PySem.W.mg_of X G a9⟩
 have g10:=Qez (P:=l.prog) (w:=w) (mg:=mg) (base:=base) (n:=1) F10 (q9.mono (by decide)) m_range m_len
 have q10:VCal l.prog w K mg base 2 "_law_names" ["_law_state","_law_many"] _:=⟨_,_,g10,b10,k10,PySem.W.mg_of X G a10⟩
 have g11:=Qe6 (P:=l.prog) (w:=w) (mg:=mg) (base:=base) (n:=2) F11 (q9.mono (by decide)) (q10.mono (by decide)) m_tuple m_range m_len m_min
 have q11:VCal l.prog w K mg base 3 "_law_game" ["_law_state","_law_most"] _:=⟨_,_,g11,b11,k11,PySem.W.mg_of X G a11⟩
 have g12:=Qe9 (P:=l.prog) (w:=w) (mg:=mg) (base:=base) (n:=1) F12 (q9.mono (by decide)) m_tuple
 have q12:VCal l.prog w K mg base 2 "_law_some" ["_law_state","_law_things"] _:=⟨_,_,g12,b12,k12,PySem.W.mg_of X G a12⟩
 have g13:=Qfa (P:=l.prog) (w:=w) (mg:=mg) (base:=base) (n:=2) F13 (q9.mono (by decide)) (q12.mono (by decide)) m_len m_range m_list m_tuple m_sorted m_set
 have q13:VCal l.prog w K mg base 3 "_law_saying" ["_law_state","_law_game_here","_law_most"] _:=⟨_,_,g13,b13,k13,PySem.W.mg_of X G a13⟩
 have g14:=Qf4 (P:=l.prog) (w:=w) (mg:=mg) (base:=base) F14 b14 k14 (PySem.W.mg_of X G a14) m_isinstance m_tuple m_len m_all m_zip m_str m_bool m_int 4
 have q14:VCal l.prog w K mg base 6 "_law_alike" ["_law_found","_law_due"] _:=⟨_,_,g14,b14,k14,PySem.W.mg_of X G a14⟩
 have g15:=Qf9 (P:=l.prog) (w:=w) (mg:=mg) (base:=base) (n:=0) F15 m_len m_str
 have q15:VCal l.prog w K mg base 1 "_law_stand" ["_law_game_here","_law_stand_here"] _:=⟨_,_,g15,b15,k15,PySem.W.mg_of X G a15⟩
 have g16:=Qgi (P:=l.prog) (w:=w) (mg:=mg) (base:=base) (n:=1) F16 (q15.mono (by decide)) m_str
 have q16:VCal l.prog w K mg base 2 "_law_rows" ["_law_game_here","_law_saying_here"] _:=⟨_,_,g16,b16,k16,PySem.W.mg_of X G a16⟩
 have g17:=Qfv (P:=l.prog) (w:=w) (mg:=mg) (base:=base) (n:=0) F17 m_int m_len
 have q17:VCal l.prog w K mg base 1 "_law_behind" ["_law_game_here","_law_many","_law_stand_here"] _:=⟨_,_,g17,b17,k17,PySem.W.mg_of X G a17⟩
 have g18:=Qfy (P:=l.prog) (w:=w) (mg:=mg) (base:=base) (n:=1) F18 (q17.mono (by decide)) m_tuple
 have q18:VCal l.prog w K mg base 2 "_law_put_behind" ["_law_game_here","_law_one","_law_other"] _:=⟨_,_,g18,b18,k18,PySem.W.mg_of X G a18⟩
 have g19:=Qfz (P:=l.prog) (w:=w) (mg:=mg) (base:=base) (n:=2) F19 (q18.mono (by decide)) m_sorted m_set m_list m_tuple
 have q19:VCal l.prog w K mg base 3 "_law_either" ["_law_game_here","_law_one","_law_other"] _:=⟨_,_,g19,b19,k19,PySem.W.mg_of X G a19⟩
 have g20:=Qf2 (P:=l.prog) (w:=w) (mg:=mg) (base:=base) (n:=2) F20 (q18.mono (by decide)) m_list m_len m_tuple m_sorted m_set
 have q20:VCal l.prog w K mg base 3 "_law_both" ["_law_game_here","_law_one","_law_other"] _:=⟨_,_,g20,b20,k20,PySem.W.mg_of X G a20⟩
 have g21:=Qcr (P:=l.prog) (w:=w) (mg:=mg) (base:=base) (n:=6) F21 (q11.mono (by decide)) (q13.mono (by decide)) (q9.mono (by decide)) (q1.mono (by decide)) (q2.mono (by decide)) (q19.mono (by decide)) (q20.mono (by decide)) (q14.mono (by decide)) (q7.mono (by decide)) (q16.mono (by decide)) m_list m_repr
 exact g21.mono (by decide)
theorem walk{l:PySem.W.OpenLaw}{q:Program}{loose:List Str}{XP:(Str->Option Value)->Heap->Prop}{YP:World->Heap->Prop}{d:DefRec}{K:Params->PySem.W.Frag}(hn:l.most=some 63)(hdf:d.params.defaults=[])
  (hY:∀(w:World) (h:Heap),YP w h->(K w.params).In h)
  (F:∀(w:World) (mg:Str->Option Value) (fa:Addr) (h:Heap),(K w.params).In h->h.Ns mainGlobals mg->mg d.name=some (.ref fa) ->
   ∃fd:FuncData,(∀(s:Shared) (u:Value),BindsTo s fd ⟨[u],[]⟩ [("_law_script",u)])/\∀base:Heap,(K w.params).In base->base.Ns mainGlobals mg->FnOk l.prog w (K w.params) mg base Fl 65 fa fd ["_law_script"] (Qx (K w.params))) :
  PySem.W.WalkO q loose XP YP l.row.toRowW d [] (λf vs=>PySem.call f vs) :=
 L2.walk_of (n:=63) (k:=65) (x := "_law_script") (CX:=λ_=>Fl) (sp:=λw=>Qx (K w.params)) hn (by decide) hdf ⟨rfl,by decide,by decide,rfl⟩ hY F (λ_ _ a ns hl hO hS=>⟨a,ns,rfl,hS,hO,hl,λ_=>rfl⟩) λ_ _ _ _ _ z=>z
end K21
namespace PySem.W.Fast
theorem tw3062031401897145104:True:=trivial
theorem tw11291703141639158458:True:=trivial
theorem tw14933175100133545205:True:=trivial
theorem tw2955863202885440505:True:=trivial
theorem tw5212253516023119522:True:=trivial
theorem tw4982512642196801797:True:=trivial
theorem tw8849907421367619094:True:=trivial
theorem tw2473864884839787364:True:=trivial
theorem tw16021024820273152686:True:=trivial
theorem tw4858652815173362257:True:=trivial
theorem tw5201758161993571893:True:=trivial
theorem tw14768668638410291909:True:=trivial
theorem tw7308459151295181491:True:=trivial
theorem tw4019540525647747136:True:=trivial
theorem tw4756828685578155782:True:=trivial
theorem tw2767665436541568379:True:=trivial
theorem tw5445620927129379720:True:=trivial
theorem tw9853397679689996931:True:=trivial
theorem tw2555713923332095623:True:=trivial
theorem tw8301877405513251421:True:=trivial
theorem tw10772000830434878355:True:=trivial
theorem tw6226595130741189304:True:=trivial
theorem tw4701514472372925516:True:=trivial
theorem tw15300290684892830039:True:=trivial
theorem tw3324072703904571458:True:=trivial
theorem tw1382390681396434515:True:=trivial
theorem tw14746758742554701795:True:=trivial
theorem tw11688710150050843293:True:=trivial
theorem tw8111734794762943680:True:=trivial
theorem tw1895162707312729250:True:=trivial
theorem tw1569841298063522693:True:=trivial
theorem tw6573883983415491492:True:=trivial
theorem tw17454722491789667576:True:=trivial
theorem tw990482668843806587:True:=trivial
theorem tw12139221719084396180:True:=trivial
theorem tw5594894699919898238:True:=trivial
theorem tw8211665047757289974:True:=trivial
theorem tw3720544363477198668:True:=trivial
theorem tw15137843127847231777:True:=trivial
theorem tw10312701197500854221:True:=trivial
theorem tw6206284028870325624:True:=trivial
theorem tw1839881072884668477:True:=trivial
theorem tw14214531720499385254:True:=trivial
theorem tw3885333877479143288:True:=trivial
theorem tw3640014814893681927:True:=trivial
theorem tw3337543928438038594:True:=trivial
theorem tw2985956813460345077:True:=trivial
theorem tw1072099541521768772:True:=trivial
theorem tw9117472655801381710:True:=trivial
theorem tw16134020441572268968:True:=trivial
theorem tw2582927867809643537:True:=trivial
theorem tw17022113718260589893:True:=trivial
theorem tw13613197042731059107:True:=trivial
end PySem.W.Fast
open PySem PySem.W PyProof.Rows
set_option maxRecDepth 100000 in
set_option maxHeartbeats 0 in
theorem PySem.Challenge.cw_pileduel_k21_sayings_joined_holds : PySem.Challenge.rw_pileduel_k21_sayings_joined.Holds := by
 w_on;o_law;k_head;(case hw=>w_witness2)
 k_fill
 refine K21.walk (l:=PySem.Challenge.rw_pileduel_k21_sayings_joined) rfl rfl (fun w h Y=>PySem.W.kIn_of Y) ?F
 case F =>
  intro w mg fa h KX G hmg
  refine' K21.all_mk KX G hmg ?a1 ?l1 ?c_1 ?k1 ?a2 ?l2 ?c_2 ?k2 ?a3 ?l3 ?c_3 ?k3 ?a4 ?l4 ?c_4 ?k4 ?a5 ?l5 ?c_5 ?k5 ?a6 ?l6 ?c_6 ?k6 ?a7 ?l7 ?c_7 ?k7 ?a8 ?l8 ?c_8 ?k8 ?a9 ?l9 ?c_9 ?k9 ?a10 ?l10 ?c_10 ?k10 ?a11 ?l11 ?c_11 ?k11 ?a12 ?l12 ?c_12 ?k12 ?a13 ?l13 ?c_13 ?k13 ?a14 ?l14 ?c_14 ?k14 ?a15 ?l15 ?c_15 ?k15 ?a16 ?l16 ?c_16 ?k16 ?a17 ?l17 ?c_17 ?k17 ?a18 ?l18 ?c_18 ?k18 ?a19 ?l19 ?c_19 ?k19 ?a20 ?l20 ?c_20 ?k20 ?a21 ?l21 ?c_21 ?k21 ?z_len ?z_tuple ?z_sorted ?z_set ?z_str ?z_range ?z_min ?z_list ?z_isinstance ?z_all ?z_zip ?z_bool ?z_int ?z_repr
  (case a1=>k_is)
  (case l1=>k_is)
  (case c_1=>k_is)
  (case k1=>k_is)
  (case a2=>k_is)
  (case l2=>k_is)
  (case c_2=>k_is)
  (case k2=>k_is)
  (case a3=>k_is)
  (case l3=>k_is)
  (case c_3=>k_is)
  (case k3=>k_is)
  (case a4=>k_is)
  (case l4=>k_is)
  (case c_4=>k_is)
  (case k4=>k_is)
  (case a5=>k_is)
  (case l5=>k_is)
  (case c_5=>k_is)
  (case k5=>k_is)
  (case a6=>k_is)
  (case l6=>k_is)
  (case c_6=>k_is)
  (case k6=>k_is)
  (case a7=>k_is)
  (case l7=>k_is)
  (case c_7=>k_is)
  (case k7=>k_is)
  (case a8=>k_is)
  (case l8=>k_is)
  (case c_8=>k_is)
  (case k8=>k_is)
  (case a9=>k_is)
  (case l9=>k_is)
  (case c_9=>k_is)
  (case k9=>k_is)
  (case a10=>k_is)
  (case l10=>k_is)
  (case c_10=>k_is)
  (case k10=>k_is)
  (case a11=>k_is)
  (case l11=>k_is)
  (case c_11=>k_is)
  (case k11=>k_is)
  (case a12=>k_is)
  (case l12=>k_is)
  (case c_12=>k_is)
  (case k12=>k_is)
  (case a13=>k_is)
  (case l13=>k_is)
  (case c_13=>k_is)
  (case k13=>k_is)
  (case a14=>k_is)
  (case l14=>k_is)
  (case c_14=>k_is)
  (case k14=>k_is)
  (case a15=>k_is)
  (case l15=>k_is)
  (case c_15=>k_is)
  (case k15=>k_is)
  (case a16=>k_is)
  (case l16=>k_is)
  (case c_16=>k_is)
  (case k16=>k_is)
  (case a17=>k_is)
  (case l17=>k_is)
  (case c_17=>k_is)
  (case k17=>k_is)
  (case a18=>k_is)
  (case l18=>k_is)
  (case c_18=>k_is)
  (case k18=>k_is)
  (case a19=>k_is)
  (case l19=>k_is)
  (case c_19=>k_is)
  (case k19=>k_is)
  (case a20=>k_is)
  (case l20=>k_is)
  (case c_20=>k_is)
  (case k20=>k_is)
  (case a21=>k_is)
  (case l21=>k_is)
  (case c_21=>k_is)
  (case k21=>k_is)
  (case z_len=>k_is)
  (case z_tuple=>k_is)
  (case z_sorted=>k_is)
  (case z_set=>k_is)
  (case z_str=>k_is)
  (case z_range=>k_is)
  (case z_min=>k_is)
  (case z_list=>k_is)
  (case z_isinstance=>k_is)
  (case z_all=>k_is)
  (case z_zip=>k_is)
  (case z_bool=>k_is)
  (case z_int=>k_is)
  (case z_repr=>k_is)
