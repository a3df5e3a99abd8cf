import PyProof.Rows.All
import Wide.All
import OpenK.AllK
import Wide.FinOn
import Lean
import PyProof.EqAt
import PyProof.EqKinds
import PyProof.TupleCall
import PyProof.CompFree
import PyProof.CompUse
import PyProof.CollectIter
import PyProof.ListNew
import KE.KRevIter
import PyProof.EnumMake
import PyProof.Draws
import PyProof.TupleIter
import PyProof.WalksMore
import PyProof.ReprRoads
import PyProof.P3Eq
import PyProof.NeData
import PyProof.EqLayable
import PyProof.Rows.RegFStrParts
import PyProof.AutoListH
import KE.KItemsList
import KE.KDictList
import PyProof.StrBlockG
import PyProof.StrLawsOcc
import PyProof.StrLawsTight
import PyProof.StrLawsChain
import PyProof.Rows.Range3
import PyProof.MinMaxWalk
import PyProof.WalkInts
import PyProof.ExcClass3
import PyProof.ExcInit
import PyProof.InstStoreFacts
import PyProof.ExcArgsOwn
import KE.KIsAll
import PyProof.RaisesMany
import PyProof.RulesTry
import PyProof.Raises
import PyProof.RulesAs
import PyProof.NsDelKeeps
import PyProof.PassesOwn
import PyProof.Rows.CatchHere
import KE.KSortTup
import PyProof.FactsAll.tuple_2
import PyProof.TupleKey
import PyProof.Rows.RowHeap
import PyProof.SetKind
import PyProof.SetNew
import PyProof.DictIter
import PyProof.CollectWalk
import PyProof.Walks
import PyProof.ZipIter
import KE.KRevSl
import KE.KStateDown
import PyProof.SetRoads
import PyProof.SumWalk
import PyProof.CallStr
import PySem.Challenge.RW_pileduel_k19_sayings_as_texts
set_option Elab.async false
set_option linter.all false
set_option maxRecDepth 100000
namespace L2
theorem Qdw{α:Sort _}{a b:α->Prop}{P:Prop}(h:∃x,a x/\b x)(k:∀x,a x->b x->P):P:=Exists.elim h λx y=>k x y.1 y.2
theorem Ce{α β:Sort _}{a b c:α->β->Prop}{P:Prop}(h:∃x y,a x y/\b x y/\c x y)(k:∀x y,a x y->b x y->c x y->P):P:=Exists.elim h λx h=>Exists.elim h λy h=>k x y h.1 h.2.1 h.2.2
theorem Cd{α β γ:Sort _}{a b c d:α->β->γ->Prop}{P:Prop}(h:∃x y z,a x y z/\b x y z/\c x y z/\d x y z)(k:∀x y z,a x y z->b x y z->c x y z->d x y z->P):P:=Exists.elim h λx h=>Exists.elim h λy h=>Exists.elim h λz h=>k x y z h.1 h.2.1 h.2.2.1 h.2.2.2
theorem Df{α β γ δ:Sort _}{a b c d e:α->β->γ->δ->Prop}{P:Prop}(h:∃x y z u,a x y z u/\b x y z u/\c x y z u/\d x y z u/\e x y z u)(k:∀x y z u,a x y z u->b x y z u->c x y z u->d x y z u->e x y z u->P):P:=Exists.elim h λx h=>Exists.elim h λy h=>Exists.elim h λz h=>Exists.elim h λu h=>k x y z u h.1 h.2.1 h.2.2.1 h.2.2.2.1 h.2.2.2.2
theorem Qad{α β γ δ:Sort _}{a b c d e f:α->β->γ->δ->Prop}{P:Prop}(h:∃x y z u,a x y z u/\b x y z u/\c x y z u/\d x y z u/\e x y z u/\f x y z u)(k:∀x y z u,a x y z u->b x y z u->c x y z u->d x y z u->e x y z u->f x y z u->P):P:=Exists.elim h λx h=>Exists.elim h λy h=>Exists.elim h λz h=>Exists.elim h λu h=>k x y z u h.1 h.2.1 h.2.2.1 h.2.2.2.1 h.2.2.2.2.1 h.2.2.2.2.2
theorem Ib{α β γ δ ε ζ:Sort _}{a b c d:α->β->γ->δ->ε->ζ->Prop}{P:Prop}(h:∃x y z u v w,a x y z u v w/\b x y z u v w/\c x y z u v w/\d x y z u v w)(k:∀x y z u v w,a x y z u v w->b x y z u v w->c x y z u v w->d x y z u v w->P):P:=Exists.elim h λx h=>Exists.elim h λy h=>Exists.elim h λz h=>Exists.elim h λu h=>Exists.elim h λv h=>Exists.elim h λw h=>k x y z u v w h.1 h.2.1 h.2.2.1 h.2.2.2
open PySem PySem.Spec PyProof.Rows
abbrev Key:=Sum Int Str
def Jw:Key->Value->Bool
 | .inl k,v=>Value.isInt k v
 | .inr x,v=>Value.isStrOf x v
def Qae(w:World):Key->Int
 | .inl k=>hashInt k
 | .inr x=>hashStr w x
theorem keyIs_shape:∀{k:Key} {v:Value},Jw k v=true->(∃i t,k=Sum.inl i/\v=Value.int i t)\/(∃x t,k=Sum.inr x/\v=Value.str x t)
 | .inl i,v,h=>by
  obtain⟨t,e⟩:=Value.isInt_shape (k:=i) (v:=v) h
  exact .inl ⟨i,t,rfl,e⟩
 | .inr x,v,h=>by
  obtain⟨t,e⟩:=Value.isStrOf_shape (x:=x) (v:=v) h
  exact .inr ⟨x,t,rfl,e⟩
theorem Rc(i:Int)(t:Tok):Jw (.inl i) (.int i t)=true:=by simp [Jw,Value.isInt]
theorem Re(x:Str)(t:Tok):Jw (.inr x) (.str x t)=true:=by simp [Jw,Value.isStrOf]
theorem Qaf(a b:Int):decide ((Sum.inl a:Key)=Sum.inl b)=(a==b):=by
 by_cases e:a=b
 ·subst e;simp
 ·have h:¬(Sum.inl a:Key)=Sum.inl b:=λq=>e (Sum.inl.inj q)
  rw [decide_eq_false h]
  exact(beq_eq_false_iff_ne.mpr e).symm
theorem Qag(a b:Str):decide ((Sum.inr a:Key)=Sum.inr b)=decide (a=b):=by
 by_cases e:a=b
 ·subst e;simp
 ·have h:¬(Sum.inr a:Key)=Sum.inr b:=λq=>e (Sum.inr.inj q)
  rw [decide_eq_false h,decide_eq_false e]
theorem Qah(a:Int)(b:Str):decide ((Sum.inl a:Key)=Sum.inr b)=false:=decide_eq_false (λq=>nomatch q)
theorem Qai(a:Str)(b:Int):decide ((Sum.inr a:Key)=Sum.inl b)=false:=decide_eq_false (λq=>nomatch q)
def Bw(prog:Program)(w:World):PySem.KeyKind prog w Key where
 is:=Jw
 hash:=Qae w
 inj:=λv a b ha hb=>by
  rcases keyIs_shape ha with⟨i,t,rfl,rfl⟩ | ⟨x,t,rfl,rfl⟩
  ·rcases keyIs_shape hb with⟨j,u,rfl,e⟩ | ⟨y,u,rfl,e⟩
   ·injection e with e1 _;rw [e1]
   ·exact nomatch e
  ·rcases keyIs_shape hb with⟨j,u,rfl,e⟩ | ⟨y,u,rfl,e⟩
   ·exact nomatch e
   ·injection e with e1 _;rw [e1]
 byValue:=λk v h=>by
  rcases keyIs_shape h with⟨i,t,rfl,rfl⟩ | ⟨x,t,rfl,rfl⟩ <;> rfl
 pyHash:=λhv h=>by
  rcases keyIs_shape hv with⟨i,t,rfl,rfl⟩ | ⟨x,t,rfl,rfl⟩
  ·exact wpAny_pyHash_int h
  ·exact wpAny_pyHash_str h
 eqBool:=λhu hv h=>by
  rcases keyIs_shape hu with⟨i,t,rfl,rfl⟩ | ⟨x,t,rfl,rfl⟩
  ·rcases keyIs_shape hv with⟨j,u,rfl,rfl⟩ | ⟨y,u,rfl,rfl⟩
   ·rw [Qaf]at h;exact wpAny_eqBool_int h
   ·rw [Qah]at h;exact SeqAt.EqAt.int_str i t y u _ _ _ _ h
  ·rcases keyIs_shape hv with⟨j,u,rfl,rfl⟩ | ⟨y,u,rfl,rfl⟩
   ·rw [Qai]at h;exact SeqAt.EqAt.str_int x t j u _ _ _ _ h
   ·rw [Qag]at h;exact wpAny_eqBool_str h
 «strs»:=λk x t v h=>by
  rcases keyIs_shape h with⟨i,u,rfl,e⟩ | ⟨y,u,rfl,e⟩
  ·exact nomatch e
  ·injection e with e1 _
   subst e1
   cases v <;> rfl
theorem Er(prog:Program)(w:World)(i:Int)(t:Tok):(Bw prog w).is (.inl i) (.int i t)=true:=Rc i t
theorem Es(prog:Program)(w:World)(x:Str)(t:Tok):(Bw prog w).is (.inr x) (.str x t)=true:=Re x t
end L2
namespace L2
open PySem PySem.Spec PyProof.Rows
inductive V where
 | non | bl (b:Bool) | int (i:Int) | str (x:Str) | byt (b:Array UInt8) | flt (b:UInt64) | ref (a:Addr) | ty (n:String)
 deriving DecidableEq
def Bj:V->Value->Prop
 | .non,u=>u=Value.none
 | .bl b,u=>u=Value.bool b
 | .int i,u=>∃t,u=Value.int i t
 | .str x,u=>∃t,u=Value.str x t
 | .byt b,u=>∃t,u=Value.bytes b t
 | .flt b,u=>∃t,u=Value.float b t
 | .ref a,u=>u=Value.ref a
 | .ty n,u=>u=Value.type n
abbrev Vals:List V->List Value->Prop:=Paired Bj
theorem Vals.length{xs:List V}{us:List Value}(r:Vals xs us):xs.length=us.length:=Paired.length r
theorem Vals.get:∀{xs:List V} {us:List Value} {i:Nat} {x:V},Vals xs us->xs[i]?=some x->∃u,us[i]?=some u/\Bj x u
 | _,_,_,_,.nil,e=>by simp at e
 | _,_,0,_,.cons r _,e=>by simp at e;subst e;exact⟨_,rfl,r⟩
 | _,_,i+1,x,.cons _ t,e=>by
  obtain⟨u,h1,h2⟩:=Vals.get (i:=i) (x:=x) t (by simpa using e)
  exact⟨u,by simpa using h1,h2⟩
theorem Vals.set{x:V}{u:Value}(r:Bj x u):∀{xs:List V} {us:List Value} (i:Nat),Vals xs us->Vals (xs.set i x) (us.set i u)
 | _,_,_,.nil=>.nil
 | _,_,0,.cons _ t=>.cons r t
 | _,_,i+1,.cons q t=>.cons q (Vals.set r i t)
theorem Vals.append:∀{xs ys:List V} {us ws:List Value},Vals xs us->Vals ys ws->Vals (xs++ys) (us++ws)
 | _,_,_,_,.nil,s=>s
 | _,_,_,_,.cons r t,s=>.cons r (Vals.append t s)
theorem Vals.take:∀{xs:List V} {us:List Value} (n:Nat),Vals xs us->Vals (xs.take n) (us.take n)
 | _,_,0,_=>.nil
 | _,_,_+1,.nil=>.nil
 | _,_,n+1,.cons r t=>.cons r (Vals.take n t)
theorem Vals.drop:∀{xs:List V} {us:List Value} (n:Nat),Vals xs us->Vals (xs.drop n) (us.drop n)
 | _,_,0,r=>r
 | _,_,_+1,.nil=>.nil
 | _,_,n+1,.cons _ t=>Vals.drop n t
def Ic:Option V->Option Value->Prop
 | some v,some u=>Bj v u
 | none,none=>True
 | _,_=>False
def KV{κ:Type}:List (κ×V)->List (κ×Value)->Prop:=Paired λ(p:κ×V) (q:κ×Value)=>p.1=q.1/\Bj p.2 q.2
def kV:Key->V
 | .inl i=>.int i
 | .inr x=>.str x
mutual
def Ba(w:World):PyData->Int
 | .int i=>Qae w (.inl i)
 | .str x=>Qae w (.inr x)
 | .tuple ds=>reduceHash (Builtin.Tuple.tupleHashOf (Cy w ds))
 | _=>0
def Cy(w:World):List PyData->List Int
 | []=>[]
 | d :: ds=>Ba w d :: Cy w ds
end
def Qhy(w:World)(x:PyData×Addr×Value):DictEntry:=⟨Ba w x.1,.ref x.2.1,x.2.2⟩
def Qhz(w:World)(h:Heap)(a:Addr)(xs:List (PyData×Addr×Value)):Prop :=
 ∃o es ep,h.get? a=some o/\o.ExactDict/\o.data=.dict es ep/\es.toList=xs.map (Qhy w)/\(xs.map (·.1)).Nodup/\(a==sysModules)=false/\xs.length<=sizeLine
inductive HO where
 | lst (xs:List V)
 | tup (xs:List V)
 | dK (kvs:List (Key×V)) | dT (kvs:List (List Key×V))
 | set (S:Int->Bool) (n:Nat)
 | ins (C dx:Addr) (fs:List (Str×V))
 | own (x:Addr)
 | xd (fs:List (Str×V))
 | met (f x:Addr)
 | rng (lo hi:Int)
 | frz (o:Obj) (u:HO)
 | tbl (ps:Array Value)
 | ext (φ:Heap->Prop)
 | dd (xs:List (PyData×Addr×Value))
abbrev Hp:=Addr->Option HO
def upd(H:Hp)(a:Addr)(o:HO):Hp:=λb=>if b=a then some o else H b
theorem B7{H:Hp}{a:Addr}{o:HO}:upd H a o a=some o:=by unfold upd;rw [if_pos rfl]
theorem Bd{H:Hp}{a b:Addr}{o:HO}(h:b≠a):upd H a o b=H b:=by unfold upd;rw [if_neg h]
theorem Sz{H:Hp}{a b:Addr}{o u:HO}(h:H a=some o)(h':H b=some u)(d:o≠u):a≠b:=by
 intro e;subst e;rw [h]at h';exact d (Option.some.inj h')
theorem Cf{H:Hp}{a b:Addr}{o:HO}(h:H a=some o)(h':H b=none):a≠b:=by
 intro e;subst e;rw [h]at h';cases h'
section
variable(P:Program)(w:World)
def B5(H:Hp)(h:Heap)(a:Addr):HO->Prop
 | .lst xs=>xs.length<=sizeLine/\∃(its:List Value) (n:Nat),Vals xs its/\h.get? a=some { cls:=.type "list",data:=.seq its.toArray n }
 | .tup xs=>xs.length<=sizeLine/\∃its:List Value,Vals xs its/\IsTup h a its.toArray
 | .dK kvs=>kvs.length<=sizeLine/\(a==sysModules)=false/\∃vs,KV kvs vs/\h.DictOf (Bw P w) a vs
 | .dT kvs=>kvs.length<=sizeLine/\(a==sysModules)=false/\∃xs:List (List Key×Addr×Value),
   Paired (λ(p:List Key×V) (q:List Key×Addr×Value)=>p.1=q.1/\H q.2.1=some (.tup (p.1.map kV))/\Bj p.2 q.2.2) kvs xs /\
   ∃o es ep,h.get? a=some o/\o.ExactDict/\o.data=.dict es ep/\es.toList=xs.map (entryOfKey (tupleKind (Bw P w)))/\(xs.map (·.1)).Nodup
 | .set S n=>h.SetOf (intKind P w) a S n
 | .ins C dx fs=>H dx=some (.own a)/\fs.length<=1000/\dx≠a/\h.get? a=some (PySem.W.instObj C dx) /\
   ∃mA,h.Ns1 dx mA/\(∀f,Ic (fs.lookup f) (mA f))/\PySem.Within mA (fs.map (·.1))
 | .own _=>∃o,h.get? a=some o
 | .xd fs=>∃mA,h.Ns1 a mA/\∀f,Ic (fs.lookup f) (mA f)
 | .rng lo hi=>∃t u v,h.get? a=some { cls:=.type "range",data:=.fields #[.int lo t,.int hi u,.int 1 v] }
 | .frz o u=>h.get? a=some o/\B5 H h a u
 | .tbl ps=>h.get? a=some { cls:=.none,data:=.fields ps }
 | .met f x=>h.get? a=some (PySem.W.methodObj (.ref f) (.ref x))
 | .ext φ=>φ h/\(∃o,h.get? a=some o)/\∀h1 h2:Heap,φ h1->(∀o,h1.get? a=some o->h2.get? a=some o)->φ h2
 | .dd xs=>Qhz w h a xs
def HOk(H:Hp)(h:Heap):Prop:=∀a o,H a=some o->B5 P w H h a o
end
section
variable {P:Program}{w:World}{H H':Hp}{h h':Heap}{a:Addr}{o:HO}
theorem B5.lt(x:B5 P w H h a o):a < h.objs.size:=by
 cases o with
 | lst xs=>obtain⟨_,_,_,_,e⟩:=x;exact Heap.lt_size e
 | tup xs=>obtain⟨_,_,_,p⟩:=x;exact p.lt
 | dK kvs=>obtain⟨_,_,_,_,o,_,_,e,_⟩:=x;exact Heap.lt_size e
 | dT kvs=>obtain⟨_,_,_,_,o,_,_,e,_⟩:=x;exact Heap.lt_size e
 | set S n=>obtain⟨o,_,_,_,e,_⟩:=x;exact Heap.lt_size e
 | ins C dx fs=>obtain⟨_,_,_,e,_⟩:=x;exact Heap.lt_size e
 | own y=>obtain⟨_,e⟩:=x;exact Heap.lt_size e
 | xd fs=>obtain⟨_,⟨_,_,_,e,_⟩,_⟩:=x;exact Heap.lt_size e
 | rng lo hi=>obtain⟨_,_,_,e⟩:=x;exact Heap.lt_size e
 | frz ob u=>obtain⟨e,_⟩:=x;exact Heap.lt_size e
 | tbl ps=>exact Heap.lt_size (show h.get? a=some _ from x)
 | met f y=>exact Heap.lt_size (show h.get? a=some _ from x)
 | ext φ=>obtain⟨_,⟨_,e⟩,_⟩:=x;exact Heap.lt_size e
 | dd xs=>obtain⟨_,_,_,e,_⟩:=x;exact Heap.lt_size e
theorem Paired.mapP{α β:Type}{F G:α->β->Prop}:∀{l₁:List α} {l₂:List β},Paired F l₁ l₂->(∀a b,F a b->G a b)->Paired G l₁ l₂
 | _,_,.nil,_=>.nil
 | _,_,.cons r t,f=>.cons (f _ _ r) (Paired.mapP t f)
theorem B5.stay(x:B5 P w H h a o)(k:∀b u,(b=a\/H b=some (.own a))->h.get? b=some u->h'.get? b=some u)
  (ho:∀b,H b=some (.own a)->H' b=some (.own a)) (ht:∀b xs,H b=some (.tup xs)->H' b=some (.tup xs)):B5 P w H' h' a o:=by
 induction o with
 | lst xs=>obtain⟨z,its,n,r,e⟩:=x;exact⟨z,its,n,r,k _ _ (.inl rfl) e⟩
 | tup xs=>obtain⟨z,its,r,ob,e,c⟩:=x;exact⟨z,its,r,ob,k _ _ (.inl rfl) e,c⟩
 | dK kvs=>obtain⟨z,y,vs,r,ob,es,ep,e,c⟩:=x;exact⟨z,y,vs,r,ob,es,ep,k _ _ (.inl rfl) e,c⟩
 | dT kvs =>
  obtain⟨z,y,xs,r,ob,es,ep,e,c⟩:=x
  exact⟨z,y,xs,Paired.mapP r λp q z=>⟨z.1,ht _ _ z.2.1,z.2.2⟩,ob,es,ep,k _ _ (.inl rfl) e,c⟩
 | set S n=>obtain⟨ob,es,ep,t,e,c⟩:=x;exact⟨ob,es,ep,t,k _ _ (.inl rfl) e,c⟩
 | ins C dx fs =>
  obtain⟨d,z,ne,e,mA,⟨od,es,ep,e2,c⟩,r⟩:=x
  exact⟨ho _ d,z,ne,k _ _ (.inl rfl) e,mA,⟨od,es,ep,k _ _ (.inr d) e2,c⟩,r⟩
 | own y=>obtain⟨ob,e⟩:=x;exact⟨ob,k _ _ (.inl rfl) e⟩
 | xd fs=>obtain⟨mA,⟨od,es,ep,e,c⟩,r⟩:=x;exact⟨mA,⟨od,es,ep,k _ _ (.inl rfl) e,c⟩,r⟩
 | rng lo hi=>obtain⟨t,u,v,e⟩:=x;exact⟨t,u,v,k _ _ (.inl rfl) e⟩
 | frz ob u ih=>obtain⟨e,q⟩:=x;exact⟨k _ _ (.inl rfl) e,ih q⟩
 | tbl ps =>
  have e:h.get? a=some { cls:=.none,data:=.fields ps }:=x
  show h'.get? a=some { cls:=.none,data:=.fields ps }
  exact k a _ (.inl rfl) e
 | met f y =>
  have e:h.get? a=some (PySem.W.methodObj (.ref f) (.ref y)):=x
  show h'.get? a=some (PySem.W.methodObj (.ref f) (.ref y))
  exact k a _ (.inl rfl) e
 | ext φ=>obtain⟨p,⟨o,e⟩,st⟩:=x;exact⟨st _ _ p λo q=>k _ _ (.inl rfl) q,⟨o,k _ _ (.inl rfl) e⟩,st⟩
 | dd xs=>obtain⟨o,es,ep,e,c⟩:=x;exact⟨o,es,ep,k _ _ (.inl rfl) e,c⟩
theorem HOk.lt(x:HOk P w H h)(e:H a=some o):a < h.objs.size:=(x a o e).lt
theorem HOk.fresh(x:HOk P w H h)(e:h.objs.size<=a):H a=none:=by
 cases q:H a with
 | none=>rfl
 | some u=>exact absurd (Nat.lt_of_lt_of_le (x.lt q) e) (Nat.lt_irrefl _)
theorem HOk.kept(x:HOk P w H h)(k:∀b u,h.get? b=some u->h'.get? b=some u):HOk P w H h':=λa o e =>
 (x a o e).stay (λb u _ q=>k b u q) (λ_ q=>q) λ_ _ q=>q
theorem HOk.laid(x:HOk P w H h)(k:∀b u,h.get? b=some u->h'.get? b=some u)(hp:h.objs.size<=a)(new:B5 P w (upd H a o) h' a o):HOk P w (upd H a o) h':=λb u e=>by
 have hn:=x.fresh hp
 by_cases hb:b=a
 ·subst hb;rw [B7]at e;cases e;exact new
 ·rw [Bd hb]at e
  exact(x b u e).stay (λc v _ q=>k c v q) (λc q=>by rw [Bd (Cf q hn)];exact q) λc xs q=>by rw [Bd (Cf q hn)];exact q
end
def Rd(H:Hp)(a:Addr)(u:HO):Prop:=H a=some u\/∃o,H a=some (.frz o u)
theorem Rd.ok{P:Program}{w:World}{H:Hp}{h:Heap}{a:Addr}{u:HO}(r:Rd H a u)(x:HOk P w H h):B5 P w H h a u:=by
 rcases r with r | ⟨o,r⟩
 ·exact x a u r
 ·obtain⟨_,q⟩:=x a _ r
  exact q
def Mut:Option HO->Prop
 | some (.lst _)=>True
 | some (.dK _)=>True
 | some (.dT _)=>True
 | some (.set _ _)=>True
 | some (.ins _ _ _)=>True
 | some (.ext _)=>True
 | some (.dd _)=>True
 | _=>False
section
variable {P:Program}{w:World}{H:Hp}{h h':Heap}{x e:Addr}{o':HO}
theorem HOk.write(ok:HOk P w H h)(mu:Mut (H x))(he:e=x\/H e=some (.own x))(k:∀b u,b≠e->h.get? b=some u->h'.get? b=some u)(heo:∃u,h'.get? e=some u)
  (new:B5 P w (upd H x o') h' x o'):HOk P w (upd H x o') h':=λb u q=>by
 have nown:∀c y,H c=some (.own y)->c≠x:=λc y r z=>by subst z;rw [r]at mu;exact mu
 have ntup:∀c xs,H c=some (.tup xs)->c≠x:=λc xs r z=>by subst z;rw [r]at mu;exact mu
 by_cases hb:b=x
 ·subst hb;rw [B7]at q;cases q;exact new
 ·rw [Bd hb]at q
  by_cases hbe:b=e
  ·have q':H b=some (.own x):=by
    rcases he with z | z
    ·exact absurd (hbe.trans z) hb
    ·rw [hbe];exact z
   rw [q]at q';cases q'
   obtain⟨v,hv⟩:=heo
   exact⟨v,by rw [hbe];exact hv⟩
  ·refine(ok b u q).stay (λc v hc r=>k c v ?_ r) (λc r=>by rw [Bd (nown c b r)];exact r) λc xs r=>by rw [Bd (ntup c xs r)];exact r
   rcases hc with rfl | hc
   ·exact hbe
   ·rintro rfl
    rcases he with z | z
    ·exact nown c b hc z
    ·rw [hc]at z;cases z;exact hb rfl
end
structure Un(fs ex:List Addr)(H H':Hp)(h h':Heap):Prop where
 keep:∀b o,h.get? b=some o->H b=none->b∉fs->b∉ex->h'.get? b=some o
 slot:∀b o,h.get? b=some o->H b=none->b∈fs->b∉ex->∃sl,h'.get? b=some { o with slots:=sl }
 free:∀b o,h.get? b=some o->H b=none->b∉ex->H' b=none
 there:∀b o,h.get? b=some o->b∉ex->∃o',h'.get? b=some o'
 tups:∀b xs,H b=some (.tup xs)->H' b=some (.tup xs)
 frzs:∀b o u,H b=some (.frz o u)->H' b=some (.frz o u)
 tbls:∀b ps,H b=some (.tbl ps)->∃more,H' b=some (.tbl (ps++more))
section
variable {fs fs' ex ex':List Addr}{H H1 H2:Hp}{h h1 h2 h':Heap}{a x e:Addr}{o:HO}
theorem Un.any(u:Un fs ex H H1 h h1){b:Addr}{ob:Obj}(q:h.get? b=some ob)(n:H b=none)(hx:b∉ex):∃sl,h1.get? b=some { ob with slots:=sl }:=by
 by_cases hb:b∈fs
 ·exact u.slot b ob q n hb hx
 ·exact⟨ob.slots,u.keep b ob q n hb hx⟩
theorem Un.kept(k:∀b u,h.get? b=some u->h'.get? b=some u):Un fs ex H H h h' :=
 ⟨λb ob q _ _ _=>k b ob q,λb ob q _ _ _=>⟨ob.slots,k b ob q⟩,λ_ _ _ n _=>n,λb ob q _=>⟨ob,k b ob q⟩,λ_ _ q=>q,λ_ _ _ q=>q,λ_ ps q=>⟨#[],by rw [q];simp⟩⟩
theorem Un.refl:Un fs ex H H h h:=Un.kept λ_ _ q=>q
theorem Un.laid(k:∀b u,h.get? b=some u->h'.get? b=some u)(hp:h.objs.size<=a)(hn:H a=none):Un fs ex H (upd H a o) h h' where
 keep:=λb u q _ _ _=>k b u q
 slot:=λb u q _ _ _=>⟨u.slots,k b u q⟩
 free:=λb u q n _=>by rw [Bd (Nat.ne_of_lt (Nat.lt_of_lt_of_le (Heap.lt_size q) hp))];exact n
 there:=λb u q _=>⟨u,k b u q⟩
 tups:=λb xs q=>by rw [Bd (Cf q hn)];exact q
 frzs:=λb u xs q=>by rw [Bd (Cf q hn)];exact q
 tbls:=λb ps q=>⟨#[],by rw [Bd (Cf q hn),q];simp⟩
theorem Un.write(mu:Mut (H x))(he:e=x\/H e=some (.own x))(k:∀b u,b≠e->h.get? b=some u->h'.get? b=some u)(heo:∃u,h'.get? e=some u):Un fs ex H (upd H x o) h h':=by
 have hx:∀b,H b=none->b≠x:=λb n z=>by subst z;rw [n]at mu;exact mu
 have hb:∀b,H b=none->b≠e:=λb n z=>by
  subst z
  rcases he with r | r
  ·exact hx b n r
  ·rw [n]at r;cases r
 have hm:∀b u,H b=some u->¬Mut (some u)->b≠x:=λb u q nm z=>by subst z;rw [q]at mu;exact nm mu
 refine⟨λb u q n _ _=>k b u (hb b n) q,λb u q n _ _=>⟨u.slots,k b u (hb b n) q⟩,λb u q n _=>by rw [Bd (hx b n)];exact n,λb u q _=>?_,
  λb xs q=>by rw [Bd (hm b _ q λz=>z)];exact q,λb u xs q=>by rw [Bd (hm b _ q λz=>z)];exact q,λb ps q=>⟨#[],by rw [Bd (hm b _ q λz=>z),q];simp⟩⟩
 by_cases hbe:b=e
 ·subst hbe;exact heo
 ·exact⟨u,k b u hbe q⟩
end
def trk(h:Heap)(H:Hp):List Addr:=(List.range h.objs.size).filter λa=>(H a).isSome
def K0(h:Heap)(H:Hp):Heap:=PySem.W.hideAll h (trk h H)
theorem Rf(h:Heap)(H:Hp):(K0 h H).objs.size=h.objs.size:=PySem.W.hideAll_size _ _
theorem Ta{h:Heap}{H:Hp}{b:Addr}{o:Obj}(e:h.get? b=some o)(n:H b=none):(K0 h H).get? b=some o :=
 PySem.W.hideAll_get _ e λhm=>by
  have q:(H b).isSome=true:=(List.mem_filter.mp hm).2
  rw [n]at q;simp at q
theorem Wj{h:Heap}{H:Hp}{b:Addr}{o:Obj}(e:(K0 h H).get? b=some o):h.get? b=some o/\H b=none:=by
 have e':h.get? b=some o:=PySem.W.of_hideAll (trk h H) e
 refine⟨e',?_⟩
 cases q:H b with
 | none=>rfl
 | some x =>
  have hm:b∈trk h H:=List.mem_filter.mpr ⟨List.mem_range.mpr (Heap.lt_size e'),by simp [q]⟩
  have z:(K0 h H).get? b=none:=PySem.W.hideAll_none (trk h H) hm
  rw [z]at e;cases e
def Wk(g h:Heap)(L:Addr):List (Addr×Obj):=(List.range h.objs.size).filterMap λa=>if a=L\/(g.get? a).isSome=true then none else(h.get? a).map λo=>(a,o)
def rest(g h:Heap)(L d:Addr):List (Addr×Obj):=(Wk g h L).filter λp=>decide (p.1≠d)
structure Mod(K:PySem.W.Frag)(mg:Str->Option Value)(base:Heap):Prop where
 kin:K.In base
 glob:base.Ns mainGlobals mg
 blt:∃mb,base.Ns builtinsNs mb/\∀x:Str,x ≠ "__name__" -> mb x=bootBuiltins x
 nolimit:base.NoLimit
structure Cx where
 prog:Program
 w:World
 K:PySem.W.Frag
 mg:Str->Option Value
 base:Heap
 A:Around
 N:List Str
 s₀:Shared
 H₀:Hp
 env:Env
 outer:List Env
 stack:List Env
 ex:List Addr
 fn:Str->Bool
 calm:Bool
 pn:List (Addr×Obj)
 xe:Value->Shared->Prop
def frs(l:List Env):List Addr:=l.filterMap (·.frame)
abbrev Cx.fs(X:Cx):List Addr:=frs X.outer
def Vis(sc:Scope)(x:Str):Prop:=sc.names.lookup x=some .local\/sc.names.lookup x=some .cell\/sc.names.lookup x=some .free
def Loc(sc:Scope)(x:Str):Prop:=sc.names.lookup x=some .local\/sc.names.lookup x=some .cell
def Look(env:Env)(h:Heap)(m:Str->Option Value)(x:Str)(u:Value):Prop :=
 (env.kindOf x=some .local/\m x=some u)\/((env.kindOf x=some .cell\/env.kindOf x=some .free)/\∃c,env.cells.lookup x=some c/\h.IsCell c (some u))
structure Cx.Ok(X:Cx):Prop where
 mod:Mod X.K X.mg X.base
 kind:X.env.scope.kind=.function
 glob:X.env.globals=mainGlobals
 blt:X.env.builtins=builtinsNs
 above:X.s₀.heap.objs.size<=X.env.locals
 inj:∀x y c,X.env.cells.lookup x=some c->X.env.cells.lookup y=some c->x=y
 has:∀x,(X.env.kindOf x=some .cell\/X.env.kindOf x=some .free)->∃c,X.env.cells.lookup x=some c
 cab:∀x c,X.fn x=true->X.env.cells.lookup x=some c->X.s₀.heap.objs.size<=c
 hd:X.calm=true->X.A.handled=none
 frames:X.A.frames=some X.stack
 stk:X.stack=X.outer\/(X.stack=X.env :: X.outer/\X.env.frame=some X.env.locals)
 exf:∀b∈X.ex,b≠X.env.locals/\∀x c,X.env.cells.lookup x=some c->c≠b
 bs:∀b o,X.base.get? b=some o->X.s₀.heap.get? b=some o/\X.H₀ b=none
 bsz:X.base.objs.size<=X.s₀.heap.objs.size
 noex:∀b o,X.base.get? b=some o->b∉X.ex
 exfs:∀b∈X.ex,b∉X.fs
 funs:X.s₀.heap.FunFrames X.base X.outer
 frf:∀b∈X.fs,X.H₀ b=none
structure Inv(X:Cx)(pins:List (Addr×Obj))(σ:List (Option V))(H:Hp)(s:Shared):Prop where
 ok:X.Ok
 os:s.os=X.s₀.os
 bare:AllBare s.gens
 base:Un X.fs X.ex X.H₀ H X.s₀.heap s.heap
 loc:∃m,s.heap.Ns X.env.locals m/\∀(i:Nat) (x:Str) (v:V),X.N[i]?=some x->σ[i]?=some (some v)->Vis X.env.scope x->∃u,Bj v u/\Look X.env s.heap m x u
 cell:∀x c,X.env.cells.lookup x=some c->∃v,s.heap.IsCell c v
 free:H X.env.locals=none
 freeC:∀x c,X.env.cells.lookup x=some c->H c=none
 pin:∀p∈X.pn++pins,s.heap.get? p.1=some p.2/\H p.1=none/\p.1≠X.env.locals/\p.1∉X.fs/\∀v,p.2.data≠.cell v
 hok:HOk X.prog X.w H s.heap
 len:σ.length=X.N.length
section
variable {X:Cx}{pins:List (Addr×Obj)}{σ:List (Option V)}{H H':Hp}{s:Shared}{h':Heap}
theorem Cx.Ok.nofr(ok:X.Ok){b:Addr}{o:Obj}(e:X.base.get? b=some o):b∉X.fs:=λhb=>by
 have:=(ok.funs.mem hb).1
 rw [e]at this;cases this
theorem Inv.bs(I:Inv X pins σ H s):∀b o,X.base.get? b=some o->s.heap.get? b=some o/\H b=none:=λb o e =>
 ⟨I.base.keep b o (I.ok.bs b o e).1 (I.ok.bs b o e).2 (I.ok.nofr e) (I.ok.noex b o e),I.base.free b o (I.ok.bs b o e).1 (I.ok.bs b o e).2 (I.ok.noex b o e)⟩
theorem Inv.bk(I:Inv X pins σ H s):∀b o,X.base.get? b=some o->s.heap.get? b=some o:=λb o e=>(I.bs b o e).1
theorem Inv.mod(I:Inv X pins σ H s):Mod X.K X.mg X.base:=I.ok.mod
theorem Inv.kIn(I:Inv X pins σ H s):X.K.In s.heap:=I.ok.mod.kin.keeps I.bk
theorem Inv.lt(I:Inv X pins σ H s):X.env.locals < s.heap.objs.size:=let⟨_,hn,_⟩:=I.loc;hn.lt
theorem Inv.sz(I:Inv X pins σ H s):X.s₀.heap.objs.size<=s.heap.objs.size:=Nat.le_trans I.ok.above (Nat.le_of_lt I.lt)
theorem Inv.nofs(I:Inv X pins σ H s){a:Addr}(h:s.heap.objs.size<=a):a∉X.fs:=λhb=>by
 obtain⟨_,o,ho,_⟩:=I.ok.funs.mem hb
 exact absurd (Nat.lt_of_lt_of_le (Heap.lt_size ho) (Nat.le_trans I.sz h)) (Nat.lt_irrefl _)
theorem Inv.cne(I:Inv X pins σ H s):∀x c,X.env.cells.lookup x=some c->c≠X.env.locals:=λx c e z=>by
 obtain⟨v,o,ho,hd⟩:=I.cell x c e
 obtain⟨m,⟨o',es,ep,ho',hd',_⟩,_⟩:=I.loc
 rw [z,ho']at ho;cases ho;rw [hd']at hd;cases hd
theorem Inv.funs(I:Inv X pins σ H s):s.heap.FunFrames X.base X.outer:=by
 have all:∀(l:List Env),(∀b∈frs l,b∈X.fs)->X.s₀.heap.FunFrames X.base l->s.heap.FunFrames X.base l:=by
  intro l
  induction l with
  | nil=>intro _ _;trivial
  | cons env r ih =>
   intro hs hl
   obtain⟨hk,⟨L,o,hf,hn,ho,hd⟩,hr⟩:=hl
   have hL:L∈X.fs:=hs L (by unfold frs;rw [List.filterMap_cons,hf];exact List.mem_cons_self)
   obtain⟨sl,e⟩:=I.base.slot L o ho (I.ok.frf L hL) hL λz=>I.ok.exfs L z hL
   exact⟨hk,⟨L,_,hf,hn,e,hd⟩,ih (λb hb=>hs b (by unfold frs;rw [List.filterMap_cons,hf];exact List.mem_cons_of_mem _ hb)) hr⟩
 exact all X.outer (λ_ hb=>hb) I.ok.funs
theorem Inv.stack(I:Inv X pins σ H s):s.heap.FunFrames X.base X.stack:=by
 rcases I.ok.stk with e | ⟨e,hf⟩
 ·rw [e];exact I.funs
 ·rw [e]
  obtain⟨m,hn,_⟩:=I.loc
  refine .cons (by rw [I.ok.kind];decide) hf hn ?_ I.funs
  exact Heap.get?_none_of_le (Nat.le_trans I.ok.bsz I.ok.above)
theorem Inv.stkSub(I:Inv X pins σ H s):∀b∈frs X.stack,b∈X.env.locals :: X.fs:=λb hb=>by
 rcases I.ok.stk with e | ⟨e,hf⟩
 ·rw [e]at hb;exact List.mem_cons_of_mem _ hb
 ·rw [e]at hb
  unfold frs at hb
  rw [List.filterMap_cons,hf]at hb
  exact hb
theorem Inv.stkFree(I:Inv X pins σ H s):∀b∈frs X.stack,H b=none:=λb hb=>by
 rcases List.mem_cons.mp (I.stkSub b hb) with e | hb
 ·rw [e];exact I.free
 ·obtain⟨_,o,ho,_⟩:=I.ok.funs.mem hb
  exact I.base.free b o ho (I.ok.frf b hb) λz=>I.ok.exfs b z hb
theorem Inv.step{g':Array GenState}{t':Nat}{d':Drawn}{ch:List Addr}(I:Inv X pins σ H s)
  (hch:∀b∈ch,(b∈X.ex\/X.s₀.heap.objs.size<=b)/\b≠X.env.locals/\(∀x c,X.env.cells.lookup x=some c->c≠b)/\∀p∈X.pn++pins,p.1≠b)
  (keep:∀b o,b≠X.env.locals->b∉X.fs->b∉ch->s.heap.get? b=some o->H b=none->h'.get? b=some o)
  (slot:∀b o,b≠X.env.locals->b∈X.fs->b∉ch->s.heap.get? b=some o->H b=none->∃sl,h'.get? b=some { o with slots:=sl }) (free:∀b o,b∉ch->s.heap.get? b=some o->H b=none->H' b=none)
  (there:∀b o,b∉ch->s.heap.get? b=some o->∃o',h'.get? b=some o')
  (tups:∀b xs,H b=some (.tup xs)->H' b=some (.tup xs)) (frzs:∀b o u,H b=some (.frz o u)->H' b=some (.frz o u)) (tbls:∀b ps,H b=some (.tbl ps)->∃more,H' b=some (.tbl (ps++more)))
  (ns:∀m,s.heap.Ns X.env.locals m->h'.Ns X.env.locals m) (hok:HOk X.prog X.w H' h') (hg:AllBare g') :
  Inv X pins σ H' { s with heap:=h',gens:=g',drawn:=d',toks:=t' }:=by
 have neL:∀b o,X.s₀.heap.get? b=some o->b≠X.env.locals:=λb o e=>Nat.ne_of_lt (Nat.lt_of_lt_of_le (Heap.lt_size e) I.ok.above)
 have neC:∀b o,X.s₀.heap.get? b=some o->b∉X.ex->b∉ch:=λb o e hx hb=>by
  rcases(hch b hb).1 with z | z
  ·exact hx z
  ·exact absurd (Nat.lt_of_lt_of_le (Heap.lt_size e) z) (Nat.lt_irrefl _)
 have cellK:∀x c,X.env.cells.lookup x=some c->∀v,s.heap.IsCell c v->h'.IsCell c v:=λx c e v ⟨o,ho,hd⟩=>by
  have nch:c∉ch:=λz=>(hch c z).2.2.1 x c e rfl
  by_cases hc:c∈X.fs
  ·obtain⟨sl,q⟩:=slot c o (I.cne x c e) hc nch ho (I.freeC x c e)
   exact⟨_,q,hd⟩
  ·exact⟨o,keep c o (I.cne x c e) hc nch ho (I.freeC x c e),hd⟩
 refine⟨I.ok,I.os,hg,⟨λb o e n hb hx=>?_,λb o e n hb hx=>?_,λb o e n hx=>?_,λb o e hx=>?_,λb xs e=>tups b xs (I.base.tups b xs e),λb o xs e=>frzs b o xs (I.base.frzs b o xs e),λb ps e=>?_⟩,?_,λx c e=>?_,?_,λx c e=>?_,λp hp=>?_,hok,I.len⟩
 ·exact keep b o (neL b o e) hb (neC b o e hx) (I.base.keep b o e n hb hx) (I.base.free b o e n hx)
 ·obtain⟨sl,e1⟩:=I.base.slot b o e n hb hx
  obtain⟨sl',e2⟩:=slot b _ (neL b o e) hb (neC b o e hx) e1 (I.base.free b o e n hx)
  exact⟨sl',e2⟩
 ·obtain⟨o',e1⟩:=I.base.there b o e hx
  exact free b o' (neC b o e hx) e1 (I.base.free b o e n hx)
 ·obtain⟨o',e1⟩:=I.base.there b o e hx
  exact there b o' (neC b o e hx) e1
 ·obtain⟨m1,e1⟩:=I.base.tbls b ps e
  obtain⟨m2,e2⟩:=tbls b _ e1
  exact⟨m1++m2,by rw [e2,Array.append_assoc]⟩
 ·obtain⟨m,hn,hl⟩:=I.loc
  refine⟨m,ns m hn,λi x v e1 e2 e3=>?_⟩
  obtain⟨u,r,l⟩:=hl i x v e1 e2 e3
  refine⟨u,r,?_⟩
  rcases l with l | ⟨k,c,e,z⟩
  ·exact .inl l
  ·exact .inr ⟨k,c,e,cellK x c e _ z⟩
 ·obtain⟨v,z⟩:=I.cell x c e
  exact⟨v,cellK x c e v z⟩
 ·obtain⟨m,⟨o,_,_,ho,_⟩,_⟩:=I.loc
  exact free _ o (λz=>(hch _ z).2.1 rfl) ho I.free
 ·obtain⟨v,o,ho,hd⟩:=I.cell x c e
  exact free c o (λz=>(hch c z).2.2.1 x c e rfl) ho (I.freeC x c e)
 ·obtain⟨e,n,ne,nf,d⟩:=I.pin p hp
  have nch:p.1∉ch:=λz=>(hch p.1 z).2.2.2 p hp rfl
  exact⟨keep p.1 p.2 ne nf nch e n,free p.1 p.2 nch e n,ne,nf,d⟩
theorem Inv.un{t':Nat}(I:Inv X pins σ H s)(u:Un X.fs [] H H' s.heap h')(hok:HOk X.prog X.w H' h'):Inv X pins σ H' { s with heap:=h',toks:=t' }:=by
 obtain⟨m,⟨o,es,ep,ho,r⟩,_⟩:=id I.loc
 obtain⟨sl,hL⟩:=u.any ho I.free (by simp)
 exact I.step (g':=s.gens) (d':=s.drawn) (ch:=[]) (λ_ z=>nomatch z) (λb o _ hb _ e n=>u.keep b o e n hb (by simp)) (λb o _ hb _ e n=>u.slot b o e n hb (by simp)) (λb o _ e n=>u.free b o e n (by simp)) (λb o _ e=>u.there b o e (by simp)) u.tups u.frzs u.tbls (λm' hm=>by
  obtain⟨o',es',ep',ho',r'⟩:=hm
  rw [ho]at ho';cases ho'
  exact⟨_,es',ep',hL,r'⟩) hok I.bare
theorem Inv.call{g':Array GenState}{t':Nat}{d':Drawn}{ch:List Addr}(I:Inv X pins σ H s)(u:Un (frs X.stack) ch H H' s.heap h')(hok:HOk X.prog X.w H' h')(hg:AllBare g')
  (hch:∀b∈ch,(b∈X.ex\/X.s₀.heap.objs.size<=b)/\b≠X.env.locals/\(∀x c,X.env.cells.lookup x=some c->c≠b)/\∀p∈X.pn++pins,p.1≠b) :
  Inv X pins σ H' { s with heap:=h',gens:=g',drawn:=d',toks:=t' }:=by
 obtain⟨m,⟨o,es,ep,ho,r⟩,_⟩:=id I.loc
 obtain⟨sl,hL⟩:=u.any ho I.free λz=>(hch _ z).2.1 rfl
 exact I.step (ch:=ch) hch (λb o hL hb hc e n=>u.keep b o e n (λz=>(List.mem_cons.mp (I.stkSub b z)).elim hL hb) hc) (λb o _ _ hc e n=>u.any e n hc) (λb o hc e n=>u.free b o e n hc) (λb o hc e=>u.there b o e hc) u.tups u.frzs u.tbls (λm' hm=>by
  obtain⟨o',es',ep',ho',r'⟩:=hm
  rw [ho]at ho';cases ho'
  exact⟨_,es',ep',hL,r'⟩) hok hg
theorem Inv.turned{t':Nat}{it:Addr}(I:Inv X pins σ H s)(k:∀b o,b≠it->s.heap.get? b=some o->h'.get? b=some o)(hn:H it=none)(hL:it≠X.env.locals)
  (h1:it∈X.ex\/X.s₀.heap.objs.size<=it) (h2:∀x c,X.env.cells.lookup x=some c->c≠it) (h3:∀p∈X.pn++pins,p.1≠it):Inv X pins σ H { s with heap:=h',toks:=t' }:=by
 have nit:∀b u,H b=some u->b≠it:=λb u e z=>by rw [z,hn]at e;cases e
 refine I.step (g':=s.gens) (d':=s.drawn) (ch:=[it]) (λb hb=>?_) (λb o _ _ hc e _=>k b o (λz=>hc (by simp [z])) e) (λb o _ _ hc e _=>⟨o.slots,k b o (λz=>hc (by simp [z])) e⟩) (λ_ _ _ _ n=>n)
  (λb o hc e=>⟨o,k b o (λz=>hc (by simp [z])) e⟩) (λ_ _ e=>e) (λ_ _ _ e=>e) (λb ps e=>⟨#[],by rw [e];simp⟩) (λm hm=>?_) (λb u e=>?_) I.bare
 ·have e:b=it:=by simpa using hb
  subst e
  exact⟨h1,hL,h2,h3⟩
 ·obtain⟨o,es,ep,ho,r⟩:=hm
  exact⟨o,es,ep,k _ o (Ne.symm hL) ho,r⟩
 ·refine(I.hok b u e).stay (λc v hc q=>k c v ?_ q) (λ_ q=>q) λ_ _ q=>q
  rcases hc with z | z
  ·rw [z];exact nit b u e
  ·exact nit c _ z
theorem Inv.tok(I:Inv X pins σ H s)(t:Nat):Inv X pins σ H { s with toks:=t }:=I.un (h':=s.heap) (t':=t) Un.refl I.hok
theorem Inv.kept{t':Nat}(I:Inv X pins σ H s)(k:∀b u,s.heap.get? b=some u->h'.get? b=some u):Inv X pins σ H { s with heap:=h',toks:=t' }:=I.un (Un.kept k) (I.hok.kept k)
theorem Inv.laid{a:Addr}{o:HO}{t':Nat}(I:Inv X pins σ H s)(k:∀b u,s.heap.get? b=some u->h'.get? b=some u)(hp:s.heap.objs.size<=a)(new:B5 X.prog X.w (upd H a o) h' a o) :
  Inv X pins σ (upd H a o) { s with heap:=h',toks:=t' }:=I.un (Un.laid k hp (I.hok.fresh hp)) (I.hok.laid k hp new)
theorem Inv.write{x e:Addr}{o:HO}{t':Nat}(I:Inv X pins σ H s)(mu:Mut (H x))(he:e=x\/H e=some (.own x))(k:∀b u,b≠e->s.heap.get? b=some u->h'.get? b=some u)(heo:∃u,h'.get? e=some u)
  (new:B5 X.prog X.w (upd H x o) h' x o):Inv X pins σ (upd H x o) { s with heap:=h',toks:=t' }:=I.un (Un.write mu he k heo) (I.hok.write mu he k heo new)
theorem Inv.pins_of{pins':List (Addr×Obj)}(I:Inv X pins σ H s)(h:∀p∈pins',s.heap.get? p.1=some p.2/\H p.1=none/\p.1≠X.env.locals/\p.1∉X.fs/\∀v,p.2.data≠.cell v):Inv X pins' σ H s :=
 ⟨I.ok,I.os,I.bare,I.base,I.loc,I.cell,I.free,I.freeC,λp hp=>(List.mem_append.mp hp).elim (λz=>I.pin p (List.mem_append_left _ z)) (h p),I.hok,I.len⟩
theorem L4{N:List Str}(hN:N.Nodup){i j:Nat}{x:Str}(a:N[i]?=some x)(b:N[j]?=some x):i=j:=by
 obtain⟨h1,e1⟩:=List.getElem?_eq_some_iff.mp a
 obtain⟨h2,e2⟩:=List.getElem?_eq_some_iff.mp b
 exact(List.getElem_inj hN).mp (e1.trans e2.symm)
theorem Jx{M:Model}{A:Around}{E:Value->Shared->Prop}{i:Nat}{x:Str}{v:V}{u:Value}{Q:Unit->Shared->Prop}(I:Inv X pins σ H s)(hN:X.N.Nodup)(hi:X.N[i]?=some x)(hx:Loc X.env.scope x)(r:Bj v u)
  (h:∀s',Inv X pins (σ.set i (some v)) H s'->(∃a,Heap.SameBut a s.heap s'.heap/\(a=X.env.locals\/X.env.cells.lookup x=some a))->Q () s') (hf:X.fn x=true\/X.env.scope.names.lookup x=some .local:=by first | exact .inl rfl | exact .inr rfl | assumption):wpAny M A (storeName X.env x u) Q E s:=by
 obtain⟨m,hn,hl⟩:=id I.loc
 have hcls:(X.env.scope.kind==.class || (X.env.scope.kind==.module && X.env.locals != X.env.globals))=false:=by rw [I.ok.kind];rfl
 have hiσ:i < σ.length:=by rw [I.len];exact(List.getElem?_eq_some_iff.mp hi).1
 have cne:=I.cne
 have tracked:∀{a:Addr} {h':Heap},(∃o,s.heap.get? a=some o/\H a=none)->Heap.SameBut a s.heap h'->HOk X.prog X.w H h':=λ{a h'} ha hs b ob e=>by
  obtain⟨_,_,hfree⟩:=ha
  refine(I.hok b ob e).stay (λc w' hc q=>(hs.2 c ?_).trans q) (λ_ q=>q) λ_ _ q=>q
  rintro rfl
  rcases hc with rfl | hc
  ·rw [hfree]at e;cases e
  ·rw [hfree]at hc;cases hc
 rcases hx with hk | hk
 ·refine wpAny_storeName_local hk hn (λh' hn' hs=>?_) hcls
  obtain⟨oL,_,_,hoL,_⟩:=id hn
  refine h _ ⟨I.ok,I.os,I.bare,⟨λb o e n hb hx=>?_,λb o e n hb hx=>?_,I.base.free,λb o e hx=>?_,I.base.tups,I.base.frzs,I.base.tbls⟩,⟨_,hn',λj y v' e1 e2 e3=>?_⟩,λy c e=>?_,I.free,I.freeC,λp hp=>?_,tracked ⟨oL,hoL,I.free⟩ hs,by simpa using I.len⟩ ⟨_,hs,.inl rfl⟩
  ·exact(hs.2 b (Nat.ne_of_lt (Nat.lt_of_lt_of_le (Heap.lt_size e) I.ok.above))).trans (I.base.keep b o e n hb hx)
  ·obtain⟨sl,e1⟩:=I.base.slot b o e n hb hx
   exact⟨sl,(hs.2 b (Nat.ne_of_lt (Nat.lt_of_lt_of_le (Heap.lt_size e) I.ok.above))).trans e1⟩
  ·obtain⟨o',e1⟩:=I.base.there b o e hx
   exact⟨o',(hs.2 b (Nat.ne_of_lt (Nat.lt_of_lt_of_le (Heap.lt_size e) I.ok.above))).trans e1⟩
  ·by_cases hj:j=i
   ·subst hj
    rw [hi]at e1;cases e1
    rw [List.getElem?_set_self hiσ]at e2
    cases e2
    exact⟨u,r,.inl ⟨hk,by simp⟩⟩
   ·rw [List.getElem?_set_ne (Ne.symm hj)]at e2
    obtain⟨u',r',q⟩:=hl j y v' e1 e2 e3
    refine⟨u',r',?_⟩
    rcases q with⟨k,e⟩ | ⟨k,c,e,z⟩
    ·refine .inl ⟨k,?_⟩
     have:y≠x:=λe=>hj (L4 hN e1 (e ▸ hi))
     simp [this,e]
    ·exact .inr ⟨k,c,e,z.sameBut hs (cne y c e)⟩
  ·obtain⟨w',z⟩:=I.cell y c e
   exact⟨w',z.sameBut hs (cne y c e)⟩
  ·obtain⟨e,n,ne,nf,d⟩:=I.pin p hp
   exact⟨(hs.2 p.1 ne).trans e,n,ne,nf,d⟩
 ·have hfn:X.fn x=true:=by
   rcases hf with z | z
   ·exact z
   ·rw [z]at hk;cases hk
  obtain⟨c,hc⟩:=I.ok.has x (.inl hk)
  obtain⟨w',z⟩:=I.cell x c hc
  refine wpAny_storeName_cell I.ok.kind hk hc z (λh' hc' hs=>?_)
  obtain⟨oc,hoc,hocd⟩:=id z
  refine h { s with heap:=h' } ⟨I.ok,I.os,I.bare,⟨λb o e n hb hx=>?_,λb o e n hb hx=>?_,I.base.free,λb o e hx=>?_,I.base.tups,I.base.frzs,I.base.tbls⟩,⟨m,hn.sameBut hs (Ne.symm (cne x c hc)),λj y v' e1 e2 e3=>?_⟩,λy c' e=>?_,I.free,I.freeC,λp hp=>?_,tracked ⟨oc,hoc,I.freeC x c hc⟩ hs,by simpa using I.len⟩ ⟨c,hs,.inr hc⟩
  ·exact(hs.2 b (Nat.ne_of_lt (Nat.lt_of_lt_of_le (Heap.lt_size e) (I.ok.cab x c hfn hc)))).trans (I.base.keep b o e n hb hx)
  ·obtain⟨sl,e1⟩:=I.base.slot b o e n hb hx
   exact⟨sl,(hs.2 b (Nat.ne_of_lt (Nat.lt_of_lt_of_le (Heap.lt_size e) (I.ok.cab x c hfn hc)))).trans e1⟩
  ·obtain⟨o',e1⟩:=I.base.there b o e hx
   exact⟨o',(hs.2 b (Nat.ne_of_lt (Nat.lt_of_lt_of_le (Heap.lt_size e) (I.ok.cab x c hfn hc)))).trans e1⟩
  ·by_cases hj:j=i
   ·subst hj
    rw [hi]at e1;cases e1
    rw [List.getElem?_set_self hiσ]at e2
    cases e2
    exact⟨u,r,.inr ⟨.inl hk,c,hc,hc'⟩⟩
   ·rw [List.getElem?_set_ne (Ne.symm hj)]at e2
    obtain⟨u',r',q⟩:=hl j y v' e1 e2 e3
    refine⟨u',r',?_⟩
    rcases q with q | ⟨k,c',e,z'⟩
    ·exact .inl q
    ·refine .inr ⟨k,c',e,z'.sameBut hs ?_⟩
     rintro rfl
     exact hj (L4 hN e1 (I.ok.inj _ _ _ e hc ▸ hi))
  ·by_cases hcc:c'=c
   ·subst hcc;exact⟨_,hc'⟩
   ·obtain⟨w2,z2⟩:=I.cell y c' e
    exact⟨w2,z2.sameBut hs hcc⟩
  ·obtain⟨e,n,ne,nf,d⟩:=I.pin p hp
   refine⟨(hs.2 p.1 ?_).trans e,n,ne,nf,d⟩
   intro q
   rw [q,hoc]at e
   have q':oc=p.2:=Option.some.inj e
   exact d w' (by rw [<- q'];exact hocd)
theorem L5{M:Model}{A:Around}{E:Value->Shared->Prop}{i:Nat}{x:Str}{v:V}{u:Value}{Q:Unit->Shared->Prop}(I:Inv X pins σ H s)(hN:X.N.Nodup)(hi:X.N[i]?=some x)(hx:Loc X.env.scope x)(r:Bj v u)
  (h:∀s',Inv X pins (σ.set i (some v)) H s'->Q () s') (hf:X.fn x=true\/X.env.scope.names.lookup x=some .local:=by first | exact .inl rfl | exact .inr rfl | assumption):wpAny M A (storeName X.env x u) Q E s :=
 Jx I hN hi hx r (λs' I' _=>h s' I') hf
theorem Inv.call'{s':Shared}{ch:List Addr}(I:Inv X pins σ H s)(ho:s'.os=s.os)(u:Un (frs X.stack) ch H H' s.heap s'.heap)(hok:HOk X.prog X.w H' s'.heap)(hg:AllBare s'.gens)
  (hch:∀b∈ch,(b∈X.ex\/X.s₀.heap.objs.size<=b)/\b≠X.env.locals/\(∀x c,X.env.cells.lookup x=some c->c≠b)/\∀p∈X.pn++pins,p.1≠b):Inv X pins σ H' s':=by
 obtain⟨h',g',d',t',o'⟩:=s'
 have e:o'=s.os:=ho
 subst e
 exact I.call (g':=g') (t':=t') (d':=d') u hok hg hch
end
abbrev XK:=Value->Option Addr->Hp->Prop
abbrev St:=List (Option V)
abbrev VK:=V->Hp->Prop
abbrev TE:=St->Hp->VK->Prop
abbrev TT:=St->Hp->(Bool->Hp->Prop)->Prop
abbrev TA:=St->Hp->(List V->Hp->Prop)->Prop
structure Ends where
 nx:St->Hp->Prop
 rt:VK
 bk:St->Hp->Prop:=λ_ _=>False
 ct:St->Hp->Prop:=λ_ _=>False
abbrev TS:=Ends->St->Hp->Prop
def EP(X:Cx)(pins:List (Addr×Obj))(σ:St)(Q:VK)(u:Value)(s':Shared):Prop:=∃v H',Inv X pins σ H' s'/\Bj v u/\Q v H'
def TP(X:Cx)(pins:List (Addr×Obj))(σ:St)(Q:Bool->Hp->Prop)(b:Bool)(s':Shared):Prop:=∃H',Inv X pins σ H' s'/\Q b H'
def AP(X:Cx)(pins:List (Addr×Obj))(σ:St)(Q:List V->Hp->Prop)(us:List Value)(s':Shared):Prop:=∃vs H',Inv X pins σ H' s'/\Vals vs us/\Q vs H'
def SP(X:Cx)(pins:List (Addr×Obj))(D:Ends)(f:Flow)(s':Shared):Prop :=
 match f with
 | .next=>∃ σ' H',Inv X pins σ' H' s'/\D.nx σ' H'
 | .brk=>∃ σ' H',Inv X pins σ' H' s'/\D.bk σ' H'
 | .cont=>∃ σ' H',Inv X pins σ' H' s'/\D.ct σ' H'
 | .ret u=>∃v σ' H',Inv X pins σ' H' s'/\Bj v u/\D.rt v H'
def PE(X:Cx)(e:Expr)(t:TE):Prop :=
 ∀(pins:List (Addr×Obj)) (s:Shared) (σ:St) (H:Hp) (Q:VK),Inv X pins σ H s->t σ H Q->wpAny (model X.prog X.w) X.A (eval e X.env) (EP X pins σ Q) X.xe s
def PT(X:Cx)(e:Expr)(t:TT):Prop :=
 ∀(pins:List (Addr×Obj)) (s:Shared) (σ:St) (H:Hp) (Q:Bool->Hp->Prop),Inv X pins σ H s->t σ H Q->wpAny (model X.prog X.w) X.A (isTrue e X.env (eval e X.env)) (TP X pins σ Q) X.xe s
def PW(X:Cx)(e:Expr)(t:TT):Prop :=
 ∀(whole:Sem Value) (pins:List (Addr×Obj)) (s:Shared) (σ:St) (H:Hp) (Q:Bool->Hp->Prop),Inv X pins σ H s->t σ H Q->wpAny (model X.prog X.w) X.A (isTrue e X.env whole) (TP X pins σ Q) X.xe s
theorem PW.pt{X:Cx}{e:Expr}{t:TT}(h:PW X e t):PT X e t:=h _
def PA(X:Cx)(es:List Expr)(t:TA):Prop :=
 ∀(pos:Pos) (pins:List (Addr×Obj)) (s:Shared) (σ:St) (H:Hp) (Q:List V->Hp->Prop),Inv X pins σ H s->t σ H Q->wpAny (model X.prog X.w) X.A (spliced (backTo pos (starEach es X.env))) (AP X pins σ Q) X.xe s
def PS(X:Cx)(st:Stmt)(t:TS):Prop :=
 ∀(pins:List (Addr×Obj)) (s:Shared) (σ:St) (H:Hp) (D:Ends),Inv X pins σ H s->t D σ H->wpAny (model X.prog X.w) X.A (exec st X.env) (SP X pins D) X.xe s
def PSs(X:Cx)(st:List Stmt)(t:TS):Prop :=
 ∀(pins:List (Addr×Obj)) (s:Shared) (σ:St) (H:Hp) (D:Ends),Inv X pins σ H s->t D σ H->wpAny (model X.prog X.w) X.A (execs st X.env) (SP X pins D) X.xe s
theorem thn{α:Type}{t:Sem α}{Q Q':α->Shared->Prop}{M:Model}{A:Around}{E:Value->Shared->Prop}{s:Shared}(h:wpAny M A t Q E s)(hQ:∀a s,Q a s->Q' a s):wpAny M A t Q' E s:=wpAny_mono h hQ λ_ _ x=>x
section
variable {X:Cx}
def Qdx(i:Nat):TE:=fun σ H Q=>∃v,σ[i]?=some (some v)/\Q v H
def tC(v:V):TE:=λ_ H Q=>Q v H
theorem Qaj{i:Nat}{x:Str}{pos:Pos}(hN:X.N[i]?=some x)(hv:Vis X.env.scope x)(hd:(x==("__debug__" : Str))=false:=by decide) (hcd:(x==("__classdict__" : Str))=false:=by decide):PE X (.Name x pos) (Qdx i):=by
 intro pins s σ H Q I h
 obtain⟨v,e,h⟩:=h
 obtain⟨m,hn,hl⟩:=I.loc
 obtain⟨u,r,l⟩:=hl i x v hN e hv
 have fin:EP X pins σ Q u s:=⟨v,H,I,r,h⟩
 rcases l with⟨hk,hm⟩ | ⟨hk,c,hc,hcell⟩
 ·exact wpAny_Name (wpAny_loadName_local I.ok.kind hk hn hm fin) hd
 ·rcases hk with hk | hk
  ·exact wpAny_Name (wpAny_loadName_cell I.ok.kind hk hc hcell fin) hd
  ·exact wpAny_Name (wpAny_loadName_free I.ok.kind hk hc hcell fin hcd) hd
theorem Qak{i j pos}:PE X (.Constant (.int i) j pos) (tC (.int i)):=λ_ _ _ H _ I h=>wpAny_Constant_int ⟨.int i,H,I.tok _,⟨_,rfl⟩,h⟩
theorem Qdy{b j pos}:PE X (.Constant (.bool b) j pos) (tC (.bl b)):=λ_ _ _ H _ I h=>Constant_bool ⟨.bl b,H,I,rfl,h⟩
theorem Qal{j pos}:PE X (.Constant .none j pos) (tC .non):=λ_ _ _ H _ I h=>Constant_none ⟨.non,H,I,rfl,h⟩
theorem Qam{x j pos}:PE X (.Constant (.str x) j pos) (tC (.str x)):=λ_ _ _ H _ I h=>Calls.Constant_str ⟨.str x,H,I.tok _,⟨_,rfl⟩,h⟩
def Gl(X:Cx)(x:Str):Prop:=X.env.kindOf x=some .globalImplicit
theorem Ph{E:Value->Shared->Prop}{pins:List (Addr×Obj)}{s:Shared}{σ:St}{H:Hp}{x:Str}{u:Value}{pos:Pos}{Q:Value->Shared->Prop}(I:Inv X pins σ H s)(hg:Gl X x)(hm:X.mg x=some u)(h:Q u s)
  (hd:(x==("__debug__" : Str))=false:=by decide):wpAny (model X.prog X.w) X.A (eval (.Name x pos) X.env) Q E s :=
 Calls.Name_function_global I.ok.kind hg (Calls.loadGlobal_global (by rw [I.ok.glob];exact I.mod.glob.keeps I.bk) hm h) hd
theorem Cz{E:Value->Shared->Prop}{pins:List (Addr×Obj)}{s:Shared}{σ:St}{H:Hp}{x:Str}{u:Value}{pos:Pos}{Q:Value->Shared->Prop}(I:Inv X pins σ H s)(hg:Gl X x)(hm:X.mg x=none)(hv:bootBuiltins x=some u)(h:Q u s)
  (hn:x ≠ "__name__" := by decide) (hd:(x==("__debug__" : Str))=false:=by decide):wpAny (model X.prog X.w) X.A (eval (.Name x pos) X.env) Q E s:=by
 obtain⟨mb,h1,h2⟩:=I.mod.blt
 exact Calls.Name_function_global I.ok.kind hg (Calls.loadGlobal_builtin (by rw [I.ok.glob];exact I.mod.glob.keeps I.bk) hm (by rw [I.ok.blt];exact h1.keeps I.bk) ((h2 x hn).trans hv) h) hd
theorem Wl{x:Str}{v:V}{u:Value}{pos:Pos}(hg:Gl X x)(hm:X.mg x=some u)(r:Bj v u)(hd:(x==("__debug__" : Str))=false:=by decide):PE X (.Name x pos) (tC v) :=
 λ_ _ _ H _ I h=>Ph I hg hm ⟨v,H,I,r,h⟩ hd
variable {a b:Expr}{ta tb:TE}{pos:Pos}
def PC(X:Cx)(op:CmpOp)(a b:Expr)(t:TE):Prop :=
 ∀(pins:List (Addr×Obj)) (s:Shared) (σ:St) (H:Hp) (Q:VK),Inv X pins σ H s->t σ H Q ->
  wpAny (model X.prog X.w) X.A (eval a X.env) (λv s₁=>wpAny (model X.prog X.w) X.A (eval b X.env) (λu s₂=>wpAny (model X.prog X.w) X.A (compareOp op v u) (EP X pins σ Q) X.xe s₂) X.xe s₁) X.xe s
def tB(t:TE):TT:=fun σ H Q=>t σ H λx H1=>∃c,x=.bl c/\Q c H1
theorem Qan{op:CmpOp}{t:TE}(h:PC X op a b t)(h1:behindInMarks op b=false:=by first | exact nobehind _ (by decide) (by decide) | rfl):PE X (.Compare a [op] [b] pos) t:=λpins s σ H Q I hw=>wpAny_Compare1 (h pins s σ H Q I hw) h1
theorem Qao{op:CmpOp}{t:TE}(h:PC X op a b t)(h1:behindInMarks op b=false:=by first | exact nobehind _ (by decide) (by decide) | rfl):PT X (.Compare a [op] [b] pos) (tB t):=by
 intro pins s σ H Q I hw
 refine wpAny_isTrue_Compare1 (thn (h pins s σ H _ I hw) λv s1 h1=>thn h1 λu s2 h2=>thn h2 λc s3 zz205=>Ce zz205 λx H1 I1 r1 q1=>?_) h1
 obtain⟨d,rfl,q⟩:=q1
 cases r1
 exact wpAny_truthy_bool ⟨H1,I1,q⟩
theorem Qap{e:Expr}{t:TE}(h:PE X e t)(he:∀whole,isTrue e X.env whole=(do let v <- whole;standAt e.pos;holding [v] (truthy v)):=by intro _;rfl):PT X e (tB t):=by
 intro pins s σ H Q I hw
 refine isTrue_plain (thn (h pins s σ H _ I hw) λv s1 zz206=>Ce zz206 λx H1 I1 r1 q1=>?_) (he _)
 obtain⟨d,rfl,q⟩:=q1
 cases r1
 exact wpAny_truthy_bool ⟨H1,I1,q⟩
variable {tA tB':TT}{rest:List Expr}
def Qh0(t u:TT):TT:=fun σ H Q=>t σ H λc H1=>if c=true then u σ H1 Q else Q false H1
def tOr(t u:TT):TT:=fun σ H Q=>t σ H λc H1=>if c=true then Q true H1 else u σ H1 Q
def Qh1(t:TT):TT:=fun σ H Q=>t σ H λc H1=>Q (!c) H1
theorem Wm(ha:PT X a tA):PW X (.BoolOp .And [a] pos) tA:=by
 intro wh pins s σ H Q I h
 refine isTrue_and (thn (ha pins s σ H Q I h) λc s1 e=>?_)
 cases c with
 | true=>exact isTrue_and_nil e
 | false=>exact e
theorem Qaq(ha:PT X a tA):PW X (.BoolOp .Or [a] pos) tA:=by
 intro wh pins s σ H Q I h
 refine isTrue_or (thn (ha pins s σ H Q I h) λc s1 e=>?_)
 cases c with
 | false=>exact isTrue_or_nil e
 | true=>exact e
theorem Qar(ha:PT X a tA)(hb:PW X (.BoolOp .And (b :: rest) pos) tB'):PW X (.BoolOp .And (a :: b :: rest) pos) (Qh0 tA tB'):=by
 intro wh pins s σ H Q I h
 refine isTrue_and (thn (ha pins s σ H _ I h) λc s1 ⟨H1,I1,q1⟩=>?_)
 cases c with
 | true=>exact hb wh pins s1 σ H1 Q I1 q1
 | false=>exact⟨H1,I1,q1⟩
theorem Qdz(ha:PT X a tA)(hb:PW X (.BoolOp .Or (b :: rest) pos) tB'):PW X (.BoolOp .Or (a :: b :: rest) pos) (tOr tA tB'):=by
 intro wh pins s σ H Q I h
 refine isTrue_or (thn (ha pins s σ H _ I h) λc s1 ⟨H1,I1,q1⟩=>?_)
 cases c with
 | true=>exact⟨H1,I1,q1⟩
 | false=>exact hb wh pins s1 σ H1 Q I1 q1
theorem Qas(ha:PT X a tA):PT X (.UnaryOp .Not a pos) (Qh1 tA):=by
 intro pins s σ H Q I h
 exact isTrue_not (ha pins s σ H (λc H1=>Q (!c) H1) I h)
def Qd0(ta tb:TE):TE:=fun σ H Q=>ta σ H λx H1=>∃c,x=.bl c/\if c=true then tb σ H1 Q else Q (.bl false) H1
def Qh2(ta tb:TE):TE:=fun σ H Q=>ta σ H λx H1=>∃c,x=.bl c/\if c=true then Q (.bl true) H1 else tb σ H1 Q
def Qd1(ta:TE):TE:=fun σ H Q=>ta σ H λx H1=>∃c,x=.bl c/\Q (.bl (!c)) H1
theorem Qat{op}{t:TE}(h:PE X a t):PE X (.BoolOp op [a] pos) t:=λpins s σ H Q I hw=>BoolOp_one (h pins s σ H Q I hw)
theorem Qau(ha:PE X a ta)(hb:PE X (.BoolOp .And (b :: rest) pos) tb):PE X (.BoolOp .And (a :: b :: rest) pos) (Qd0 ta tb):=by
 intro pins s σ H Q I h
 refine BoolOp_and (thn (ha pins s σ H _ I h) λv s1 zz207=>Ce zz207 λx H1 I1 r1 q1=>?_)
 obtain⟨c,rfl,q1⟩:=q1
 cases r1
 refine wpAny_truthy_bool ?_
 cases c with
 | true=>exact hb pins s1 σ H1 Q I1 q1
 | false=>exact⟨.bl false,H1,I1,rfl,q1⟩
theorem Qd2(ha:PE X a ta)(hb:PE X (.BoolOp .Or (b :: rest) pos) tb):PE X (.BoolOp .Or (a :: b :: rest) pos) (Qh2 ta tb):=by
 intro pins s σ H Q I h
 refine BoolOp_or (thn (ha pins s σ H _ I h) λv s1 zz208=>Ce zz208 λx H1 I1 r1 q1=>?_)
 obtain⟨c,rfl,q1⟩:=q1
 cases r1
 refine wpAny_truthy_bool ?_
 cases c with
 | false=>exact hb pins s1 σ H1 Q I1 q1
 | true=>exact⟨.bl true,H1,I1,rfl,q1⟩
theorem Qav(ha:PE X a ta):PE X (.UnaryOp .Not a pos) (Qd1 ta):=by
 intro pins s σ H Q I h
 refine UnaryOp_ (thn (ha pins s σ H _ I h) λv s1 zz209=>Ce zz209 λx H1 I1 r1 q1=>?_)
 obtain⟨c,rfl,q1⟩:=q1
 cases r1
 exact not_of (wpAny_truthy_bool ⟨.bl (!c),H1,I1,rfl,q1⟩)
end
def D5(K:PySem.W.Frag)(H:Hp)(a:Addr)(xs:List V):Prop :=
 Rd H a (.lst xs) \/
  ∃(o:Obj) (its:Array Value) (n:Nat),K.lookup a=some o/\o.cls=.type "list" /\ o.dict=none/\o.data=.seq its n/\its.size<=sizeLine/\Vals xs its.toList
def Hg(K:PySem.W.Frag)(H:Hp)(a:Addr)(xs:List V):Prop :=
 Rd H a (.tup xs) \/
  ∃(o:Obj) (its:Array Value) (n:Nat),K.lookup a=some o/\o.cls=.type "tuple" /\ o.data=.seq its n/\its.size<=sizeLine/\Vals xs its.toList
def Qh3:Value->Option V
 | .none=>some .non
 | .bool b=>some (.bl b)
 | .int i _=>some (.int i)
 | .str x _=>some (.str x)
 | .bytes b _=>some (.byt b)
 | .float b _=>some (.flt b)
 | .ref a=>some (.ref a)
 | .type n=>some (.ty n)
 | _=>none
theorem Bj.abs{x:V}{u:Value}(r:Bj x u):Qh3 u=some x:=by
 cases x with
 | non=>cases r;rfl
 | bl _=>cases r;rfl
 | int _=>obtain⟨t,rfl⟩:=r;rfl
 | str _=>obtain⟨t,rfl⟩:=r;rfl
 | byt _=>obtain⟨t,rfl⟩:=r;rfl
 | flt _=>obtain⟨t,rfl⟩:=r;rfl
 | ref _=>cases r;rfl
 | ty _=>cases r;rfl
theorem Bj.inj{x y:V}{u:Value}(r:Bj x u)(q:Bj y u):x=y:=Option.some.inj (r.abs.symm.trans q.abs)
theorem Vals.inj:∀{xs ys:List V} {us:List Value},Vals xs us->Vals ys us->xs=ys
 | _,_,_,.nil,.nil=>rfl
 | _,_,_,.cons r t,.cons r' t'=>by rw [r.inj r',Vals.inj t t']
section
variable {X:Cx}{pins:List (Addr×Obj)}{σ:St}{H:Hp}{s:Shared}{a:Addr}{xs ys:List V}
theorem D5.of{K:PySem.W.Frag}(h:H a=some (.lst xs)):D5 K H a xs:=.inl (.inl h)
theorem Hg.of{K:PySem.W.Frag}(h:H a=some (.tup xs)):Hg K H a xs:=.inl (.inl h)
theorem Inv.list(I:Inv X pins σ H s)(h:D5 X.K H a xs):∃its:List Value,Vals xs its/\PlainL s.heap a its.toArray/\xs.length<=sizeLine:=by
 rcases h with h | ⟨o,its,n,hk,hc,hd,hs,hz,r⟩
 ·obtain⟨z,its,n,r,e⟩:=h.ok I.hok
  exact⟨its,r,⟨_,n,e,rfl,rfl,rfl⟩,z⟩
 ·refine⟨its.toList,r,⟨o,n,I.kIn a o hk,hc,hd,by simpa using hs⟩,?_⟩
  have e:=r.length
  simp only [Array.length_toList]at e
  omega
theorem Inv.tuple(I:Inv X pins σ H s)(h:Hg X.K H a xs):∃its:List Value,Vals xs its/\IsTup s.heap a its.toArray/\xs.length<=sizeLine:=by
 rcases h with h | ⟨o,its,n,hk,hc,hs,hz,r⟩
 ·obtain⟨z,its,r,p⟩:=h.ok I.hok
  exact⟨its,r,p,z⟩
 ·refine⟨its.toList,r,⟨o,I.kIn a o hk,hc,n,by simpa using hs⟩,?_⟩
  have e:=r.length
  simp only [Array.length_toList]at e
  omega
theorem Inv.list_inj(I:Inv X pins σ H s)(h:D5 X.K H a xs)(h':D5 X.K H a ys):xs=ys:=by
 obtain⟨its,r,⟨o,n,e,_,_,d⟩,_⟩:=I.list h
 obtain⟨its',r',⟨o',n',e',_,_,d'⟩,_⟩:=I.list h'
 rw [e]at e';cases e'
 rw [d]at d'
 injection d' with d1 _
 have:its=its':=by simpa using congrArg Array.toList d1
 subst this
 exact r.inj r'
theorem Inv.tuple_inj(I:Inv X pins σ H s)(h:Hg X.K H a xs)(h':Hg X.K H a ys):xs=ys:=by
 obtain⟨its,r,⟨o,e,_,n,d⟩,_⟩:=I.tuple h
 obtain⟨its',r',⟨o',e',_,n',d'⟩,_⟩:=I.tuple h'
 rw [e]at e';cases e'
 rw [d]at d'
 injection d' with d1 _
 have:its=its':=by simpa using congrArg Array.toList d1
 subst this
 exact r.inj r'
end
abbrev Cx.wish(X:Cx)(E:Value->Shared->Prop):Cx:={ X with xe:=E }
abbrev Cx.nox(X:Cx):Cx:=X.wish λ_ _=>False
theorem Cx.Ok.wish{X:Cx}(ok:X.Ok)(E:Value->Shared->Prop):(X.wish E).Ok :=
 ⟨ok.mod,ok.kind,ok.glob,ok.blt,ok.above,ok.inj,ok.has,ok.cab,ok.hd,ok.frames,ok.stk,ok.exf,ok.bs,ok.bsz,ok.noex,ok.exfs,ok.funs,ok.frf⟩
theorem Cx.Ok.unwish{X:Cx}{E:Value->Shared->Prop}(ok:(X.wish E).Ok):X.Ok :=
 ⟨ok.mod,ok.kind,ok.glob,ok.blt,ok.above,ok.inj,ok.has,ok.cab,ok.hd,ok.frames,ok.stk,ok.exf,ok.bs,ok.bsz,ok.noex,ok.exfs,ok.funs,ok.frf⟩
section
variable {X:Cx}{pins:List (Addr×Obj)}{σ:St}{H:Hp}{s:Shared}{E:Value->Shared->Prop}
theorem Inv.wish(I:Inv X pins σ H s)(E:Value->Shared->Prop):Inv (X.wish E) pins σ H s:=⟨I.ok.wish E,I.os,I.bare,I.base,I.loc,I.cell,I.free,I.freeC,I.pin,I.hok,I.len⟩
theorem Inv.unwish(I:Inv (X.wish E) pins σ H s):Inv X pins σ H s:=⟨I.ok.unwish,I.os,I.bare,I.base,I.loc,I.cell,I.free,I.freeC,I.pin,I.hok,I.len⟩
theorem SP.unwish{D:Ends}{f:Flow}{s':Shared}(h:SP (X.wish E) pins D f s'):SP X pins D f s':=by
 cases f with
 | next=>obtain⟨σ',H',I,q⟩:=h;exact⟨σ',H',I.unwish,q⟩
 | brk=>obtain⟨σ',H',I,q⟩:=h;exact⟨σ',H',I.unwish,q⟩
 | cont=>obtain⟨σ',H',I,q⟩:=h;exact⟨σ',H',I.unwish,q⟩
 | ret u=>obtain⟨v,σ',H',I,r,q⟩:=h;exact⟨v,σ',H',I.unwish,r,q⟩
theorem PSs.nox{st:List Stmt}{t:TS}(h:PSs X.nox st t):PSs X st t:=λpins s σ H D I hw =>
 wpAny_mono (h pins s σ H D (I.wish _) hw) (λ_ _ q=>q.unwish) λ_ _ z=>False.elim z
end
section
variable {X:Cx}{st:Stmt}{rest:List Stmt}{t u:TS}{e:Expr}{te:TE}{pos:Pos}
def Qd3:TS:=λD σ H=>D.nx σ H
def Qh4(t u:TS):TS:=λD σ H=>t { D with nx:=u D } σ H
theorem Wn:PSs X [] Qd3:=λ_ _ σ H _ I h=>wpAny_execs_nil ⟨σ,H,I,h⟩
theorem Tb(h1:PS X st t)(h2:PSs X rest u):PSs X (st :: rest) (Qh4 t u):=by
 intro pins s σ H D I h
 refine wpAny_execs_cons (thn (h1 pins s σ H { D with nx:=u D } I h) λf s1 q=>?_)
 cases f with
 | next =>
  obtain⟨σ',H',I',q⟩:=q
  exact h2 pins s1 σ' H' D I' q
 | ret v=>exact q
 | brk=>exact q
 | cont=>exact q
theorem Wo(h1:PS X st t):PSs X [st] t:=by
 intro pins s σ H D I h
 refine wpAny_execs_cons (thn (h1 pins s σ H D I h) λf s1 q=>?_)
 cases f with
 | next=>exact wpAny_execs_nil q
 | ret v=>exact q
 | brk=>exact q
 | cont=>exact q
def Qaw:TS:=λD σ H=>D.bk σ H
theorem Tc:PS X (.Break pos) Qaw:=λ_ _ σ H _ I h=>wpAny_Break ⟨σ,H,I,h⟩
theorem Inv.quiet{pins:List (Addr×Obj)}{σ:St}{H:Hp}{s:Shared}(I:Inv X pins σ H s):interactive X.env=false:=by simp [interactive,I.ok.kind]
def Qd4(te:TE):TS:=λD σ H=>te σ H λ_ H1=>D.nx σ H1
theorem Wp(he:PE X e te)(hs:swapsWith e none pos.line X.env=pure false:=by rfl):PS X (.Expr e pos) (Qd4 te):=by
 intro pins s σ H D I h
 exact wpAny_Expr_any (thn (he pins s σ H _ I h) λv s1 zz210=>Ce zz210 λx H1 I1 r1 q1=>⟨σ,H1,I1,q1⟩) I.quiet hs
def Qh5(te:TE):TS:=λD σ H=>te σ H D.rt
theorem Qax(he:PE X e te):PS X (.Return (some e) pos) (Qh5 te):=by
 intro pins s σ H D I h
 exact wpAny_Return_some (thn (he pins s σ H _ I h) λv s1 zz211=>Ce zz211 λx H1 I1 r1 q1=>⟨x,σ,H1,I1,r1,q1⟩)
def Qh6(c:TT)(t u:TS):TS:=λD σ H=>c σ H λb H1=>if b=true then t D σ H1 else u D σ H1
theorem Qd5{c:Expr}{a b:List Stmt}{tc:TT}(hc:PT X c tc)(ha:PSs X a t)(hb:PSs X b u):PS X (.If c a b pos) (Qh6 tc t u):=by
 intro pins s σ H D I h
 refine wpAny_If (thn (hc pins s σ H _ I h) λd s1 ⟨H1,I1,q1⟩=>?_)
 cases d with
 | true=>exact ha pins s1 σ H1 D I1 q1
 | false=>exact hb pins s1 σ H1 D I1 q1
def Qay:TS:=λ_ _ _=>False
theorem Td:PS X st Qay:=λ_ _ _ _ _ _ h=>h.elim
end
abbrev TG:=V->St->Hp->(St->Hp->Prop)->Prop
abbrev TGs:=List V->St->Hp->(St->Hp->Prop)->Prop
def PG(X:Cx)(target:Expr)(t:TG):Prop :=
 ∀(pins:List (Addr×Obj)) (s:Shared) (σ:St) (H:Hp) (v:V) (u:Value) (Q:St->Hp->Prop),Inv X pins σ H s->Bj v u->t v σ H Q ->
  wpAny (model X.prog X.w) X.A (assign target X.env u) (λ_ s'=>∃ σ' H',Inv X pins σ' H' s'/\Q σ' H') X.xe s
def PGs(X:Cx)(ts:List Expr)(t:TGs):Prop :=
 ∀(pins:List (Addr×Obj)) (s:Shared) (σ:St) (H:Hp) (vs:List V) (us:List Value) (Q:St->Hp->Prop),Inv X pins σ H s->Vals vs us->t vs σ H Q ->
  wpAny (model X.prog X.w) X.A (assignInOrder ((assignEach ts X.env).map (·.2)) us) (λ_ s'=>∃ σ' H',Inv X pins σ' H' s'/\Q σ' H') X.xe s
abbrev TSet:=V->V->V->Hp->(Hp->Prop)->Prop
def PSet(X:Cx)(t:TSet):Prop :=
 ∀(pins:List (Addr×Obj)) (s:Shared) (σ:St) (H:Hp) (o i v:V) (ov iv u:Value) (Q:Hp->Prop),Inv X pins σ H s->Bj o ov->Bj i iv->Bj v u->t o i v H Q ->
  wpAny (model X.prog X.w) X.A (setItem ov iv u) (λ_ s'=>∃H',Inv X pins σ H' s'/\Q H') X.xe s
section
variable {X:Cx}{pos:Pos}
def Te(i:Nat):TG:=λv σ H Q=>Q (σ.set i (some v)) H
theorem Wq{i:Nat}{x:Str}(hN:X.N.Nodup)(hi:X.N[i]?=some x)(hx:Loc X.env.scope x)(hf:X.fn x=true\/X.env.scope.names.lookup x=some .local:=by first | exact .inl rfl | exact .inr rfl | assumption):PG X (.Name x pos) (Te i):=by
 intro pins s σ H v u Q I r h
 exact wpAny_assign_Name (L5 I hN hi hx r (λs' I'=>⟨_,H,I',h⟩) hf)
def Qh7:TGs:=λvs σ H Q=>vs=[]/\Q σ H
def Qd6(t:TG)(u:TGs):TGs:=λvs σ H Q=>∃v r,vs=v :: r/\t v σ H fun σ' H'=>u r σ' H' Q
theorem Wr:PGs X [] Qh7:=by
 intro pins s σ H vs us Q I r h
 obtain⟨e,h⟩:=h
 subst e
 cases r
 exact assignInOrder_nil ⟨σ,H,I,h⟩
theorem Tf{e:Expr}{es:List Expr}{t:TG}{u:TGs}(h1:PG X e t)(h2:PGs X es u)
  (hs:(assignEach (e :: es) X.env).map (·.2)=assign e X.env :: (assignEach es X.env).map (·.2):=by rfl):PGs X (e :: es) (Qd6 t u):=by
 intro pins s σ H vs us Q I r h
 obtain⟨v,vr,e1,h⟩:=h
 subst e1
 cases r with
 | cons r rr =>
  rw [hs]
  refine assignInOrder_cons (thn (h1 pins s σ H _ _ _ I r h) λ_ s1 zz501=>?_)
  obtain⟨σ1,H1,I1,q1⟩:=zz501
  exact h2 pins s1 σ1 H1 _ _ Q I1 rr q1
def Qh8(K:PySem.W.Frag)(n:Nat)(t:TGs):TG:=λv σ H Q=>∃a xs,v=.ref a/\Hg K H a xs/\xs.length=n/\t xs σ H Q
theorem Qaz{es:List Expr}{k:Nat}{t:TGs}{n:Nat}(hc:X.calm=true)(h:PGs X es t)
  (hn:(assignEach es X.env).length=n:=by rfl) (hst:(assignEach es X.env).findIdx? (·.1)=none:=by rfl):PG X (.Tuple es k pos) (Qh8 X.K n t):=by
 intro pins s σ H v u Q I r hw
 obtain⟨a,xs,e1,hq,hl,hw⟩:=hw
 subst e1
 cases r
 obtain⟨its,rv,ht,hz⟩:=I.tuple hq
 refine assign_Tuple_tuple (I.ok.hd hc) ht (by simp [hn,<- hl,rv.length]) hst λh' hx=>?_
 have I1:Inv X pins σ H { s with heap:=h' }:=I.kept (t':=s.toks) λb o e=>hx b o (Nat.ne_of_lt (Heap.lt_size e)) e
 exact h pins _ σ H xs _ Q I1 (by simpa using rv) hw
def Qh9(to ti:TE)(t:TSet):TG:=λv σ H Q=>to σ H λo H1=>ti σ H1 λi H2=>t o i v H2 λH3=>Q σ H3
theorem Qa0{o i:Expr}{to ti:TE}{t:TSet}(ho:PE X o to)(hi:PE X i ti)(hs:PSet X t)
  (ha:∀v,assign (.Subscript o i pos) X.env v=(do
   let ov <- holding [v] (eval o X.env)
   let iv <- holding [v,ov] (eval i X.env)
   standAt pos
   holding [v,ov,iv] (setItem ov iv v)
   release [v,ov,iv] []):=by intro _;rfl):PG X (.Subscript o i pos) (Qh9 to ti t):=by
 intro pins s σ H v u Q I r h
 rw [ha]
 refine wpAny_bind (wpAny_holding (thn (ho pins s σ H _ I h) λov s1 zz212=>Ce zz212 λx H1 I1 r1 q1=>?_))
 refine wpAny_bind (wpAny_holding (thn (hi pins s1 σ H1 _ I1 q1) λiv s2 zz213=>Ce zz213 λy H2 I2 r2 q2=>?_))
 refine wpAny_bind (wpAny_standAt (wpAny_bind (wpAny_holding (thn (hs pins s2 σ H2 x y v ov iv u _ I2 r1 r2 r q2) λ_ s3 ⟨H3,I3,q3⟩=>?_))))
 exact wpAny_release ⟨σ,H3,I3,q3⟩
def Ws(te:TE)(g:TG):TS:=λD σ H=>te σ H λx H1=>g x σ H1 D.nx
theorem Qa1{tg e:Expr}{te:TE}{g:TG}(he:PE X e te)(hg:PG X tg g)(hs:swapsWithSole [tg] e pos.line X.env=pure false:=by rfl)(hw:swappedStores [tg] e X.env=pure none:=by rfl)
  (h1:(assignEach [tg] X.env).map (·.2)=[assign tg X.env]:=by rfl):PS X (.Assign [tg] e pos) (Ws te g):=by
 intro pins s σ H D I h
 refine wpAny_Assign_stores (thn (he pins s σ H _ I h) λv s1 zz214=>Ce zz214 λx H1 I1 r1 q1=>?_) hs hw
 rw [h1]
 exact thn (hg pins s1 σ H1 x v _ I1 r1 q1) λ_ s2 q=>q
theorem Qa2{i:Nat}{x:Str}{e:Expr}{te:TE}{pos':Pos}(hN:X.N.Nodup)(hi:X.N[i]?=some x)(hx:Loc X.env.scope x)(he:PE X e te)(hs:swapsWith e (some (.Name x pos')) pos.line X.env=pure false:=by rfl)(hf:X.fn x=true\/X.env.scope.names.lookup x=some .local:=by first | exact .inl rfl | exact .inr rfl | assumption) :
  PS X (.Assign [.Name x pos'] e pos) (Ws te (Te i)):=by
 intro pins s σ H D I h
 refine wpAny_Assign_Name (thn (he pins s σ H _ I h) λv s1 zz215=>Ce zz215 λy H1 I1 r1 q1=>?_) hs
 exact L5 I1 hN hi hx r1 (λs2 I2=>⟨_,H1,I2,q1⟩) hf
end
section
variable {X:Cx}{pos:Pos}
end
structure It where
 go:Nat->Hp->Prop
 yld:Nat->Hp->V->Hp->Prop
 stop:Nat->Hp->Prop
def Ep(X:Cx)(pins:List (Addr×Obj))(H:Hp)(b:Addr):Prop :=
 H b=none/\b≠X.env.locals/\b∉X.fs/\(b∈X.ex\/X.s₀.heap.objs.size<=b)/\(∀x c,X.env.cells.lookup x=some c->c≠b)/\∀p∈X.pn++pins,p.1≠b
theorem Inv.fpOk{X:Cx}{pins:List (Addr×Obj)}{σ:St}{H H':Hp}{s:Shared}{b:Addr}(I:Inv X pins σ H s)(hb:s.heap.objs.size<=b)(hn:H' b=none):Ep X pins H' b:=by
 refine⟨hn,Nat.ne_of_gt (Nat.lt_of_lt_of_le I.lt hb),I.nofs hb,.inr (Nat.le_trans I.sz hb),λx c e z=>?_,λp hp z=>?_⟩
 ·obtain⟨v,q⟩:=I.cell x c e
  exact absurd (Nat.lt_of_lt_of_le q.lt (by rw [z];exact hb)) (Nat.lt_irrefl _)
 ·exact absurd (Nat.lt_of_lt_of_le (Heap.lt_size (I.pin p hp).1) (by rw [z];exact hb)) (Nat.lt_irrefl _)
structure Turn(P:Program)(w:World)(K:PySem.W.Frag)(tg:Expr)(J:It)(fp:List Addr)(it:Addr)(tn:Nat->Heap->Prop):Prop where
 mem:it∈fp
 obj:∀i h,tn i h->∀b∈fp,∃o,h.get? b=some o/\∀v,o.data≠.cell v
 keep:∀i h h',tn i h->(∀b∈fp,∀o,h.get? b=some o->h'.get? b=some o)->tn i h'
 item:∀(X:Cx),X.prog=P->X.w=w->X.K=K->X.calm=true->∀(i:Nat) (pins:List (Addr×Obj)) (s:Shared) (σ:St) (H:Hp) (E:Value->Shared->Prop),Inv X pins σ H s->(∀b∈fp,Ep X pins H b)->tn i s.heap->J.go i H ->
  wpAny (model P w) X.A (pyNext (.ref it)) (λr s1=>∃u,r=some u /\
   wpAny (model P w) X.A (letOwnedTupleGo tg (.ref it) u) (λ_ s2=>∃x H',Inv X pins σ H' s2/\Bj x u/\J.yld i H x H'/\tn (i+1) s2.heap/\∀b∈fp,H' b=none) E s1) E s
 done:∀(X:Cx),X.prog=P->X.w=w->X.K=K->X.calm=true->∀(i:Nat) (pins:List (Addr×Obj)) (s:Shared) (σ:St) (H:Hp) (E:Value->Shared->Prop),Inv X pins σ H s->(∀b∈fp,Ep X pins H b)->tn i s.heap->J.stop i H ->
  wpAny (model P w) X.A (pyNext (.ref it)) (λr s1=>r=none/\Inv X pins σ H s1) E s
 self:∀(A:Around) (i:Nat) (s:Shared) (Q:Value->Shared->Prop) (E:Value->Shared->Prop),tn i s.heap->Q (.ref it) s->wpAny (model P w) A (pyIter (.ref it)) Q E s
abbrev TI:=St->Hp->(It->Hp->Prop)->Prop
def PIE(X:Cx)(pins:List (Addr×Obj))(σ:St)(tg:Expr)(R:It->Hp->Prop)(itv:Value)(s2:Shared):Prop :=
 ∃(it:Addr) (fp:List Addr) (tn:Nat->Heap->Prop) (J:It) (H':Hp),itv=.ref it/\Inv X pins σ H' s2/\Turn X.prog X.w X.K tg J fp it tn/\tn 0 s2.heap/\(∀b∈fp,Ep X pins H' b)/\R J H'
def PI(X:Cx)(tg iter:Expr)(wi:TI):Prop :=
 ∀(pins:List (Addr×Obj)) (s:Shared) (σ:St) (H:Hp) (R:It->Hp->Prop),Inv X pins σ H s->wi σ H R ->
  wpAny (model X.prog X.w) X.A (eval iter X.env) (λv s1=>wpAny (model X.prog X.w) X.A (pyIter v) (PIE X pins σ tg R) X.xe s1) X.xe s
theorem Pi{M:Model}{A:Around}{E:Value->Shared->Prop}{s:Shared}{tg:Expr}{it:Addr}{u:Value}{o:Obj}{n:String}{vs:Array Value}{Q:Unit->Shared->Prop}(ho:s.heap.get? it=some o)(hc:o.cls=.type n)(hd:o.data=.fields vs)
  (hn:["enumerate","zip","dict_itemiterator","dict_reverseitemiterator","odict_iterator","itertools.zip_longest","itertools.pairwise"].contains n=false) (hQ:Q () s):wpAny M A (letOwnedTupleGo tg (.ref it) u) Q E s:=by
 unfold letOwnedTupleGo
 cases tg <;> first
  | exact wpAny_pure hQ
  | (cases u <;> first
    | exact wpAny_pure hQ
    | (refine wpAny_bind (wpAny_load ho ?_)
       rw [hc, hd]
       show wpAny M A (if (["enumerate", "zip", "dict_itemiterator", "dict_reverseitemiterator", "odict_iterator", "itertools.zip_longest", "itertools.pairwise"].contains n && vs[0]? == some (rawInt _)) = true then _ else _) Q E s
       rw [if_neg (by intro h; rw [hn, Bool.false_and] at h; cases h)]
       exact wpAny_pure hQ))
def Itl(K:PySem.W.Frag)(a:Addr):It :=
 ⟨λi H=>∃xs x,D5 K H a xs/\xs[i]?=some x,λi H x H'=>H'=H/\∀xs,D5 K H a xs->xs[i]?=some x,λi H=>∃xs,D5 K H a xs/\xs.length<=i⟩
def Itt(K:PySem.W.Frag)(a:Addr):It :=
 ⟨λi H=>∃xs x,Hg K H a xs/\xs[i]?=some x,λi H x H'=>H'=H/\∀xs,Hg K H a xs->xs[i]?=some x,λi H=>∃xs,Hg K H a xs/\xs.length<=i⟩
def Itr(lo:Int)(n:Nat):It:=⟨λi _=>i < n,λi H x H'=>H'=H/\x=.int (lo+i),λi _=>n<=i⟩
theorem Rg{P:Program}{w:World}{K:PySem.W.Frag}{tg:Expr}(a it:Addr):Turn P w K tg (Itl K a) [it] it (λi h=>h.IsListIter it a i) where
 mem:=by simp
 obj:=λi h st b hb=>by
  have e:b=it:=by simpa using hb
  subst e
  obtain⟨o,e,c,d⟩:=st
  exact⟨o,e,λv z=>by rw [d]at z;cases z⟩
 keep:=λi h h' st k=>st.at λo e=>k it (by simp) o e
 item:=by
  intro X hP hw hK hc i pins s σ H E I hf st hg
  subst hP hw hK
  obtain⟨xs,x,hq,hx⟩:=hg
  obtain⟨its,rv,p,hz⟩:=I.list hq
  obtain⟨u,hu,ru⟩:=rv.get hx
  obtain⟨f0,f1,f2,f3,f4,f5⟩:=hf it (by simp)
  refine wpAny_pyNext_list_item st p.isList (x:=u) (by simpa using hu) λh' st' sb=>?_
  have I1:Inv X pins σ H { s with heap:=h' }:=I.turned (t':=s.toks) (λb o hb e=>(sb.2 b hb).trans e) f0 f1 f3 f4 f5
  obtain⟨o,e,c,d⟩:=id st'
  exact⟨u,rfl,Pi (s:={ s with heap:=h' }) e c d (by decide) ⟨x,H,I1,ru,⟨rfl,λys hy=>by rw [I.list_inj hy hq];exact hx⟩,st',λb hb=>(hf b hb).1⟩⟩
 done:=by
  intro X hP hw hK hc i pins s σ H E I hf st hg
  subst hP hw hK
  obtain⟨xs,hq,hx⟩:=hg
  obtain⟨its,rv,p,hz⟩:=I.list hq
  obtain⟨f0,f1,f2,f3,f4,f5⟩:=hf it (by simp)
  have hl:=rv.length
  exact wpAny_pyNext_list_end (I.ok.hd hc) st p.isList (by simp;omega) λh' eb=>⟨rfl,I.turned (t':=s.toks) (λb o hb e=>eb b o hb e) f0 f1 f3 f4 f5⟩
 self:=λ_ _ _ _ _ st h=>wpAny_pyIter_listiter st h
theorem N6{P:Program}{w:World}{K:PySem.W.Frag}{tg:Expr}(a it:Addr):Turn P w K tg (Itt K a) [it] it (λi h=>h.IsTupleIter it a i) where
 mem:=by simp
 obj:=λi h st b hb=>by
  have e:b=it:=by simpa using hb
  subst e
  obtain⟨o,e,c,d⟩:=st
  exact⟨o,e,λv z=>by rw [d]at z;cases z⟩
 keep:=λi h h' st k=>st.at λo e=>k it (by simp) o e
 item:=by
  intro X hP hw hK hc i pins s σ H E I hf st hg
  subst hP hw hK
  obtain⟨xs,x,hq,hx⟩:=hg
  obtain⟨its,rv,p,hz⟩:=I.tuple hq
  obtain⟨u,hu,ru⟩:=rv.get hx
  obtain⟨f0,f1,f2,f3,f4,f5⟩:=hf it (by simp)
  refine wpAny_pyNext_tuple_item st (show s.heap.IsTuple a its.toArray from p) (x:=u) (by simpa using hu) λh' st' sb=>?_
  have I1:Inv X pins σ H { s with heap:=h' }:=I.turned (t':=s.toks) (λb o hb e=>(sb.2 b hb).trans e) f0 f1 f3 f4 f5
  obtain⟨o,e,c,d⟩:=id st'
  exact⟨u,rfl,Pi (s:={ s with heap:=h' }) e c d (by decide) ⟨x,H,I1,ru,⟨rfl,λys hy=>by rw [I.tuple_inj hy hq];exact hx⟩,st',λb hb=>(hf b hb).1⟩⟩
 done:=by
  intro X hP hw hK hc i pins s σ H E I hf st hg
  subst hP hw hK
  obtain⟨xs,hq,hx⟩:=hg
  obtain⟨its,rv,p,hz⟩:=I.tuple hq
  obtain⟨f0,f1,f2,f3,f4,f5⟩:=hf it (by simp)
  have hl:=rv.length
  exact wpAny_pyNext_tuple_end (I.ok.hd hc) st (show s.heap.IsTuple a its.toArray from p) (by simp;omega) λh' eb=>⟨rfl,I.turned (t':=s.toks) (λb o hb e=>eb b o hb e) f0 f1 f3 f4 f5⟩
 self:=λ_ _ _ _ _ st h=>wpAny_pyIter_tupleiter st h
theorem N7{P:Program}{w:World}{K:PySem.W.Frag}{tg:Expr}(it:Addr)(lo:Int)(n:Nat):Turn P w K tg (Itr lo n) [it] it (λi h=>IsRangeIter h it (lo+(i:Nat) * 1) ((n:Int) - (i:Nat)) 1) where
 mem:=by simp
 obj:=λi h st b hb=>by
  have e:b=it:=by simpa using hb
  subst e
  exact⟨_,st,λv z=>by
   have z':Data.fields _=Data.cell v:=z
   cases z'⟩
 keep:=λi h h' st k=>k it (by simp) _ st
 item:=by
  intro X hP hw hK hc i pins s σ H E I hf st hg
  subst hP hw hK
  obtain⟨f0,f1,f2,f3,f4,f5⟩:=hf it (by simp)
  have W:=Walks.range (prog:=X.prog) (w:=X.w) (I.ok.hd hc) it lo 1 n
  refine W.item i s _ _ hg st λv h' tk hv st' kk=>?_
  obtain⟨t,rfl⟩:=hv
  have I1:Inv X pins σ H { s with heap:=h',toks:=tk }:=I.turned (λb o hb e=>kk b o (by simpa using hb) e) f0 f1 f3 f4 f5
  refine⟨_,rfl,Pi (s:={ s with heap:=h',toks:=tk }) (n := "range_iterator") st' rfl rfl (by decide) ⟨.int (lo+i),H,I1,⟨t,?_⟩,⟨rfl,rfl⟩,st',λb hb=>(hf b hb).1⟩⟩
  rw [Int.mul_one]
 done:=by
  intro X hP hw hK hc i pins s σ H E I hf st hg
  subst hP hw hK
  obtain⟨f0,f1,f2,f3,f4,f5⟩:=hf it (by simp)
  exact wpAny_pyNext_range_end (I.ok.hd hc) st (by have:n<=i:=hg;omega) λh' eb=>⟨rfl,I.turned (t':=s.toks) (λb o hb e=>eb b o hb e) f0 f1 f3 f4 f5⟩
 self:=λ_ _ _ _ _ st h=>wpAny_pyIter_rangeiter st h
section
variable {X:Cx}{tg:Expr}
theorem Tg{pins:List (Addr×Obj)}{σ:St}{H:Hp}{s:Shared}{R:It->Hp->Prop}{E:Value->Shared->Prop}{lo hi:Int}{t u v:Tok}{tk:Nat}(I:Inv X pins σ H s)(h1:-(2 ^ 62)<=lo)(h2:lo < 2 ^ 62)(h3:-(2 ^ 62)<=hi)(h4:hi < 2 ^ 62)
  (q:R (Itr lo (hi - lo).toNat) H):wpAny (model X.prog X.w) X.A (pyIter (.ref s.heap.objs.size)) (PIE X pins σ tg R) E { s with heap:=s.heap.push { cls:=.type "range",data:=.fields #[.int lo t,.int hi u,.int 1 v] },toks:=tk }:=by
 refine wpAny_pyIter_range (IsRange.new ..) (small_one h1 h2 h3 h4) ?_
 have I1:Inv X pins σ H { s with heap:=s.heap.push { cls:=.type "range",data:=.fields #[.int lo t,.int hi u,.int 1 v] },toks:=tk }:=I.kept λb o e=>Heap.get?_push_of_some _ e
 refine⟨(s.heap.push { cls:=.type "range",data:=.fields #[.int lo t,.int hi u,.int 1 v] }).objs.size,[(s.heap.push { cls:=.type "range",data:=.fields #[.int lo t,.int hi u,.int 1 v] }).objs.size],_,_,H,rfl,
  I1.kept (t':=tk) λb o e=>Heap.get?_push_of_some _ e,N7 _ lo (hi - lo).toNat,?_,λb hb=>?_,q⟩
 ·have e1:lo+((0:Nat):Int) * 1=lo:=by simp
  have e2:(((hi - lo).toNat:Nat):Int) - ((0:Nat):Int)=Builtin.Range.rangeSize lo hi 1:=by rw [rangeSize_one];split <;> omega
  show IsRangeIter _ _ (lo+((0:Nat):Int) * 1) ((((hi - lo).toNat:Nat):Int) - ((0:Nat):Int)) 1
  rw [e1,e2]
  exact Heap.get?_push_size _ rfl
 ·have e:b=(s.heap.push { cls:=.type "range",data:=.fields #[.int lo t,.int hi u,.int 1 v] }).objs.size:=by simpa using hb
  subst e
  exact I1.fpOk (Nat.le_refl _) (I1.hok.fresh (Nat.le_refl _))
def Qd7(ta:TA):TI:=fun σ H R=>ta σ H λvs H1=>∃j:Int,vs=[.int j]/\-(2 ^ 62)<=j/\j < 2 ^ 62/\R (Itr 0 j.toNat) H1
theorem Rh{a:Expr}{ta:TA}{p pos:Pos}(hg:Gl X "range") (hm:X.mg "range" = none) (ha:PA X [a] ta) (hs:starEach [a] X.env=[(false,eval a X.env)]:=by rfl):PI X tg (.Call (.Name "range" p) [a] [] pos) (Qd7 ta):=by
 intro pins s σ H R I h
 refine Call_ (Cz I hg hm boot_range (PyProof.Rows.callWith_type1 (thn (ha pos pins s σ H _ I h) λus s1 zz226=>Ce zz226 λvs H1 I1 r1 q1=>?_) hs rfl))
 obtain⟨j,e,q1,q2,q⟩:=q1
 subst e
 cases r1 with
 | cons r rr =>
  cases rr
  obtain⟨t,rfl⟩:=r
  exact call_range_1 (Tg I1 (by omega) (by omega) q1 q2 (by simpa using q))
def Qia(wi:TI)(g:TG)(tb:TS):TS:=λD σ H=>wi σ H λJ H1=>∃W:Nat->Nat->St->Hp->Prop,(∃m,W 0 m σ H1)/\∀i m σ H,W i m σ H ->
 (J.stop i H/\D.nx σ H)\/(J.go i H/\∃N:St->Hp->Prop,(∀ σ' H',N σ' H'->∃m',m' < m/\W (i+1) m' σ' H')/\∀x H',J.yld i H x H'->g x σ H' fun σ2 H2=>tb { D with nx:=N,ct:=N,bk:=D.nx } σ2 H2)
def Ie(fp:List Addr)(h:Heap):List (Addr×Obj):=fp.filterMap λb=>(h.get? b).map λo=>(b,o)
theorem Eh{fp:List Addr}{h:Heap}{b:Addr}{o:Obj}(hb:b∈fp)(e:h.get? b=some o):(b,o)∈Ie fp h:=List.mem_filterMap.mpr ⟨b,hb,by rw [e];rfl⟩
theorem Ri{fp:List Addr}{h:Heap}{p:Addr×Obj}(hp:p∈Ie fp h):p.1∈fp/\h.get? p.1=some p.2:=by
 obtain⟨b,hb,e⟩:=List.mem_filterMap.mp hp
 cases q:h.get? b with
 | none=>rw [q]at e;cases e
 | some o =>
  rw [q]at e
  have e':(b,o)=p:=Option.some.inj e
  subst e'
  exact⟨hb,q⟩
theorem Inv.pinned{pins:List (Addr×Obj)}{σ:St}{H:Hp}{s:Shared}{fp:List Addr}(I:Inv X pins σ H s)(hf:∀b∈fp,Ep X pins H b)(ho:∀b∈fp,∃o,s.heap.get? b=some o/\∀v,o.data≠.cell v):Inv X (pins++Ie fp s.heap) σ H s :=
 I.pins_of λp hp=>(List.mem_append.mp hp).elim (λz=>I.pin p (List.mem_append_right _ z)) λz=>by
  obtain⟨hb,e⟩:=Ri z
  obtain⟨f0,f1,f2,_⟩:=hf p.1 hb
  obtain⟨o,e',d⟩:=ho p.1 hb
  rw [e]at e';cases e'
  exact⟨e,f0,f1,f2,d⟩
theorem Inv.unpinned{pins pl:List (Addr×Obj)}{σ:St}{H:Hp}{s:Shared}(I:Inv X (pins++pl) σ H s):Inv X pins σ H s:=I.pins_of λp hp=>I.pin p (List.mem_append_right _ (List.mem_append_left _ hp))
theorem Qa3{iter:Expr}{body:List Stmt}{wi:TI}{g:TG}{tb:TS}{pos:Pos}(hp:PassesOwn (model X.prog X.w) X.A X.env X.xe)(hc:X.calm=true)(hi:PI X tg iter wi)(hg:PG X tg g)(hb:PSs X body tb)
  (hs:∀x,foldedSetIterable iter X.env x=pure x:=by intro _;rfl):PS X (.For tg iter body [] pos) (Qia wi g tb):=by
 intro pins s σ H D I h
 refine wpAny_For (thn (hi pins s σ H _ I h) λv s1 h1=>thn h1 λitv s2 h2=>?_) hs
 obtain⟨it,fp,tn,J,H2,e,I2,T,st2,f2,W,⟨m0,w0⟩,turn⟩:=h2
 subst e
 have stat:∀{H':Hp},(∀b∈fp,H' b=none)->∀b∈fp,Ep X pins H' b:=λhn b hb=>⟨hn b hb,(f2 b hb).2⟩
 refine codeAny_forLoop_any (λn s'=>∃i σ' H',Inv X pins σ' H' s'/\tn i s'.heap/\(∀b∈fp,H' b=none)/\W i n σ' H') ?_ m0 ⟨0,σ,H2,I2,st2,λb hb=>(f2 b hb).1,w0⟩
 rintro n s3 ⟨i,σ3,H3,I3,st3,fr3,w3⟩
 rcases turn i n σ3 H3 w3 with⟨stop,qn⟩ | ⟨go,N,hN,step⟩
 ·refine wpAny_passesOwn hp (thn (T.done X rfl rfl rfl hc i pins s3 σ3 H3 X.xe I3 (stat fr3) st3 stop) λr s4 ⟨hr,I4⟩=>?_)
  subst hr
  exact wpAny_execs_nil ⟨σ3,H3,I4,qn⟩
 ·refine wpAny_passesOwn hp (thn (T.item X rfl rfl rfl hc i pins s3 σ3 H3 X.xe I3 (stat fr3) st3 go) λr s4 ⟨u,hr,h4⟩=>?_)
  subst hr
  refine wpAny_passesOwn hp (thn h4 λ_ s5 zz502=>?_)
  obtain⟨x,H5,I5,r5,y5,st5,fr5⟩:=zz502
  have I5':=I5.pinned (stat fr5) (T.obj _ _ st5)
  refine wpAny_passesOwn hp (thn (hg _ s5 σ3 H5 x u _ I5' r5 (step x H5 y5)) λ_ s6 zz503=>?_)
  obtain⟨σ6,H6,I6,q6⟩:=zz503
  refine wpAny_passesOwn hp (thn (hb _ s6 σ6 H6 _ I6 q6) λf s7 q7=>?_)
  have again:∀{σ7:St} {H7:Hp},Inv X (pins++Ie fp s5.heap) σ7 H7 s7->N σ7 H7->∃m,m < n/\∃i σ' H',Inv X pins σ' H' s7/\tn i s7.heap/\(∀b∈fp,H' b=none)/\W i m σ' H':=λ{σ7 H7} I7 n7=>by
   obtain⟨m',hm,w7⟩:=hN σ7 H7 n7
   refine⟨m',hm,i+1,σ7,H7,I7.unpinned,T.keep _ _ _ st5 λb hb o e=>(I7.pin (b,o) (List.mem_append_right _ (List.mem_append_right _ (Eh hb e)))).1,λb hb=>?_,w7⟩
   obtain⟨o,e,d⟩:=T.obj _ _ st5 b hb
   exact(I7.pin (b,o) (List.mem_append_right _ (List.mem_append_right _ (Eh hb e)))).2.1
  cases f with
  | next=>obtain⟨σ7,H7,I7,n7⟩:=q7;exact again I7 n7
  | cont=>obtain⟨σ7,H7,I7,n7⟩:=q7;exact again I7 n7
  | brk=>obtain⟨σ7,H7,I7,q7⟩:=q7;exact⟨σ7,H7,I7.unpinned,q7⟩
  | ret v=>obtain⟨x7,σ7,H7,I7,r7,q7⟩:=q7;exact⟨x7,σ7,H7,I7.unpinned,r7,q7⟩
end
abbrev R2:=V->V->Hp->VK->Prop
def Gu(X:Cx)(f:Value->Value->Sem Value)(r:R2):Prop :=
 ∀(pins:List (Addr×Obj)) (s:Shared) (σ:St) (H:Hp) (x y:V) (v u:Value) (Q:VK),Inv X pins σ H s->Bj x v->Bj y u->r x y H Q ->
  wpAny (model X.prog X.w) X.A (f v u) (EP X pins σ Q) X.xe s
def UnR(X:Cx)(f:Value->Sem Value)(r:V->Hp->VK->Prop):Prop :=
 ∀(pins:List (Addr×Obj)) (s:Shared) (σ:St) (H:Hp) (x:V) (v:Value) (Q:VK),Inv X pins σ H s->Bj x v->r x H Q ->
  wpAny (model X.prog X.w) X.A (f v) (EP X pins σ Q) X.xe s
def Fk(X:Cx)(f:Value)(r:List V->Hp->VK->Prop):Prop :=
 ∀(pins:List (Addr×Obj)) (s:Shared) (σ:St) (H:Hp) (xs:List V) (us:List Value) (Q:VK),Inv X pins σ H s->Vals xs us->r xs H Q ->
  wpAny (model X.prog X.w) X.A (call f us) (EP X pins σ Q) X.xe s
def tOp(r:R2)(ta tb:TE):TE:=fun σ H Q=>ta σ H λx H1=>tb σ H1 λy H2=>r x y H2 Q
def tUn(r:V->Hp->VK->Prop)(ta:TE):TE:=fun σ H Q=>ta σ H λx H1=>r x H1 Q
def rI(C:Int->Int->Prop)(g:Int->Int->V):R2:=λx y H Q=>∃i j,x=.int i/\y=.int j/\C i j/\Q (g i j) H
def Wt(g:Int->Int->V):R2:=λx y H Q=>∃i j,x=.int i/\y=.int j/\Q (g i j) H
def rU(g:Int->V):V->Hp->VK->Prop:=λx H Q=>∃i,x=.int i/\Q (g i) H
section
variable {X:Cx}{a b c:Expr}{ta tb tc:TE}{pos:Pos}
theorem Qa4(ha:PE X a ta)(hb:PE X b tb){pins:List (Addr×Obj)}{s:Shared}{σ:St}{H:Hp}{R:V->V->Hp->Prop}(I:Inv X pins σ H s)
  (h:ta σ H λx H1=>tb σ H1 λy H2=>R x y H2) {Q:Value->Shared->Prop} {f:Value->Value->Sem Value}
  (hf:∀v u s2 x y H2,Inv X pins σ H2 s2->Bj x v->Bj y u->R x y H2->wpAny (model X.prog X.w) X.A (f v u) Q X.xe s2) :
  wpAny (model X.prog X.w) X.A (eval a X.env) (λv s₁=>wpAny (model X.prog X.w) X.A (eval b X.env) (λu s₂=>wpAny (model X.prog X.w) X.A (f v u) Q X.xe s₂) X.xe s₁) X.xe s:=by
 refine thn (ha pins s σ H _ I h) λv s1 zz228=>Ce zz228 λx H1 I1 r1 q1=>?_
 refine thn (hb pins s1 σ H1 _ I1 q1) λu s2 zz229=>Ce zz229 λy H2 I2 r2 q2=>?_
 exact hf v u s2 x y H2 I2 r1 r2 q2
theorem Qd9{op:Operator}{r:R2}(ho:Gu X (binaryOp op) r)(ha:PE X a ta)(hb:PE X b tb):PE X (.BinOp a op b pos) (tOp r ta tb):=by
 intro pins s σ H Q I h
 exact wpAny_BinOp (Qa4 ha hb I h λv u s2 x y H2 I2 rx ry q=>ho pins s2 σ H2 x y v u Q I2 rx ry q)
theorem Qea{op:UnaryOp}{r:V->Hp->VK->Prop}(ho:UnR X (unaryOp op) r)(ha:PE X a ta):PE X (.UnaryOp op a pos) (tUn r ta):=by
 intro pins s σ H Q I h
 exact UnaryOp_ (thn (ha pins s σ H _ I h) λv s1 zz230=>Ce zz230 λx H1 I1 r1 q1=>ho pins s1 σ H1 x v Q I1 r1 q1)
theorem opI{f:Value->Value->Sem Value}{C:Int->Int->Prop}{g:Int->Int->Int}
  (rule:∀(i j:Int) (t u:Tok) (s:Shared) (Q:Value->Shared->Prop) (E:Value->Shared->Prop),C i j->Q (.int (g i j) s.toks) { s with toks:=s.toks+1 }->wpAny (model X.prog X.w) X.A (f (.int i t) (.int j u)) Q E s) :
  Gu X f (rI C λi j=>.int (g i j)):=by
 intro pins s σ H x y v u Q I rx ry h
 obtain⟨i,j,rfl,rfl,hc,q⟩:=h
 obtain⟨t,rfl⟩:=rx
 obtain⟨t',rfl⟩:=ry
 exact rule i j t t' s _ _ hc ⟨.int (g i j),H,I.tok _,⟨_,rfl⟩,q⟩
theorem Qeb{f:Value->Value->Sem Value}{g:Int->Int->Int}
  (rule:∀(i j:Int) (t u:Tok) (s:Shared) (Q:Value->Shared->Prop) (E:Value->Shared->Prop),Q (.int (g i j) s.toks) { s with toks:=s.toks+1 }->wpAny (model X.prog X.w) X.A (f (.int i t) (.int j u)) Q E s) :
  Gu X f (Wt λi j=>.int (g i j)):=by
 intro pins s σ H x y v u Q I rx ry h
 obtain⟨i,j,rfl,rfl,q⟩:=h
 obtain⟨t,rfl⟩:=rx
 obtain⟨t',rfl⟩:=ry
 exact rule i j t t' s _ _ ⟨.int (g i j),H,I.tok _,⟨_,rfl⟩,q⟩
theorem Wu{f:Value->Value->Sem Value}{g:Int->Int->Bool}
  (rule:∀(i j:Int) (t u:Tok) (s:Shared) (Q:Value->Shared->Prop) (E:Value->Shared->Prop),Q (.bool (g i j)) s->wpAny (model X.prog X.w) X.A (f (.int i t) (.int j u)) Q E s) :
  Gu X f (Wt λi j=>.bl (g i j)):=by
 intro pins s σ H x y v u Q I rx ry h
 obtain⟨i,j,rfl,rfl,q⟩:=h
 obtain⟨t,rfl⟩:=rx
 obtain⟨t',rfl⟩:=ry
 exact rule i j t t' s _ _ ⟨.bl (g i j),H,I,rfl,q⟩
def CDiv(i j:Int):Prop:=0 < j/\j < 1073741824
def CPow(i j:Int):Prop:=0<=j/\j<=1000000/\i.natAbs < 2 ^ 64
def CMul(i j:Int):Prop:=(-(2 ^ 64) < i/\i < 2 ^ 64)\/(-(2 ^ 64) < j/\j < 2 ^ 64)
theorem CMul.ok{i j:Int}(h:CMul i j):IntMulOk i j:=by
 rcases h with⟨h1,h2⟩ | ⟨h1,h2⟩
 ·exact .of_left (intBits_le_64 h1 h2)
 ·exact .of_right (intBits_le_64 h1 h2)
theorem Qa5:Gu X (binaryOp .Add) (Wt λi j=>.int (i+j)):=Qeb λ_ _ _ _ _ _ _ q=>add_int q
theorem Qa6:Gu X (binaryOp .Sub) (Wt λi j=>.int (i - j)):=Qeb λ_ _ _ _ _ _ _ q=>sub_int q
theorem Qa7:Gu X (binaryOp .Mult) (rI CMul λi j=>.int (i * j)):=opI λ_ _ _ _ _ _ _ hc q=>mul_int q hc.ok
theorem Wv:Gu X (binaryOp .FloorDiv) (rI CDiv λi j=>.int (i / j)):=opI λi j _ _ _ _ _ hc q=>by
 have h1:(0:Int) < j:=hc.1
 have h2:j < 1073741824:=hc.2
 exact floordiv_int (by omega) (by rw [Int.fdiv_eq_ediv_of_nonneg i (by omega)];exact q) (.inl (PyProof.noPylong_small (by omega)))
theorem Qa8:Gu X (binaryOp .Mod) (rI (λ_ j=>0 < j) λi j=>.int (i % j)):=opI λi j _ _ _ _ _ hc q=>by
 have h1:(0:Int) < j:=hc
 exact mod_int' (by omega) (by rw [Int.fmod_eq_emod_of_nonneg i (by omega)];exact q)
theorem Qa9:Gu X (binaryOp .Pow) (rI CPow λi j=>.int (i ^ j.toNat)):=opI λ_ _ _ _ _ _ _ hc q=>pow_int_small hc.1 hc.2.1 hc.2.2 q
theorem unI{f:Value->Sem Value}{g:Int->Int}
  (rule:∀(i:Int) (t:Tok) (s:Shared) (Q:Value->Shared->Prop) (E:Value->Shared->Prop),Q (.int (g i) s.toks) { s with toks:=s.toks+1 }->wpAny (model X.prog X.w) X.A (f (.int i t)) Q E s) :
  UnR X f (rU λi=>.int (g i)):=by
 intro pins s σ H x v Q I rx h
 obtain⟨i,rfl,q⟩:=h
 obtain⟨t,rfl⟩:=rx
 exact rule i t s _ _ ⟨.int (g i),H,I.tok _,⟨_,rfl⟩,q⟩
theorem Qba:UnR X (unaryOp .USub) (rU λi=>.int (-i)):=unI λ_ _ _ _ _ q=>neg_int q
end
section
variable {X:Cx}{a b c:Expr}{ta tb tc:TE}{pos:Pos}
theorem K5{pins:List (Addr×Obj)}{σ:St}{H:Hp}{s:Shared}{Q:VK}{k k':Bool}(I:Inv X pins σ H s)(q:Q (.bl k) H)(e:k=k'):EP X pins σ Q (.bool k') s:=by
 subst e
 exact⟨.bl k,H,I,rfl,q⟩
theorem Qec:Gu X (compareOp .Lt) (Wt λi j=>.bl (decide (i < j))):=Wu λ_ _ _ _ _ _ _ q=>lt_int q
theorem Qed:Gu X (compareOp .LtE) (Wt λi j=>.bl (decide (i<=j))):=Wu λ_ _ _ _ _ _ _ q=>le_int q
theorem Qee:Gu X (compareOp .Gt) (Wt λi j=>.bl (decide (j < i))):=Wu λ_ _ _ _ _ _ _ q=>gt_int q
theorem Qef:Gu X (compareOp .GtE) (Wt λi j=>.bl (decide (j<=i))):=Wu λ_ _ _ _ _ _ _ q=>ge_int q
theorem Rj:Gu X (compareOp .In) (λx y H Q=>∃i j,x=.str i/\y=.str j/\Q (.bl (!(Builtin.Str.occurrences j i 0 j.length 1).isEmpty)) H):=by
 intro pins s σ H x y v u Q I rx ry h
 obtain⟨i,j,rfl,rfl,q⟩:=h
 obtain⟨t,rfl⟩:=rx
 obtain⟨t',rfl⟩:=ry
 exact in_str (K5 I q rfl)
theorem Th:Gu X (compareOp .Is) (λx y H Q=>y=.non/\Q (.bl (decide (x=.non))) H):=by
 intro pins s σ H x y v u Q I rx ry h
 obtain⟨rfl,q⟩:=h
 cases ry
 refine is_none_gen (K5 I q ?_)
 cases x <;> first
  | (cases rx;rfl)
  | (obtain⟨t,rfl⟩:=rx;rfl)
theorem nomark(b:Expr){op:CmpOp}(h:op≠.In:=by decide)(h2:op≠.NotIn:=by decide):behindInMarks op b=false:=by
 have e1:(op==CmpOp.In)=false:=by cases op <;> first | rfl | exact absurd rfl h
 have e2:(op==CmpOp.NotIn)=false:=by cases op <;> first | rfl | exact absurd rfl h2
 cases b <;> simp [behindInMarks,e1,e2]
theorem Ww{op:CmpOp}{r:R2}(ho:Gu X (compareOp op) r)(ha:PE X a ta)(hb:PE X b tb)(hm:behindInMarks op b=false):PE X (.Compare a [op] [b] pos) (tOp r ta tb):=by
 intro pins s σ H Q I h
 exact wpAny_Compare1 (Qa4 ha hb I h λv u s2 x y H2 I2 rx ry q=>ho pins s2 σ H2 x y v u Q I2 rx ry q) hm
def Y9(t:TE):TT:=fun σ H Q=>t σ H λx H'=>∃k,x=.bl k/\Q k H'
theorem Wx{op:CmpOp}{r:R2}(ho:Gu X (compareOp op) r)(ha:PE X a ta)(hb:PE X b tb)(hm:behindInMarks op b=false):PT X (.Compare a [op] [b] pos) (Y9 (tOp r ta tb)):=by
 intro pins s σ H Q I h
 refine wpAny_isTrue_Compare1 (thn (ha pins s σ H _ I h) λv s1 zz231=>Ce zz231 λx H1 I1 r1 q1=>thn (hb pins s1 σ H1 _ I1 q1) λu s2 zz232=>Ce zz232 λy H2 I2 r2 q2 =>
  thn (ho pins s2 σ H2 x y v u _ I2 r1 r2 q2) λc s3 ⟨z,H3,I3,r3,k,e,q3⟩=>?_) hm
 subst e
 cases r3
 exact wpAny_truthy_bool ⟨H3,I3,q3⟩
def Ti(r r':R2)(ta tb tc:TE):TE:=fun σ H Q=>ta σ H λx H1=>tb σ H1 λy H2=>r x y H2 λz H3=>∃k,z=.bl k /\
 (if k=true then tc σ H3 λw' H4=>r' y w' H4 Q else Q (.bl false) H3)
theorem Tj{op op':CmpOp}{r r':R2}(ho:Gu X (compareOp op) r)(ho':Gu X (compareOp op') r')(ha:PE X a ta)(hb:PE X b tb)(hc:PE X c tc)
  (hm:lastMarks [op,op'] [b,c]=false:=by with_unfolding_all rfl):PE X (.Compare a [op,op'] [b,c] pos) (Ti r r' ta tb tc):=by
 intro pins s σ H Q I h
 refine Compare_chain (thn (ha pins s σ H _ I h) λv s1 zz233=>Ce zz233 λx H1 I1 r1 q1=>chain_link (thn (hb pins s1 σ H1 _ I1 q1) λu s2 zz234=>Ce zz234 λy H2 I2 r2 q2 =>
  thn (ho pins s2 σ H2 x y v u _ I2 r1 r2 q2) λd s3 ⟨z,H3,I3,r3,k,e,q3⟩=>?_)) hm
 subst e
 cases r3
 refine wpAny_truthy_bool ?_
 cases k with
 | false=>exact ite_ff ⟨.bl false,H3,I3,rfl,q3⟩
 | true=>exact ite_tt (chain_last (thn (hc pins s3 σ H3 _ I3 q3) λw' s4 zz235=>Ce zz235 λz' H4 I4 r4 q4=>ho' pins s4 σ H4 y z' u w' Q I4 r2 r4 q4))
theorem Gv:(sizeLine:Nat) < 2 ^ 63:=by rw [sizeLine_eq];decide
theorem N8:Gu X (binaryOp .Add) (λx y H Q=>∃i j,x=.str i/\y=.str j/\i.length+j.length<=sizeLine/\Q (.str (i++j)) H):=by
 intro pins s σ H x y v u Q I rx ry h
 obtain⟨i,j,rfl,rfl,hz,q⟩:=h
 obtain⟨t,rfl⟩:=rx
 obtain⟨t',rfl⟩:=ry
 exact add_str (λt' tk=>⟨.str (i++j),H,I.tok _,⟨_,rfl⟩,q⟩) hz
theorem Fz{x:V}{us:List Value}(r:Vals [x] us):∃u,us=[u]/\Bj x u:=by
 cases r with
 | cons r1 r2=>cases r2;exact⟨_,rfl,r1⟩
theorem Qeg{x y:V}{us:List Value}(r:Vals [x,y] us):∃u w',us=[u,w']/\Bj x u/\Bj y w':=by
 cases r with
 | cons r1 r2 =>
  cases r2 with
  | cons r3 r4=>cases r4;exact⟨_,_,rfl,r1,r3⟩
theorem Rk(hc:X.calm=true):Fk X (.builtin "min") (λxs H Q=>∃i j,xs=[.int i,.int j]/\Q (.int (if j < i then j else i)) H):=by
 intro pins s σ H xs us Q I r h
 obtain⟨i,j,rfl,q⟩:=h
 obtain⟨u,w',rfl,⟨t,rfl⟩,⟨t',rfl⟩⟩:=Qeg r
 refine min_two_ints (I.ok.hd hc) λh' tk k=>⟨_,H,I.kept k,?_,q⟩
 by_cases hj:j < i
 ·rw [if_pos hj,if_pos hj];exact⟨_,rfl⟩
 ·rw [if_neg hj,if_neg hj];exact⟨_,rfl⟩
end
section
variable {prog:Program}{w:World}{A:Around}{E:Value->Shared->Prop}{s:Shared}{K:PySem.W.Frag}{x dx C f:Addr}{mA:Str->Option Value}{name:Str}{v:Value}
end
theorem Ic.some_of{v:V}{o:Option Value}(r:Ic (some v) o):∃u,o=some u/\Bj v u:=by
 cases o with
 | none=>exact(show False from r).elim
 | some u=>exact⟨u,rfl,r⟩
section
variable {P:Program}{w:World}{H H':Hp}{h h':Heap}{a C dx:Addr}{fs fs':List (Str×V)}
end
section
variable {X:Cx}{pins:List (Addr×Obj)}{σ:St}{H:Hp}{s:Shared}{a C dx:Addr}{fs:List (Str×V)}{f:Str}{v:V}{A:Around}{E:Value->Shared->Prop}
end
section
variable {X:Cx}{o e value:Expr}{f:Str}{pos pos' tpos:Pos}{ta tv:TE}
end
section
variable {X:Cx}{pins:List (Addr×Obj)}{σ:St}{H:Hp}{s:Shared}{A:Around}{E:Value->Shared->Prop}{Q:Value->Shared->Prop}{c:Value}{b:Bool}
end
structure Room(k:Nat)(A:Around):Prop where
 hd:A.handled=none
 dp:A.depth+3 * k+5 < recursionLimit
 un:A.units+16 * k+200 < cLine
 gd:A.guards=some []
theorem Room.mono{j k:Nat}{A:Around}(r:Room k A)(h:j<=k):Room j A:=⟨r.hd,by have:=r.dp;omega,by have:=r.un;omega,r.gd⟩
theorem Room.deeper{k:Nat}{A:Around}(r:Room (k+1) A)(env:Env):Room k (A.deeper env) :=
 ⟨r.hd,by have:=r.dp;show A.depth+1+3 * k+5 < _;omega,by have:=r.un;show A.units+3+16 * k+200 < _;omega,r.gd⟩
theorem Room.depth{k:Nat}{A:Around}(r:Room k A):A.depth < recursionLimit:=by have:=r.dp;omega
theorem Room.units{k:Nat}{A:Around}(r:Room k A):A.units+64 < cLine:=by have:=r.un;omega
def Qic:TA:=λ_ H Q=>Q [] H
def Qeh(ta:TE)(tr:TA):TA:=fun σ H Q=>ta σ H λx H1=>tr σ H1 λxs H2=>Q (x :: xs) H2
section
variable {X:Cx}{e:Expr}{es:List Expr}{te:TE}{t:TA}{pos:Pos}
theorem Qbb:PA X [] Qic:=λ_ _ _ _ H Q I h=>Calls.spliced_nil ⟨[],H,I,.nil,h⟩
theorem Wy(ha:PE X e te)(hr:PA X es t)(hs:starEach (e :: es) X.env=(false,eval e X.env) :: starEach es X.env:=by rfl):PA X (e :: es) (Qeh te t):=by
 intro pos pins s σ H Q I h
 rw [hs]
 show wpAny _ _ (spliced ((false,eval e X.env) :: backTo pos (starEach es X.env))) _ _ s
 refine Calls.spliced_cons (thn (ha pins s σ H _ I h) λu s1 zz242=>Ce zz242 λx H1 I1 r1 q1=>?_)
 exact thn (hr pos pins s1 σ H1 _ I1 q1) λus s2 zz243=>Ce zz243 λxs H2 I2 r2 q2=>⟨x :: xs,H2,I2,.cons r1 r2,q2⟩
def Qid(t:TA):TE:=fun σ H Q=>t σ H λxs H1=>xs.length<=sizeLine/\∀p,H1 p=none->Q (.ref p) (upd H1 p (.tup xs))
def Qie(t:TA):TE:=fun σ H Q=>t σ H λxs H1=>xs.length<=sizeLine/\∀p,H1 p=none->Q (.ref p) (upd H1 p (.lst xs))
theorem Qbc{x1}(h:PA X es t):PE X (.Tuple es x1 pos) (Qid t):=by
 intro pins s σ H Q I hq
 refine wpAny_Tuple_spliced (thn (h pos pins s σ H _ I hq) λus s1 ⟨xs,H1,I1,r,z,q⟩=>⟨by rw [<- r.length];exact z,?_⟩)
 have hf:H1 s1.heap.objs.size=none:=I1.hok.fresh (Nat.le_refl _)
 refine⟨.ref s1.heap.objs.size,upd H1 s1.heap.objs.size (.tup xs),I1.laid (t':=s1.toks) (λb u e=>Heap.get?_push_of_some _ e) (Nat.le_refl _) ?_,rfl,q _ hf⟩
 exact⟨z,us,r,⟨_,Heap.get?_push_size _ rfl,rfl,_,rfl⟩⟩
theorem Qbd(h:PA X es t):PE X (.List es pos) (Qie t):=by
 intro pins s σ H Q I hq
 refine wpAny_List_spliced (thn (h pos pins s σ H _ I hq) λus s1 ⟨xs,H1,I1,r,z,q⟩=>⟨by rw [<- r.length];exact z,?_⟩)
 have hf:H1 s1.heap.objs.size=none:=I1.hok.fresh (Nat.le_refl _)
 refine⟨.ref s1.heap.objs.size,upd H1 s1.heap.objs.size (.lst xs),I1.laid (t':=s1.toks) (λb u e=>Heap.get?_push_of_some _ e) (Nat.le_refl _) ?_,rfl,q _ hf⟩
 exact⟨z,us,0,r,Heap.get?_push_size _ rfl⟩
end
abbrev Sp:=List V->Hp->VK->XK->Prop
abbrev CXT:=List Env->Hp->Shared->XK->Value->Shared->Prop
structure Env0(P:Program)(w:World)(K:PySem.W.Frag)(mg:Str->Option Value)(base:Heap)(A:Around)(outer:List Env)(s:Shared)(H:Hp):Prop where
 frames:A.frames=some outer
 mod:Mod K mg base
 bs:∀b o,base.get? b=some o->s.heap.get? b=some o/\H b=none
 bsz:base.objs.size<=s.heap.objs.size
 funs:s.heap.FunFrames base outer
 frf:∀b∈frs outer,H b=none
 hok:HOk P w H s.heap
 bare:AllBare s.gens
def CE(outer:List Env)(P:Program)(w:World)(H:Hp)(s:Shared)(Q:VK)(u:Value)(s':Shared):Prop :=
 ∃v H',s'.os=s.os/\AllBare s'.gens/\Un (frs outer) [] H H' s.heap s'.heap/\HOk P w H' s'.heap/\Bj v u/\Q v H'
def CR(CX:CXT)(outer:List Env)(P:Program)(w:World)(H:Hp)(s:Shared)(Q:VK)(E:XK)(r:Result)(s':Shared):Prop :=
 match r with
 | .ok (.ret u)=>CE outer P w H s Q u s'
 | .ok _=>False
 | .error e=>CX outer H s E e s'
structure FnOk(P:Program)(w:World)(K:PySem.W.Frag)(mg:Str->Option Value)(base:Heap)(CX:CXT)(k:Nat)(f:Addr)(fd:FuncData)(ps:List Str)(sp:Sp):Prop where
 len:∀vs H Q E,sp vs H Q E->vs.length=ps.length
 run:∀(A:Around) (outer:List Env) (s:Shared) (H:Hp) (args:Args) (us:List Value) (vs:List V) (Q:VK) (E:XK),Room k A->Env0 P w K mg base A outer s H->BindsTo s fd args (ps.zip us)->Vals vs us->sp vs H Q E ->
  codeAny (model P w) A (.call (.ref f) args) (CR CX outer P w H s Q E) s
theorem FnOk.mono{P:Program}{w:World}{K:PySem.W.Frag}{mg:Str->Option Value}{base:Heap}{CX:CXT}{j k:Nat}{f:Addr}{fd:FuncData}{ps:List Str}{sp:Sp}(F:FnOk P w K mg base CX j f fd ps sp)(h:j<=k) :
  FnOk P w K mg base CX k f fd ps sp:=⟨F.len,λA outer s H args us vs Q E hr=>F.run A outer s H args us vs Q E (hr.mono h)⟩
theorem FnOk.imp{P:Program}{w:World}{K:PySem.W.Frag}{mg:Str->Option Value}{base:Heap}{CX:CXT}{k:Nat}{f:Addr}{fd:FuncData}{ps:List Str}{sp sp':Sp}(F:FnOk P w K mg base CX k f fd ps sp)
  (h:∀vs H Q E,sp' vs H Q E->sp vs H Q E):FnOk P w K mg base CX k f fd ps sp' :=
 ⟨λvs H Q E q=>F.len vs H Q E (h _ _ _ _ q),λA outer s H args us vs Q E hr he hb hv hs=>F.run A outer s H args us vs Q E hr he hb hv (h _ _ _ _ hs)⟩
section
variable {X:Cx}{pins:List (Addr×Obj)}{σ:St}{H:Hp}{s s':Shared}
theorem Inv.env0(I:Inv X pins σ H s):Env0 X.prog X.w X.K X.mg X.base X.A X.stack s H :=
 ⟨I.ok.frames,I.ok.mod,I.bs,Nat.le_trans I.ok.bsz I.sz,I.stack,I.stkFree,I.hok,I.bare⟩
theorem Inv.after{Q:VK}{u:Value}(I:Inv X pins σ H s)(h:CE X.stack X.prog X.w H s Q u s'):EP X pins σ Q u s':=by
 obtain⟨v,H',os,bare,un,hok,r,q⟩:=h
 obtain⟨hh,g,d,t,os'⟩:=s'
 obtain rfl:os'=s.os:=os
 exact⟨v,H',I.call (h':=hh) (g':=g) (d':=d) (t':=t) (ch:=[]) un hok bare (λb z=>absurd z (by simp)),r,q⟩
end
def Qei(sp:Sp)(dvs:List V)(E:XK)(t:TA):TE:=fun σ H Q=>t σ H λvs H1=>sp (vs++dvs) H1 Q E
def Binds(K:PySem.W.Frag)(fd:FuncData)(ps:List Str)(ds:List Value):Prop :=
 ∀(s:Shared) (us:List Value),K.In s.heap->(us++ds).length=ps.length->BindsTo s fd ⟨us,[]⟩ (ps.zip (us++ds))
theorem Binds.all{K:PySem.W.Frag}{fd:FuncData}{ps:List Str}(h:∀us:List Value,us.length=ps.length->bindArgs fd ⟨us,[]⟩=pure (ps.zip us)):Binds K fd ps []:=λs us _ hl=>by
 rw [List.append_nil]at hl ⊢
 exact .of_eq (h us hl)
def Passes(CX:CXT)(X:Cx)(E:XK):Prop:=∀(pins:List (Addr×Obj)) (σ:St) (H:Hp) (s:Shared) (e:Value) (s':Shared),Inv X pins σ H s->CX X.stack H s E e s'->X.xe e s'
section
variable {X:Cx}{CX:CXT}{k:Nat}{f C:Addr}{fd:FuncData}{ps:List Str}{sp:Sp}{dvs:List V}{ds:List Value}{E:XK}{x m:Str}{p pos apos:Pos}{e o:Expr}{es:List Expr}{ta:TE}{t:TA}
theorem Qbe{pins:List (Addr×Obj)}{σ:St}{H:Hp}{s:Shared}{Q:VK}{us:List Value}{vs:List V}(F:FnOk X.prog X.w X.K X.mg X.base CX k f fd ps sp)(hr:Room k X.A)(hb:Binds X.K fd ps ds)(hd:Vals dvs ds)(hx:Passes CX X E)
  (I:Inv X pins σ H s) (r:Vals vs us) (h:sp (vs++dvs) H Q E):wpAny (model X.prog X.w) X.A (call (.ref f) us) (EP X pins σ Q) X.xe s:=by
 have r2:Vals (vs++dvs) (us++ds):=r.append hd
 have hl:(us++ds).length=ps.length:=by rw [<- r2.length];exact F.len _ _ _ _ h
 refine wpAny_call (codeAny_mono (F.run X.A X.stack s H ⟨us,[]⟩ (us++ds) (vs++dvs) Q E hr I.env0 (hb s us I.kIn hl) r2 h) λr s' hq=>?_)
 cases r with
 | error e=>exact hx pins σ H s e s' I hq
 | ok fl =>
  cases fl with
  | ret u=>exact I.after hq
  | next=>exact False.elim hq
  | brk=>exact False.elim hq
  | cont=>exact False.elim hq
theorem Wz(F:FnOk X.prog X.w X.K X.mg X.base CX k f fd ps sp)(hr:Room k X.A)(hg:Gl X x)(hm:X.mg x=some (.ref f))(hk:PySem.W.keepIn X.K (.ref f)=true)(hb:Binds X.K fd ps ds)(hd:Vals dvs ds)(hx:Passes CX X E)
  (ha:PA X (e :: es) t) (hdb:(x==("__debug__" : Str))=false:=by decide) (he:starEach (e :: es) X.env=(false,eval e X.env) :: starEach es X.env:=by rfl) (hpl:(backTo pos (starEach es X.env)).any (·.1)=false:=by rfl) :
  PE X (.Call (.Name x p) (e :: es) [] pos) (Qei sp dvs E t):=by
 intro pins s σ H Q I h
 refine wpAny_Call_Name_kw (Ph I hg hm ?_ hdb)
 refine PySem.W.callWith_K (h₀:=X.base) I.ok.mod.kin hk (thn (ha pos pins s σ H _ I h) λus s1 zz244=>Ce zz244 λvs H1 I1 r q=>⟨I1.kIn,?_⟩) he hpl
 exact Qbe F hr hb hd hx I1 r q
end
section
variable {X:Cx}{CX:CXT}{k:Nat}{f C:Addr}{fd:FuncData}{ps ks:List Str}{sp:Sp}{E:XK}{x m:Str}{p pos apos kpos:Pos}{e o:Expr}{es:List Expr}{kws:List Keyword}{te ta:TE}{t tk:TA}{nm:Option Str}
variable {g:List Value->List Value->List Value}{gV:List V->List V->List V}
end
structure FnScope(N P:List Str)(sc:Scope):Prop where
 kind:sc.kind=.function
 co:sc.isCoroutine=false
 gen:sc.isGenerator=false
 nd:N.Nodup
 pre:N.take P.length=P
 par:∀x∈P,sc.names.lookup x=some .local\/sc.names.lookup x=some .cell
 nofree:∀y∈sc.names,y.2≠.free
theorem Jy{kindOf:Str->Option NameKind}{x:Str}:∀{binds:List (Str×Value)} {m:Str->Option Value},(∀v,(x,v)∉binds)->bindL kindOf binds m x=m x
 | [],_,_=>rfl
 | (n,v) :: r,m,h=>by
  unfold bindL
  rw [Jy λw hw=>h w (List.mem_cons_of_mem _ hw)]
  split
  ·have:x≠n:=by rintro rfl;exact h v List.mem_cons_self
   simp [this]
  ·rfl
theorem Jz{kindOf:Str->Option NameKind}{x:Str}:∀{binds:List (Str×Value)} {m:Str->Option Value},(∀v,(x,v)∉binds)->bindC kindOf binds m x=m x
 | [],_,_=>rfl
 | (n,v) :: r,m,h=>by
  unfold bindC
  rw [Jz λw hw=>h w (List.mem_cons_of_mem _ hw)]
  split
  ·rfl
  ·have:x≠n:=by rintro rfl;exact h v List.mem_cons_self
   simp [this]
theorem J0{kindOf:Str->Option NameKind}{x:Str}{v:Value}:∀{P:List Str} {vs:List Value} {i:Nat} {m:Str->Option Value},P.Nodup->P[i]?=some x->vs[i]?=some v->kindOf x=some .local ->
  bindL kindOf (P.zip vs) m x=some v
 | [],_,_,_,_,h,_,_=>by simp at h
 | _ :: _,[],_,_,_,_,h,_=>by simp at h
 | p :: P,w :: vs,0,m,nd,h1,h2,hk=>by
  simp at h1 h2;subst h1;subst h2
  show bindL kindOf ((p,w) :: P.zip vs) m p=_
  unfold bindL
  rw [Jy λv hv=>(List.nodup_cons.mp nd).1 (List.of_mem_zip hv).1,if_pos hk]
  simp
 | p :: P,w :: vs,i+1,m,nd,h1,h2,hk=>by
  show bindL kindOf ((p,w) :: P.zip vs) m x=_
  unfold bindL
  exact J0 (i:=i) (List.nodup_cons.mp nd).2 (by simpa using h1) (by simpa using h2) hk
theorem J1{kindOf:Str->Option NameKind}{x:Str}{v:Value}:∀{P:List Str} {vs:List Value} {i:Nat} {m:Str->Option Value},P.Nodup->P[i]?=some x->vs[i]?=some v->kindOf x≠some .local ->
  bindC kindOf (P.zip vs) m x=some v
 | [],_,_,_,_,h,_,_=>by simp at h
 | _ :: _,[],_,_,_,_,h,_=>by simp at h
 | p :: P,w :: vs,0,m,nd,h1,h2,hk=>by
  simp at h1 h2;subst h1;subst h2
  show bindC kindOf ((p,w) :: P.zip vs) m p=_
  unfold bindC
  rw [Jz λv hv=>(List.nodup_cons.mp nd).1 (List.of_mem_zip hv).1,if_neg hk]
  simp
 | p :: P,w :: vs,i+1,m,nd,h1,h2,hk=>by
  show bindC kindOf ((p,w) :: P.zip vs) m x=_
  unfold bindC
  exact J1 (i:=i) (List.nodup_cons.mp nd).2 (by simpa using h1) (by simpa using h2) hk
def start(N:List Str)(vs:List V):St:=vs.map some++List.replicate (N.length - vs.length) none
def N9(CX:CXT)(P:Program)(w:World)(K:PySem.W.Frag)(mg:Str->Option Value)(base:Heap)(N:List Str)(qual:Str)(scope:Scope)(f:Addr)(cd:Value)(A:Around)(outer:List Env)(s:Shared)(H:Hp)(E:XK):Cx where
 prog:=P
 w:=w
 K:=K
 mg:=mg
 base:=base
 A:=A.deeper (envOfC qual scope s.heap.objs.size f cd)
 N:=N
 s₀:=s
 H₀:=H
 env:=envOfC qual scope s.heap.objs.size f cd
 outer:=outer
 stack:=envOfC qual scope s.heap.objs.size f cd :: outer
 ex:=[]
 calm:=true
 fn:=λ_=>true
 pn:=[]
 xe:=λe s'=>wpAny (model P w) (A.deeper (envOfC qual scope s.heap.objs.size f cd)) («leaving» (envOfC qual scope s.heap.objs.size f cd) e) (λ_ s''=>CX outer H s E e s'') (λe' s''=>CX outer H s E e' s'') s'
theorem L6{sc:Scope}{n:Nat}{x:Str}(h:sc.names.lookup x=some .cell):∃c,(cellsFrom n sc.names []).lookup x=some c:=by
 have q:=PySem.W.cellsFrom_some sc.names n [] (.inl h)
 exact Option.isSome_iff_exists.mp q
theorem Rl{CX:CXT}{P:Program}{w:World}{K:PySem.W.Frag}{mg:Str->Option Value}{base:Heap}{N ps:List Str}{qual:Str}{scope:Scope}{f:Addr}{cd:Value}{A:Around}{outer:List Env}{s s1:Shared}{H:Hp}{E:XK}{us:List Value}{vs:List V}
  (S:FnScope N ps scope) (hd:A.handled=none) (e0:Env0 P w K mg base A outer s H) (hl:vs.length=ps.length) (r:Vals vs us)
  (x:InCallC s s.heap.objs.size (bindL (envOfC qual scope s.heap.objs.size f cd).kindOf (ps.zip us) λ_=>none) (cellsFrom (s.heap.objs.size+1) scope.names []) (bindC (envOfC qual scope s.heap.objs.size f cd).kindOf (ps.zip us) λ_=>none) s1) :
  Inv (N9 CX P w K mg base N qual scope f cd A outer s H E) [] (start N vs) H s1:=by
 have hpl:ps.length<=N.length:=by have:=congrArg List.length S.pre;rw [List.length_take]at this;omega
 obtain⟨h1,tk,rfl,hk⟩:=x.done
 have noA:∀b:Addr,b∉(N9 CX P w K mg base N qual scope f cd A outer s H E).ex:=λb z=>absurd (show b∈([]:List Addr) from z) (by simp)
 refine⟨⟨e0.mod,S.kind,rfl,rfl,Nat.le_refl _,λy z c h1 h2=>?_,λy hy=>?_,λy c _ h=>?_,λ_=>hd,Around.frames_deeper e0.frames,.inr ⟨rfl,rfl⟩,λb z=>absurd z (noA b),e0.bs,e0.bsz,λb _ _=>noA b,λb z=>absurd z (noA b),e0.funs,e0.frf⟩,
  rfl,e0.bare,Un.kept hk,⟨_,x.toInCall.ns,λi y v h1 h2 h3=>?_⟩,λy c h=>⟨_,x.cell y c h⟩,e0.hok.fresh (Nat.le_refl _),λy c h=>?_,λp hp=>absurd (show p∈([]:List (Addr×Obj)) from hp) (by simp),e0.hok.kept hk,?_⟩
 ·exact name_of_addr x.apart (PySem.mem_of_lookup h1) (PySem.mem_of_lookup h2)
 ·have hy:scope.names.lookup y=some .cell\/scope.names.lookup y=some .free:=hy
  rcases hy with hy | hy
  ·exact L6 hy
  ·exact absurd rfl (S.nofree _ (PySem.mem_of_lookup hy))
 ·exact Nat.le_of_lt (x.above y c (PySem.mem_of_lookup h))
 ·have hi:i < vs.length:=by
   unfold start at h2
   by_cases hi:i < vs.length
   ·exact hi
   ·rw [List.getElem?_append_right (by simpa using hi)]at h2
    rw [List.getElem?_replicate]at h2
    split at h2 <;> cases h2
  have ha:vs[i]?=some v:=by
   unfold start at h2
   rw [List.getElem?_append_left (by simpa using hi),List.getElem?_map]at h2
   cases e:vs[i]? with
   | none=>rw [e]at h2;cases h2
   | some a=>rw [e]at h2;cases h2;rfl
  obtain⟨u,hu,rv⟩:=r.get ha
  have hp:ps[i]?=some y:=by
   rw [<- S.pre,List.getElem?_take_of_lt (by omega)];exact h1
  have ndP:ps.Nodup:=by rw [<- S.pre];exact S.nd.sublist (List.take_sublist _ _)
  refine⟨u,rv,?_⟩
  rcases S.par y (List.mem_of_getElem? hp) with k | k
  ·exact .inl ⟨k,J0 ndP hp hu k⟩
  ·obtain⟨c,e⟩:=L6 (n:=s.heap.objs.size+1) k
   refine .inr ⟨.inl k,c,e,?_⟩
   have q:=x.cell y c e
   rw [J1 ndP hp hu (by show scope.names.lookup y≠_;rw [k];decide)]at q
   exact q
 ·exact e0.hok.fresh (Nat.le_of_lt (x.above y c (PySem.mem_of_lookup h)))
 ·unfold start
  show _=N.length
  rw [List.length_append,List.length_map,List.length_replicate]
  omega
theorem Qej{CX:CXT}{P:Program}{w:World}{K:PySem.W.Frag}{mg:Str->Option Value}{base:Heap}{k:Nat}{f:Addr}{name qual:Str}{params:Arguments}{body:List Stmt}{scope:Scope}{dV kV doc pm cdv ct oc:Value}{an od:Option Addr}
  {osl:Array (Option Value)} {N ps:List Str} {sp:Sp} (lk:K.lookup f=some ⟨oc,od,.func (PySem.W.fnOf name qual params body scope dV kV doc pm an cdv ct),osl⟩) (hcd:PySem.W.codeIn K cdv qual=true) (S:FnScope N ps scope)
  (len:∀vs H Q E,sp vs H Q E->vs.length=ps.length)
  (hbody:∀(A:Around) (outer:List Env) (s:Shared) (H:Hp) (vs:List V) (Q:VK) (E:XK),Room k (A.deeper (envOfC qual scope s.heap.objs.size f cdv))->sp vs H Q E ->
   ∃t,PSs (N9 CX P w K mg base N qual scope f cdv A outer s H E) body t/\t { nx:=λ_ H'=>Q .non H',rt:=Q } (start N vs) H) :
  FnOk P w K mg base CX (k+1) f (PySem.W.fnOf name qual params body scope dV kV doc pm an cdv ct) ps sp:=by
 refine⟨len,λA outer s H args us vs Q E hr e0 hb r hsp=>?_⟩
 have hl:=len _ _ _ _ hsp
 have KX:K.In s.heap:=e0.mod.kin.keeps λb o e=>(e0.bs b o e).1
 have lim:s.heap.NoLimit:=e0.mod.nolimit.keeps λb o e=>(e0.bs b o e).1
 have hkind:∀y∈ps.zip us,scope.names.lookup y.1=some .local\/(scope.names.lookup y.1=some .cell/\((cellsFrom (s.heap.objs.size+1) scope.names []).lookup y.1).isSome=true):=λ⟨n,v⟩ hy=>by
  rcases S.par n (List.of_mem_zip hy).1 with q | q
  ·exact .inl q
  ·exact .inr ⟨q,PySem.W.cellsFrom_some _ _ _ (.inl q)⟩
 refine codeAny_call_function hr.depth (KX _ _ lk) rfl S.co S.gen rfl (PySem.W.codeRec_of KX hcd) (hb _ _ _ _ ?_)
 refine wpAny_newFunctionEnv_cells S.kind hkind λenv he s1 x=>?_
 subst he
 refine⟨lim.keeps x.toInCall.keep,codeAny_func ?_⟩
 obtain⟨t,ht,hq⟩:=hbody A outer s H vs Q E (hr.deeper _) hsp
 have I:Inv (N9 CX P w K mg base N qual scope f cdv A outer s H E) [] (start N vs) H s1:=Rl S hr.hd e0 hl r x
 refine wpAny_mono (ht [] s1 (start N vs) H _ I hq) (λfl s' hs=>?_) λe s' hs=>hs
 have fin:∀{σ':St} {H':Hp} {v:V} {u:Value},Inv (N9 CX P w K mg base N qual scope f cdv A outer s H E) [] σ' H' s'->Bj v u->Q v H'->CE outer P w H s Q u s' :=
  λ{σ' H' v u} J rv q=>⟨v,H',J.os,J.bare,J.base,J.hok,rv,q⟩
 cases fl with
 | ret u =>
  obtain⟨v,σ',H',J,rv,q⟩:=hs
  exact fin J rv q
 | next =>
  obtain⟨σ',H',J,q⟩:=hs
  exact fin (v:=V.non) (u:=Value.none) J rfl q
 | brk =>
  obtain⟨_,_,_,q⟩:=hs
  exact False.elim q
 | cont =>
  obtain⟨_,_,_,q⟩:=hs
  exact False.elim q
section
variable {X:Cx}{x:Str}{p pos:Pos}{e:Expr}{es:List Expr}{t:TA}{id T:String}{r:List V->Hp->VK->Prop}
def tCB(r:List V->Hp->VK->Prop)(t:TA):TE:=fun σ H Q=>t σ H λvs H1=>r vs H1 Q
theorem Tk(hc:Fk X (.builtin id) r)(hg:Gl X x)(hm:X.mg x=none)(hv:bootBuiltins x=some (.builtin id))(ha:PA X (e :: es) t)(hn:x ≠ "__name__" := by decide) (hdb:(x==("__debug__" : Str))=false:=by decide)
  (he:starEach (e :: es) X.env=(false,eval e X.env) :: starEach es X.env:=by rfl) (hpl:(backTo pos (starEach es X.env)).any (·.1)=false:=by rfl):PE X (.Call (.Name x p) (e :: es) [] pos) (tCB r t):=by
 intro pins s σ H Q I h
 refine wpAny_Call_Name_kw (Cz I hg hm hv ?_ hn hdb)
 exact PyProof.Rows.callWith_builtin1 (thn (ha pos pins s σ H _ I h) λus s1 zz251=>Ce zz251 λvs H1 I1 r1 q1=>hc pins s1 σ H1 vs us Q I1 r1 q1) he hpl
theorem Rm(hc:Fk X (.type T) r)(hg:Gl X x)(hm:X.mg x=none)(hv:bootBuiltins x=some (.type T))(ha:PA X (e :: es) t)(hn:x ≠ "__name__" := by decide) (hdb:(x==("__debug__" : Str))=false:=by decide)
  (he:starEach (e :: es) X.env=(false,eval e X.env) :: starEach es X.env:=by rfl) (hpl:(backTo pos (starEach es X.env)).any (·.1)=false:=by rfl):PE X (.Call (.Name x p) (e :: es) [] pos) (tCB r t):=by
 intro pins s σ H Q I h
 refine wpAny_Call_Name_kw (Cz I hg hm hv ?_ hn hdb)
 exact PyProof.Rows.callWith_type1 (thn (ha pos pins s σ H _ I h) λus s1 zz252=>Ce zz252 λvs H1 I1 r1 q1=>hc pins s1 σ H1 vs us Q I1 r1 q1) he hpl
end
end L2
namespace HT
open PySem PyProof.Rows
section
open PySem.SeqAt
open PySem.AutoSeq1 (wpAny_loadPart')
open PySem.MeetsSeq PySem.MeetsSeq2 PySem.MeetsSeq3
end
section
variable {prog:Program}{w:World}{A:Around}{E:Value->Shared->Prop}{s:Shared}
theorem cat_tup{t b:Addr}{vs ws:List Value}{Q:Value->Shared->Prop}(ht:IsTup s.heap t vs.toArray)(hb:IsTup s.heap b ws.toArray)(hv:vs≠[])
  (h1:ws=[]->Q (.ref t) s) (h2:ws≠[]->Q (.ref s.heap.objs.size) { s with heap:=s.heap.push { cls:=.type "tuple",data:=.seq (vs++ws).toArray } })
  (hsz:vs.length+ws.length<=sizeLine):wpAny (model prog w) A (binaryOp .Add (.ref t) (.ref b)) Q E s:=by
 obtain⟨⟨cls,dd,data,sl⟩,ho,hc,n,hd⟩:=id ht
 obtain⟨⟨cls2,dd2,data2,sl2⟩,ho2,hc2,n2,hd2⟩:=id hb
 simp only at hc hd hc2 hd2
 subst hc hd hc2 hd2
 have e:vs.toArray++ws.toArray=(vs++ws).toArray:=by simp
 by_cases hw:ws=[]
 ·exact concat_meets ⟨_,ho,rfl⟩ ⟨_,ho2,rfl⟩ noFill_tuple_add seq_tuple_add PySem.F.slot_tuple_add PySem.F.entry_tuple_add (PySem.F.args_tuple_add_2 _ _)
   (tuple_addW1 t b vs.toArray ws.toArray n n2 dd dd2 sl sl2 (by simpa using hv) (by simp [hw])) ⟨ho,ho2,h1 hw⟩
 ·refine concat_meets ⟨_,ho,rfl⟩ ⟨_,ho2,rfl⟩ noFill_tuple_add seq_tuple_add PySem.F.slot_tuple_add PySem.F.entry_tuple_add (PySem.F.args_tuple_add_2 _ _)
   (tuple_addW2 t b vs.toArray ws.toArray n n2 dd dd2 sl sl2 (by simpa using hv) (by simpa using hw) (by rw [List.size_toArray,List.size_toArray];exact hsz)) ⟨ho,ho2,?_⟩
  rw [e]
  exact h2 hw
def sIx(n d:Nat):Option Int->Nat
 | none=>d
 | some v=>if v < 0 then(v+(n:Int)).toNat else min v.toNat n
theorem sIx_none(n d:Nat):sIx n d none=d:=rfl
theorem sIx_nat(n d k:Nat):sIx n d (some (k:Int))=min k n:=by
 show(if(k:Int) < 0 then((k:Int)+(n:Int)).toNat else min (k:Int).toNat n)=min k n
 rw [if_neg (by omega),Int.toNat_natCast]
theorem Qbf(n d:Nat)(hd:d<=n)(o:Option Int):sIx n d o<=n:=by
 cases o with
 | none=>exact hd
 | some v =>
  show(if v < 0 then(v+(n:Int)).toNat else min v.toNat n)<=n
  by_cases hv:v < 0
  ·rw [if_pos hv];omega
  ·rw [if_neg hv];exact Nat.min_le_right _ _
theorem Pj(v:Int)(n d:Nat):(if v < 0 then max (v+(n:Int)) 0 else min v (n:Int))=((sIx n d (some v):Nat):Int):=by
 show(if v < 0 then max (v+(n:Int)) 0 else min v (n:Int))=(((if v < 0 then(v+(n:Int)).toNat else min v.toNat n):Nat):Int)
 by_cases hv:v < 0
 ·simp only [if_pos hv];omega
 ·simp only [if_neg hv];omega
theorem Oa(lo hi:Option Int)(n:Nat):Builtin.Slice.sliceAdjust lo hi 1 (n:Int)=(((sIx n 0 lo:Nat):Int),((sIx n n hi:Nat):Int)):=by
 have h1:¬((1:Int) < 0):=by omega
 unfold Builtin.Slice.sliceAdjust
 simp only [h1,if_false]
 refine Prod.ext ?_ ?_
 ·cases lo with
  | none=>rfl
  | some v=>exact Pj v n 0
 ·cases hi with
  | none=>rfl
  | some v=>exact Pj v n n
theorem Ob(i j:Nat):Builtin.Slice.slicePlaces (i:Int) (j:Int) 1=j - i:=by
 unfold Builtin.Slice.slicePlaces
 have h1:(1:Int) > 0:=by omega
 simp only [h1,if_true,Int.ediv_one]
 split <;> omega
theorem Ig{v:Value}{o:Option Int}{Q:Option Int->Shared->Prop}(p:IsPart v o)(h:Q o s):wpAny (model prog w) A (Builtin.Slice.slicePartIndex v) Q E s:=by
 cases p with
 | none=>exact slicePart_none h
 | int i t=>exact slicePart_int h
theorem D6{sl:Addr}{vl vu:Value}{lo hi:Option Int}{n:Nat}{Q:Int×Int×Nat->Shared->Prop}(hs:s.heap.IsSliceOf sl vl vu .none)(pl:IsPart vl lo)(pu:IsPart vu hi)
  (h:Q (((sIx n 0 lo:Nat):Int),1,sIx n n hi - sIx n 0 lo) s):wpAny (model prog w) A (Builtin.Slice.sliceApplied (.ref sl) (pure (n:Int))) Q E s:=by
 obtain⟨os,hos,hcs,hds⟩:=id hs
 unfold Builtin.Slice.sliceApplied Builtin.Slice.sliceFields
 refine wpAny_bind (wpAny_bind (wpAny_field hos hds (x:=vl) rfl (wpAny_bind (wpAny_field hos hds (x:=vu) rfl (wpAny_bind (wpAny_field hos hds (x:=.none) rfl (wpAny_pure ?_)))))))
 refine wpAny_bind (slicePart_none ?_)
 show wpAny _ _ (if((1:Int)==0)=true then _ else _) _ _ s
 rw [if_neg (by decide)]
 refine wpAny_bind (Ig pl (wpAny_bind (Ig pu (wpAny_bind (wpAny_pure ?_)))))
 show wpAny _ _ (match Builtin.Slice.sliceAdjust lo hi 1 (n:Int) with | (lo,hi)=>pure (lo,(1:Int),Builtin.Slice.slicePlaces lo hi 1)) _ _ s
 rw [Oa lo hi n]
 show wpAny _ _ (pure (((sIx n 0 lo:Nat):Int),(1:Int),Builtin.Slice.slicePlaces ((sIx n 0 lo:Nat):Int) ((sIx n n hi:Nat):Int) 1)) _ _ s
 rw [Ob]
 exact wpAny_pure h
theorem Tl(xs:Array Value)(i k:Nat):((List.range k).filterMap λ(m:Nat)=>xs[((i:Int)+(m:Int) * 1).toNat]?).toArray=((xs.toList.drop i).take k).toArray:=by
 have e:(λ(m:Nat)=>xs[((i:Int)+(m:Int) * 1).toNat]?)=λm=>xs[i+m]?:=by
  funext m
  have:((i:Int)+(m:Int) * 1).toNat=i+m:=by omega
  rw [this]
 rw [e]
 have:=pick_run xs i k
 rw [List.filterMap_map]at this
 have e2:((λx=>xs[x]?) ∘ λx=>i+x)=λm=>xs[i+m]?:=rfl
 rw [e2]at this
 rw [this]
theorem getItem_tuple_cut{t sl:Addr}{items:Array Value}{vl vu:Value}{lo hi:Option Int}{Q:Value->Shared->Prop}(ht:IsTup s.heap t items)(hs:s.heap.IsSliceOf sl vl vu .none)(pl:IsPart vl lo)(pu:IsPart vu hi)
  (hw:¬(sIx items.size 0 lo=0/\sIx items.size items.size hi=items.size))
  (h:Q (.ref s.heap.objs.size) { s with heap:=s.heap.push { cls:=.type "tuple",data:=.seq ((items.toList.drop (sIx items.size 0 lo)).take (sIx items.size items.size hi - sIx items.size 0 lo)).toArray } })
  (hsz:items.size<=sizeLine):wpAny (model prog w) A (getItem (.ref t) (.ref sl)) Q E s:=by
 have htake:sizeOk (.seq ((items.toList.drop (sIx items.size 0 lo)).take (sIx items.size items.size hi - sIx items.size 0 lo)).toArray):=by
  show((items.toList.drop (sIx items.size 0 lo)).take (sIx items.size items.size hi - sIx items.size 0 lo)).toArray.size<=sizeLine
  rw [List.size_toArray,List.length_take,List.length_drop,Array.length_toList]
  omega
 have hj:sIx items.size items.size hi<=items.size:=Qbf _ _ (Nat.le_refl _) hi
 obtain⟨os,hos,hcs,hds⟩:=id hs
 have hTs:s.TypeIs (.ref sl) "slice" := ⟨os,hos,hcs⟩
 unfold getItem
 try with_reducible refine wpAny_holding ?_
 first | refine wpAny_bind (wpAny_pure ?_) | skip
 refine wpAny_bind (wpAny_sequenceKey ht.typeIs (by decide) ?_)
 refine wpAny_bind (wpAny_callSpecial?_slot (name:=Str.ofString "__getitem__") ht.typeIs PyProof.Rows.slot_tuple_getitem
  (wpAny_call_entry PyProof.Rows.slot_tuple_getitem ht.typeIs entry_tuple_getitem ?_ (args_tuple_getitem _ _)))
 show wpAny _ _ (Builtin.Tuple.tupleItemsOf (.ref t) >>= _) _ _ s
 refine wpAny_bind (tupleItemsOf_ ht ?_)
 refine wpAny_bind (wpAny_typeOf hTs ?_)
 rw [if_pos (by decide)]
 refine wpAny_bind (D6 hs pl pu ?_)
 have hno:¬((((sIx items.size 0 lo:Nat):Int)==0 && (1:Int)==1 && (sIx items.size items.size hi - sIx items.size 0 lo)==items.size)=true):=by
  intro q
  rw [Bool.and_eq_true,Bool.and_eq_true]at q
  have q1:((sIx items.size 0 lo:Nat):Int)=0:=eq_of_beq q.1.1
  have q2:sIx items.size items.size hi - sIx items.size 0 lo=items.size:=eq_of_beq q.2
  exact hw ⟨by omega,by omega⟩
 show wpAny _ _ (if(((sIx items.size 0 lo:Nat):Int)==0 && (1:Int)==1 && (sIx items.size items.size hi - sIx items.size 0 lo)==items.size)=true then _ else _) _ _ s
 rw [if_neg hno,Tl]
 first
  | exact wpAny_bind (m:=Builtin.Tuple.tupleExact _) (wpAny_newObj_type (wpAny_pure ⟨_,rfl,wpAny_pure h⟩) htake)
  | exact wpAny_bind (m:=Builtin.Tuple.tupleExact _) (wpAny_newObj_type (wpAny_bind (wpAny_pure (wpAny_pure ⟨_,rfl,wpAny_pure h⟩))) htake)
  | exact wpAny_bind (wpAny_bind (m:=Builtin.Tuple.tupleExact _) (wpAny_newObj_type (wpAny_pure (wpAny_pure ⟨_,rfl,wpAny_pure h⟩)) htake))
  | exact wpAny_bind (wpAny_bind (m:=Builtin.Tuple.tupleExact _) (wpAny_newObj_type (wpAny_pure ⟨_,rfl,wpAny_pure h⟩) htake))
end
end HT
namespace L2
open PySem PySem.Spec PyProof.Rows
abbrev TO:=St->Hp->(Option Int->Hp->Prop)->Prop
def PO(X:Cx)(e:Option Expr)(t:TO):Prop :=
 ∀(pins:List (Addr×Obj)) (s:Shared) (σ:St) (H:Hp) (Q:Option Int->Hp->Prop),Inv X pins σ H s->t σ H Q ->
  wpAny (model X.prog X.w) X.A (evalPart e X.env) (λu s'=>∃o H',Inv X pins σ H' s'/\IsPart u o/\Q o H') X.xe s
def W0:TO:=λ_ H Q=>Q none H
def Qek(t:TE):TO:=fun σ H Q=>t σ H λx H1=>∃i,x=.int i/\Q (some i) H1
section
variable {X:Cx}{e:Expr}{te:TE}{lo hi:Option Expr}{tl th:TO}{pos p2:Pos}
theorem W1:PO X none W0:=by
 intro pins s σ H Q I h
 rw [evalPart_none]
 exact wpAny_pure ⟨none,H,I,.none,h⟩
theorem W5(h:PE X e te):PO X (some e) (Qek te):=by
 intro pins s σ H Q I hw
 rw [evalPart_some]
 refine thn (h pins s σ H _ I hw) λu s1 zz253=>Ce zz253 λx H1 I1 r1 q1=>?_
 obtain⟨i,rfl,q⟩:=q1
 obtain⟨t,rfl⟩:=r1
 exact⟨some i,H1,I1,.int i t,q⟩
def SlR(X:Cx)(r:V->Option Int->Option Int->Hp->VK->Prop):Prop :=
 ∀(pins:List (Addr×Obj)) (s:Shared) (σ:St) (H:Hp) (x:V) (v vl vu:Value) (lo hi:Option Int) (sl:Addr) (Q:VK),Inv X pins σ H s->Bj x v->s.heap.IsSliceOf sl vl vu .none->IsPart vl lo->IsPart vu hi->r x lo hi H Q ->
  ∃T id,typeLookup (.type T) "__getitem__" = pure (some (.builtin id))/\s.TypeIs v T/\wpAny (model X.prog X.w) X.A (getItem v (.ref sl)) (EP X pins σ Q) X.xe s
def tSl(r:V->Option Int->Option Int->Hp->VK->Prop)(te:TE)(tl th:TO):TE:=fun σ H Q=>te σ H λx H1=>tl σ H1 λl H2=>th σ H2 λu H3=>r x l u H3 Q
theorem Tm{r:V->Option Int->Option Int->Hp->VK->Prop}(hr:SlR X r)(he:PE X e te)(hl:PO X lo tl)(hu:PO X hi th):PE X (.Subscript e (.Slice lo hi none p2) pos) (tSl r te tl th):=by
 intro pins s σ H Q I h
 refine Subscript_ (thn (he pins s σ H _ I h) λv s1 zz254=>Ce zz254 λx H1 I1 r1 q1=>?_)
 refine wpAny_Slice (thn (hl pins s1 σ H1 _ I1 q1) λvl s2 zz255=>Ce zz255 λl H2 I2 pl q2=>thn (hu pins s2 σ H2 _ I2 q2) λvu s3 zz256=>Ce zz256 λu H3 I3 pu q3=>?_)
 rw [evalPart_none]
 refine wpAny_pure ?_
 have I4:Inv X pins σ H3 { s3 with heap:=s3.heap.push { cls:=.type "slice",data:=.fields #[vl,vu,.none] } }:=I3.kept (t':=s3.toks) λb ob q=>Heap.get?_push_of_some _ q
 obtain⟨T,id,hT,ht,hg⟩:=hr pins { s3 with heap:=s3.heap.push { cls:=.type "slice",data:=.fields #[vl,vu,.none] } } σ H3 x v vl vu l u s3.heap.objs.size Q I4 r1 (Heap.IsSliceOf.new ..) pl pu q3
 show wpAny (model X.prog X.w) X.A (subscriptTail e (.Slice lo hi none p2) v (.ref s3.heap.objs.size)) (EP X pins σ Q) X.xe { s3 with heap:=s3.heap.push { cls:=.type "slice",data:=.fields #[vl,vu,.none] } }
 exact tail_any (ops:=[.ref s3.heap.objs.size,v]) ht hT hg (by with_unfolding_all rfl)
def Jr(xs:List V)(lo hi:Option Int):List V:=(xs.drop (HT.sIx xs.length 0 lo)).take (HT.sIx xs.length xs.length hi - HT.sIx xs.length 0 lo)
theorem Hh(xs:List V)(lo hi:Option Int):(Jr xs lo hi).length<=xs.length:=by
 unfold Jr
 rw [List.length_take,List.length_drop]
 omega
def Qig(K:PySem.W.Frag):V->Option Int->Option Int->Hp->VK->Prop:=λx lo hi H Q=>∃a xs,x=.ref a/\Hg K H a xs /\
 ¬(HT.sIx xs.length 0 lo=0/\HT.sIx xs.length xs.length hi=xs.length)/\∀p,H p=none->Q (.ref p) (upd H p (.tup (Jr xs lo hi)))
theorem Qbg:SlR X (Qig X.K):=by
 intro pins s σ H x v vl vu lo hi sl Q I rx hs pl pu h
 obtain⟨a,xs,rfl,hx,hw,q⟩:=h
 cases rx
 obtain⟨its,r,ht,hz⟩:=I.tuple hx
 have hlen:its.toArray.size=xs.length:=by rw [List.size_toArray];exact r.length.symm
 refine⟨"tuple",_,PyProof.Rows.slot_tuple_getitem.lookup,ht.typeIs,?_⟩
 refine HT.getItem_tuple_cut ht hs pl pu (by rw [hlen];exact hw) ?_ (by rw [hlen];exact hz)
 rw [hlen]
 refine⟨.ref s.heap.objs.size,_,I.laid (t':=s.toks) (o:=.tup (Jr xs lo hi)) (λb ob q=>Heap.get?_push_of_some _ q) (Nat.le_refl _) ?_,rfl,q _ (I.hok.fresh (Nat.le_refl _))⟩
 exact⟨Nat.le_trans (Hh xs lo hi) hz,_,(r.drop (HT.sIx xs.length 0 lo)).take (HT.sIx xs.length xs.length hi - HT.sIx xs.length 0 lo),IsTup.new _ _⟩
theorem Vals.nil_iff{xs:List V}{us:List Value}(r:Vals xs us):us=[]↔xs=[]:=by
 cases r with
 | nil=>simp
 | cons _ _=>simp
end
def Sv(n:Nat)(i:Int):Option Nat:=if 0<=i then(if i < n then some i.toNat else none) else if -(n:Int)<=i then some (i+n).toNat else none
def atI{α:Type}(xs:List α)(i:Int):Option α:=(Sv xs.length i).bind λj=>xs[j]?
theorem Pk{n:Nat}{i:Int}{j:Nat}(h:Sv n i=some j):seqIndex? i n=some j/\j < n/\-(n:Int)<=i/\i < n:=by
 unfold Sv at h
 by_cases h0:0<=i
 ·rw [if_pos h0]at h
  by_cases h1:i < n
  ·rw [if_pos h1]at h
   have e:i.toNat=j:=Option.some.inj h
   exact⟨by rw [seqIndex_of h0 h1,e],by omega,by omega,h1⟩
  ·rw [if_neg h1]at h;cases h
 ·rw [if_neg h0]at h
  by_cases h1:-(n:Int)<=i
  ·rw [if_pos h1]at h
   have e:(i+n).toNat=j:=Option.some.inj h
   exact⟨by rw [seqIndex_neg (by omega) h1,e],by omega,h1,by omega⟩
  ·rw [if_neg h1]at h;cases h
theorem K6{α:Type}{xs:List α}{i:Int}{v:α}(h:atI xs i=some v):∃j,seqIndex? i xs.length=some j/\xs[j]?=some v/\j < xs.length/\-(xs.length:Int)<=i/\i < xs.length:=by
 unfold atI at h
 cases e:Sv xs.length i with
 | none=>rw [e]at h;cases h
 | some j =>
  rw [e]at h
  obtain⟨h1,h2,h3,h4⟩:=Pk e
  exact⟨j,h1,h,h2,h3,h4⟩
theorem Al{α:Type}{xs:List α}{j:Nat}{v:α}(h:xs[j]?=some v):atI xs (j:Int)=some v:=by
 have hj:j < xs.length:=(List.getElem?_eq_some_iff.mp h).1
 have e:Sv xs.length (j:Int)=some j:=by
  unfold Sv
  rw [if_pos (by omega),if_pos (by omega)];simp
 unfold atI;rw [e];exact h
theorem Tn{α:Type}(xs:List α)(v:α):atI (xs++[v]) (-1)=some v:=by
 have hl:(xs++[v]).length=xs.length+1:=by simp
 have e:Sv (xs++[v]).length (-1)=some xs.length:=by
  unfold Sv
  rw [hl,if_neg (by decide),if_pos (by omega)]
  congr 1
  omega
 unfold atI
 rw [e]
 show(xs++[v])[xs.length]?=some v
 simp
def Pl(b:Expr):Prop:=∀o i,subscripted b false o i=operate [o,i] (getItem o i)
def IxR(X:Cx)(r:R2):Prop :=
 ∀(value slice:Expr) (pins:List (Addr×Obj)) (s:Shared) (σ:St) (H:Hp) (x y:V) (v u:Value) (Q:VK),Inv X pins σ H s->Bj x v->Bj y u->r x y H Q ->
  subscripted slice false v u=operate [v,u] (getItem v u)->wpAny (model X.prog X.w) X.A (subscriptTail value slice v u) (EP X pins σ Q) X.xe s
def MtR(X:Cx)(id:String)(r:V->List V->Hp->VK->Prop):Prop :=
 ∀(pins:List (Addr×Obj)) (s:Shared) (σ:St) (H:Hp) (x:V) (xs:List V) (v:Value) (us:List Value) (Q:VK),Inv X pins σ H s->Bj x v->Vals xs us->r x xs H Q ->
  wpAny (model X.prog X.w) X.A (call (.builtin id) (v :: us)) (EP X pins σ Q) X.xe s
section
variable {X:Cx}{a b:Expr}{ta tb:TE}{pos:Pos}
theorem Qeo{r:R2}(hr:IxR X r)(ha:PE X a ta)(hb:PE X b tb)(hs:Pl b):PE X (.Subscript a b pos) (tOp r ta tb):=by
 intro pins s σ H Q I h
 exact Subscript_ (Qa4 ha hb I h λv u s2 x y H2 I2 rx ry q=>hr a b pins s2 σ H2 x y v u Q I2 rx ry q (hs _ _))
def Qih(K:PySem.W.Frag):R2:=λx y H Q=>∃p xs i v,x=.ref p/\y=.int i/\D5 K H p xs/\atI xs i=some v/\Q v H
def Qii(K:PySem.W.Frag):R2:=λx y H Q=>∃p xs i v,x=.ref p/\y=.int i/\Hg K H p xs/\atI xs i=some v/\Q v H
def Qij:R2:=λx y H Q=>∃z i c,x=.str z/\y=.int i/\z.length<=sizeLine/\atI z.cps.toList i=some c/\Q (.str ⟨#[c]⟩) H
theorem Pn:IxR X (Qih X.K):=by
 intro value slice pins s σ H x y v u Q I rx ry h hs
 obtain⟨p,xs,i,z,rfl,rfl,hq,he,q⟩:=h
 cases rx
 obtain⟨t,rfl⟩:=ry
 obtain⟨its,r,pl,hz⟩:=I.list hq
 obtain⟨j,h1,h2,h3,h4,h5⟩:=K6 he
 obtain⟨w,ew,rw'⟩:=r.get h2
 have hl:=r.length
 have hn:=Gv
 have fin:EP X pins σ Q w s:=⟨z,H,I,rw',q⟩
 by_cases h0:0<=i
 ·have hj:i.toNat=j:=by
   rw [seqIndex_of h0 h5]at h1
   exact Option.some.inj h1
  exact item_listR pl.isList h0 (by omega) (by rw [hj];simpa using ew) fin hs
 ·have hj:(i+(its.toArray.size:Int)).toNat=j:=by
   rw [seqIndex_neg (by omega) h4]at h1
   rw [List.size_toArray,<- hl]
   exact Option.some.inj h1
  exact subscriptTail_builtinR (x:=w) pl.isList.typeIs slot_list_getitem.lookup
   (wpAny_getItem_list_neg (Q:=λr s'=>r=w/\EP X pins σ Q r s') pl.isList (by omega) (by rw [List.size_toArray] <;> omega) (by omega) (by rw [hj];simpa using ew) ⟨rfl,fin⟩) hs
theorem Qbh:IxR X (Qii X.K):=by
 intro value slice pins s σ H x y v u Q I rx ry h hs
 obtain⟨p,xs,i,z,rfl,rfl,hq,he,q⟩:=h
 cases rx
 obtain⟨t,rfl⟩:=ry
 obtain⟨its,r,pl,hz⟩:=I.tuple hq
 obtain⟨j,h1,h2,h3,h4,h5⟩:=K6 he
 obtain⟨w,ew,rw'⟩:=r.get h2
 have hl:=r.length
 have hn:=Gv
 have fin:EP X pins σ Q w s:=⟨z,H,I,rw',q⟩
 exact subscriptTail_builtinR (x:=w) pl.typeIs slot_tuple_getitem.lookup
  (getItem_tuple (j:=j) (Q:=λr s'=>r=w/\EP X pins σ Q r s') pl (by omega) (by omega) (by rw [List.size_toArray,<- hl];exact h1) (by simpa using ew) ⟨rfl,fin⟩) hs
theorem Qbi:IxR X Qij:=by
 intro value slice pins s σ H x y v u Q I rx ry h hs
 obtain⟨z,i,c,rfl,rfl,hz,he,q⟩:=h
 obtain⟨t,rfl⟩:=rx
 obtain⟨t',rfl⟩:=ry
 obtain⟨j,h1,h2,h3,h4,h5⟩:=K6 he
 have hl:z.cps.toList.length=z.length:=by simp [Str.length]
 rw [hl]at h1 h4 h5
 have hn:=Gv
 exact tail_any (typeIs_str s z t) slot_str_getitem.lookup (getItem_str (c:=c) (by
  have e1:decide (i < -(2 ^ 63:Int))=false:=decide_eq_false (by omega)
  have e2:decide (i>=2 ^ 63)=false:=decide_eq_false (by omega)
  rw [e1,e2,Bool.or_false]) (by rw [h1];simpa using h2) ⟨.str ⟨#[c]⟩,H,I.tok _,⟨_,rfl⟩,q⟩) hs
theorem Oc(its:List Value)(n j:Nat)(u:Value):Obj.mapSeq (·.setIfInBounds j u) { cls:=.type "list",data:=.seq its.toArray n }={ cls:=.type "list",data:=.seq (its.set j u).toArray n }:=by
 simp [Obj.mapSeq]
theorem Inv.lst{pins:List (Addr×Obj)}{σ:St}{H:Hp}{s:Shared}{p:Addr}{xs:List V}(I:Inv X pins σ H s)(h:H p=some (.lst xs)) :
  ∃(its:List Value) (n:Nat),Vals xs its/\s.heap.get? p=some { cls:=.type "list",data:=.seq its.toArray n }/\xs.length<=sizeLine:=by
 obtain⟨z,its,n,r,e⟩:=I.hok p _ h
 exact⟨its,n,r,e,z⟩
theorem Inv.lstUpd{pins:List (Addr×Obj)}{σ:St}{H:Hp}{s:Shared}{p:Addr}{xs ys:List V}{its its':List Value}{n n':Nat}{f:Obj->Obj}(I:Inv X pins σ H s)(h:H p=some (.lst xs))
  (ho:s.heap.get? p=some { cls:=.type "list",data:=.seq its.toArray n }) (hf:f { cls:=.type "list",data:=.seq its.toArray n }={ cls:=.type "list",data:=.seq its'.toArray n' }) (r:Vals ys its') (hz:ys.length<=sizeLine) (t:Nat) :
  Inv X pins σ (upd H p (.lst ys)) { s with heap:=s.heap.update p f,toks:=t }:=by
 have e:(s.heap.update p f).get? p=some { cls:=.type "list",data:=.seq its'.toArray n' }:=by
  rw [Heap.get?_update_self f ho (by rw [hf] <;> rfl),hf]
 refine I.write (x:=p) (e:=p) (by rw [h];trivial) (.inl rfl) (λb u hb q=>(Heap.get?_update_other _ _ (Ne.symm hb)).trans q) ⟨_,e⟩ ?_
 exact⟨hz,its',n',r,e⟩
def Qep:V->V->V->Hp->(Hp->Prop)->Prop:=λo i v H Q=>∃p xs k j,o=.ref p/\i=.int k/\H p=some (.lst xs)/\Sv xs.length k=some j/\Q (upd H p (.lst (xs.set j v)))
theorem To:PSet X Qep:=by
 intro pins s σ H o i v ov iv u Q I ro ri rv h
 obtain⟨p,xs,k,j,rfl,rfl,hp,hj,q⟩:=h
 cases ro
 obtain⟨t,rfl⟩:=ri
 obtain⟨its,n,r,ho,hz⟩:=I.lst hp
 obtain⟨h1,h2,h3,h4⟩:=Pk hj
 have hl:=r.length
 have hn:=Gv
 have I':Inv X pins σ (upd H p (.lst (xs.set j v))) { s with heap:=s.heap.update p (Obj.mapSeq (·.setIfInBounds j u)) } :=
  I.lstUpd hp ho (Oc its n j u) (r.set rv j) (by rw [List.length_set];exact hz) s.toks
 by_cases h0:0<=k
 ·have hk:k.toNat=j:=by
   rw [seqIndex_of h0 h4]at h1
   exact Option.some.inj h1
  exact PySem.W.ki_setAt ho h0 (by omega) (by rw [List.size_toArray,<- hl];exact h4) (by rw [hk];exact⟨_,I',q⟩)
 ·have hk:(k+(its.toArray.size:Int)).toNat=j:=by
   rw [seqIndex_neg (by omega) h3]at h1
   rw [List.size_toArray,<- hl]
   exact Option.some.inj h1
  exact PySem.W.ki_setBack ho (by omega) (by rw [List.size_toArray,<- hl];exact h3) (by omega) (by rw [hk];exact⟨_,I',q⟩)
theorem K7(lo hi:Option Int)(n:Nat):(sliceBounds lo hi none n).1=((HT.sIx n 0 lo:Nat):Int)/\(sliceBounds lo hi none n).2.1=((HT.sIx n n hi:Nat):Int)/\(sliceBounds lo hi none n).2.2=1:=by
 refine⟨?_,?_,rfl⟩
 ·cases lo with
  | none=>simp [sliceBounds,HT.sIx]
  | some i =>
   simp only [sliceBounds,HT.sIx,Option.getD_none,show(1:Int) > 0 by decide,if_true]
   by_cases h:i < 0
   ·simp only [h,if_true] <;> omega
   ·simp only [h,if_false] <;> omega
 ·cases hi with
  | none=>simp [sliceBounds,HT.sIx]
  | some i =>
   simp only [sliceBounds,HT.sIx,Option.getD_none,show(1:Int) > 0 by decide,if_true]
   by_cases h:i < 0
   ·simp only [h,if_true] <;> omega
   ·simp only [h,if_false] <;> omega
theorem Js(its:List Value)(lo hi:Option Int):slicePick its.toArray lo hi none=((its.drop (HT.sIx its.length 0 lo)).take (HT.sIx its.length its.length hi - HT.sIx its.length 0 lo)).toArray:=by
 obtain⟨h1,h2,h3⟩:=K7 lo hi its.toArray.size
 unfold slicePick
 rw [h1,h2,h3]
 simp only [sliceRange_one,pick_run,List.size_toArray] <;> rfl
def Qik(K:PySem.W.Frag):V->Option Int->Option Int->Hp->VK->Prop:=λx lo hi H Q=>∃a xs,x=.ref a/\D5 K H a xs/\∀p,H p=none->Q (.ref p) (upd H p (.lst (Jr xs lo hi)))
theorem W6:SlR X (Qik X.K):=by
 intro pins s σ H x v vl vu lo hi sl Q I rx hs pl pu h
 obtain⟨a,xs,rfl,hx,q⟩:=h
 cases rx
 obtain⟨its,r,ht,hz⟩:=I.list hx
 have hlen:=r.length
 refine⟨"list",_,slot_list_getitem.lookup,ht.isList.typeIs,?_⟩
 refine wpAny_getItem_list_slice ht.isList hs pl pu .none (by simp) ?_ (by rw [List.size_toArray] <;> omega)
 rw [Js,<- hlen]
 refine⟨.ref s.heap.objs.size,_,I.laid (t':=s.toks) (o:=.lst (Jr xs lo hi)) (λb ob q=>Heap.get?_push_of_some _ q) (Nat.le_refl _) ?_,rfl,q _ (I.hok.fresh (Nat.le_refl _))⟩
 exact⟨Nat.le_trans (Hh xs lo hi) hz,_,0,(r.drop (HT.sIx xs.length 0 lo)).take (HT.sIx xs.length xs.length hi - HT.sIx xs.length 0 lo),Heap.get?_push_size _ rfl⟩
theorem K8:Gu X (compareOp .NotIn) (λx y H Q=>∃i j,x=.str i/\y=.str j/\Q (.bl (!(!(Builtin.Str.occurrences j i 0 j.length 1).isEmpty))) H):=by
 intro pins s σ H x y v u Q I rx ry h
 obtain⟨i,j,rfl,rfl,q⟩:=h
 obtain⟨t,rfl⟩:=rx
 obtain⟨t',rfl⟩:=ry
 exact notIn_str ⟨.bl _,H,I,rfl,q⟩
theorem Ei:Fk X (.builtin "len") (λxs H Q=>∃p ys,xs=[.ref p]/\(D5 X.K H p ys\/Hg X.K H p ys)/\Q (.int ys.length) H):=by
 intro pins s σ H xs us Q I r h
 obtain⟨p,ys,rfl,hq,q⟩:=h
 obtain⟨u,rfl,rx⟩:=Fz r
 cases rx
 have hn:=Gv
 rcases hq with hq | hq
 ·obtain⟨its,r',pl,hz⟩:=I.list hq
  have hlen:=r'.length
  exact Calls.call_len_list pl.isList (by simp only [List.size_toArray] <;> omega) ⟨.int ys.length,H,I.tok _,⟨s.toks+1,by rw [List.size_toArray,hlen]⟩,q⟩
 ·obtain⟨its,r',pl,hz⟩:=I.tuple hq
  have hlen:=r'.length
  exact len_tuple pl (by simp only [List.size_toArray] <;> omega) ⟨.int ys.length,H,I.tok _,⟨s.toks+1,by rw [List.size_toArray,hlen]⟩,q⟩
theorem K9:Fk X (.builtin "len") (λxs H Q=>∃z,xs=[.str z]/\z.length<=sizeLine/\Q (.int z.length) H):=by
 intro pins s σ H xs us Q I r h
 obtain⟨z,rfl,hz,q⟩:=h
 obtain⟨u,rfl,t,rfl⟩:=Fz r
 have hn:=Gv
 exact len_str (by omega) ⟨.int z.length,H,I.tok _,⟨_,rfl⟩,q⟩
theorem La:Fk X (.type "list") (λxs H Q=>∃p ys,xs=[.ref p]/\(D5 X.K H p ys\/Hg X.K H p ys)/\∀l,H l=none->Q (.ref l) (upd H l (.lst ys))):=by
 intro pins s σ H xs us Q I r h
 obtain⟨p,ys,rfl,hq,q⟩:=h
 obtain⟨u,rfl,rx⟩:=Fz r
 cases rx
 have fin:∀(its:List Value),Vals ys its->ys.length<=sizeLine->∀(h':Heap) (c':Nat),(∀b o',s.heap.get? b=some o'->h'.get? b=some o') ->
   h'.get? s.heap.objs.size=some { cls:=.type "list",dict:=none,data:=.seq its.toArray c',slots:=#[] }->EP X pins σ Q (.ref s.heap.objs.size) { s with heap:=h' }:=λits r' hz h' c' kp e =>
  ⟨.ref s.heap.objs.size,_,I.laid (t':=s.toks) kp (Nat.le_refl _) (show B5 X.prog X.w _ h' _ (.lst ys) from⟨hz,its,c',r',e⟩),rfl,q _ (I.hok.fresh (Nat.le_refl _))⟩
 rcases hq with hq | hq
 ·obtain⟨its,r',pl,hz⟩:=I.list hq
  have hlen:=r'.length
  obtain⟨o,ho,hc,n,hd⟩:=pl.isList
  exact call_list_seq p (.inl rfl) ho hc hd (λh' c' kp e=>fin its r' hz h' c' kp e) (by simp only [List.size_toArray] <;> omega)
 ·obtain⟨its,r',pl,hz⟩:=I.tuple hq
  have hlen:=r'.length
  obtain⟨o,ho,hc,n,hd⟩:=pl
  exact call_list_seq p (.inr rfl) ho hc hd (λh' c' kp e=>fin its r' hz h' c' kp e) (by simp only [List.size_toArray] <;> omega)
theorem Fl:Fk X (.type "tuple") (λxs H Q=>∃p ys,xs=[.ref p]/\((D5 X.K H p ys/\∀l,H l=none->Q (.ref l) (upd H l (.tup ys)))\/(Hg X.K H p ys/\Q (.ref p) H))):=by
 intro pins s σ H xs us Q I r h
 obtain⟨p,ys,rfl,h⟩:=h
 obtain⟨u,rfl,rx⟩:=Fz r
 cases rx
 rcases h with⟨hq,q⟩ | ⟨hq,q⟩
 ·obtain⟨its,r',pl,hz⟩:=I.list hq
  have hlen:=r'.length
  refine call_tuple_list pl.isList (λh' kp=>?_) (by simp only [List.size_toArray] <;> omega)
  have I1:Inv X pins σ H { s with heap:=h' }:=I.kept (t':=s.toks) kp
  have I2:Inv X pins σ (upd H h'.objs.size (.tup ys)) { s with heap:=h'.push { cls:=.type "tuple",data:=.seq its.toArray } } :=
   I1.laid (t':=s.toks) (λb o e=>Heap.get?_push_of_some _ e) (Nat.le_refl _) (show B5 X.prog X.w _ _ _ (.tup ys) from⟨hz,its,r',IsTup.new _ _⟩)
  exact⟨.ref h'.objs.size,_,I2,rfl,q _ (I1.hok.fresh (Nat.le_refl _))⟩
 ·obtain⟨its,r',pl,hz⟩:=I.tuple hq
  exact call_tuple_same pl ⟨.ref p,H,I,rfl,q⟩
def tyV(K:PySem.W.Frag)(T:String)(x:V)(H:Hp):Prop:=match x with
 | .str _=>T = "str"
 | .int _=>T = "int"
 | .ref p=>(T = "list" /\ ∃xs,D5 K H p xs)\/(T = "tuple" /\ ∃o,K.lookup p=some o/\o.cls=.type "tuple" /\ o.dict=none) \/
   (T = "dict" /\ ((∃kvs,H p=some (.dK kvs))\/∃kvs,H p=some (.dT kvs)))\/(T = "set" /\ ∃S n,H p=some (.set S n))
 | _=>False
theorem Qbj{pins:List (Addr×Obj)}{σ:St}{H:Hp}{s:Shared}{T:String}{x:V}{v:Value}(I:Inv X pins σ H s)(r:Bj x v)(ty:tyV X.K T x H) :
  s.TypeIs v T/\∀a,v=.ref a->∃ob,s.heap.get? a=some ob/\ob.dict=none:=by
 cases x with
 | str z =>
  obtain⟨t,rfl⟩:=r
  cases (show T = "str" from ty)
  exact⟨typeIs_str s z t,λ_ e=>nomatch e⟩
 | int i =>
  obtain⟨t,rfl⟩:=r
  cases (show T = "int" from ty)
  exact⟨typeIs_int s i t,λ_ e=>nomatch e⟩
 | ref p =>
  cases r
  rcases ty with⟨rfl,xs,hq⟩ | ⟨rfl,o,hk,hc,hd⟩ | ⟨rfl,hk⟩ | ⟨rfl,S,n,hk⟩
  ·obtain⟨its,_,pl,_⟩:=I.list hq
   refine⟨pl.isList.typeIs,λa e=>?_⟩
   cases e
   obtain⟨o,n,e,c,hd,_⟩:=pl
   exact⟨o,e,hd⟩
  ·refine⟨⟨o,I.kIn p o hk,hc⟩,λa e=>?_⟩
   cases e
   exact⟨o,I.kIn _ o hk,hd⟩
  ·have z:∃o,s.heap.get? p=some o/\o.ExactDict:=by
    rcases hk with⟨kvs,hk⟩ | ⟨kvs,hk⟩
    ·obtain⟨_,_,_,_,o,_,_,e,ex,_⟩:=I.hok p _ hk
     exact⟨o,e,ex⟩
    ·obtain⟨_,_,_,_,o,_,_,e,ex,_⟩:=I.hok p _ hk
     exact⟨o,e,ex⟩
   obtain⟨o,e,ex⟩:=z
   refine⟨⟨o,e,ex.1⟩,λa e2=>?_⟩
   cases e2
   exact⟨o,e,ex.2.1⟩
  ·obtain⟨o,_,_,_,e,ex,_⟩:=I.hok p _ hk
   refine⟨⟨o,e,ex.1⟩,λa e2=>?_⟩
   cases e2
   exact⟨o,e,ex.2.1⟩
 | _=>exact False.elim ty
def tBM(K:PySem.W.Frag)(T:String)(r:V->List V->Hp->VK->Prop)(to:TE)(t:TA):TE:=fun σ H Q=>to σ H λx H1=>tyV K T x H1/\t σ H1 λxs H2=>r x xs H2 Q
variable {o e:Expr}{es:List Expr}{to:TE}{t:TA}{name:Str}{apos cpos:Pos}{T id:String}{r:V->List V->Hp->VK->Prop}
theorem Za(pa:PlainAttrs T)(slot:Slot T name id)(hty:typeOf (.builtin id)=pure (.type "method_descriptor")) (hm:MtR X id r) (ho:PE X o to) (ha:PA X (e :: es) t)
  (hbase:attributeBase o name X.env (eval o X.env)=eval o X.env:=by rfl)
  (hfew:((backTo cpos (starEach (e :: es) X.env)).all (λx=>!x.1) && (backToKw cpos (keywordEach [] X.env)).all (λx=>x.1.isSome)
   && decide ((e :: es).length+([]:List Keyword).length+(if([]:List Keyword).isEmpty then 0 else 1) < 30))=true:=by rfl)
  (hline:(apos.endLine==cpos.line)=true:=by rfl) (hs:starEach (e :: es) X.env=(false,eval e X.env) :: starEach es X.env:=by rfl) (hplain:(backTo cpos (starEach es X.env)).any (·.1)=false:=by rfl) :
  PE X (.Call (.Attribute o name apos) (e :: es) [] cpos) (tBM X.K T r to t):=by
 intro pins s σ H Q I h
 refine wpAny_Call_method_late hbase hfew hline rfl (thn (ho pins s σ H _ I h) λv s1 zz514=>?_)
 obtain⟨x,H1,I1,r1,ty,q1⟩:=zz514
 obtain⟨h1,h2⟩:=Qbj I1 r1 ty
 refine⟨T,id,pa,slot,hty,h1,h2,?_⟩
 have hA:=ha cpos pins s1 σ H1 _ I1 q1
 rw [hs]at hA ⊢
 refine Calls.callWith_builtin (by show(false || (backTo cpos (starEach es X.env)).any (·.1))=false;rw [hplain] <;> rfl) (Calls.evalArgs_plain ?_)
 exact thn hA λus s2 zz257=>Ce zz257 λvs H2 I2 r2 q2=>hm pins s2 σ H2 x vs v us Q I2 r1 r2 q2
end
def MtM(X:Cx)(id:String)(r:V->List V->Hp->VK->Prop):Prop :=
 ∀(pins:List (Addr×Obj)) (s:Shared) (σ:St) (H:Hp) (x:V) (xs:List V) (v:Value) (us:List Value) (Q:VK),Inv X pins σ H s->Bj x v->Vals xs us->r x xs H Q ->
  wpAny (model X.prog X.w) X.A (call (.builtin id) (v :: us)) (EP X pins σ Q) X.xe s
theorem Vals.one:∀{x:V} {us:List Value},Vals [x] us->∃u,us=[u]/\Bj x u
 | _,_,.cons r .nil=>⟨_,rfl,r⟩
section
variable {X:Cx}{pins:List (Addr×Obj)}{σ:St}{H:Hp}{s:Shared}{l b:Addr}{xs ys zs:List V}
theorem Inv.lset{its its':List Value}{n:Nat}{f:Array Value->Array Value}{t':Nat}(I:Inv X pins σ H s)(hH:H l=some (.lst xs))
  (e:s.heap.get? l=some { cls:=.type "list",data:=.seq its.toArray n }) (hf:f its.toArray=its'.toArray) (hv:Vals ys its') (hz:ys.length<=sizeLine) :
  Inv X pins σ (upd H l (.lst ys)) { s with heap:=s.heap.update l (Obj.mapSeq f),toks:=t' }:=by
 have q:=PySem.IsL.update e f
 rw [hf]at q
 refine I.write (x:=l) (e:=l) (by rw [hH];exact trivial) (.inl rfl) (λb' u hb hu=>(Heap.get?_update_other s.heap (Obj.mapSeq f) (Ne.symm hb)).trans hu) ⟨_,q⟩ ?_
 exact⟨hz,its',_,hv,q⟩
theorem Inv.lnew{its:List Value}{t':Nat}(I:Inv X pins σ H s)(hv:Vals ys its)(hz:ys.length<=sizeLine) :
  Inv X pins σ (upd H s.heap.objs.size (.lst ys)) { s with heap:=s.heap.push { cls:=.type "list",data:=.seq its.toArray },toks:=t' } :=
 I.laid (λ_ _ q=>Heap.get?_push_of_some _ q) (Nat.le_refl _) ⟨hz,its,0,hv,Heap.get?_push_size _ rfl⟩
theorem Inv.fresh(I:Inv X pins σ H s):H s.heap.objs.size=none:=I.hok.fresh (Nat.le_refl _)
theorem Inv.lstM(I:Inv X pins σ H s)(hH:H l=some (.lst xs)):xs.length<=sizeLine/\∃(its:List Value) (n:Nat),Vals xs its/\xs.length=its.length/\s.heap.get? l=some { cls:=.type "list",data:=.seq its.toArray n }:=by
 obtain⟨z,its,n,r,e⟩:=I.hok l _ hH
 exact⟨z,its,n,r,r.length,e⟩
theorem Tp{n:Nat}(h:n<=sizeLine):Builtin.List.listTooLong n=false:=by
 unfold Builtin.List.listTooLong
 exact decide_eq_false (by omega)
end
section
variable {X:Cx}
def W7:V->List V->Hp->VK->Prop:=λx vs H Q=>∃l xs y,x=.ref l/\vs=[y]/\H l=some (.lst xs)/\xs.length < sizeLine/\Q .non (upd H l (.lst (xs++[y])))
theorem J2:MtM X "list.append" W7:=by
 intro pins s σ H x vs v us Q I rx rv h
 obtain⟨l,xs,y,rfl,rfl,hH,hz,q⟩:=h
 cases rx
 obtain⟨u,rfl,ru⟩:=rv.one
 obtain⟨z,its,n,r,hl,e⟩:=I.lstM hH
 refine call_meets F.slot_list_append ⟨_,e,rfl⟩ F.entry_list_append (F.args_list_append_2 _ _) (PySem.list_append l its.toArray n u (by rw [List.size_toArray];omega)) ⟨e,?_⟩
 refine⟨.non,_,I.lset (its':=its++[u]) hH e (by simp) (r.append (.cons ru .nil)) ?_,rfl,q⟩
 rw [List.length_append,List.length_singleton]
 omega
def W8:V->List V->Hp->VK->Prop:=λx vs H Q=>∃l b xs zs,x=.ref l/\vs=[.ref b]/\H l=some (.lst xs)/\H b=some (.lst zs)/\xs.length+zs.length<=sizeLine/\Q .non (upd H l (.lst (xs++zs)))
theorem Qdf:MtM X "list.extend" W8:=by
 intro pins s σ H x vs v us Q I rx rv h
 obtain⟨l,b,xs,zs,rfl,rfl,hH,hB,hz,q⟩:=h
 cases rx
 obtain⟨u,rfl,ru⟩:=rv.one
 cases ru
 obtain⟨z,its,n,r,hl,e⟩:=I.lstM hH
 obtain⟨z2,its2,n2,r2,hl2,e2⟩:=I.lstM hB
 have hsz:its.toArray.size+its2.toArray.size<=sizeLine:=by rw [List.size_toArray,List.size_toArray];omega
 have hlong:¬(!its.toArray.isEmpty && Builtin.List.listTooLong (its.toArray.size+its2.toArray.size))=true:=by
  rw [Tp hsz,Bool.and_false]
  exact Bool.false_ne_true
 refine call_meets F.slot_list_extend ⟨_,e,rfl⟩ F.entry_list_extend (F.args_list_extend_2 _ _)
  (AutoSeq1.list_extend_list_list_0 l its.toArray n b its2.toArray n2 hlong (by rw [List.size_toArray];omega) (by omega)) ⟨e,e2,?_⟩
 refine⟨.non,_,I.lset (its':=its++its2) hH e (by simp) (r.append r2) ?_,rfl,q⟩
 rw [List.length_append]
 omega
def Qim:R2:=λx y H Q=>∃l b xs zs,x=.ref l/\y=.ref b/\H l=some (.lst xs)/\H b=some (.lst zs)/\xs.length+zs.length<=sizeLine/\∀p,H p=none->Q (.ref p) (upd H p (.lst (xs++zs)))
theorem Qbk:Gu X (binaryOp .Add) Qim:=by
 intro pins s σ H x y v u Q I rx ry h
 obtain⟨l,b,xs,zs,rfl,rfl,hH,hB,hz,q⟩:=h
 cases rx
 cases ry
 obtain⟨z,its,n,r,hl,e⟩:=I.lstM hH
 obtain⟨z2,its2,n2,r2,hl2,e2⟩:=I.lstM hB
 refine PySem.P.add_list e e2 ?_ (by rw [List.size_toArray,List.size_toArray];omega)
 have ea:its.toArray++its2.toArray=(its++its2).toArray:=by simp
 rw [ea]
 exact⟨.ref _,_,I.lnew (t':=s.toks) (r.append r2) (by rw [List.length_append];omega),rfl,q _ I.fresh⟩
end
section
variable {prog:Program}{w:World}{A:Around}{E:Value->Shared->Prop}{s:Shared}
end
section
variable {X:Cx}
end
section
variable {κ:Type} [DecidableEq κ]
def F0(kvs:List (κ×V))(k:κ):Option V:=(kvs.find? λkv=>decide (kv.1=k)).map (·.2)
def Ga(kvs:List (κ×V))(k:κ)(v:V):List (κ×V) :=
 if(kvs.any λkv=>decide (kv.1=k))=true then kvs.map (λkv=>if kv.1=k then(kv.1,v) else kv) else kvs++[(k,v)]
theorem Ih{p:κ×V}{r:List (κ×V)}{k:κ}(e:p.1=k):F0 (p :: r) k=some p.2:=by simp [F0,List.find?_cons,e]
theorem Ii{p:κ×V}{r:List (κ×V)}{k:κ}(e:¬p.1=k):F0 (p :: r) k=F0 r k:=by simp [F0,List.find?_cons,e]
theorem L7(k:κ):∀kvs:List (κ×V),(kvs.any λkv=>decide (kv.1=k))=(F0 kvs k).isSome
 | []=>rfl
 | p :: r=>by
  rw [List.any_cons]
  by_cases e:p.1=k
  ·simp only [Ih e,decide_eq_true e,Bool.true_or,Option.isSome_some]
  ·rw [Ii e,decide_eq_false e,Bool.false_or];exact L7 k r
theorem Hi(kvs:List (κ×V))(k:κ)(v:V):(Ga kvs k v).length<=kvs.length+1:=by
 unfold Ga
 split
 ·rw [List.length_map];omega
 ·rw [List.length_append,List.length_cons,List.length_nil];omega
theorem Ic.isSome_eq{o:Option V}{u:Option Value}(r:Ic o u):o.isSome=u.isSome:=by
 cases o with
 | none=>cases u with
  | none=>rfl
  | some _=>exact(show False from r).elim
 | some _=>cases u with
  | none=>exact(show False from r).elim
  | some _=>rfl
theorem KV.val{kvs:List (κ×V)}{vs:List (κ×Value)}(r:KV kvs vs)(k:κ):Ic (F0 kvs k) (valueAt vs k):=by
 unfold KV at r
 induction r with
 | nil=>exact True.intro
 | @cons p q ps qs h t ih =>
  obtain⟨h1,h2⟩:=h
  by_cases e:p.1=k
  ·have e':q.1=k:=h1.symm.trans e
   have b:valueAt (q :: qs) k=some q.2:=by simp [valueAt,List.find?_cons,e']
   rw [Ih e,b];exact h2
  ·have e':¬q.1=k:=λz=>e (h1.trans z)
   have b:valueAt (q :: qs) k=valueAt qs k:=by simp [valueAt,List.find?_cons,e']
   rw [Ii e,b];exact ih
theorem KV.any{kvs:List (κ×V)}{vs:List (κ×Value)}(r:KV kvs vs)(k:κ):(kvs.any λkv=>decide (kv.1=k))=vs.any λkv=>decide (kv.1=k):=by
 unfold KV at r
 induction r with
 | nil=>rfl
 | cons h t ih=>rw [List.any_cons,List.any_cons,ih,h.1]
theorem KV.repl{kvs:List (κ×V)}{vs:List (κ×Value)}(r:KV kvs vs)(k:κ){y:V}{u:Value}(ry:Bj y u) :
  KV (kvs.map λkv=>if kv.1=k then(kv.1,y) else kv) (vs.map λkv=>if kv.1=k then(kv.1,u) else kv):=by
 unfold KV at r ⊢
 induction r with
 | nil=>exact .nil
 | @cons p q ps qs h t ih =>
  rw [List.map_cons,List.map_cons]
  refine .cons ?_ ih
  obtain⟨h1,h2⟩:=h
  by_cases e:p.1=k
  ·rw [if_pos e,if_pos (h1.symm.trans e)];exact⟨h1,ry⟩
  ·rw [if_neg e,if_neg (λz=>e (h1.trans z))];exact⟨h1,h2⟩
theorem KV.put{kvs:List (κ×V)}{vs:List (κ×Value)}(r:KV kvs vs)(k:κ){y:V}{u:Value}(ry:Bj y u):KV (Ga kvs k y) (stored vs k u):=by
 unfold Ga stored
 rw [r.any k]
 by_cases e:(vs.any λkv=>decide (kv.1=k))=true
 ·rw [if_pos e,if_pos e];exact r.repl k ry
 ·rw [if_neg e,if_neg e];exact Paired.snoc r ⟨rfl,ry⟩
theorem KV.length{kvs:List (κ×V)}{vs:List (κ×Value)}(r:KV kvs vs):kvs.length=vs.length:=Paired.length r
end
theorem L8{P:Program}{w:World}{k:Key}{u:Value}(r:Bj (kV k) u):(Bw P w).is k u=true:=by
 cases k with
 | inl i=>obtain⟨t,e⟩:=(show ∃t,u=Value.int i t from r);subst e;exact Er P w i t
 | inr x=>obtain⟨t,e⟩:=(show ∃t,u=Value.str x t from r);subst e;exact Es P w x t
theorem J3{P:Program}{w:World}:∀{ks:List Key} {us:List Value},Vals (ks.map kV) us->ItemsAre (Bw P w) ks us
 | [],_,r=>by rw [List.map_nil]at r;cases r;exact .nil
 | k :: ks,_,r=>by
  rw [List.map_cons]at r
  cases r with
  | cons h t=>exact .cons (L8 h) (J3 t)
abbrev KT(H:Hp):List (List Key×V)->List (List Key×Addr×Value)->Prop:=Paired λp q=>p.1=q.1/\H q.2.1=some (.tup (p.1.map kV))/\Bj p.2 q.2.2
theorem KT.val{H:Hp}{kvs:List (List Key×V)}{xs:List (List Key×Addr×Value)}(r:KT H kvs xs)(k:List Key):Ic (F0 kvs k) ((atKey xs k).map (·.2)):=by
 induction r with
 | nil=>exact True.intro
 | @cons p q ps qs h t ih =>
  obtain⟨h1,_,h2⟩:=h
  by_cases e:p.1=k
  ·have e':q.1=k:=h1.symm.trans e
   have b:atKey (q :: qs) k=some q.2:=by simp [atKey,List.find?_cons,e']
   rw [Ih e,b];exact h2
  ·have e':¬q.1=k:=λz=>e (h1.trans z)
   have b:atKey (q :: qs) k=atKey qs k:=by simp [atKey,List.find?_cons,e']
   rw [Ii e,b];exact ih
theorem KT.repl{H:Hp}{kvs:List (List Key×V)}{xs:List (List Key×Addr×Value)}(r:KT H kvs xs)(k:List Key){y:V}{u:Value}(ry:Bj y u) :
  KT H (kvs.map λkv=>if kv.1=k then(kv.1,y) else kv) (xs.map (putAt k u)):=by
 induction r with
 | nil=>exact .nil
 | @cons p q ps qs h t ih =>
  rw [List.map_cons,List.map_cons]
  refine .cons ?_ ih
  obtain⟨h1,h2,h3⟩:=h
  unfold putAt
  by_cases e:p.1=k
  ·rw [if_pos e,if_pos (h1.symm.trans e)];exact⟨h1,h2,ry⟩
  ·rw [if_neg e,if_neg (λz=>e (h1.trans z))];exact⟨h1,h2,h3⟩
theorem KT.put{H:Hp}{kvs:List (List Key×V)}{xs:List (List Key×Addr×Value)}(r:KT H kvs xs)(k:List Key){b:Addr}{y:V}{u:Value}(hb:H b=some (.tup (k.map kV)))(ry:Bj y u) :
  KT H (Ga kvs k y) (storedH xs k b u):=by
 have e:(kvs.any λkv=>decide (kv.1=k))=(atKey xs k).isSome:=by
  rw [L7,(r.val k).isSome_eq,Option.isSome_map]
 unfold Ga storedH
 rw [e]
 by_cases q:(atKey xs k).isSome=true
 ·rw [if_pos q,if_pos q];exact r.repl k ry
 ·rw [if_neg q,if_neg q];exact Paired.snoc r ⟨rfl,hb,ry⟩
theorem KT.keeps{H H':Hp}{kvs:List (List Key×V)}{xs:List (List Key×Addr×Value)}(r:KT H kvs xs)(ht:∀b ys,H b=some (.tup ys)->H' b=some (.tup ys)):KT H' kvs xs :=
 Paired.mapP r λ_ _ z=>⟨z.1,ht _ _ z.2.1,z.2.2⟩
section
variable {P:Program}{w:World}{H:Hp}{h:Heap}{a:Addr}
theorem Zb{u:HO}(ok:HOk P w H h)(e:Rd H a u):B5 P w H h a u:=e.ok ok
theorem J4{kvs:List (Key×V)}(ok:HOk P w H h)(e:Rd H a (.dK kvs)):kvs.length<=sizeLine/\(a==sysModules)=false/\∃vs,KV kvs vs/\h.DictOf (Bw P w) a vs :=
 show B5 P w H h a (.dK kvs) from Zb ok e
theorem Qeq{kvs:List (Key×V)}(ok:HOk P w H h)(e:H a=some (.dK kvs)):kvs.length<=sizeLine/\(a==sysModules)=false/\∃vs,KV kvs vs/\h.DictOf (Bw P w) a vs:=J4 ok (.inl e)
theorem Ij{ks:List Key}(ok:HOk P w H h)(e:H a=some (.tup (ks.map kV))):(tupleKind (Bw P w)).is h ks a:=by
 obtain⟨_,its,r,o,h1,h2,n,h3⟩:=(show B5 P w H h a (.tup (ks.map kV)) from ok a _ e)
 exact⟨o,its.toArray,n,h1,h2,h3,by simpa using J3 r⟩
theorem L9{kvs:List (List Key×V)}(ok:HOk P w H h)(e:Rd H a (.dT kvs)):kvs.length<=sizeLine/\(a==sysModules)=false /\
  ∃xs,KT H kvs xs/\h.DictOfH (tupleKind (Bw P w)) a xs:=by
 obtain⟨z,y,xs,r,o,es,ep,h1,h2,h3,h4,h5⟩:=(show B5 P w H h a (.dT kvs) from Zb ok e)
 refine⟨z,y,xs,r,o,es,ep,h1,h2,h3,h4,λx hx=>?_,h5⟩
 have all:∀{l:List (List Key×V)} {m:List (List Key×Addr×Value)},KT H l m->∀x∈m,(tupleKind (Bw P w)).is h x.1 x.2.1:=by
  intro l m q
  induction q with
  | nil=>intro x hx;exact nomatch hx
  | @cons p q ps qs hq t ih =>
   intro x hx
   rcases List.mem_cons.mp hx with e | hx
   ·subst e
    exact Ij ok (by rw [<- hq.1];exact hq.2.1)
   ·exact ih x hx
 exact all r x hx
theorem Qer{kvs:List (List Key×V)}(ok:HOk P w H h)(e:H a=some (.dT kvs)):kvs.length<=sizeLine/\(a==sysModules)=false /\
  ∃xs,KT H kvs xs/\h.DictOfH (tupleKind (Bw P w)) a xs:=L9 ok (.inl e)
end
def DGet(H:Hp)(a:Addr)(y:V)(r:Option V):Prop :=
 (∃kvs k,Rd H a (.dK kvs)/\y=kV k/\r=F0 kvs k)\/∃kvs k b,Rd H a (.dT kvs)/\y=.ref b/\H b=some (.tup (k.map kV))/\r=F0 kvs k
def DPut(H:Hp)(a:Addr)(y v:V)(H':Hp):Prop :=
 (∃kvs k,H a=some (.dK kvs)/\y=kV k/\kvs.length < sizeLine/\H'=upd H a (.dK (Ga kvs k v))) \/
 ∃kvs k b,H a=some (.dT kvs)/\y=.ref b/\H b=some (.tup (k.map kV))/\kvs.length < sizeLine/\H'=upd H a (.dT (Ga kvs k v))
theorem DGet.k{H:Hp}{a:Addr}{kvs:List (Key×V)}{k:Key}(e:H a=some (.dK kvs)):DGet H a (kV k) (F0 kvs k):=.inl ⟨kvs,k,.inl e,rfl,rfl⟩
theorem DGet.t{H:Hp}{a b:Addr}{kvs:List (List Key×V)}{k:List Key}(e:H a=some (.dT kvs))(eb:H b=some (.tup (k.map kV))):DGet H a (.ref b) (F0 kvs k):=.inr ⟨kvs,k,b,.inl e,rfl,eb,rfl⟩
theorem DPut.k{H:Hp}{a:Addr}{kvs:List (Key×V)}{k:Key}{v:V}(e:H a=some (.dK kvs))(hl:kvs.length < sizeLine):DPut H a (kV k) v (upd H a (.dK (Ga kvs k v))):=.inl ⟨kvs,k,e,rfl,hl,rfl⟩
theorem DPut.t{H:Hp}{a b:Addr}{kvs:List (List Key×V)}{k:List Key}{v:V}(e:H a=some (.dT kvs))(eb:H b=some (.tup (k.map kV)))(hl:kvs.length < sizeLine) :
  DPut H a (.ref b) v (upd H a (.dT (Ga kvs k v))):=.inr ⟨kvs,k,b,e,rfl,eb,hl,rfl⟩
section
variable {X:Cx}{pins:List (Addr×Obj)}{σ:St}{H:Hp}{s:Shared}{a:Addr}{y v:V}{u r:Value}{o:Option V}{A:Around}{E:Value->Shared->Prop}
theorem Inv.big(I:Inv X pins σ H s):sysModules < s.heap.objs.size:=by
 have h:mainGlobals < s.heap.objs.size:=(I.mod.glob.keeps I.bk).lt
 exact Nat.lt_trans (by decide) h
theorem Rn{Q:Value->Shared->Prop}(hu:A.units+1 < cLine)(I:Inv X pins σ H s)(g:DGet H a y (some v))(ry:Bj y u)(h:∀w' s',Inv X pins σ H s'->Bj v w'->Q w' s') :
  wpAny (model X.prog X.w) A (getItem (.ref a) u) Q E s:=by
 rcases g with⟨kvs,k,e,ey,l⟩ | ⟨kvs,k,b,e,ey,eb,l⟩
 ·subst ey
  obtain⟨z,hd,vs,rel,dd⟩:=J4 I.hok e
  obtain⟨w',hw,rw'⟩:=Ic.some_of (v:=v) (o:=valueAt vs k) (by rw [l];exact rel.val k)
  exact wpAny_getItem_of (L8 ry) dd.mapOf hw (h w' _ (I.tok _) rw')
 ·subst ey
  cases (show u=Value.ref b from ry)
  obtain⟨z,hd,xs,rel,dd⟩:=L9 I.hok e
  obtain⟨w',hw,rw'⟩:=Ic.some_of (v:=v) (o:=(atKey xs k).map (·.2)) (by rw [l];exact rel.val k)
  obtain⟨p,hp,hp2⟩:=Option.map_eq_some_iff.mp hw
  refine wpAny_getItem_heap (tupleKind_room_in1 hu) (Ij I.hok eb) dd hp ?_
  rw [hp2]
  exact h w' _ (I.tok _) rw'
theorem Qin{Q:Value->Shared->Prop}(hu:A.units+1 < cLine)(I:Inv X pins σ H s)(g:DGet H a y o)(ry:Bj y u)(h:∀s',Inv X pins σ H s'->Q (.bool o.isSome) s') :
  wpAny (model X.prog X.w) A (compareOp .In u (.ref a)) Q E s:=by
 rcases g with⟨kvs,k,e,ey,l⟩ | ⟨kvs,k,b,e,ey,eb,l⟩
 ·subst ey
  obtain⟨z,hd,vs,rel,dd⟩:=J4 I.hok e
  refine wpAny_in_of (L8 ry) hd dd.mapOf ?_
  rw [<- (rel.val k).isSome_eq,<- l]
  exact h _ (I.tok _)
 ·subst ey
  cases (show u=Value.ref b from ry)
  obtain⟨z,hd,xs,rel,dd⟩:=L9 I.hok e
  refine wpAny_in_heap (tupleKind_room_in1 hu) (Ij I.hok eb) hd dd ?_
  have q:=(rel.val k).isSome_eq
  rw [Option.isSome_map]at q
  rw [<- q,<- l]
  exact h _ (I.tok _)
theorem W9{Q:Value->Shared->Prop}(hu:A.units+1 < cLine)(I:Inv X pins σ H s)(g:DGet H a y o)(ry:Bj y u)(h:∀s',Inv X pins σ H s'->Q (.bool (!o.isSome)) s') :
  wpAny (model X.prog X.w) A (compareOp .NotIn u (.ref a)) Q E s:=by
 rcases g with⟨kvs,k,e,ey,l⟩ | ⟨kvs,k,b,e,ey,eb,l⟩
 ·subst ey
  obtain⟨z,hd,vs,rel,dd⟩:=J4 I.hok e
  refine wpAny_notIn_of (L8 ry) hd dd.mapOf ?_
  rw [<- (rel.val k).isSome_eq,<- l]
  exact h _ (I.tok _)
 ·subst ey
  cases (show u=Value.ref b from ry)
  obtain⟨z,hd,xs,rel,dd⟩:=L9 I.hok e
  refine wpAny_notIn_heap (tupleKind_room_in1 hu) (Ij I.hok eb) hd dd ?_
  have q:=(rel.val k).isSome_eq
  rw [Option.isSome_map]at q
  rw [<- q,<- l]
  exact h _ (I.tok _)
theorem Po{h':Heap}{t':Nat}{ob:HO}(I:Inv X pins σ H s)(mu:Mut (H a))(hs:Heap.SameBut a s.heap h')(he:∃q,h'.get? a=some q)(new:B5 X.prog X.w (upd H a ob) h' a ob) :
  Inv X pins σ (upd H a ob) { s with heap:=h',toks:=t' } :=
 I.write (x:=a) (e:=a) mu (.inl rfl) (λb q hb z=>(hs.2 b hb).trans z) he new
theorem Qbl{P:Program}{w:World}{H':Hp}{h':Heap}{kvs:List (Key×V)}{vs:List (Key×Value)}(z:kvs.length<=sizeLine)(hd:(a==sysModules)=false)(rel:KV kvs vs)(dd:h'.DictOf (Bw P w) a vs) :
  B5 P w H' h' a (.dK kvs):=⟨z,hd,vs,rel,dd⟩
theorem Ro{H':Hp}{Q:Unit->Shared->Prop}(hu:A.units+1 < cLine)(I:Inv X pins σ H s)(g:DPut H a y v H')(ry:Bj y u)(rv:Bj v r)(h:∀s',Inv X pins σ H' s'->Q () s') :
  wpAny (model X.prog X.w) A (setItem (.ref a) u r) Q E s:=by
 rcases g with⟨kvs,k,e,ey,l,eH⟩ | ⟨kvs,k,b,e,ey,eb,l,eH⟩
 ·subst ey eH
  obtain⟨z,hd,vs,rel,dd⟩:=Qeq I.hok e
  have hz:vs.length<=sizeLine:=by rw [<- rel.length];exact z
  have hl:(Ga kvs k v).length<=sizeLine:=by have:=Hi kvs k v;omega
  refine wpAny_setItem_pairs (hsz:=hz) (L8 ry) dd λh' dd' hs=>h _ ?_
  have he:∃q,h'.get? a=some q:=let⟨q,_,_,hq,_⟩:=dd';⟨q,hq⟩
  exact Po I (by rw [e];exact True.intro) hs he (Qbl hl hd (rel.put k rv) dd')
 ·subst ey eH
  cases (show u=Value.ref b from ry)
  obtain⟨z,hd,xs,rel,dd⟩:=Qer I.hok e
  have hz:xs.length<=sizeLine:=by rw [<- Paired.length rel];exact z
  have hl:(Ga kvs k v).length<=sizeLine:=by have:=Hi kvs k v;omega
  refine wpAny_setItem_heap (hsz:=hz) (tupleKind_room_in1 hu) (Ij I.hok eb) dd λh' dd' hs=>h _ ?_
  obtain⟨q,es,ep,hq,h2,h3,h4,_,h5⟩:=dd'
  refine Po I (by rw [e];exact True.intro) hs ⟨q,hq⟩ ⟨hl,hd,_,(rel.put k eb rv).keeps λc ys ec=>?_,q,es,ep,hq,h2,h3,h4,h5⟩
  rw [Bd (Sz ec e (λz=>nomatch z))]
  exact ec
end
section
variable {X:Cx}{pins:List (Addr×Obj)}{σ:St}{H:Hp}{s:Shared}{a:Addr}{kvs:List (Key×V)}{k:Key}{u:Value}{A:Around}{E:Value->Shared->Prop}
theorem Qes{Q:Value->Shared->Prop}(I:Inv X pins σ H s)(e:Rd H a (.dK kvs))(h:∀t s',Inv X pins σ H s'->Q (.int kvs.length t) s'):wpAny (model X.prog X.w) A (call (.builtin "len") [.ref a]) Q E s:=by
 obtain⟨z,hd,vs,rel,dd⟩:=J4 I.hok e
 refine call_len_dict hd dd (by rw [<- rel.length];rw [sizeLine_eq]at z;omega) ?_
 rw [<- rel.length]
 exact h _ _ (I.tok _)
end
def Qbm(i:Expr):Prop:=∀ov iv,subscripted i false ov iv=operate [ov,iv] (getItem ov iv)
theorem Xa{prog:Program}{w:World}{A:Around}{E:Value->Shared->Prop}{s:Shared}{env:Env}{value slice:Expr}{pos:Pos}{T id:String}{Q:Value->Shared->Prop}
  (hl:typeLookup (.type T) "__getitem__" = pure (some (.builtin id))) (hs:Qbm slice)
  (h:wpAny (model prog w) A (eval value env) (λo s₁=>wpAny (model prog w) A (eval slice env) (λi s₂=>s₂.TypeIs o T/\wpAny (model prog w) A (getItem o i) Q E s₂) E s₁) E s) :
  wpAny (model prog w) A (eval (.Subscript value slice pos) env) Q E s:=by
 refine Subscript_ (wpAny_mono h (λo s₁ h₁=>wpAny_mono h₁ (λi s₂ h₂=>?_) λ_ _ x=>x) λ_ _ x=>x)
 obtain⟨hT,h₂⟩:=h₂
 unfold subscriptTail
 refine wpAny_bind ?_
 rw [getitemInPython_of_ne hT.not_modules]
 refine wpAny_bind (wpAny_specialOf hT hl ?_)
 have fin:wpAny (model prog w) A (subscripted slice false o i) (λr s₃=>wpAny (model prog w) A (letTemporaryGo value o r >>= λ_=>pure r) Q E s₃) E s₂:=by
  rw [hs o i]
  exact wpAny_operating (wpAny_mono h₂ (λr s₃ h₃=>wpAny_bind (wpAny_letTemporaryGo (wpAny_pure h₃))) λ_ _ x=>x)
 first
  | exact wpAny_pure (wpAny_bind fin)
  | exact wpAny_bind (wpAny_pure (wpAny_bind fin))
  | exact wpAny_bind fin
theorem Ma{X:Cx}{pins:List (Addr×Obj)}{σ:St}{H:Hp}{s:Shared}{a:Addr}{y:V}{o:Option V}(I:Inv X pins σ H s)(g:DGet H a y o):s.TypeIs (.ref a) "dict" := by
 rcases g with⟨kvs,k,e,_,_⟩ | ⟨kvs,k,b,e,_,_,_⟩
 ·obtain⟨_,_,vs,_,dd⟩:=J4 I.hok e
  exact dd.typeIs
 ·obtain⟨_,_,xs,_,dd⟩:=L9 I.hok e
  exact dd.typeIs
def Qet(td ty:TE):TE:=fun σ H Q=>td σ H λx H1=>ty σ H1 λy H2=>∃a v,x=.ref a/\DGet H2 a y (some v)/\Q v H2
def Qeu(ty td:TE):TE:=fun σ H Q=>ty σ H λy H1=>td σ H1 λx H2=>∃a o,x=.ref a/\DGet H2 a y o/\Q (.bl o.isSome) H2
def Pp(ty td:TE):TE:=fun σ H Q=>ty σ H λy H1=>td σ H1 λx H2=>∃a o,x=.ref a/\DGet H2 a y o/\Q (.bl (!o.isSome)) H2
def Qev(td ty tv:TE):TS:=λD σ H=>tv σ H λv H1=>td σ H1 λx H2=>ty σ H2 λy H3=>∃a H4,x=.ref a/\DPut H3 a y v H4/\D.nx σ H4
section
variable {X:Cx}{o i e value:Expr}{pos pos' tpos:Pos}{td ty tv:TE}
theorem Xb(hu:X.A.units+1 < cLine)(ho:PE X o td)(hi:PE X i ty)(hs:Qbm i):PE X (.Subscript o i pos) (Qet td ty):=by
 intro pins s σ H Q I h
 refine Xa PySem.F.slot_dict_getitem.lookup hs (thn (ho pins s σ H _ I h) λu s1 zz258=>Ce zz258 λx H1 I1 rx q1=>thn (hi pins s1 σ H1 _ I1 q1) λiv s2 zz515=>?_)
 obtain⟨y,H2,I2,ry,a,v,ex,g,q2⟩:=zz515
 subst ex
 obtain rfl:u=Value.ref a:=rx
 exact⟨Ma I2 g,Rn hu I2 g ry λw' s3 I3 rw'=>⟨v,H2,I3,rw',q2⟩⟩
theorem Qbn(hu:X.A.units+1 < cLine)(hi:PE X i ty)(ho:PE X o td):PC X .In i o (Qeu ty td):=by
 intro pins s σ H Q I h
 refine thn (hi pins s σ H _ I h) λiv s1 zz259=>Ce zz259 λy H1 I1 ry q1=>thn (ho pins s1 σ H1 _ I1 q1) λu s2 zz516=>?_
 obtain⟨x,H2,I2,rx,a,ov,ex,g,q2⟩:=zz516
 subst ex
 obtain rfl:u=Value.ref a:=rx
 exact Qin hu I2 g ry λs3 I3=>⟨.bl ov.isSome,H2,I3,rfl,q2⟩
theorem Rp(hu:X.A.units+1 < cLine)(hi:PE X i ty)(ho:PE X o td):PC X .NotIn i o (Pp ty td):=by
 intro pins s σ H Q I h
 refine thn (hi pins s σ H _ I h) λiv s1 zz260=>Ce zz260 λy H1 I1 ry q1=>thn (ho pins s1 σ H1 _ I1 q1) λu s2 zz517=>?_
 obtain⟨x,H2,I2,rx,a,ov,ex,g,q2⟩:=zz517
 subst ex
 obtain rfl:u=Value.ref a:=rx
 exact W9 hu I2 g ry λs3 I3=>⟨.bl (!ov.isSome),H2,I3,rfl,q2⟩
theorem Xc(hu:X.A.units+1 < cLine)(ho:PE X o td)(hi:PE X i ty)(hv:PE X value tv)(hs:swapsWith value (some (.Subscript o i pos')) pos.line X.env=pure false) :
  PS X (.Assign [.Subscript o i pos'] value pos) (Qev td ty tv):=by
 intro pins s σ H D I h
 refine wpAny_Assign_Subscript (thn (hv pins s σ H _ I h) λr s1 zz261=>Ce zz261 λv H1 I1 rv q1=>thn (ho pins s1 σ H1 _ I1 q1) λu s2 zz262=>Ce zz262 λx H2 I2 rx q2=>thn (hi pins s2 σ H2 _ I2 q2) λiv s3 zz518=>?_) hs
 obtain⟨y,H3,I3,ry,a,H4,ex,g,q3⟩:=zz518
 subst ex
 obtain rfl:u=Value.ref a:=rx
 exact Ro hu I3 g ry rv λs4 I4=>⟨σ,H4,I4,q3⟩
end
theorem Tq{P:Program}{w:World}{H:Hp}(h:Heap)(hb:sysModules < h.objs.size):B5 P w H (h.push { cls:=.type "dict",data:=.dict #[] }) h.objs.size (.dK []) :=
 ⟨Nat.zero_le _,beq_eq_false_iff_ne.mpr (Ne.symm (Nat.ne_of_lt hb)),[],.nil,Heap.DictOf.new h⟩
def Qbo:TE:=λ_ H Q=>∀p,H p=none->Q (.ref p) (upd H p (.dK []))
section
variable {X:Cx}{pos:Pos}
theorem Tr:PE X (.Dict [] [] pos) Qbo:=λpins s σ H Q I h =>
 wpAny_Dict_empty ⟨.ref s.heap.objs.size,_,I.laid (a:=s.heap.objs.size) (o:=.dK []) (t':=s.toks) (λ_ _ q=>Heap.get?_push_of_some _ q) (Nat.le_refl _) (Tq s.heap I.big),rfl,h _ (I.hok.fresh (Nat.le_refl _))⟩
end
structure M1(X:Cx)(o:Expr)(m:Str)(apos:Pos)(e:Expr)(cpos:Pos):Prop where
 base:attributeBase o m X.env (eval o X.env)=eval o X.env
 few:((backTo cpos (starEach [e] X.env)).all (λx=>!x.1) && (backToKw cpos (keywordEach [] X.env)).all (λx=>x.1.isSome)
  && decide (([e]:List Expr).length+([]:List Keyword).length+(if([]:List Keyword).isEmpty then 0 else 1) < 30))=true
 line:(apos.endLine==cpos.line)=true
 trees:backTo cpos (starEach [e] X.env)=[(false,eval e X.env)]
structure M2(X:Cx)(o:Expr)(m:Str)(apos:Pos)(e f:Expr)(cpos:Pos):Prop where
 base:attributeBase o m X.env (eval o X.env)=eval o X.env
 few:((backTo cpos (starEach [e,f] X.env)).all (λx=>!x.1) && (backToKw cpos (keywordEach [] X.env)).all (λx=>x.1.isSome)
  && decide (([e,f]:List Expr).length+([]:List Keyword).length+(if([]:List Keyword).isEmpty then 0 else 1) < 30))=true
 line:(apos.endLine==cpos.line)=true
 trees:backTo cpos (starEach [e,f] X.env)=[(false,eval e X.env),(false,eval f X.env)]
section
variable {X:Cx}{pins:List (Addr×Obj)}{σ:St}{H:Hp}{s:Shared}{a:Addr}{y d:V}{u r:Value}{o:Option V}{A:Around}{E:Value->Shared->Prop}
end
section
variable {X:Cx}{o e f:Expr}{apos cpos:Pos}{td ty tx:TE}
end
section
variable {X:Cx}{pins:List (Addr×Obj)}{σ:St}{H:Hp}{s:Shared}{a:Addr}{kvs:List (Key×V)}{A:Around}{E:Value->Shared->Prop}
end
section
variable {X:Cx}{pins:List (Addr×Obj)}{σ:St}{H:Hp}{s:Shared}{a:Addr}{y:V}{u:Value}{A:Around}{E:Value->Shared->Prop}
end
end L2
namespace Att
open PySem PySem.W PySem.Calls PyProof.Rows
theorem Hr{P:Params}{h:Heap}:∀(ns:List Int) (vs:List Value),WellAll P h vs (ns.map WData.int)->IntsAre vs ns:=by
 intro ns
 induction ns with
 | nil =>
  intro vs w
  rw [List.map_nil]at w
  cases w
  exact .nil
 | cons n ns ih =>
  intro vs w
  rw [List.map_cons]at w
  cases w with
  | cons a b =>
   cases a
   exact .cons _ _ (ih _ b)
theorem Rq{l:OpenLaw}{n:Nat}(hn:l.most=some n){P:Params}{h:Heap}{args:List WData}{vals:List Value}
  (hpre:l.row.toRowW.claim.pre args=true) (hwl:WellAll P h vals args) :
  ∃a vs ns,vals=[Value.ref a]/\args=[WData.list (ns.map WData.int)]/\h.get? a=some { cls:=.type "list",data:=.seq vs.toArray }/\IntsAre vs ns/\ns.length<=n:=by
 have hsh:WShape.hasAll [] args [.list .int]=true:=(pre_splitW hpre).1
 have hc:l.pre.holds [] { args:=args }=true:=(pre_splitW hpre).2
 obtain⟨d,r,rfl,h1,h2⟩:=hasAllW_cons hsh
 obtain rfl:=hasAllW_nil h2
 obtain⟨xs,rfl,h3⟩:=hasW_list h1
 obtain⟨ns,rfl⟩:=items_int h3
 have hlen:ns.length<=n:=by
  unfold OpenLaw.pre at hc
  have h4:(WTm.not (.lt (.lit (.int (n:Int))) (.len (.arg 0)))).holds [] { args:=[.list (ns.map .int)] }=true:=by
   have h4:=(holds_andW hc).1
   rw [hn]at h4
   exact h4
  have h5:=condW_of h4 (w_not (w_lt w_lit (w_len_list (w_arg rfl))))
  rw [List.length_map]at h5
  refine Nat.le_of_not_lt λq=>?_
  have q':(n:Int) < ((ns.length:Nat):Int):=by omega
  first
   | (rw [decide_eq_true q']at h5;exact absurd h5 (by decide))
   | (simp at h5;omega)
 cases hwl with
 | cons w1 w2 =>
  cases w2
  cases w1 with
  | list ho hall=>exact⟨_,_,ns,rfl,rfl,ho,Hr ns _ hall,hlen⟩
theorem Rr(l:OpenLaw)(args:List WData):l.row.toRowW.claim.post args (.bool true) args=true :=
 postW_of (r:=l.row.toRowW) (X:=(true==true))
  (show WShape.has [] (.bool true) .bool=true by first | rfl | decide | simp [WShape.has,WShape.arms,WShape.armsAll])
  (show(WTm.eq .res (.lit (.bool true))).value [] { args:=args,res:=some (.bool true),after:=args }=some (.bool (true==true)) from w_eq_bool (w_res rfl) w_lit) rfl
theorem attach_call{l:OpenLaw}{n:Nat}{q:Program}{loose:List Str}{XP:(Str->Option Value)->Heap->Prop}{YP:World->Heap->Prop}{d:DefRec}
  (hn:l.most=some n) (hdf:d.params.defaults=[])
  (call:∀(w:World) (s₀ s₁:Shared) (mg mb:Str->Option Value) (fa:Addr) (o:Obj) (pm cd doc:Value) (a:Addr) (vs:List Value) (ns:List Int),
   Ground q loose [] XP w s₀ mg mb s₁.heap->YP w s₁.heap ->
   s₁.heap.get? fa=some o->o.data=.func (docDef d.name d.params d.body d.scope pm cd doc)->s₁.heap.CodeRec cd d.name->mg d.name=some (.ref fa) ->
   s₁.heap.get? a=some { cls:=.type "list",data:=.seq vs.toArray }->IntsAre vs ns->ns.length<=n->s₁.gens=#[] ->
   codeAny (model l.prog w) callerA (.call (.ref fa) ⟨[.ref a],[]⟩) (λr s'=>r=.ok (.ret (.bool true))/\OldK s₁.heap s'.heap/\s'.os=s₁.os/\AllBare s'.gens) s₁) :
  WalkO q loose XP YP l.row.toRowW d [] (λf vs=>PySem.call f vs):=by
 intro w s₀ s₁ mg mb G Y fa o pm cd doc dV kV ho hd hcd hD hmg hg args vals as hpre hlay hrd hwl hlo
 obtain rfl:dV=.none:=Dflts.none hD hdf
 obtain rfl:kV=.none:=Dflts.noKw hD
 obtain⟨a,vs,ns,rfl,rfl,hobj,hints,hlen⟩:=Rq hn hpre hwl
 refine enter_call (codeAny_mono (call w s₀ s₁ mg mb fa o pm cd doc a vs ns G Y ho (fd_plain hd) hcd hmg hobj hints hlen hg) λr s' hq=>?_)
 obtain⟨rfl,h2,h3,h4⟩:=hq
 exact⟨.inl ⟨.bool true,.bool true,[],rfl,λ_=>rfl,.bool true,Rr l _,λ_=>⟨List.Pairwise.nil,λ_ hm=>(nomatch hm)⟩⟩,h2,h3,h4⟩
section
variable {prog:Program}{w:World}{A:Around}{E:Value->Shared->Prop}{s:Shared}{K:Frag}
end
end Att
namespace L2
open PySem PySem.Spec PyProof.Rows
theorem J5:∀{vs:List Value} {ns:List Int},IntsAre vs ns->Vals (ns.map V.int) vs
 | _,_,.nil=>.nil
 | _,_,.cons n t h=>.cons ⟨t,rfl⟩ (J5 h)
def Only(H:Hp):Prop:=∀b,H b=none\/∃o xs,H b=some (.frz o (.lst xs))
theorem Ts{P:Program}{w:World}{K:PySem.W.Frag}{mg mb:Str->Option Value}{CX:CXT}{k:Nat}{fa a:Addr}{fd:FuncData}{x:Str}{sp:Sp}{s₁:Shared}{vs:List Value}{ns:List Int}
  (KX:K.In s₁.heap) (hns:s₁.heap.Ns mainGlobals mg) (hb:s₁.heap.Ns builtinsNs mb) (hbb:∀x:Str,x ≠ "__name__" -> mb x=bootBuiltins x) (hlim:s₁.heap.NoLimit) (hg:s₁.gens=#[])
  (ha:s₁.heap.get? a=some { cls:=.type "list",data:=.seq vs.toArray }) (hi:IntsAre vs ns) (hl:ns.length<=sizeLine) (hr:Room k callerA)
  (F:∀base:Heap,K.In base->base.Ns mainGlobals mg->FnOk P w K mg base CX k fa fd [x] sp) (hbind:∀(s:Shared) (u:Value),BindsTo s fd ⟨[u],[]⟩ [(x,u)])
  (hsp:∀H:Hp,Only H->D5 K H a (ns.map V.int)->sp [.ref a] H (λv _=>v=.bl true) λ_ _ _=>False)
  (hCX:∀H e s',CX [] H s₁ (λ_ _ _=>False) e s'->False) :
  codeAny (model P w) callerA (.call (.ref fa) ⟨[.ref a],[]⟩) (λr s'=>r=.ok (.ret (.bool true))/\OldK s₁.heap s'.heap/\s'.os=s₁.os/\AllBare s'.gens) s₁:=by
 have rv:=J5 hi
 have lenV:=hi.length
 have core:∀H:Hp,Only H->D5 K H a (ns.map V.int)->HOk P w H s₁.heap->(∀b,H b≠none->b=a)->(H a≠none->K.lookup a=none) ->
   codeAny (model P w) callerA (.call (.ref fa) ⟨[.ref a],[]⟩) (λr s'=>r=.ok (.ret (.bool true))/\OldK s₁.heap s'.heap/\s'.os=s₁.os/\AllBare s'.gens) s₁:=by
  intro H hO hS hok hA hK
  have base_of:∀{b:Addr} {o:Obj},s₁.heap.get? b=some o->H b=none->(K0 s₁.heap H).get? b=some o:=λe n=>Ta e n
  have noA:∀{b:Addr} {o:Obj} {es:Array DictEntry} {ep:Nat},s₁.heap.get? b=some o->o.data=.dict es ep->H b=none:=λ{b o es ep} e d=>by
   cases q:H b with
   | none=>rfl
   | some u =>
    have e':b=a:=hA b (by rw [q];simp)
    subst e'
    rw [ha]at e;cases e
    have d':Data.seq vs.toArray _=Data.dict es ep:=d
    cases d'
  have nsK:∀{b:Addr} {m:Str->Option Value},s₁.heap.Ns b m->(K0 s₁.heap H).Ns b m:=λ{b m} ⟨o,es,ep,e,d,r⟩=>⟨o,es,ep,base_of e (noA e d),d,r⟩
  have hKb:K.In (K0 s₁.heap H):=λb o e=>base_of (KX b o e) (by
   cases q:H b with
   | none=>rfl
   | some u =>
    have e':b=a:=hA b (by rw [q];simp)
    subst e'
    rw [hK (by rw [q];simp)]at e;cases e)
  have hM:Mod K mg (K0 s₁.heap H):=⟨hKb,nsK hns,⟨mb,nsK hb,hbb⟩,let⟨mc,h1,h2⟩:=hlim;⟨mc,nsK h1,h2⟩⟩
  have e0:Env0 P w K mg (K0 s₁.heap H) callerA [] s₁ H:=⟨rfl,hM,λb o e=>Wj e,Nat.le_of_eq (Rf _ _),trivial,λb hb=>absurd (show b∈([]:List Addr) from hb) (by simp),hok,.of_eq hg⟩
  refine codeAny_mono ((F _ hKb (nsK hns)).run callerA [] s₁ H ⟨[.ref a],[]⟩ [.ref a] [.ref a] _ _ hr e0 (hbind s₁ (.ref a)) (.cons rfl .nil) (hsp H hO hS)) λr s' h=>?_
  cases r with
  | error e=>exact(hCX H e s' h).elim
  | ok fl =>
   cases fl with
   | next=>exact False.elim h
   | brk=>exact False.elim h
   | cont=>exact False.elim h
   | ret u =>
    obtain⟨v,H',os,bare,un,hok',r',q⟩:=h
    have q':v=.bl true:=q
    subst q'
    obtain rfl:u=Value.bool true:=r'
    refine⟨rfl,OldK.of_keep λb o e=>?_,os,bare⟩
    cases q:H b with
    | none=>exact un.keep b o e q (by intro z;exact absurd (show b∈([]:List Addr) from z) (by simp)) (by simp)
    | some u =>
     rcases hO b with z | ⟨ob,xs,z⟩
     ·rw [q]at z;cases z
     ·have z2:=un.frzs b ob _ z
      obtain⟨e1,_⟩:=hok b _ z
      obtain⟨e2,_⟩:=hok' b _ z2
      rw [e]at e1;cases e1
      exact e2
 cases hk:K.lookup a with
 | some o =>
  have e:=KX a o hk
  rw [ha]at e
  cases e
  refine core (λ_=>none) (λ_=>.inl rfl) (.inr ⟨_,vs.toArray,_,hk,rfl,rfl,rfl,by rw [List.size_toArray,lenV];exact hl,by simpa using rv⟩) (λb u z=>by have z':(none:Option HO)=some u:=z;cases z') (λb z=>absurd rfl z) λz=>absurd rfl z
 | none =>
  refine core (λb=>if b=a then some (.frz { cls:=.type "list",data:=.seq vs.toArray } (.lst (ns.map V.int))) else none) (λb=>?_) (.inl (.inr ⟨{ cls:=.type "list",data:=.seq vs.toArray },if_pos rfl⟩)) (λb u z=>?_) (λb z=>?_) λ_=>hk
  ·by_cases hb:b=a
   ·exact .inr ⟨_,_,if_pos hb⟩
   ·exact .inl (if_neg hb)
  ·by_cases hb:b=a
   ·have z':=(if_pos hb).symm.trans z
    cases z'
    subst hb
    exact⟨ha,by rw [List.length_map];exact hl,vs,_,rv,ha⟩
   ·have z':=(if_neg hb).symm.trans z
    cases z'
  ·by_cases hb:b=a
   ·exact hb
   ·exact absurd (if_neg hb) z
theorem walk_of{l:PySem.W.OpenLaw}{n k:Nat}{q:Program}{loose:List Str}{XP:(Str->Option Value)->Heap->Prop}{YP:World->Heap->Prop}{d:DefRec}{K:Params->PySem.W.Frag}{CX:World->CXT}{sp:World->Sp}{x:Str}
  (hn:l.most=some n) (hn2:n<=sizeLine) (hdf:d.params.defaults=[]) (hr:Room k callerA)
  (hY:∀(w:World) (h:Heap),YP w h->(K w.params).In h)
  (F:∀(w:World) (mg:Str->Option Value) (fa:Addr) (h:Heap),(K w.params).In h->h.Ns mainGlobals mg->mg d.name=some (.ref fa) ->
   ∃fd:FuncData,(∀(s:Shared) (u:Value),BindsTo s fd ⟨[u],[]⟩ [(x,u)]) /\
    ∀base:Heap,(K w.params).In base->base.Ns mainGlobals mg->FnOk l.prog w (K w.params) mg base (CX w) k fa fd [x] (sp w))
  (hsp:∀(w:World) (H:Hp) (a:Addr) (ns:List Int),ns.length<=n->Only H->D5 (K w.params) H a (ns.map V.int)->sp w [.ref a] H (λv _=>v=.bl true) λ_ _ _=>False)
  (hCX:∀(w:World) (H:Hp) (s:Shared) (e:Value) (s':Shared),CX w [] H s (λ_ _ _=>False) e s'->False) :
  PySem.W.WalkO q loose XP YP l.row.toRowW d [] (λf vs=>PySem.call f vs):=by
 refine Att.attach_call hn hdf λw s₀ s₁ mg mb fa o pm cd doc a vs ns G Y ho hd hcd hmg hobj hints hlen hg=>?_
 have KX:=hY w _ Y
 obtain⟨fd,hb,hF⟩:=F w mg fa _ KX G.T.g hmg
 exact Ts KX G.T.g G.T.b G.T.builtins G.T.nolimit hg hobj hints (Nat.le_trans hlen hn2) hr hF hb (λH hO hS=>hsp w H a ns hlen hO hS) λH e s'=>hCX w H s₁ e s'
def Bc(s:Stmt):Arguments:=match s with
 | .FunctionDef _ a _ _ _ _ _ _ _ _=>a
 | _=>{ posonlyargs:=[],args:=[],vararg:=none,kwonlyargs:=[],kw_defaults:=[],kwarg:=none,defaults:=[] }
def A9(s:Stmt):List Stmt:=match s with
 | .FunctionDef _ _ b _ _ _ _ _ _ _=>b
 | _=>[]
def Ah(s:Stmt):Scope:=match s with
 | .FunctionDef _ _ _ _ _ _ sc _ _ _=>sc
 | _=>{ kind:=.function,names:=[],isGenerator:=false,isCoroutine:=false }
abbrev Fb:CXT:=λ_ _ _ _ _ _=>False
abbrev E0:XK:=λ_ _ _=>False
theorem Qew{X:Cx}:Passes Fb X E0:=λ_ _ _ _ _ _ _ h=>h.elim
structure Fun(K:PySem.W.Frag)(x qual:Str)(st:Stmt)(f:Addr)(fd:FuncData):Prop where
 ex:∃(oc:Value) (od:Option Addr) (kV doc pm:Value) (an:Option Addr) (cdv ct:Value) (osl:Array (Option Value)),
  fd=PySem.W.fnOf x qual (Bc st) (A9 st) (Ah st) .none kV doc pm an cdv ct/\K.lookup f=some ⟨oc,od,.func fd,osl⟩/\PySem.W.codeIn K cdv qual=true
 kp:PySem.W.keepIn K (.ref f)=true
section
variable {P:Program}{w:World}{K:PySem.W.Frag}{mg:Str->Option Value}{base:Heap}
theorem Fun.ok{x qual:Str}{st:Stmt}{f:Addr}{fd:FuncData}{N ps:List Str}{k:Nat}{sp:Sp}(F:Fun K x qual st f fd)(S:FnScope N ps (Ah st))(len:∀vs H Q E,sp vs H Q E->vs.length=ps.length)
  (hbody:∀(cdv:Value) (A:Around) (outer:List Env) (s:Shared) (H:Hp) (vs:List V) (Q:VK) (E:XK),Room k (A.deeper (envOfC qual (Ah st) s.heap.objs.size f cdv))->sp vs H Q E ->
   ∃t,PSs (N9 Fb P w K mg base N qual (Ah st) f cdv A outer s H E).nox (A9 st) t/\t { nx:=λ_ H'=>Q .non H',rt:=Q } (start N vs) H):FnOk P w K mg base Fb (k+1) f fd ps sp:=by
 obtain⟨oc,od,kV,doc,pm,an,cdv,ct,osl,rfl,lk,hcd⟩:=F.ex
 refine Qej lk hcd S len λA outer s H vs Q E hr hsp=>?_
 obtain⟨t,h,q⟩:=hbody cdv A outer s H vs Q E hr hsp
 exact⟨t,h.nox,q⟩
theorem Fun.binds{x qual:Str}{st:Stmt}{f:Addr}{fd:FuncData}{ps:List Str}(F:Fun K x qual st f fd)
  (h:∀(kV doc pm:Value) (an:Option Addr) (cdv ct:Value) (us:List Value),us.length=ps.length->bindArgs (PySem.W.fnOf x qual (Bc st) (A9 st) (Ah st) .none kV doc pm an cdv ct) ⟨us,[]⟩=pure (ps.zip us)):Binds K fd ps []:=by
 obtain⟨oc,od,kV,doc,pm,an,cdv,ct,osl,rfl,lk,hcd⟩:=F.ex
 exact .all (h kV doc pm an cdv ct)
theorem Bu{x qual:Str}{st:Stmt}{f:Addr}{oc:Value}{od an:Option Addr}{osl:Array (Option Value)}{kV doc pm cdv ct:Value}(l:K.lookup f=some ⟨oc,od,.func (PySem.W.fnOf x qual (Bc st) (A9 st) (Ah st) .none kV doc pm an cdv ct),osl⟩)
  (c:PySem.W.codeIn K cdv qual=true) (k:PySem.W.keepIn K (.ref f)=true):Fun K x qual st f (PySem.W.fnOf x qual (Bc st) (A9 st) (Ah st) .none kV doc pm an cdv ct):=⟨⟨oc,od,kV,doc,pm,an,cdv,ct,osl,rfl,l,c⟩,k⟩
end
theorem Ik{A:Around}{k:Nat}(hr:Room k A):A.units+1 < cLine:=Nat.lt_of_le_of_lt (Nat.add_le_add_left (by decide:1<=64) _) hr.units
theorem A5{n:Nat}(h:n<=1000):n < sizeLine:=Nat.lt_of_le_of_lt h (by decide)
section
variable {X:Cx}
theorem Rs:Fk X (.builtin "len") (λxs H Q=>∃a kvs,xs=[V.ref a]/\H a=some (.dK kvs)/\Q (.int kvs.length) H):=by
 intro pins s σ H xs us Q I r h
 obtain⟨a,kvs,rfl,ha,q⟩:=h
 obtain⟨u,rfl,ru⟩:=Fz r
 cases ru
 exact Qes I (.inl ha) λt s' I'=>⟨.int kvs.length,H,I',⟨t,rfl⟩,q⟩
end
section
variable {κ:Type} [DecidableEq κ]
end
end L2
set_option maxHeartbeats 4000000
namespace L2
open PySem
def Et(cells:List (Str×Addr)):List (Str×NameKind)->List (Str×Addr)->List (Str×Addr)
 | [],acc=>acc
 | (n,k) :: r,acc=>if k=NameKind.free then Et cells r ((n,(cells.lookup n).getD 0) :: acc) else Et cells r acc
theorem Fm{scope:Scope}{env:Env}(h:∀x∈scope.names,x.2=.free->∃c,env.cells.lookup x.1=some c) :
  closureFor scope env=pure (Et env.cells scope.names []):=by
 have key:∀(names:List (Str×NameKind)) (acc:List (Str×Addr)),(∀x∈names,x.2=.free->∃c,env.cells.lookup x.1=some c) ->
   (do
     let mut cs:=acc
     for (name,kind) in names do
      if kind==.free then cs:=(name,<- cellOf env name) :: cs
     return cs:Sem (List (Str×Addr)))=pure (Et env.cells names acc):=by
  intro names
  induction names with
  | nil=>intro acc _;rfl
  | cons x r ih =>
   intro acc h
   obtain⟨n,k⟩:=x
   have hr:∀y∈r,y.2=.free->∃c,env.cells.lookup y.1=some c:=λy hy=>h y (List.mem_cons_of_mem _ hy)
   by_cases hk:k=.free
   ·subst hk
    obtain⟨c,hc⟩:=h (n,.free) List.mem_cons_self rfl
    have e:cellOf env n=pure c:=by unfold cellOf;rw [hc]
    have q:=ih ((n,c) :: acc) hr
    simp only [List.forIn_cons,beq_self_eq_true,if_true,e]
    unfold Et
    rw [if_pos rfl,hc]
    exact q
   ·have hb:(k==NameKind.free)=false:=by simpa using hk
    have q:=ih acc hr
    simp only [List.forIn_cons,hb,Bool.false_eq_true,if_false]
    unfold Et
    rw [if_neg hk]
    exact q
 exact key scope.names [] h
theorem Il{cells:List (Str×Addr)}:∀{names:List (Str×NameKind)} {acc:List (Str×Addr)},
  (∀x∈names,x.2=.free->∃c,cells.lookup x.1=some c)->(∀x c,acc.lookup x=some c->cells.lookup x=some c) ->
  ∀x c,(Et cells names acc).lookup x=some c->cells.lookup x=some c
 | [],_,_,h,x,c,e=>h x c e
 | (n,k) :: r,acc,hf,h,x,c,e=>by
  unfold Et at e
  have hr:∀y∈r,y.2=.free->∃c,cells.lookup y.1=some c:=λy hy=>hf y (List.mem_cons_of_mem _ hy)
  by_cases hk:k=.free
  ·rw [if_pos hk]at e
   refine Il hr (λy d q=>?_) x c e
   obtain⟨c',hc'⟩:=hf (n,k) List.mem_cons_self hk
   have hc':cells.lookup n=some c':=hc'
   rw [List.lookup_cons]at q
   cases hy:y==n with
   | true =>
    rw [hy,hc']at q
    have e1:y=n:=by simpa using hy
    rw [e1,hc']
    exact q
   | false=>rw [hy]at q;exact h y d q
  ·rw [if_neg hk]at e
   exact Il hr h x c e
theorem Fp{cells:List (Str×Addr)}{x:Str}:∀{names:List (Str×NameKind)} {acc:List (Str×Addr)},
  (∃c,acc.lookup x=some c)->∃c,(Et cells names acc).lookup x=some c
 | [],_,h=>h
 | (n,k) :: r,acc,⟨c,h⟩=>by
  unfold Et
  split
  ·refine Fp ?_
   rw [List.lookup_cons]
   cases x==n with
   | true=>exact⟨_,rfl⟩
   | false=>exact⟨c,h⟩
  ·exact Fp ⟨c,h⟩
theorem Gb{cells:List (Str×Addr)}{x:Str}:∀{names:List (Str×NameKind)} {acc:List (Str×Addr)},
  (x,NameKind.free)∈names->∃c,(Et cells names acc).lookup x=some c
 | (n,k) :: r,acc,h=>by
  unfold Et
  rcases List.mem_cons.mp h with e | e
  ·cases e
   rw [if_pos rfl]
   refine Fp ?_
   rw [List.lookup_cons,beq_self_eq_true]
   exact⟨_,rfl⟩
  ·split
   ·exact Gb e
   ·exact Gb e
end L2
namespace PySem
open Sem (wp)
section
variable {prog:Program}{w:World}{A:Around}{E:Value->Shared->Prop}{R:Result->Shared->Prop}{s:Shared}
theorem Mb{elt target iter:Expr}{ifs:List Expr}{scope:Scope}{pos:Pos}{it acc:Value}{env:Env}(I:Nat->Shared->Prop)
  (turn:∀n s,I n s->wpAny (model prog w) A (pyNext it) (λr s₁=>match r with
   | none=>R (.ok .next) s₁
   | some v=>wpAny (model prog w) A (letOwnedTupleGo target it v) (λ_ s₁'=>wpAny (model prog w) A (assign target env v) (λ_ s₂ =>
     wpAny (model prog w) A (forIn ifs true λc r=>if r=true then do let ok <- isTrue c env (eval c env);pure (ForInStep.yield ok) else pure (ForInStep.yield r)) (λok s₃ =>
      if ok=true then wpAny (model prog w) A (eval elt env) (λx s₄ =>
       wpAny (model prog w) A (call (.builtin "list.append") [acc,x]) (λ_ s₅=>∃m,m < n/\I m s₅) (λ_ _=>False) s₄) (λ_ _=>False) s₃
      else ∃m,m < n/\I m s₃) (λ_ _=>False) s₂) (λ_ _=>False) s₁') (λ_ _=>False) s₁) (λ_ _=>False) s)
  (n:Nat) (h:I n s) :
  codeAny (model prog w) A (.compLoop (.ListComp elt [⟨target,iter,ifs,0⟩] scope pos) 0 it acc env) R s:=by
 refine codeAny_loop rfl I (λn s hI=>?_) n h
 show wpAny _ A ((compTurn (.ListComp elt [⟨target,iter,ifs,0⟩] scope pos) 0 it acc env).onRaise (λx=>do noteFrame x env;theTreesLotGoes x)) _ _ s
 refine wpAny_noted ?_
 rw [compTurn_list]
 refine wpAny_bind (wpAny_standAt (wpAny_bind (wpAny_mono (turn n s hI) (λr s₁ h₁=>?_) λ_ _ h'=>h'.elim)))
 cases r with
 | none=>exact wpAny_pure h₁
 | some v =>
  refine wpAny_bind (wpAny_mono h₁ (λ_ s₁' h₁'=>?_) λ_ _ h'=>h'.elim)
  refine wpAny_bind (wpAny_mono h₁' (λ_ s₂ h₂=>wpAny_bind (wpAny_mono h₂ (λok s₃ h₃=>?_) λ_ _ h'=>h'.elim)) λ_ _ h'=>h'.elim)
  cases ok with
  | false=>exact wpAny_pure ⟨rfl,h₃⟩
  | true =>
   exact wpAny_bind (wpAny_bind (wpAny_mono h₃ (λx s₄ h₄=>wpAny_bind (wpAny_mono h₄ (λ_ s₅ h₅=>wpAny_pure (wpAny_pure ⟨rfl,h₅⟩)) λ_ _ h'=>h'.elim)) λ_ _ h'=>h'.elim))
end
end PySem
namespace L2
open PySem PySem.Spec PyProof.Rows
def Mc(mp:List (Option Nat))(σ:St):St:=mp.map λo=>match o with | some i=>(σ[i]?).join | none=>none
def Xd(pn:List (Str×NameKind))(x:Str):Bool:=decide (pn.lookup x=some .cell) || decide (pn.lookup x=some .free)
def Tt(N:List Str)(pn cn:List (Str×NameKind))(N':List Str)(mp:List (Option Nat)):Bool :=
 decide (N'.length=mp.length) && decide N'.Nodup &&
 (List.range N'.length).all (λk=>match mp[k]?,N'[k]? with
  | some (some i),some x=>decide (N[i]?=some x) && Xd pn x && decide ((x,NameKind.free)∈cn) && decide (cn.lookup x=some .free)
  | _,_=>true) &&
 cn.all (λp=>decide (p.2≠.cell)) && cn.all (λp=>decide (p.2≠.free) || Xd pn p.1) && cn.all (λp=>decide (p.2≠.local) || decide (cn.lookup p.1=some .local))
structure CompOk(N:List Str)(pn cn:List (Str×NameKind))(N':List Str)(mp:List (Option Nat)):Prop where
 len:N'.length=mp.length
 nd:N'.Nodup
 map:∀(k i:Nat) (x:Str),mp[k]?=some (some i)->N'[k]?=some x->N[i]?=some x/\(pn.lookup x=some .cell\/pn.lookup x=some .free)/\(x,NameKind.free)∈cn/\cn.lookup x=some .free
 nocell:∀p∈cn,p.2≠.cell
 free:∀p∈cn,p.2=.free->(pn.lookup p.1=some .cell\/pn.lookup p.1=some .free)
 loc:∀p∈cn,p.2=.local->cn.lookup p.1=some .local
theorem Md{pn:List (Str×NameKind)}{x:Str}(h:Xd pn x=true):pn.lookup x=some .cell\/pn.lookup x=some .free:=by
 unfold Xd at h
 rcases(Bool.or_eq_true _ _).mp h with h | h
 ·exact .inl (of_decide_eq_true h)
 ·exact .inr (of_decide_eq_true h)
theorem Ay{N:List Str}{pn cn:List (Str×NameKind)}{N':List Str}{mp:List (Option Nat)}(h:Tt N pn cn N' mp=true):CompOk N pn cn N' mp:=by
 unfold Tt at h
 obtain⟨h,h6⟩:=(Bool.and_eq_true _ _).mp h
 obtain⟨h,h5⟩:=(Bool.and_eq_true _ _).mp h
 obtain⟨h,h4⟩:=(Bool.and_eq_true _ _).mp h
 obtain⟨h,h3⟩:=(Bool.and_eq_true _ _).mp h
 obtain⟨h1,h2⟩:=(Bool.and_eq_true _ _).mp h
 refine⟨of_decide_eq_true h1,of_decide_eq_true h2,λk i x e1 e2=>?_,λp hp=>of_decide_eq_true (List.all_eq_true.mp h4 p hp),λp hp e=>?_,λp hp e=>?_⟩
 ·have hk:k < N'.length:=(List.getElem?_eq_some_iff.mp e2).1
  have q:=List.all_eq_true.mp h3 k (List.mem_range.mpr hk)
  simp only [e1,e2]at q
  obtain⟨q,q4⟩:=(Bool.and_eq_true _ _).mp q
  obtain⟨q,q3⟩:=(Bool.and_eq_true _ _).mp q
  obtain⟨q1,q2⟩:=(Bool.and_eq_true _ _).mp q
  exact⟨of_decide_eq_true q1,Md q2,of_decide_eq_true q3,of_decide_eq_true q4⟩
 ·rcases(Bool.or_eq_true _ _).mp (List.all_eq_true.mp h5 p hp) with z | z
  ·exact absurd e (of_decide_eq_true z)
  ·exact Md z
 ·rcases(Bool.or_eq_true _ _).mp (List.all_eq_true.mp h6 p hp) with z | z
  ·exact absurd e (of_decide_eq_true z)
  ·exact of_decide_eq_true z
theorem Lb{env:Env}:∀{names:List (Str×NameKind)} {x:Str},names.lookup x=some .free ->
  (names.map λ(n,k)=>if(k==NameKind.free && env.scope.kind==.function && env.kindOf n==some .cell) then(n,NameKind.cell) else(n,k)).lookup x=some .cell \/
  (names.map λ(n,k)=>if(k==NameKind.free && env.scope.kind==.function && env.kindOf n==some .cell) then(n,NameKind.cell) else(n,k)).lookup x=some .free
 | [],_,h=>by simp at h
 | (n,k) :: r,x,h=>by
  have ih:=@Lb env r x
  rw [List.map_cons]
  cases hx:x==n with
  | true =>
   simp only [List.lookup_cons,hx]at h
   cases h
   by_cases hc:(NameKind.free==NameKind.free && env.scope.kind==.function && env.kindOf n==some .cell)=true
   ·refine .inl ?_
    simp only [hc,if_true,List.lookup_cons,hx]
   ·refine .inr ?_
    simp only [if_neg hc,List.lookup_cons,hx]
  | false =>
   simp only [List.lookup_cons,hx]at h
   by_cases hc:(k==NameKind.free && env.scope.kind==.function && env.kindOf n==some .cell)=true
   ·simp only [hc,if_true,List.lookup_cons,hx];exact ih h
   ·simp only [if_neg hc,List.lookup_cons,hx];exact ih h
theorem Lc{env:Env}:∀{names:List (Str×NameKind)} {x:Str},(∀p∈names,p.2≠.cell) ->
  ((names.map λ(n,k)=>if(k==NameKind.free && env.scope.kind==.function && env.kindOf n==some .cell) then(n,NameKind.cell) else(n,k)).lookup x=some .cell \/
  (names.map λ(n,k)=>if(k==NameKind.free && env.scope.kind==.function && env.kindOf n==some .cell) then(n,NameKind.cell) else(n,k)).lookup x=some .free)->(x,NameKind.free)∈names
 | [],_,_,h=>by simp at h
 | (n,k) :: r,x,hn,h=>by
  have ih:=@Lc env r x λp hp=>hn p (List.mem_cons_of_mem _ hp)
  rw [List.map_cons]at h
  cases hx:x==n with
  | true =>
   have e:x=n:=by simpa using hx
   subst e
   have hk:=hn (x,k) List.mem_cons_self
   by_cases hc:(k==NameKind.free && env.scope.kind==.function && env.kindOf x==some .cell)=true
   ·have:k=.free:=by
     simp only [Bool.and_eq_true]at hc
     simpa using hc.1.1
    rw [this];exact List.mem_cons_self
   ·simp only [if_neg hc,List.lookup_cons,hx]at h
    rcases h with h | h
    ·exact absurd (Option.some.inj h) hk
    ·rw [Option.some.inj h];exact List.mem_cons_self
  | false =>
   by_cases hc:(k==NameKind.free && env.scope.kind==.function && env.kindOf n==some .cell)=true
   ·simp only [hc,if_true,List.lookup_cons,hx]at h;exact List.mem_cons_of_mem _ (ih h)
   ·simp only [if_neg hc,List.lookup_cons,hx]at h;exact List.mem_cons_of_mem _ (ih h)
end L2
namespace PySem
open Sem (wp)
section
variable {prog:Program}{w:World}{A:Around}{E:Value->Shared->Prop}{R:Result->Shared->Prop}{s:Shared}
variable {I:Addr}{fp wr:List Addr}{G:Array GenState->Array GenState->Prop}{n:Nat}{P:Nat->Value->Prop}{St:Nat->Shared->Prop}
end
end PySem
namespace L2
open PySem PySem.Spec PyProof.Rows
def Bv(X:Cx)(N':List Str)(scope:Scope)(C:Addr)(s:Shared)(H:Hp)(fp:List Addr):Cx :=
 { X with N:=N',s₀:=s,H₀:=H,env:=compEnvC scope (Et X.env.cells scope.names []) C X.env,outer:=X.stack,stack:=X.stack,ex:=fp,fn:=λ_=>false,pn:=[],xe:=λ_ _=>False }
def PIfs(X:Cx)(ifs:List Expr)(t:TT):Prop :=
 ∀(pins:List (Addr×Obj)) (s:Shared) (σ:St) (H:Hp) (Q:Bool->Hp->Prop),Inv X pins σ H s->t σ H Q ->
  wpAny (model X.prog X.w) X.A (forIn ifs true λc r=>if r=true then do let ok <- isTrue c X.env (eval c X.env);pure (ForInStep.yield ok) else pure (ForInStep.yield r)) (TP X pins σ Q) X.xe s
def Qio:TT:=λ_ H Q=>Q true H
theorem Tu{X:Cx}:PIfs X [] Qio:=λ_ _ _ H _ I h=>wpAny_tests_nil ⟨H,I,h⟩
theorem Tv{X:Cx}{c:Expr}{t:TT}(h:PT X c t):PIfs X [c] t:=λpins s σ H Q I hw=>wpAny_tests_one (h pins s σ H Q I hw)
def Tw(p:Addr)(J:It)(g:TG)(tst:TT)(te:TE)(Q:Hp->Prop)(σ:St)(H:Hp):Prop :=
 ∃W:Nat->Nat->List V->St->Hp->Prop,(∃m,W 0 m [] σ H)/\∀i m acc σ' H',W i m acc σ' H' ->
  (J.stop i H'/\Q H')\/(J.go i H'/\∃N:List V->St->Hp->Prop,(∀acc σ H,N acc σ H->∃m',m' < m/\W (i+1) m' acc σ H)/\∀x H2,J.yld i H' x H2->g x σ' H2 fun σ3 H3=>tst σ3 H3 λb H4 =>
   if b=true then te σ3 H4 λv H5=>∃ac,H5 p=some (.lst ac)/\ac.length < sizeLine/\N (ac++[v]) σ3 (upd H5 p (.lst (ac++[v])))
   else N acc σ3 H4)
def Tx(mp:List (Option Nat))(wi:TI)(g:TG)(tst:TT)(te:TE):TE:=fun σ H Q=>wi σ H λJ H1=>∀p,H1 p=none ->
 Tw p J g tst te (λH'=>Q (.ref p) H') (Mc mp σ) (upd H1 p (.lst []))
section
variable {X:Cx}{N':List Str}{mp:List (Option Nat)}{elt tg iter:Expr}{ifs:List Expr}{scope:Scope}{pos:Pos}{wi:TI}{g:TG}{tst:TT}{te:TE}
theorem Inv.comp0{pins:List (Addr×Obj)}{σ:St}{H:Hp}{s:Shared}{fp:List Addr}{tn:Heap->Prop}{h₁:Heap}{tk:Nat}{C:Addr}(ok:CompOk X.N X.env.scope.names scope.names N' mp)(hk:scope.kind=.function)
  (I:Inv X pins σ H s) (hf:∀b∈fp,Ep X pins H b) (hob:∀b∈fp,∃o,s.heap.get? b=some o) (hC:C=s.heap.objs.size+1)
  (hns:∃m,h₁.Ns C m) (keep:∀b o,s.heap.get? b=some o->h₁.get? b=some o) (hacc:∃n,h₁.get? s.heap.objs.size=some { cls:=.type "list",data:=.seq #[] n }) :
  Inv (Bv X N' scope C s H fp) [] (Mc mp σ) (upd H s.heap.objs.size (.lst [])) { s with heap:=h₁,toks:=tk }:=by
 subst hC
 have hcl:∀x∈scope.names,x.2=.free->∃c,X.env.cells.lookup x.1=some c:=λx hx e=>I.ok.has x.1 (ok.free x hx e)
 have sub:∀x c,(Et X.env.cells scope.names []).lookup x=some c->X.env.cells.lookup x=some c:=Il hcl (λx c e=>by simp at e)
 have hlt:∀b∈fp,b < s.heap.objs.size:=λb hb=>let⟨_,e⟩:=hob b hb;Heap.lt_size e
 have hnC:H (s.heap.objs.size+1)=none:=I.hok.fresh (Nat.le_succ _)
 have hnp:H s.heap.objs.size=none:=I.hok.fresh (Nat.le_refl _)
 have fpfs:∀b∈fp,b∉frs X.stack:=λb hb z=>by
  obtain⟨_,f1,f2,_⟩:=hf b hb
  rcases List.mem_cons.mp (I.stkSub b z) with e | e
  ·exact f1 e
  ·exact f2 e
 refine⟨⟨I.ok.mod,hk,I.ok.glob,I.ok.blt,Nat.le_succ _,λx y c e1 e2=>I.ok.inj x y c (sub x c e1) (sub y c e2),λx e=>?_,λx c e=>(nomatch e),I.ok.hd,I.ok.frames,.inl rfl,λb hb=>⟨?_,λx c e=>?_⟩,I.bs,Nat.le_trans I.ok.bsz I.sz,λb o e hb=>?_,fpfs,I.stack,I.stkFree⟩,
  rfl,I.bare,Un.laid keep (Nat.le_refl _) hnp,?_,λx c e=>?_,?_,λx c e=>?_,λp hp=>(nomatch hp),I.hok.laid keep (Nat.le_refl _) ?_,?_⟩
 ·exact Gb (Lc ok.nocell e)
 ·exact Nat.ne_of_lt (Nat.lt_succ_of_lt (hlt b hb))
 ·exact(hf b hb).2.2.2.2.1 x c (sub x c e)
 ·rcases(hf b hb).2.2.2.1 with z | z
  ·exact I.ok.noex b o e z
  ·exact absurd (Nat.lt_of_lt_of_le (Heap.lt_size e) (Nat.le_trans I.ok.bsz z)) (Nat.lt_irrefl _)
 ·obtain⟨m,hm⟩:=hns
  refine⟨m,hm,λi x v e1 e2 e3=>?_⟩
  have e2':(Mc mp σ)[i]?=some (some v):=e2
  unfold Mc at e2'
  rw [List.getElem?_map]at e2'
  cases hmp:mp[i]? with
  | none=>rw [hmp]at e2';cases e2'
  | some o =>
   rw [hmp]at e2'
   cases o with
   | none=>cases e2'
   | some j =>
    have e4:σ[j]?=some (some v):=by
     have q:(σ[j]?).join=some v:=Option.some.inj e2'
     cases hj:σ[j]? with
     | none=>rw [hj]at q;cases q
     | some y=>rw [hj]at q;exact congrArg some q
    obtain⟨a1,a2,a3,a4⟩:=ok.map i j x hmp e1
    obtain⟨m0,hn0,hl0⟩:=I.loc
    obtain⟨u,r,l⟩:=hl0 j x v a1 e4 (a2.elim (λz=>.inr (.inl z)) λz=>.inr (.inr z))
    refine⟨u,r,.inr ⟨?_,?_⟩⟩
    ·exact Lb a4
    ·rcases l with⟨l1,_⟩ | ⟨_,c,l2,l3⟩
     ·have l1:X.env.scope.names.lookup x=some .local:=l1
      rcases a2 with a2 | a2 <;> rw [a2]at l1 <;> cases l1
     ·obtain⟨c',hc'⟩:∃c',(Et X.env.cells scope.names []).lookup x=some c':=Gb a3
      have:c'=c:=Option.some.inj ((sub x c' hc').symm.trans l2)
      subst this
      exact⟨c',hc',l3.keeps keep⟩
 ·obtain⟨v,z⟩:=I.cell x c (sub x c e)
  exact⟨v,z.keeps keep⟩
 ·show upd H s.heap.objs.size (.lst []) (s.heap.objs.size+1)=none
  rw [Bd (Nat.succ_ne_self _)];exact hnC
 ·obtain⟨v,z⟩:=I.cell x c (sub x c e)
  show upd H s.heap.objs.size (.lst []) c=none
  rw [Bd (Nat.ne_of_lt z.lt)];exact I.freeC x c (sub x c e)
 ·obtain⟨n,e⟩:=hacc
  exact⟨Nat.zero_le _,[],n,.nil,e⟩
 ·show(Mc mp σ).length=N'.length
  unfold Mc
  rw [List.length_map,ok.len]
theorem Me{pins:List (Addr×Obj)}{σ:St}{H:Hp}{s:Shared}{it:Addr}{fp:List Addr}{tn:Nat->Heap->Prop}{J:It}{Q:Addr->Hp->Prop}{E:Value->Shared->Prop}{RR:Value->Addr->Result->Shared->Prop}
  (ok:CompOk X.N X.env.scope.names scope.names N' mp) (hk:scope.kind=.function) (hc:X.calm=true) (I:Inv X pins σ H s) (T:Turn X.prog X.w X.K tg J fp it tn) (st:tn 0 s.heap) (hf:∀b∈fp,Ep X pins H b)
  (hg:∀C s H fp,PG (Bv X N' scope C s H fp) tg g) (ht:∀C s H fp,PIfs (Bv X N' scope C s H fp) ifs tst) (he:∀C s H fp,PE (Bv X N' scope C s H fp) elt te)
  (h:∀p,H p=none->Tw p J g tst te (Q p) (Mc mp σ) (upd H p (.lst [])))
  (hRR:∀C s' H',Inv X pins σ H' s'->(∃m,s'.heap.Ns C m)->H' C=none->X.s₀.heap.objs.size<=C->C≠X.env.locals->(∀x c,X.env.cells.lookup x=some c->c≠C)->(∀q∈X.pn++pins,q.1≠C)->Q s.heap.objs.size H'->RR (.ref s.heap.objs.size) C (.ok .next) s') :
  wpAny (model X.prog X.w) X.A (newList []) (λacc s₃=>wpAny (model X.prog X.w) X.A (newFunctionEnv scope X.env.globals (Et X.env.cells scope.names []) [] X.env.qual none .none (some X.env)) (λcenv s₄ =>
   codeAny (model X.prog X.w) X.A (.compStart (.ListComp elt [⟨tg,iter,ifs,0⟩] scope pos) 0 (.ref it) acc { cenv with scope:=relabel scope X.env }) (RR acc cenv.locals) s₄) E s₃) E s:=by
 refine wpAny_newObj_type (wpAny_newFunctionEnv ok.nocell (by intro y hy;simp at hy) (λh₁ hns₁ hsb₁=>?_) hk)
 dsimp only at hns₁ hsb₁ ⊢
 generalize hH2:s.heap.push { cls:=.type "list",dict:=none,data:=.seq ([]:List Value).toArray }=H2 at hns₁ hsb₁ ⊢
 have hC:H2.objs.size=s.heap.objs.size+1:=by rw [<- hH2,Heap.size_push]
 have keep:∀b o,s.heap.get? b=some o->h₁.get? b=some o:=λb o e =>
  hsb₁.extBut b o (by rw [hC];exact Nat.ne_of_lt (Nat.lt_succ_of_lt (Heap.lt_size e))) (Heap.get?_push_of_some _ (hH2 ▸ Heap.get?_push_of_some _ e))
 have hacc:∃n,h₁.get? s.heap.objs.size=some { cls:=.type "list",data:=.seq #[] n } :=
  ⟨_,hsb₁.extBut _ _ (by rw [hC];exact Nat.ne_of_lt (Nat.lt_succ_self _)) (Heap.get?_push_of_some _ (hH2 ▸ Heap.get?_push_size _ rfl))⟩
 have hob:∀b∈fp,∃o,s.heap.get? b=some o:=λb hb=>let⟨o,e,_⟩:=T.obj _ _ st b hb;⟨o,e⟩
 have hltC:s.heap.objs.size<=H2.objs.size:=by rw [hC];exact Nat.le_succ _
 have I0:=I.comp0 (tn:=tn 0) (C:=H2.objs.size) (tk:=s.toks+([]:List (Str×Value)).length) ok hk hf hob hC ⟨_,hns₁⟩ keep hacc
 have st0:tn 0 h₁:=T.keep _ _ _ st λb hb o e=>keep b o e
 obtain⟨W,⟨m0,w0⟩,turn⟩:=h _ (I.hok.fresh (Nat.le_refl _))
 have fpfs:∀b∈fp,b∉frs X.stack:=I0.ok.exfs
 have stat:∀{H':Hp},(∀b∈fp,H' b=none)->∀b∈fp,Ep (Bv X N' scope H2.objs.size s H fp) [] H' b:=λhn b hb =>
  ⟨hn b hb,(I0.ok.exf b hb).1,fpfs b hb,.inl hb,(I0.ok.exf b hb).2,λq hq=>(nomatch hq)⟩
 have loop:∀s₃:Shared,s₃={ s with heap:=h₁,toks:=s.toks+([]:List (Str×Value)).length } ->
   codeAny (model X.prog X.w) X.A (.compLoop (.ListComp elt [⟨tg,iter,ifs,0⟩] scope pos) 0 (.ref it) (.ref s.heap.objs.size) (compEnvC scope (Et X.env.cells scope.names []) H2.objs.size X.env)) (RR (.ref s.heap.objs.size) H2.objs.size) s₃:=by
  rintro s₃ rfl
  refine Mb (λn s'=>∃i acc σ' H',Inv (Bv X N' scope H2.objs.size s H fp) [] σ' H' s'/\tn i s'.heap/\(∀b∈fp,H' b=none)/\W i n acc σ' H') ?_ m0
   ⟨0,[],_,_,I0,st0,λb hb=>by rw [Bd (Nat.ne_of_lt (let⟨_,e⟩:=hob b hb;Heap.lt_size e))];exact(hf b hb).1,w0⟩
  rintro n s3 ⟨i,acc,σ3,H3,I3,st3,fr3,w3⟩
  rcases turn i n acc σ3 H3 w3 with⟨stop,qn⟩ | ⟨go,N,hN,step⟩
  ·refine thn (T.done (Bv X N' scope H2.objs.size s H fp) rfl rfl rfl hc i [] s3 σ3 H3 _ I3 (stat fr3) st3 stop) λr s4 ⟨hr,I4⟩=>?_
   subst hr
   refine hRR _ s4 H3 ?_ (let⟨m,hm,_⟩:=I4.loc;⟨m,hm⟩) I4.free (Nat.le_trans I.sz hltC) (Nat.ne_of_gt (Nat.lt_of_lt_of_le I.lt hltC)) (λx c e=>?_) (λq hq=>?_) qn
   ·exact I.call' I4.os I4.base I4.hok I4.bare λb hb=>let⟨_,f1,_,f3,f4,f5⟩:=hf b hb;⟨f3,f1,f4,f5⟩
   ·obtain⟨v,z⟩:=I.cell x c e
    exact Nat.ne_of_lt (Nat.lt_of_lt_of_le z.lt hltC)
   ·exact Nat.ne_of_lt (Nat.lt_of_lt_of_le (Heap.lt_size (I.pin q hq).1) hltC)
  ·refine thn (T.item (Bv X N' scope H2.objs.size s H fp) rfl rfl rfl hc i [] s3 σ3 H3 _ I3 (stat fr3) st3 go) λr s4 ⟨u,hr,h4⟩=>?_
   subst hr
   refine thn h4 λ_ s5 zz529=>?_
   obtain⟨x,H5,I5,r5,y5,st5,fr5⟩:=zz529
   have I5':=I5.pinned (stat fr5) (T.obj _ _ st5)
   refine thn (hg _ _ _ _ _ s5 σ3 H5 x u _ I5' r5 (step x H5 y5)) λ_ s6 zz530=>?_
   obtain⟨σ6,H6,I6,q6⟩:=zz530
   refine thn (ht _ _ _ _ _ s6 σ6 H6 _ I6 q6) λb s7 ⟨H7,I7,q7⟩=>?_
   have again:∀{σ8:St} {H8:Hp} {acc8:List V} {s8:Shared},Inv (Bv X N' scope H2.objs.size s H fp) ([]++Ie fp s5.heap) σ8 H8 s8->(∃m',m' < n/\W (i+1) m' acc8 σ8 H8) ->
     ∃m,m < n/\∃i acc σ' H',Inv (Bv X N' scope H2.objs.size s H fp) [] σ' H' s8/\tn i s8.heap/\(∀b∈fp,H' b=none)/\W i m acc σ' H':=λ{σ8 H8 acc8 s8} I8 hw=>by
    obtain⟨m',hm,w8⟩:=hw
    refine⟨m',hm,i+1,acc8,σ8,H8,I8.unpinned,T.keep _ _ _ st5 λb hb o e=>(I8.pin (b,o) (List.mem_append_right _ (List.mem_append_right _ (Eh hb e)))).1,λb hb=>?_,w8⟩
    obtain⟨o,e,d⟩:=T.obj _ _ st5 b hb
    exact(I8.pin (b,o) (List.mem_append_right _ (List.mem_append_right _ (Eh hb e)))).2.1
   cases b with
   | false =>
    rw [if_neg Bool.false_ne_true]
    rw [if_neg Bool.false_ne_true]at q7
    exact again I7 (hN _ _ _ q7)
   | true =>
    rw [if_pos rfl]
    rw [if_pos rfl]at q7
    refine thn (he _ _ _ _ _ s7 σ6 H7 _ I7 q7) λy s8 zz531=>?_
    obtain⟨v,H8,I8,r8,ac,e8,z8,w8⟩:=zz531
    refine thn (J2 (X:=Bv X N' scope H2.objs.size s H fp) _ s8 σ6 H8 (.ref s.heap.objs.size) [v] (.ref s.heap.objs.size) [y] (λ_ H9=>H9=upd H8 s.heap.objs.size (.lst (ac++[v]))) I8 rfl (.cons r8 .nil) ⟨_,ac,v,rfl,rfl,e8,z8,rfl⟩) λ_ s9 zz532=>?_
    obtain⟨_,H9,I9,_,e9⟩:=zz532
    subst e9
    exact again I9 (hN _ _ _ w8)
 exact codeAny_compStart_list (loop _ rfl) (T.self _ 0 _ _ _ st0 (loop _ rfl))
theorem Inv.letgo{pins:List (Addr×Obj)}{σ:St}{H:Hp}{s:Shared}{C:Addr}{h':Heap}(I:Inv X pins σ H s)(hn:H C=none)(h1:X.s₀.heap.objs.size<=C)(hL:C≠X.env.locals)(h2:∀x c,X.env.cells.lookup x=some c->c≠C)
  (h3:∀q∈X.pn++pins,q.1≠C) (hs:Heap.SameBut C s.heap h'):Inv X pins σ H { s with heap:=h' } :=
 I.turned (t':=s.toks) (λb o hb e=>(hs.2 b hb).trans e) hn hL (.inr h1) h2 h3
theorem Xe(hc:X.calm=true)(hi:PI X tg iter wi)(hg:∀C s H fp,PG (Bv X N' scope C s H fp) tg g)(ht:∀C s H fp,PIfs (Bv X N' scope C s H fp) ifs tst)(he:∀C s H fp,PE (Bv X N' scope C s H fp) elt te)
  (ok:CompOk X.N X.env.scope.names scope.names N' mp) (hk:scope.kind=.function:=by rfl) (hs:∀x,foldedSetIterable iter X.env x=pure x:=by intro _;rfl) :
  PE X (.ListComp elt [⟨tg,iter,ifs,0⟩] scope pos) (Tx mp wi g tst te):=by
 intro pins s σ H Q I h
 rw [eval_ListComp]
 refine wpAny_comprehension_free (use:=none) rfl hs (Fm λx hx e=>I.ok.has x.1 (ok.free x hx e)) hk ok.loc (thn (hi pins s σ H _ I h) λv s1 h1=>thn h1 λitv s2 h2=>?_)
 obtain⟨it,fp,tn,J,H2,e,I2,T,st2,f2,hw⟩:=h2
 subst e
 refine Me (Q:=λp H'=>Q (.ref p) H') (RR:=λacc C=>compPost (model X.prog X.w) X.A X.xe none (EP X pins σ Q) acc C) ok hk hc I2 T st2 f2 hg ht he hw ?_
 intro C s' H' I' hns hn h1 hL hcl hpin q
 obtain⟨m,hm⟩:=hns
 exact⟨m,hm,λh' hs'=>⟨.ref s2.heap.objs.size,H',I'.letgo hn h1 hL hcl hpin hs',rfl,q⟩⟩
theorem Xf{i:Nat}{y:Str}{py spos:Pos}(hc:X.calm=true)(hN:X.N.Nodup)(hi':X.N[i]?=some y)(hy:X.env.scope.names.lookup y=some .local)
  (hi:PI X tg iter wi) (hg:∀C s H fp,PG (Bv X N' scope C s H fp) tg g) (ht:∀C s H fp,PIfs (Bv X N' scope C s H fp) ifs tst) (he:∀C s H fp,PE (Bv X N' scope C s H fp) elt te)
  (ok:CompOk X.N X.env.scope.names scope.names N' mp) (hsw:swapsWith (.ListComp elt [⟨tg,iter,ifs,0⟩] scope pos) (some (.Name y py)) spos.line X.env=pure true:=by rfl)
  (hk:scope.kind=.function:=by rfl) (hs:∀x,foldedSetIterable iter X.env x=pure x:=by intro _;rfl) :
  PS X (.Assign [.Name y py] (.ListComp elt [⟨tg,iter,ifs,0⟩] scope pos) spos) (Ws (Tx mp wi g tst te) (Te i)):=by
 intro pins s σ H D I h
 rw [exec_Assign_Name_used _ _ _ _ hsw]
 refine wpAny_bind (wpAny_standAt (wpAny_bind ?_))
 show wpAny _ _ (do let _ <- comprehension (.ListComp elt [⟨tg,iter,ifs,0⟩] scope pos) scope X.env _ (newList []) false (eval iter X.env) (some (assign (.Name y py) X.env))) _ _ s
 refine wpAny_bind (wpAny_mono (wpAny_comprehension_free (use:=some (assign (.Name y py) X.env)) (Q:=λ_ s'=>SP X pins D .next s') rfl hs (Fm λx hx e=>I.ok.has x.1 (ok.free x hx e)) hk ok.loc
  (thn (hi pins s σ H _ I h) λv s1 h1=>thn h1 λitv s2 h2=>?_)) (λ_ s' hq=>wpAny_pure (wpAny_pure hq)) λ_ _ e=>e)
 obtain⟨it,fp,tn,J,H2,e,I2,T,st2,f2,hw⟩:=h2
 subst e
 refine Me (Q:=λp H'=>D.nx (σ.set i (some (.ref p))) H') (RR:=λacc C=>compPost (model X.prog X.w) X.A X.xe (some (assign (.Name y py) X.env)) (λ_ s'=>SP X pins D .next s') acc C) ok hk hc I2 T st2 f2 hg ht he hw ?_
 intro C s' H' I' hns hn h1 hL hcl hpin q
 obtain⟨m,hm⟩:=hns
 show wpAny _ _ (assign (.Name y py) X.env (.ref s2.heap.objs.size)) _ _ s'
 refine wpAny_assign_Name (Jx I' hN hi' (.inl hy) (v:=.ref s2.heap.objs.size) rfl (λs'' I'' hch=>?_) (.inr hy))
 obtain⟨a,hsb,ha⟩:=hch
 have hCa:C≠a:=by
  rcases ha with rfl | ha
  ·exact hL
  ·exact(hcl _ _ ha).symm
 refine⟨m,hm.sameBut hsb hCa,λh' hs'=>?_⟩
 exact⟨_,H',I''.letgo hn h1 hL hcl hpin hs',q⟩
end
section
variable {K:PySem.W.Frag}{a p:Addr}{xs:List V}{g:TG}{tst:TT}{te:TE}{Q:Hp->Prop}{σ:St}{H:Hp}
theorem Xg{J:It}(n:Nat)(Pv:Nat->List V->St->Hp->Prop)(h0:Pv 0 [] σ H)
  (hgo:∀i acc σ H,i < n->Pv i acc σ H->J.go i H) (hstop:∀acc σ H,Pv n acc σ H->J.stop n H/\Q H)
  (hs:∀i x acc σ H H2,i < n->Pv i acc σ H->J.yld i H x H2->g x σ H2 fun σ3 H3=>tst σ3 H3 λb H4 =>
   if b=true then te σ3 H4 λv H5=>∃ac,H5 p=some (.lst ac)/\ac.length < sizeLine/\Pv (i+1) (ac++[v]) σ3 (upd H5 p (.lst (ac++[v]))) else Pv (i+1) acc σ3 H4) :
  Tw p J g tst te Q σ H:=by
 refine⟨λi m acc σ H=>m=n - i/\i<=n/\Pv i acc σ H,⟨n,by simp,Nat.zero_le _,h0⟩,?_⟩
 rintro i m acc σ H ⟨rfl,hi,pv⟩
 by_cases hlt:i < n
 ·exact .inr ⟨hgo i acc σ H hlt pv,Pv (i+1),λacc σ H q=>⟨n - (i+1),by omega,rfl,hlt,q⟩,λx H2 y=>hs i x acc σ H H2 hlt pv y⟩
 ·have e:i=n:=by omega
  subst e
  exact .inl (hstop acc σ H pv)
end
section
variable {X:Cx}
def Qip:V->Option Int->Option Int->Hp->VK->Prop:=λx lo hi H Q=>∃z,x=.str z/\z.length<=sizeLine/\Q (.str (Txt.slice z lo hi)) H
theorem Qbp:SlR X Qip:=by
 intro pins s σ H x v vl vu lo hi sl Q I rx hs pl pu h
 obtain⟨z,rfl,hz,q⟩:=h
 obtain⟨t,rfl⟩:=rx
 refine⟨"str",_,F.slot_str_getitem.lookup,typeIs_str _ _ _,?_⟩
 have fin:∀t' k,EP X pins σ Q (.str (Txt.slice z lo hi) t') { s with toks:=k }:=λt' k=>⟨.str _,H,I.tok _,⟨_,rfl⟩,q⟩
 cases pl with
 | none =>
  cases pu with
  | none=>exact wpAny_getItem_str_slice (l:=none) (u:=none) (st:=none) hs rfl (post_val_or_str ⟨Nat.le_trans (Txt.slice_le z _ _) hz,fin⟩)
  | int j tj=>exact wpAny_getItem_str_slice (l:=none) (u:=some (j,tj)) (st:=none) hs rfl (post_val_or_str ⟨Nat.le_trans (Txt.slice_le z _ _) hz,fin⟩)
 | int i ti =>
  cases pu with
  | none=>exact wpAny_getItem_str_slice (l:=some (i,ti)) (u:=none) (st:=none) hs rfl (post_val_or_str ⟨Nat.le_trans (Txt.slice_le z _ _) hz,fin⟩)
  | int j tj=>exact wpAny_getItem_str_slice (l:=some (i,ti)) (u:=some (j,tj)) (st:=none) hs rfl (post_val_or_str ⟨Nat.le_trans (Txt.slice_le z _ _) hz,fin⟩)
theorem Ty(hc:X.calm=true):Fk X (.builtin "all") (λxs H Q=>∃(p:Addr) (bs:List Bool),xs=[.ref p]/\D5 X.K H p (bs.map V.bl)/\Q (.bl (bs.all id)) H):=by
 intro pins s σ H xs us Q I r h
 obtain⟨p,bs,rfl,hq,q⟩:=h
 obtain⟨u,rfl,rx⟩:=Fz r
 cases rx
 obtain⟨its,r',pl,hz⟩:=I.list hq
 have hlen:=r'.length
 rw [List.length_map]at hlen
 refine call_all_walk (wpAny_pyIter_list pl.isList ?_)
 have hne:p≠s.heap.objs.size:=Nat.ne_of_lt (let⟨_,ho,_⟩:=pl.isList;Heap.lt_size ho)
 refine⟨s.heap.objs.size,_,_,_,_,_,λi=>bs.getD i true,rfl,Walks.list (show X.A.in1.handled=none from I.ok.hd hc) s.heap.objs.size p hne its.toArray,?_,?_,λh' tk k=>?_⟩
 ·exact⟨⟨_,Heap.get?_push_size _ rfl,rfl,rfl⟩,pl.isList.at λo e=>Heap.get?_push_of_some _ e⟩
 ·intro i v s' Q' E' hP hQ'
  have hv:its[i]?=some v:=by simpa using hP
  have hi:i < bs.length:=by rw [hlen];exact(List.getElem?_eq_some_iff.mp hv).1
  obtain⟨u,hu,ru⟩:=r'.get (i:=i) (x:=V.bl bs[i]) (by simp [hi])
  rw [hv]at hu
  cases hu
  cases (show v=Value.bool bs[i] from ru)
  refine wpAny_truthy_bool ?_
  have e:bs.getD i true=bs[i]:=by simp [hi]
  have hQ2:Q' (bs.getD i true) s':=hQ'
  rw [e]at hQ2
  exact hQ2
 ·have e:(List.range its.toArray.size).all (λi=>bs.getD i true)=bs.all id:=by
   rw [List.size_toArray,<- hlen]
   rw [Bool.eq_iff_iff,List.all_eq_true,List.all_eq_true]
   constructor
   ·intro a x hx
    obtain⟨i,hi,rfl⟩:=List.mem_iff_getElem.mp hx
    have:=a i (List.mem_range.mpr hi)
    simpa [hi] using this
   ·intro a i hi
    have hi:=List.mem_range.mp hi
    have:=a bs[i] (List.getElem_mem hi)
    simpa [hi] using this
  rw [e]
  exact⟨.bl _,H,I.kept λb o e=>k b o (by
   intro hb
   have:b=s.heap.objs.size:=by simpa using hb
   exact absurd (Heap.lt_size e) (by rw [this];exact Nat.lt_irrefl _)) (Heap.get?_push_of_some _ e),rfl,q⟩
theorem Od{ys:List Str}{us:List Value}(h:Vals (ys.map V.str) us):StrsAre us ys:=by
 induction ys generalizing us with
 | nil=>cases h;exact .nil
 | cons y ys ih =>
  cases h with
  | cons r t =>
   obtain⟨tk,rfl⟩:=r
   exact .cons y tk (ih t)
theorem Xh:MtR X "str.join" (λx xs H Q=>∃z p ys,x=.str z/\xs=[.ref p]/\D5 X.K H p (ys.map V.str)/\(ys.map (·.length)).sum+ys.length * z.length<=16777216/\Q (.str (Txt.join z ys)) H):=by
 intro pins s σ H x xs v us Q I rx r h
 obtain⟨z,p,ys,rfl,rfl,hq,hz,q⟩:=h
 obtain⟨t,rfl⟩:=rx
 obtain⟨u,rfl,ru⟩:=Fz r
 cases ru
 obtain⟨its,r',pl,_⟩:=I.list hq
 exact join_list pl.isList (Od (by simpa using r')) hz λt' k=>⟨.str _,H,I.tok _,⟨_,rfl⟩,q⟩
def Its(x:Str):It:=⟨λi _=>i < x.cps.size,λi H v H'=>H'=H/\∃c,x.cps[i]?=some c/\v=.str ⟨#[c]⟩,λi _=>i=x.cps.size⟩
theorem Tz{P:Program}{w:World}{K:PySem.W.Frag}{tg:Expr}(it:Addr)(x:Str)(t:Tok)(n:String)(hn:n = "str_ascii_iterator" \/ n = "str_iterator") :
  Turn P w K tg (Its x) [it] it (λi h=>h.IsStrIter it n x t i) where
 mem:=by simp
 obj:=λi h st b hb=>by
  have e:b=it:=by simpa using hb
  subst e
  obtain⟨o,e,c,d⟩:=st
  exact⟨o,e,λv z=>by rw [d]at z;cases z⟩
 keep:=λi h h' st k=>let⟨o,ho,r⟩:=st;⟨o,k it (by simp) o ho,r⟩
 item:=by
  intro X hP hw hK hc i pins s σ H E I hf st hg
  subst hP hw hK
  obtain⟨f0,f1,f2,f3,f4,f5⟩:=hf it (by simp)
  have hg:i < x.cps.size:=hg
  have W:Walks X.prog X.w X.A it [it] [it] x.cps.size (SignAt x) (λi h=>h.IsStrIter it n x t i):=by
   rcases hn with rfl | rfl
   ·exact Walks.strAscii (I.ok.hd hc) it x t
   ·exact Walks.strWide (I.ok.hd hc) it x t
  refine W.item i s _ _ hg st λv h' tk hv st' kk=>?_
  obtain⟨c,u,hcx,rfl⟩:=hv
  have I1:Inv X pins σ H { s with heap:=h',toks:=tk }:=I.turned (λb o hb e=>kk b o (by simpa using hb) e) f0 f1 f3 f4 f5
  obtain⟨o,e,oc,od⟩:=id st'
  refine⟨_,rfl,Pi (s:={ s with heap:=h',toks:=tk }) (n:=n) e oc od (by rcases hn with rfl | rfl <;> decide) ⟨.str ⟨#[c]⟩,H,I1,⟨u,rfl⟩,⟨rfl,c,hcx,rfl⟩,st',λb hb=>(hf b hb).1⟩⟩
 done:=by
  intro X hP hw hK hc i pins s σ H E I hf st hg
  subst hP hw hK
  obtain⟨f0,f1,f2,f3,f4,f5⟩:=hf it (by simp)
  have hg:i=x.cps.size:=hg
  subst hg
  have W:Walks X.prog X.w X.A it [it] [it] x.cps.size (SignAt x) (λi h=>h.IsStrIter it n x t i):=by
   rcases hn with rfl | rfl
   ·exact Walks.strAscii (I.ok.hd hc) it x t
   ·exact Walks.strWide (I.ok.hd hc) it x t
  exact W.done s _ _ st λh' tk kk=>⟨rfl,I.turned (t':=tk) (λb o hb e=>kk b o (by simpa using hb) e) f0 f1 f3 f4 f5⟩
 self:=λA i s Q E st h=>by
  rcases hn with rfl | rfl
  ·exact wpAny_pyIter_striter_ascii st h
  ·exact wpAny_pyIter_striter_wide st h
def Qiq(tl:TE):TI:=fun σ H R=>tl σ H λx H1=>∃z,x=.str z/\R (Its z) H1
theorem Qbq{tg l:Expr}{tl:TE}(hl:PE X l tl):PI X tg l (Qiq tl):=by
 intro pins s σ H R I h
 refine thn (hl pins s σ H _ I h) λv s1 zz533=>?_
 obtain⟨x,H1,I1,r1,q1⟩:=zz533
 obtain⟨z,e,q⟩:=q1
 subst e
 obtain⟨t,rfl⟩:=r1
 refine wpAny_pyIter_strU ?_
 refine⟨s1.heap.objs.size,[s1.heap.objs.size],_,_,H1,rfl,I1.kept (t':=s1.toks) λb o e=>Heap.get?_push_of_some _ e,Tz _ z t (strIterType z) (by unfold strIterType;split <;> simp),⟨_,Heap.get?_push_size _ rfl,rfl,rfl⟩,λb hb=>?_,q⟩
 have e:b=s1.heap.objs.size:=by simpa using hb
 subst e
 exact I1.fpOk (Nat.le_refl _) (I1.hok.fresh (Nat.le_refl _))
end
section
variable {H H':Hp}{d l p:Addr}{s n:Int}{ns:List Int}{o:HO}
end
theorem seven{n:Nat}(h:n<=1000):n<=sizeLine:=Nat.le_of_lt (A5 h)
end L2
namespace PySem
open Sem (wp)
open AutoSeq1 (wpAny_loadPart')
set_option maxRecDepth 100000
section
variable {prog:Program}{w:World}{A:Around}{E:Value->Shared->Prop}{s:Shared}
theorem Eu{it t:Addr}{i:Nat}{items}{x:Value}{Q:Value->Shared->Prop}(hit:s.heap.IsTupleIter it t i)
  (ht:s.heap.IsTuple t items) (hx:items[i]?=some x)
  (hQ:∀h',h'.IsTupleIter it t (i+1)->Heap.SameBut it s.heap h'->Q x { s with heap:=h' }) :
  wpAny (model prog w) A (Builtin.SmallTypes.nextOf (.ref it)) Q E s:=by
 obtain⟨o,ho,hc,hd⟩:=id hit
 obtain⟨ol,hol,_,nl,hdl⟩:=ht
 unfold Builtin.SmallTypes.nextOf
 refine wpAny_bind (wpAny_callSpecial?_slot (name:=Str.ofString "__next__") hit.typeIs F.slot_tuple_iterator_next
  (wpAny_call_entry F.slot_tuple_iterator_next hit.typeIs F.entry_tuple_iterator_next ?_ (F.args_tuple_iterator_next_1 _)))
 show wpAny _ _ (field (.ref it) 0 >>= _) _ _ s
 refine wpAny_bind (wpAny_field ho hd (x:=.ref t) rfl ?_)
 show wpAny _ _ (if(Value.ref t==Value.none)=true then _ else _) _ _ s
 rw [if_neg (show ¬((Value.ref t==Value.none)=true) from Bool.false_ne_true)]
 show wpAny _ _ (field (.ref it) 1 >>= _) _ _ s
 refine wpAny_bind (wpAny_field ho hd (x:=.int i 0) rfl ?_)
 show wpAny _ _ (seqItems? (.ref t) >>= _) _ _ s
 refine wpAny_bind (wpAny_seqItems hol hdl ?_)
 simp only [Int.toNat_natCast,hx]
 refine wpAny_bind (wpAny_setField ho hd (by simp) (wpAny_pure ⟨x,rfl,wpAny_pure (hQ _ ?_ (Heap.SameBut.update ..))⟩))
 exact⟨_,Heap.get?_update_self _ ho (Obj.isFreed_of_fields (Obj.data_mapFields hd _)),(Obj.cls_mapFields ..).trans hc,by
  rw [Obj.data_mapFields hd];simp [rawInt]⟩
theorem Fh{it t:Addr}{i:Nat}{items}{Q:Value->Shared->Prop}(hh:A.handled=none)
  (hit:s.heap.IsTupleIter it t i) (ht:s.heap.IsTuple t items) (hx:items[i]?=none)
  (hE:∀h' e,Heap.ExtBut it s.heap h'->(∃o,h'.get? e=some o/\o.cls=.type "StopIteration")->E (.ref e) { s with heap:=h' }) :
  wpAny (model prog w) A (Builtin.SmallTypes.nextOf (.ref it)) Q E s:=by
 obtain⟨o,ho,hc,hd⟩:=id hit
 obtain⟨ol,hol,_,nl,hdl⟩:=ht
 unfold Builtin.SmallTypes.nextOf
 refine wpAny_bind (wpAny_callSpecial?_slot (name:=Str.ofString "__next__") hit.typeIs F.slot_tuple_iterator_next
  (wpAny_call_entry F.slot_tuple_iterator_next hit.typeIs F.entry_tuple_iterator_next ?_ (F.args_tuple_iterator_next_1 _)))
 show wpAny _ _ (field (.ref it) 0 >>= _) _ _ s
 refine wpAny_bind (wpAny_field ho hd (x:=.ref t) rfl ?_)
 show wpAny _ _ (if(Value.ref t==Value.none)=true then _ else _) _ _ s
 rw [if_neg (show ¬((Value.ref t==Value.none)=true) from Bool.false_ne_true)]
 show wpAny _ _ (field (.ref it) 1 >>= _) _ _ s
 refine wpAny_bind (wpAny_field ho hd (x:=.int i 0) rfl ?_)
 show wpAny _ _ (seqItems? (.ref t) >>= _) _ _ s
 refine wpAny_bind (wpAny_seqItems hol hdl ?_)
 simp only [Int.toNat_natCast,hx]
 refine wpAny_bind (wpAny_rule (wpAny_bind (wpAny_setField ho hd (by simp) ?_)))
 show wpAny _ _ (newExc (.type "StopIteration") [] >>= _) _ _ _
 refine wpAny_bind ?_
 simp only [newExc,newTuple]
 refine wpAny_bind (wpAny_newObj_type ?_ (by size_fits))
 refine wpAny_bind (m:=firstArgMember _ _) (wpAny_of_eq (a:=Value.none) (by first | rfl | (simp only [firstArgMember];rfl)) ?_)
 refine wpAny_newObj_type ?_ (by size_fits)
 simp only [raiseNew]
 refine wpAny_bind (wpAny_handled ?_)
 first | rw [show A.in1.handled=none from hh] | rw [hh]
 refine wpAny_bind (wpAny_pure (wpAny_throw ?_))
 exact hE _ _ (((Heap.SameBut.update ..).extBut.push _).push _) ⟨_,Heap.get?_push_size _ rfl,rfl⟩
end
theorem Dg{prog:Program}{w:World}{A:Around}(hh:A.handled=none)(it l:Addr)(hne:l≠it)(items:Array Value) :
  Draws prog w A it [it,l] items.size (λi v=>items[i]?=some v) (λi h=>h.IsTupleIter it l i/\h.IsTuple l items) where
 live:=λ_ _ st=>let⟨o,ho,_⟩:=st.1;⟨o,ho⟩
 frame:=λ_ _ _ st hk=>⟨st.1.at λo e=>hk it (by simp) o e,st.2.at λo e=>hk l (by simp) o e⟩
 item:=λi s Q E hi st hQ=>by
  refine Eu st.1 st.2 (x:=items[i]) (by simp [hi]) λh' hit' hs'=>?_
  exact hQ _ h' s.toks (by simp [hi]) ⟨hit',st.2.extBut hs'.extBut hne⟩ hs'
 done:=λs Q E st hE=>Fh hh st.1 st.2 (by simp) hE
theorem Fi(l:Addr)(items:Array Value)(n:Nat)(dct:Option Addr)(sl:Array (Option Value)) :
  Meets (Builtin.«enumerate.__new__» ⟨[.type "enumerate",.ref l],[]⟩) (λ_ R s=>s.heap.get? l=some { cls:=.type "tuple",dict:=dct,data:=.seq items n,slots:=sl } /\
   R (.ok (.ret (.ref (s.heap.push { cls:=.type "tuple_iterator",data:=.fields #[.ref l,.int 0 0] }).objs.size)))
    { s with heap:=(s.heap.push { cls:=.type "tuple_iterator",data:=.fields #[.ref l,.int 0 0] }).push { cls:=.type "enumerate",data:=.fields #[.none,.bool false,.ref s.heap.objs.size,rawInt 0,.none,.none] } }) :=
 .of_wp λprog w A R s h=>by
  obtain⟨hp,g,d,tk,os⟩:=s;obtain⟨hl,h⟩:=h
  have hsub:=sub_enumerate
  have hL:Heap.IsTuple (Shared.heap ⟨hp,g,d,tk,os⟩) l items:=⟨_,hl,rfl,n,rfl⟩
  wp_walk using wpAny_loadPart' hl
  refine wpAny_stack_any λst=>wpAny_pure ?_
  split
  ·rename_i c _ _ _ _ _
   cases (c==Value.type "enumerate")
   ·wp_walk using wpAny_loadPart' hl,wpAny_pyIter_tuple hL
    exact⟨_,rfl,h⟩
   ·wp_walk using wpAny_loadPart' hl,wpAny_pyIter_tuple hL
    exact⟨_,rfl,h⟩
  ·wp_walk using wpAny_loadPart' hl,wpAny_pyIter_tuple hL
   exact⟨_,rfl,h⟩
section
variable {prog:Program}{w:World}{A:Around}{E:Value->Shared->Prop}{s:Shared}
theorem Fq{l:Addr}{items:Array Value}{Q:Value->Shared->Prop}(hL:s.heap.IsTuple l items)
  (h:∀h',IsEnum h' (s.heap.objs.size+1) s.heap.objs.size 0 .none->h'.IsTupleIter s.heap.objs.size l 0->h'.objs.size=s.heap.objs.size+2 ->
   (∀b o,s.heap.get? b=some o->h'.get? b=some o)->Q (.ref (s.heap.objs.size+1)) { s with heap:=h' }) :
  wpAny (model prog w) A (call (.type "enumerate") [.ref l]) Q E s:=by
 obtain⟨⟨c,dct,dt,sl⟩,hl,hc,n,hd⟩:=hL
 replace hc:c=.type "tuple" := hc
 replace hd:dt=.seq items n:=hd
 subst hc hd
 refine callType_new F.called_enumerate (by decide) (F.typeCall_enumerate_1 _) (F.newCall_enumerate_1 _) (λobj=>F.args_object_init_2 obj _) F.entry_enumerate_new
  (Fi l items n dct sl) ⟨hl,?_⟩
 have hz:(s.heap.push { cls:=.type "tuple_iterator",data:=.fields #[.ref l,.int 0 0] }).objs.size=s.heap.objs.size+1:=Heap.size_push ..
 show _/\_
 rw [hz]
 have he:IsEnum ((s.heap.push { cls:=.type "tuple_iterator",data:=.fields #[.ref l,.int 0 0] }).push
   { cls:=.type "enumerate",data:=.fields #[.none,.bool false,.ref s.heap.objs.size,rawInt 0,.none,.none] }) (s.heap.objs.size+1) s.heap.objs.size 0 .none:=by
  have:=Heap.get?_push_size (s.heap.push { cls:=.type "tuple_iterator",data:=.fields #[.ref l,.int 0 0] })
   (o:={ cls:=.type "enumerate",data:=.fields #[.none,.bool false,.ref s.heap.objs.size,rawInt 0,.none,.none] }) rfl
  rw [hz]at this;exact this
 refine⟨⟨_,he,rfl⟩,h _ he ⟨_,Heap.get?_push_of_some _ (Heap.get?_push_size _ rfl),rfl,rfl⟩ (by rw [Heap.size_push,hz]) λb o x=>Heap.get?_push_of_some _ (Heap.get?_push_of_some _ x)⟩
end
end PySem
namespace L2
open PySem PySem.Spec PyProof.Rows
def Fr(ds:List PyData)(lo hi:Option Int):List PyData:=(ds.drop (HT.sIx ds.length 0 lo)).take (HT.sIx ds.length ds.length hi - HT.sIx ds.length 0 lo)
section
variable {X:Cx}{k:Nat}
noncomputable def N4(h:Heap)(e:PyData)(u:Value):Bool:=@decide (∃d as,Reads h u d as/\d.canLay0=true/\PyData.eqv d e=true) (Classical.propDecidable _)
theorem Qbr{h:Heap}{e d:PyData}{u:Value}{as:List Addr}(r:Reads h u d as)(c:d.canLay0=true):N4 h e u=PyData.eqv d e:=by
 unfold N4
 cases q:PyData.eqv d e with
 | true=>exact @decide_eq_true _ (Classical.propDecidable _) ⟨d,as,r,c,q⟩
 | false =>
  refine @decide_eq_false _ (Classical.propDecidable _) λzz536=>?_
  obtain⟨d',as',r',_,q'⟩:=zz536
  rw [SeqAt.Reads.unique d d' u as as' c r r',q']at q
  cases q
theorem D7{A:Around}{s:Shared}{e:PyData}{v:Value}{bs:List Addr}(rv:Reads s.heap v e bs)(ce:e.canLay0=true)(hu:A.units+64 < cLine):∀{ds:List PyData} {us:List Value} {as:List Addr},ReadsAll s.heap us ds as ->
  PyData.canLayAll0 ds=true->PyData.depthAll ds<=64->(∀u∈us,SeqAt.EqAt A s u v (N4 s.heap e u))/\us.any (N4 s.heap e)=ds.any λd=>PyData.eqv d e
 | [],_,_,r,_,_=>by
  cases r
  exact⟨(λ_ z=>nomatch z),rfl⟩
 | d :: ds,_,_,r,c,dp=>by
  cases r with
  | cons r1 r2 =>
   simp only [PyData.canLayAll0,Bool.and_eq_true]at c
   simp only [PyData.depthAll]at dp
   obtain⟨i1,i2⟩:=D7 rv ce hu r2 c.2 (by omega)
   have e1:=Qbr (e:=e) r1 c.1
   refine⟨λu hu'=>?_,?_⟩
   ·rcases List.mem_cons.mp hu' with rfl | z
    ·rw [e1]
     exact SeqAt.eqAt_reads d e A s _ v _ _ r1 rv c.1 ce (by omega)
    ·exact i1 u z
   ·rw [List.any_cons,List.any_cons,e1,i2]
end
section
variable {X:Cx}{pins:List (Addr×Obj)}{σ:St}{H:Hp}{s:Shared}{h':Heap}
theorem Inv.turnedL{t':Nat}{fp:List Addr}(I:Inv X pins σ H s)(k:∀b o,b∉fp->s.heap.get? b=some o->h'.get? b=some o)(hf:∀b∈fp,Ep X pins H b):Inv X pins σ H { s with heap:=h',toks:=t' }:=by
 have nit:∀b u,H b=some u->b∉fp:=λb u e z=>by rw [(hf b z).1]at e;cases e
 have nL:X.env.locals∉fp:=λz=>(hf _ z).2.1 rfl
 refine I.step (g':=s.gens) (d':=s.drawn) (ch:=fp) (λb hb=>?_) (λb o _ _ hc e _=>k b o hc e) (λb o _ _ hc e _=>⟨o.slots,k b o hc e⟩) (λ_ _ _ _ n=>n)
  (λb o hc e=>⟨o,k b o hc e⟩) (λ_ _ e=>e) (λ_ _ _ e=>e) (λb ps e=>⟨#[],by rw [e];simp⟩) (λm hm=>?_) (λb u e=>?_) I.bare
 ·obtain⟨_,f1,_,f3,f4,f5⟩:=hf b hb
  exact⟨f3,f1,f4,f5⟩
 ·obtain⟨o,es,ep,ho,r⟩:=hm
  exact⟨o,es,ep,k _ o nL ho,r⟩
 ·refine(I.hok b u e).stay (λc v hc q=>k c v ?_ q) (λ_ q=>q) λ_ _ q=>q
  rcases hc with z | z
  ·rw [z];exact nit b u e
  ·exact nit c _ z
theorem Inv.track{T:Addr}{o:HO}(I:Inv X pins σ H s)(hT:Ep X pins H T)(new:B5 X.prog X.w (upd H T o) s.heap T o):Inv X pins σ (upd H T o) s:=by
 obtain⟨f0,f1,_,f3,f4,f5⟩:=hT
 have nT:∀b u,H b=some u->b≠T:=λb u e z=>by rw [z,f0]at e;cases e
 refine I.step (H':=upd H T o) (h':=s.heap) (g':=s.gens) (d':=s.drawn) (t':=s.toks) (ch:=[T]) (λb hb=>?_) (λb o _ _ _ e _=>e) (λb o _ _ _ e _=>⟨o.slots,e⟩)
  (λb u hc _ n=>by rw [Bd (λz=>hc (by simp [z]))];exact n) (λb o _ e=>⟨o,e⟩) (λb xs e=>by rw [Bd (nT b _ e)];exact e) (λb u v e=>by rw [Bd (nT b _ e)];exact e)
  (λb ps e=>⟨#[],by rw [Bd (nT b _ e),e];simp⟩) (λm hm=>hm) (λb u e=>?_) I.bare
 ·have e:b=T:=by simpa using hb
  subst e
  exact⟨f3,f1,f4,f5⟩
 ·by_cases hb:b=T
  ·subst hb
   rw [B7]at e
   cases e
   exact new
  ·rw [Bd hb]at e
   exact(I.hok b u e).stay (λ_ _ _ q=>q) (λc q=>by rw [Bd (nT c _ q)];exact q) λc xs q=>by rw [Bd (nT c _ q)];exact q
end
def Ien(K:PySem.W.Frag)(a:Addr):It :=
 ⟨λi H => ∃ xs x, Hg K H a xs /\ xs[i]? = some x,
  λi H v H' => ∃ T x, H T = none /\ v = .ref T /\ H' = upd H T (.tup [.int i, x]) /\ ∀ xs, Hg K H a xs -> xs[i]? = some x,
  λi H => ∃ xs, Hg K H a xs /\ xs.length = i⟩
theorem Rt{P:Program}{w:World}{K:PySem.W.Frag}{elts:List Expr}{k:Nat}{pos:Pos}(a e it:Addr)(hei:e≠it) :
  Turn P w K (.Tuple elts k pos) (Ien K a) [e,it] e (λi h=>(∃old,IsEnum h e it i old)/\h.IsTupleIter it a i) where
 mem:=by simp
 obj:=λi h st b hb=>by
  rcases List.mem_cons.mp hb with rfl | hb
  ·obtain⟨⟨old,he⟩,_⟩:=st
   exact⟨_,he,λv z=>nomatch z⟩
  ·have q:b=it:=by simpa using hb
   subst q
   obtain⟨_,o,e,c,d⟩:=st
   exact⟨o,e,λv z=>by rw [d]at z;cases z⟩
 keep:=λi h h' st k=>⟨let⟨old,he⟩:=st.1;⟨old,k e (by simp) _ he⟩,st.2.at λo q=>k it (by simp) o q⟩
 item:=by
  intro X hP hw hK hc i pins s σ H E I hf st hg
  subst hP hw hK
  obtain⟨xs,x,hq,hx⟩:=hg
  obtain⟨its,rv,p,hz⟩:=I.tuple hq
  obtain⟨u,hu,ru⟩:=rv.get hx
  obtain⟨⟨old,he⟩,hit⟩:=id st
  have hae:a≠e:=by
   intro z;subst z
   obtain⟨o,ho,hcl,_⟩:=p
   rw [he]at ho;cases ho
   exact absurd hcl (by intro z;injection z with z;exact absurd z (by decide))
  have hai:a≠it:=by
   intro z;subst z
   obtain⟨o,ho,hcl,_⟩:=p
   obtain⟨o',ho',hcl',_⟩:=hit
   rw [ho]at ho';cases ho'
   rw [hcl]at hcl'
   exact absurd hcl' (by intro z;injection z with z;exact absurd z (by decide))
  have W:=WalksT.enumerateD (prog:=X.prog) (w:=X.w) (A:=X.A) (Dg (A:=X.A.in1) (I.ok.hd hc) it a hai its.toArray) e hei (by simp [hei,Ne.symm hae]) (by simp)
  refine W.item i s _ _ (by rw [List.size_toArray];exact(List.getElem?_eq_some_iff.mp hu).1) ⟨⟨old,he⟩,hit,p⟩ λT vals h' tk hv hT ht hm kk=>?_
  have apart:=W.apart i T h' hm
  refine⟨_,rfl,W.go elts k pos i T _ _ _ hm λh'' st'' kk''=>?_⟩
  obtain⟨t,x',hx',rfl⟩:=hv
  have hxu:x'=u:=by
   have:its[i]?=some x':=by simpa using hx'
   rw [hu]at this;exact(Option.some.inj this).symm
  subst hxu
  have I1:Inv X pins σ H { s with heap:=h',toks:=tk }:=I.turnedL kk hf
  have I2:Inv X pins σ H { s with heap:=h'',toks:=tk }:=I1.turnedL (s:={ s with heap:=h',toks:=tk }) (t':=tk) kk'' hf
  have fT:Ep X pins H T:=I.fpOk hT (I.hok.fresh hT)
  have ht'':IsTup h'' T #[.int i t,x']:=let⟨o,ho,r⟩:=ht;⟨o,kk'' T o apart ho,r⟩
  refine⟨.ref T,upd H T (.tup [.int i,x]),I2.track fT ⟨by show 2<=sizeLine;decide,[.int i t,x'],.cons ⟨t,rfl⟩ (.cons ru .nil),ht''⟩,rfl,⟨T,x,fT.1,rfl,rfl,λys hy=>by rw [I.tuple_inj hy hq];exact hx⟩,⟨st''.1,st''.2.1⟩,λb hb=>?_⟩
  have hb':b≠T:=by
   rcases List.mem_cons.mp hb with rfl | hb
   ·exact Nat.ne_of_lt (Nat.lt_of_lt_of_le (Heap.lt_size he) hT)
   ·have q:b=it:=by simpa using hb
    subst q
    obtain⟨o,ho,_⟩:=hit
    exact Nat.ne_of_lt (Nat.lt_of_lt_of_le (Heap.lt_size ho) hT)
  rw [Bd hb']
  exact(hf b hb).1
 done:=by
  intro X hP hw hK hc i pins s σ H E I hf st hg
  subst hP hw hK
  obtain⟨xs,hq,hl⟩:=hg
  obtain⟨its,rv,p,hz⟩:=I.tuple hq
  obtain⟨⟨old,he⟩,hit⟩:=id st
  have hae:a≠e:=by
   intro z;subst z
   obtain⟨o,ho,hcl,_⟩:=p
   rw [he]at ho;cases ho
   exact absurd hcl (by intro z;injection z with z;exact absurd z (by decide))
  have hai:a≠it:=by
   intro z;subst z
   obtain⟨o,ho,hcl,_⟩:=p
   obtain⟨o',ho',hcl',_⟩:=hit
   rw [ho]at ho';cases ho'
   rw [hcl]at hcl'
   exact absurd hcl' (by intro z;injection z with z;exact absurd z (by decide))
  have W:=WalksT.enumerateD (prog:=X.prog) (w:=X.w) (A:=X.A) (Dg (A:=X.A.in1) (I.ok.hd hc) it a hai its.toArray) e hei (by simp [hei,Ne.symm hae]) (by simp)
  have hn:its.toArray.size=i:=by rw [List.size_toArray,<- rv.length];exact hl
  subst hn
  exact W.done s _ _ ⟨⟨old,he⟩,hit,p⟩ λh' tk kk=>⟨rfl,I.turnedL kk hf⟩
 self:=λA i s Q E st h=>let⟨⟨_,he⟩,_⟩:=st;wpAny_pyIter_enum he h
section
variable {X:Cx}
theorem Qbs{J:It}{g:TG}{tb:TS}{D:Ends}{σ:St}{H:Hp}(n:Nat)(Pv:Nat->St->Hp->Prop)(h0:Pv 0 σ H)(hgo:∀i σ H,i < n->Pv i σ H->J.go i H)(hstop:∀ σ H,Pv n σ H->J.stop n H/\D.nx σ H)
  (hs:∀i x σ H H2,i < n->Pv i σ H->J.yld i H x H2->g x σ H2 fun σ2 H3=>tb { D with nx:=Pv (i+1),ct:=Pv (i+1),bk:=D.nx } σ2 H3) :
  ∃W:Nat->Nat->St->Hp->Prop,(∃m,W 0 m σ H)/\∀i m σ H,W i m σ H ->
   (J.stop i H/\D.nx σ H)\/(J.go i H/\∃N:St->Hp->Prop,(∀ σ' H',N σ' H'->∃m',m' < m/\W (i+1) m' σ' H')/\∀x H',J.yld i H x H'->g x σ H' fun σ2 H2=>tb { D with nx:=N,ct:=N,bk:=D.nx } σ2 H2):=by
 refine⟨λi m σ H=>m=n - i/\i<=n/\Pv i σ H,⟨n,by simp,Nat.zero_le _,h0⟩,?_⟩
 rintro i m σ H ⟨rfl,hi,p⟩
 by_cases hlt:i < n
 ·exact .inr ⟨hgo i σ H hlt p,Pv (i+1),fun σ' H' p'=>⟨n - (i+1),by omega,rfl,hlt,p'⟩,λx H' y=>hs i x σ H H' hlt p y⟩
 ·have e:i=n:=by omega
  subst e
  exact .inl (hstop σ H p)
theorem Ld:Gu X (binaryOp .Mult) (λx y H Q=>∃z n,x=.str z/\y=.int n/\(n=0\/n=1)/\Q (.str (if n=0 then Str.empty else z)) H):=by
 intro pins s σ H x y v u Q I rx ry h
 obtain⟨z,n,rfl,rfl,hn,q⟩:=h
 obtain⟨t,rfl⟩:=rx
 obtain⟨t',rfl⟩:=ry
 rcases hn with rfl | rfl
 ·exact P.mul_str_none (by decide) (by decide) ⟨.str Str.empty,H,I.tok _,⟨_,rfl⟩,by simpa using q⟩
 ·refine P.mul_str (by decide) (λ_ z=>by simp at z) (λ_ z=>by simp at z) ?_
  rw [if_neg (by decide),if_pos (by simp)]
  exact⟨.str z,H,I,⟨_,rfl⟩,by simpa using q⟩
end
section
variable {X:Cx}
end
end L2
namespace HT
open PySem PySem.Spec PyProof.Rows
section
variable {prog:Program}{w:World}{A:Around}{E:Value->Shared->Prop}{s:Shared}
theorem getItem_tuple_all{t sl:Addr}{items:Array Value}{vl vu:Value}{lo hi:Option Int}{Q:Value->Shared->Prop}(ht:IsTup s.heap t items)(hs:s.heap.IsSliceOf sl vl vu .none)(pl:IsPart vl lo)(pu:IsPart vu hi)
  (hw:sIx items.size 0 lo=0/\sIx items.size items.size hi=items.size)
  (h:Q (.ref t) s):wpAny (model prog w) A (getItem (.ref t) (.ref sl)) Q E s:=by
 obtain⟨os,hos,hcs,hds⟩:=id hs
 have hTs:s.TypeIs (.ref sl) "slice" := ⟨os,hos,hcs⟩
 unfold getItem
 try with_reducible refine wpAny_holding ?_
 first | refine wpAny_bind (wpAny_pure ?_) | skip
 refine wpAny_bind (wpAny_sequenceKey ht.typeIs (by decide) ?_)
 refine wpAny_bind (wpAny_callSpecial?_slot (name:=Str.ofString "__getitem__") ht.typeIs PyProof.Rows.slot_tuple_getitem
  (wpAny_call_entry PyProof.Rows.slot_tuple_getitem ht.typeIs entry_tuple_getitem ?_ (args_tuple_getitem _ _)))
 show wpAny _ _ (Builtin.Tuple.tupleItemsOf (.ref t) >>= _) _ _ s
 refine wpAny_bind (tupleItemsOf_ ht ?_)
 refine wpAny_bind (wpAny_typeOf hTs ?_)
 rw [if_pos (by decide)]
 refine wpAny_bind (D6 hs pl pu ?_)
 have hyes:(((sIx items.size 0 lo:Nat):Int)==0 && (1:Int)==1 && (sIx items.size items.size hi - sIx items.size 0 lo)==items.size)=true:=by
  rw [hw.1,hw.2];simp
 show wpAny _ _ (if(((sIx items.size 0 lo:Nat):Int)==0 && (1:Int)==1 && (sIx items.size items.size hi - sIx items.size 0 lo)==items.size)=true then _ else _) _ _ s
 rw [if_pos hyes]
 unfold Builtin.Tuple.tupleIsExact
 refine wpAny_bind (wpAny_bind (wpAny_typeOf ht.typeIs (wpAny_pure ?_)))
 rw [if_pos (by decide)]
 refine wpAny_bind (wpAny_rule ?_)
 first
  | exact wpAny_pure ⟨_,rfl,wpAny_pure h⟩
  | exact wpAny_bind (wpAny_pure (wpAny_pure ⟨_,rfl,wpAny_pure h⟩))
  | exact wpAny_bind (wpAny_pure ⟨_,rfl,wpAny_pure h⟩)
end
end HT
namespace L2
open PySem PySem.Spec PyProof.Rows
section
variable {X:Cx}
theorem T0{ds:List PyData}{lo hi:Option Int}(h:HT.sIx ds.length 0 lo=0/\HT.sIx ds.length ds.length hi=ds.length):Fr ds lo hi=ds:=by
 unfold Fr
 rw [h.1,h.2,List.drop_zero,Nat.sub_zero,List.take_of_length_le (Nat.le_refl _)]
end
section
variable {X:Cx}
theorem J6:∀(l:List (Str×Tok)),Vals ((l.map (·.1)).map V.str) (strValues l)
 | []=>.nil
 | (x,t) :: l=>.cons ⟨t,rfl⟩ (J6 l)
def Qbt:V->List V->Hp->VK->Prop:=λx vs H Q=>∃z y,x=.str z/\vs=[.str y]/\(y.length==0)=false/\z.length<=1000000/\∀l,H l=none->Q (.ref l) (upd H l (.lst ((Txt.split z y).map V.str)))
theorem Im(x:Str)(cuts:List Nat)(n:Nat):(Builtin.Str.partsBetween x cuts n).length=cuts.length+1:=by
 unfold Builtin.Str.partsBetween
 simp
theorem T1:MtR X "str.split" Qbt:=by
 intro pins s σ H x xs v us Q I rx r h
 obtain⟨z,y,rfl,rfl,hy,hz,q⟩:=h
 obtain⟨t,rfl⟩:=rx
 obtain⟨u,rfl,ru⟩:=Fz r
 obtain⟨t',rfl⟩:=ru
 have hf:=I.hok.fresh (Nat.le_refl s.heap.objs.size)
 have hzl:z.length<=sizeLine:=Nat.le_trans hz (by decide)
 have fin:∀(l:List (Str×Tok)) (tk:Nat),l.map (·.1)=Txt.split z y->l.length<=1000002->EP X pins σ Q (.ref s.heap.objs.size) { s with toks:=tk,heap:=s.heap.push { cls:=.type "list",data:=.seq (strValues l).toArray } }:=λl tk e hl=>by
  refine⟨.ref s.heap.objs.size,_,I.laid (t':=tk) (o:=.lst ((Txt.split z y).map V.str)) (λb ob q=>Heap.get?_push_of_some _ q) (Nat.le_refl _) ?_,rfl,q _ hf⟩
  refine⟨by rw [<- e,List.length_map,List.length_map];exact Nat.le_trans hl (by decide),strValues l,0,by rw [<- e];exact J6 l,Heap.get?_push_size _ rfl⟩
 cases h1:(decide (z.length < y.length) || decide (Builtin.Str.strKind z < Builtin.Str.strKind y))
 ·cases hf':(Builtin.Str.occurrences z y 0 z.length (z.length+1)).isEmpty
  ·have hocc:=StrLaws.occ_length_le z y 0 z.length (z.length+1)
   have hn:(Builtin.Str.partsBetween z (Builtin.Str.occurrences z y 0 z.length (z.length+1)) y.length).length<=1000002:=by rw [Im];omega
   refine call_meets F.slot_str_split (typeIs_str _ _ _) F.entry_str_split (F.args_str_split_2 _ _) (meets_str_split_sep z y t t' h1 hy hf' hzl (Nat.le_trans hn (by decide))) ?_
   show EP X pins σ Q (.ref s.heap.objs.size) { s with toks:=_,heap:=s.heap.push { cls:=.type "list",data:=.seq (strsFrom s.toks (Builtin.Str.partsBetween z (Builtin.Str.occurrences z y 0 z.length (z.length+1)) y.length)).toArray } }
   rw [strsFrom_eq]
   refine fin (numbered s.toks _) _ ((numbered_texts _ _).trans ((if_neg (ne_true_of_eq_false h1)).trans (if_neg (ne_true_of_eq_false hf'))).symm) ?_
   have e:=congrArg List.length (numbered_texts s.toks (Builtin.Str.partsBetween z (Builtin.Str.occurrences z y 0 z.length (z.length+1)) y.length))
   rw [List.length_map]at e
   rw [e];exact hn
  ·refine call_meets F.slot_str_split (typeIs_str _ _ _) F.entry_str_split (F.args_str_split_2 _ _) (meets_str_split_not_found z y t t' h1 hy hf') ?_
   exact fin [(z,t)] s.toks ((if_neg (ne_true_of_eq_false h1)).trans (if_pos hf')).symm (by show 1<=1000002;decide)
 ·refine call_meets F.slot_str_split (typeIs_str _ _ _) F.entry_str_split (F.args_str_split_2 _ _) (meets_str_split_cannot_occur z y t t' h1) ?_
  exact fin [(z,t)] s.toks (if_pos h1).symm (by show 1<=1000002;decide)
def Iel(K:PySem.W.Frag)(a:Addr):It :=
 ⟨λi H => ∃ xs x, D5 K H a xs /\ xs[i]? = some x,
  λi H v H' => ∃ T x, H T = none /\ v = .ref T /\ H' = upd H T (.tup [.int i, x]) /\ ∀ xs, D5 K H a xs -> xs[i]? = some x,
  λi H => ∃ xs, D5 K H a xs /\ xs.length = i⟩
theorem Oe{P:Program}{w:World}{K:PySem.W.Frag}{elts:List Expr}{k:Nat}{pos:Pos}(a e it:Addr)(hei:e≠it) :
  Turn P w K (.Tuple elts k pos) (Iel K a) [e,it] e (λi h=>(∃old,IsEnum h e it i old)/\h.IsListIter it a i) where
 mem:=by simp
 obj:=λi h st b hb=>by
  rcases List.mem_cons.mp hb with rfl | hb
  ·obtain⟨⟨old,he⟩,_⟩:=st
   exact⟨_,he,λv z=>nomatch z⟩
  ·have q:b=it:=by simpa using hb
   subst q
   obtain⟨_,o,e,c,d⟩:=st
   exact⟨o,e,λv z=>by rw [d]at z;cases z⟩
 keep:=λi h h' st k=>⟨let⟨old,he⟩:=st.1;⟨old,k e (by simp) _ he⟩,st.2.at λo q=>k it (by simp) o q⟩
 item:=by
  intro X hP hw hK hc i pins s σ H E I hf st hg
  subst hP hw hK
  obtain⟨xs,x,hq,hx⟩:=hg
  obtain⟨its,rv,p,hz⟩:=I.list hq
  obtain⟨u,hu,ru⟩:=rv.get hx
  obtain⟨⟨old,he⟩,hit⟩:=id st
  have hae:a≠e:=by
   intro z;subst z
   obtain⟨o,ho,hcl,_⟩:=p.isList
   rw [he]at ho;cases ho
   exact absurd hcl (by intro z;injection z with z;exact absurd z (by decide))
  have hai:a≠it:=by
   intro z;subst z
   obtain⟨o,ho,hcl,_⟩:=p.isList
   obtain⟨o',ho',hcl',_⟩:=hit
   rw [ho]at ho';cases ho'
   rw [hcl]at hcl'
   exact absurd hcl' (by intro z;injection z with z;exact absurd z (by decide))
  have W:=WalksT.enumerateD (prog:=X.prog) (w:=X.w) (A:=X.A) (Draws.list (A:=X.A.in1) (I.ok.hd hc) it a hai its.toArray) e hei (by simp [hei,Ne.symm hae]) (by simp)
  refine W.item i s _ _ (by rw [List.size_toArray];exact(List.getElem?_eq_some_iff.mp hu).1) ⟨⟨old,he⟩,hit,p.isList⟩ λT vals h' tk hv hT ht hm kk=>?_
  have apart:=W.apart i T h' hm
  refine⟨_,rfl,W.go elts k pos i T _ _ _ hm λh'' st'' kk''=>?_⟩
  obtain⟨t,x',hx',rfl⟩:=hv
  have hxu:x'=u:=by
   have:its[i]?=some x':=by simpa using hx'
   rw [hu]at this;exact(Option.some.inj this).symm
  subst hxu
  have I1:Inv X pins σ H { s with heap:=h',toks:=tk }:=I.turnedL kk hf
  have I2:Inv X pins σ H { s with heap:=h'',toks:=tk }:=I1.turnedL (s:={ s with heap:=h',toks:=tk }) (t':=tk) kk'' hf
  have fT:Ep X pins H T:=I.fpOk hT (I.hok.fresh hT)
  have ht'':IsTup h'' T #[.int i t,x']:=let⟨o,ho,r⟩:=ht;⟨o,kk'' T o apart ho,r⟩
  refine⟨.ref T,upd H T (.tup [.int i,x]),I2.track fT ⟨by show 2<=sizeLine;decide,[.int i t,x'],.cons ⟨t,rfl⟩ (.cons ru .nil),ht''⟩,rfl,⟨T,x,fT.1,rfl,rfl,λys hy=>by rw [I.list_inj hy hq];exact hx⟩,⟨st''.1,st''.2.1⟩,λb hb=>?_⟩
  have hb':b≠T:=by
   rcases List.mem_cons.mp hb with rfl | hb
   ·exact Nat.ne_of_lt (Nat.lt_of_lt_of_le (Heap.lt_size he) hT)
   ·have q:b=it:=by simpa using hb
    subst q
    obtain⟨o,ho,_⟩:=hit
    exact Nat.ne_of_lt (Nat.lt_of_lt_of_le (Heap.lt_size ho) hT)
  rw [Bd hb']
  exact(hf b hb).1
 done:=by
  intro X hP hw hK hc i pins s σ H E I hf st hg
  subst hP hw hK
  obtain⟨xs,hq,hl⟩:=hg
  obtain⟨its,rv,p,hz⟩:=I.list hq
  obtain⟨⟨old,he⟩,hit⟩:=id st
  have hae:a≠e:=by
   intro z;subst z
   obtain⟨o,ho,hcl,_⟩:=p.isList
   rw [he]at ho;cases ho
   exact absurd hcl (by intro z;injection z with z;exact absurd z (by decide))
  have hai:a≠it:=by
   intro z;subst z
   obtain⟨o,ho,hcl,_⟩:=p.isList
   obtain⟨o',ho',hcl',_⟩:=hit
   rw [ho]at ho';cases ho'
   rw [hcl]at hcl'
   exact absurd hcl' (by intro z;injection z with z;exact absurd z (by decide))
  have W:=WalksT.enumerateD (prog:=X.prog) (w:=X.w) (A:=X.A) (Draws.list (A:=X.A.in1) (I.ok.hd hc) it a hai its.toArray) e hei (by simp [hei,Ne.symm hae]) (by simp)
  have hn:its.toArray.size=i:=by rw [List.size_toArray,<- rv.length];exact hl
  subst hn
  exact W.done s _ _ ⟨⟨old,he⟩,hit,p.isList⟩ λh' tk kk=>⟨rfl,I.turnedL kk hf⟩
 self:=λA i s Q E st h=>let⟨⟨_,he⟩,_⟩:=st;wpAny_pyIter_enum he h
end
end L2
namespace PySem
open Sem (wp)
open AutoSeq1 (wpAny_loadPart')
set_option maxRecDepth 100000
section
variable {prog:Program}{w:World}{K:Type} [DecidableEq K]
end
end PySem
namespace L2
open PySem PySem.Spec PyProof.Rows
section
variable {X:Cx}
theorem Du{c:Nat}:∀{x r:List Nat},c∉x->(x++c :: r).takeWhile (·≠c)=x
 | [],r,_=>by simp
 | y :: x,r,h=>by
  have h1:y≠c:=λe=>h (by simp [e])
  rw [List.cons_append,List.takeWhile_cons,if_pos (by simpa using h1),Du λz=>h (List.mem_cons_of_mem _ z)]
theorem Cm{c:Nat}:∀{x r:List Nat},c∉x->(x++c :: r).dropWhile (·≠c)=c :: r
 | [],r,_=>by simp
 | y :: x,r,h=>by
  have h1:y≠c:=λe=>h (by simp [e])
  rw [List.cons_append,List.dropWhile_cons,if_pos (by simpa using h1),Cm λz=>h (List.mem_cons_of_mem _ z)]
theorem Jt{c:Nat}:∀{x:List Nat},c∉x->x.takeWhile (·≠c)=x
 | [],_=>rfl
 | y :: x,h=>by
  have h1:y≠c:=λe=>h (by simp [e])
  rw [List.takeWhile_cons,if_pos (by simpa using h1),Jt λz=>h (List.mem_cons_of_mem _ z)]
theorem Dv{c:Nat}:∀{x:List Nat},c∉x->x.dropWhile (·≠c)=[]
 | [],_=>rfl
 | y :: x,h=>by
  have h1:y≠c:=λe=>h (by simp [e])
  rw [List.dropWhile_cons,if_pos (by simpa using h1),Dv λz=>h (List.mem_cons_of_mem _ z)]
theorem Gc(c:Nat)(x y:Str)(r:List Str):(Str.join ⟨#[c]⟩ (x :: y :: r)).cps.toList=x.cps.toList++c :: (Str.join ⟨#[c]⟩ (y :: r)).cps.toList:=by
 show((x.cps++#[c])++(Str.join ⟨#[c]⟩ (y :: r)).cps).toList=_
 simp
theorem Pq{a b:Str}(h:a.cps.toList=b.cps.toList):a=b:=PySem.Str.ext' (by simpa using congrArg List.toArray h)
theorem Mf{c:Nat}:∀{A B:List Str},A≠[]->B≠[]->(∀p∈A,c∉p.cps.toList)->(∀p∈B,c∉p.cps.toList)->Str.join ⟨#[c]⟩ A=Str.join ⟨#[c]⟩ B->A=B
 | [],_,h,_,_,_,_=>absurd rfl h
 | _,[],_,h,_,_,_=>absurd rfl h
 | [x],[y],_,_,_,_,e=>by
  have e:x=y:=e
  rw [e]
 | [x],y :: y' :: r,_,_,hA,hB,e=>by
  have e:=congrArg (λs:Str=>s.cps.toList.dropWhile (·≠c)) e
  simp only [Gc]at e
  rw [Cm (hB y (by simp))]at e
  rw [show Str.join ⟨#[c]⟩ [x]=x from rfl,Dv (hA x (by simp))]at e
  cases e
 | x :: x' :: r,[y],_,_,hA,hB,e=>by
  have e:=congrArg (λs:Str=>s.cps.toList.dropWhile (·≠c)) e
  simp only [Gc]at e
  rw [Cm (hA x (by simp))]at e
  rw [show Str.join ⟨#[c]⟩ [y]=y from rfl,Dv (hB y (by simp))]at e
  cases e
 | x :: x' :: r,y :: y' :: q,_,_,hA,hB,e=>by
  have e1:=congrArg (λs:Str=>s.cps.toList.takeWhile (·≠c)) e
  have e2:=congrArg (λs:Str=>s.cps.toList.dropWhile (·≠c)) e
  simp only [Gc]at e1 e2
  rw [Du (hA x (by simp)),Du (hB y (by simp))]at e1
  rw [Cm (hA x (by simp)),Cm (hB y (by simp))]at e2
  have e3:Str.join ⟨#[c]⟩ (x' :: r)=Str.join ⟨#[c]⟩ (y' :: q):=Pq (by injection e2)
  rw [Pq e1,Mf (A:=x' :: r) (B:=y' :: q) (by simp) (by simp) (λp hp=>hA p (List.mem_cons_of_mem _ hp)) (λp hp=>hB p (List.mem_cons_of_mem _ hp)) e3]
theorem T2(x y:Str):Txt.split x y≠[]:=by
 unfold Txt.split
 split
 ·simp
 ·split
  ·simp
  ·intro h
   have:=congrArg List.length h
   rw [Im]at this
   simp at this
theorem Io{c:Nat}{A:List Str}(h:A≠[])(hA:∀p∈A,c∉p.cps.toList):Txt.split (Str.join ⟨#[c]⟩ A) ⟨#[c]⟩=A :=
 Mf (T2 _ _) h (StrLaws.split_free _ c) hA (StrLaws.join_split _ _)
end
section
variable {X:Cx}{K:PySem.W.Frag}
variable {o e:Expr}{es:List Expr}{to:TE}{t:TA}{name:Str}{apos cpos:Pos}{T id:String}{r:V->List V->Hp->VK->Prop}
theorem Ru:MtR X "str.join" (λx xs H Q=>∃z p ys,x=.str z/\xs=[.ref p]/\H p=some (.lst (ys.map V.str))/\(ys.map (·.length)).sum+ys.length * z.length<=16777216/\Q (.str (Txt.join z ys)) H):=by
 intro pins s σ H x xs v us Q I rx r h
 obtain⟨z,p,ys,e1,e2,hp,hz,q⟩:=h
 exact Xh pins s σ H x xs v us Q I rx r ⟨z,p,ys,e1,e2,D5.of hp,hz,q⟩
end
def Cal(P:Program)(w:World)(K:PySem.W.Frag)(mg:Str->Option Value)(base:Heap)(n:Nat)(x:Str)(ps:List Str)(sp:Sp):Prop :=
 ∃g gd,FnOk P w K mg base Fb n g gd ps sp/\Binds K gd ps []/\PySem.W.keepIn K (.ref g)=true/\mg x=some (.ref g)
theorem Cal.mono{P:Program}{w:World}{K:PySem.W.Frag}{mg:Str->Option Value}{base:Heap}{n m:Nat}{x:Str}{ps:List Str}{sp:Sp}(c:Cal P w K mg base n x ps sp)(h:n<=m):Cal P w K mg base m x ps sp :=
 let⟨g,gd,G,r⟩:=c;⟨g,gd,G.mono h,r⟩
end L2
namespace L2
open PySem PySem.Spec PySem.Calls PyProof.Rows
section
variable {prog:Program}{w:World}{A:Around}{E:Value->Shared->Prop}{s:Shared}{K:PySem.W.Frag}{x C:Addr}{ox:Obj}{od:Option Obj}{name:Str}
end
abbrev bmV:List Value:=[.type "ValueError",.type "Exception",.type "BaseException",.type "object"]
def Qku(K:PySem.W.Frag)(C:Addr)(cd:ClassData)(sl:Array (Option Value)):Bool:=cd.mro.head?==some (.ref C) && !cd.hasDel && PySem.W.tailIn K bmV cd.mro.tail && sl.size==6 && sl[4]?==some (some (.builtin "ValueError.__new__"))
theorem Qir{sl:Array (Option Value)}{v:Option Value}(h:sl.size=6)(e:sl[4]?=some v):∃k0 k1 k2 k3 k5,sl=#[k0,k1,k2,k3,v,k5]:=by
 obtain⟨l⟩:=sl
 match l,h with
 | [k0,k1,k2,k3,k4,k5],_ =>
  have:k4=v:=by simpa using e
  subst this
  exact⟨k0,k1,k2,k3,k5,rfl⟩
section
variable {prog:Program}{w:World}{A:Around}{E:Value->Shared->Prop}{h:Heap}{g:Array GenState}{d:Drawn}{t:Nat}{os:OsState}{K:PySem.W.Frag}{C:Addr}
end
section
open Builtin Builtin.ObjectAttr
variable {prog:Program}{w:World}{A:Around}{E:Value->Shared->Prop}{s:Shared}{K:PySem.W.Frag}{x C:Addr}{ox:Obj}{od:Option Obj}{name:Str}{v:Value}{R:Result->Shared->Prop}
end
end L2
namespace L2
open PySem PySem.Spec PySem.Calls PyProof.Rows
def XD(dx:Addr)(fs:List (Str×V)):HO:=.ext λh=>∃mA,h.Ns1 dx mA/\(∀f,Ic (fs.lookup f) (mA f))/\PySem.Within mA (fs.map (·.1))
section
variable {P:Program}{w:World}{H:Hp}{h:Heap}{e C t dx:Addr}{d:Option Addr}{fs:List (Str×V)}
end
section
variable {X:Cx}{pins:List (Addr×Obj)}{σ:St}{H:Hp}{s:Shared}{e C t dx:Addr}{fs:List (Str×V)}{f:Str}{v:V}{A:Around}{E:Value->Shared->Prop}
end
section
variable {X:Cx}{CX:CXT}{k:Nat}{f C:Addr}{fd:FuncData}{ps:List Str}{sp:Sp}{E:XK}{x:Str}{p pos pos' apos:Pos}{e o value:Expr}{es:List Expr}{t:TA}{ta tv:TE}{fl:Str}
end
section
variable {X:Cx}
end
section
variable {M:Model}{A:Around}{E:Value->Shared->Prop}{s:Shared}{base:Heap}{env:Env}{outer:List Env}{L e:Addr}{cls:Value}{d:Option Addr}{vs:Array Value}
end
section
variable {prog:Program}{w:World}{A:Around}{E:Value->Shared->Prop}{s:Shared}{K:PySem.W.Frag}{env:Env}{e C:Addr}{d:Option Addr}{vs:Array Value}
end
def XR(e C:Addr)(d:Option Addr):HO:=.ext λh=>∃vs:Array Value,h.get? e=some ⟨.ref C,d,.fields vs,#[]⟩/\vs.size=6
section
variable {X:Cx}{pins:List (Addr×Obj)}{σ:St}{H:Hp}{s:Shared}{a C:Addr}{d:Option Addr}{h':Heap}
end
section
variable {M:Model}{A:Around}{E:Value->Shared->Prop}{s:Shared}{base:Heap}{env:Env}{outer:List Env}{L e:Addr}{cls:Value}{d:Option Addr}{vs:Array Value}
end
section
variable {prog:Program}{w:World}{A:Around}{E:Value->Shared->Prop}{s:Shared}{K:PySem.W.Frag}{e C D:Addr}{d:Option Addr}{vs:Array Value}
end
section
variable {X:Cx}{pins:List (Addr×Obj)}{σ:St}{H:Hp}{s:Shared}
end
end L2
namespace L2
open PySem PySem.Spec PyProof.Rows
inductive AV where
 | D (d:PyData) | R (a:Addr) | C (ds:List PyData) | X (C:Addr) (fs:List (Str×PyData))
 deriving Inhabited
mutual
def Cano:PyData->Bool
 | .int _=>true
 | .str _=>true
 | .tuple xs=>Ao xs
 | _=>false
def Ao:List PyData->Bool
 | []=>true
 | x :: xs=>Cano x && Ao xs
end
structure KeyTree(d:PyData):Prop where
 can:Cano d=true
 lay:d.canLay0=true
 dep:d.depth<=6
def Xi(K:PySem.W.Frag)(H:Hp)(a:Addr)(xs:List V):Prop :=
 (∃o,H a=some (.frz o (.lst xs))) \/
  ∃(o:Obj) (its:Array Value) (n:Nat),K.lookup a=some o/\o.cls=.type "list" /\ o.dict=none/\o.data=.seq its n/\its.size<=sizeLine/\Vals xs its.toList
theorem Xi.sq{K:PySem.W.Frag}{H:Hp}{a:Addr}{xs:List V}(h:Xi K H a xs):D5 K H a xs:=by
 rcases h with⟨o,h⟩ | h
 ·exact .inl (.inr ⟨o,h⟩)
 ·exact .inr h
def Lit:List PyData->Bool
 | .str _ :: _=>true
 | .tuple _ :: _=>true
 | _=>false
def Wi(K:PySem.W.Frag)(H:Hp)(a:Addr)(ds:List PyData)(xs:List V):Prop :=
 H a=some (.tup xs)\/(Lit ds=true/\∃(o:Obj) (its:Array Value) (n:Nat),K.lookup a=some o/\o.cls=.type "tuple" /\ o.data=.seq its n/\its.size<=sizeLine/\Vals xs its.toList)
theorem Wi.sq{K:PySem.W.Frag}{H:Hp}{a:Addr}{ds:List PyData}{xs:List V}(h:Wi K H a ds xs):Hg K H a xs:=by
 rcases h with h | h
 ·exact Hg.of h
 ·exact .inr h.2
mutual
def Dk(K:PySem.W.Frag)(H:Hp):PyData->V->Prop
 | .none,x=>x=.non
 | .bool b,x=>x=.bl b
 | .int i,x=>x=.int i
 | .str z,x=>x=.str z
 | .list ds,x=>∃a xs,x=.ref a/\Xi K H a xs/\Am K H ds xs
 | .tuple ds,x=>∃a xs,x=.ref a/\Wi K H a ds xs/\Am K H ds xs
 | .dict _,_=>False
def Am(K:PySem.W.Frag)(H:Hp):List PyData->List V->Prop
 | [],xs=>xs=[]
 | d :: ds,xs=>∃x r,xs=x :: r/\Dk K H d x/\Am K H ds r
end
structure Kp(H H':Hp):Prop where
 t:∀b xs,H b=some (.tup xs)->H' b=some (.tup xs)
 f:∀b o u,H b=some (.frz o u)->H' b=some (.frz o u)
theorem Kp.refl{H:Hp}:Kp H H:=⟨λ_ _ h=>h,λ_ _ _ h=>h⟩
theorem Kp.trans{H H1 H2:Hp}(a:Kp H H1)(b:Kp H1 H2):Kp H H2:=⟨λc xs h=>b.t c xs (a.t c xs h),λc o u h=>b.f c o u (a.f c o u h)⟩
theorem Kp.new{H:Hp}{p:Addr}(h:H p=none)(o:HO):Kp H (upd H p o) :=
 ⟨λb xs e=>by rw [Bd (Cf e h)];exact e,λb o' u e=>by rw [Bd (Cf e h)];exact e⟩
def Mt:HO->Prop
 | .lst _=>True
 | .dK _=>True
 | .dT _=>True
 | .dd _=>True
 | _=>False
theorem Kp.put{H:Hp}{p:Addr}{o0:HO}(h:H p=some o0)(m:Mt o0)(o:HO):Kp H (upd H p o) :=
 ⟨λb xs e=>by rw [Bd (Sz e h (by intro z;subst z;exact m))];exact e,λb o' u e=>by rw [Bd (Sz e h (by intro z;subst z;exact m))];exact e⟩
theorem Xi.kp{K:PySem.W.Frag}{H H':Hp}{a:Addr}{xs:List V}(S:Kp H H')(h:Xi K H a xs):Xi K H' a xs:=by
 rcases h with⟨o,h⟩ | h
 ·exact .inl ⟨o,S.f _ _ _ h⟩
 ·exact .inr h
theorem Wi.kp{K:PySem.W.Frag}{H H':Hp}{a:Addr}{ds:List PyData}{xs:List V}(S:Kp H H')(h:Wi K H a ds xs):Wi K H' a ds xs:=by
 rcases h with h | h
 ·exact .inl (S.t _ _ h)
 ·exact .inr h
section
variable {K:PySem.W.Frag}{H H':Hp}
mutual
theorem Dk.kp(S:Kp H H'):∀(d:PyData) (x:V),Dk K H d x->Dk K H' d x
 | .none,x,h=>by simp only [Dk]at h ⊢;exact h
 | .bool b,x,h=>by simp only [Dk]at h ⊢;exact h
 | .int i,x,h=>by simp only [Dk]at h ⊢;exact h
 | .str z,x,h=>by simp only [Dk]at h ⊢;exact h
 | .list ds,x,h=>by
  simp only [Dk]at h ⊢
  obtain⟨a,xs,e,q,r⟩:=h
  exact⟨a,xs,e,q.kp S,Am.kp S ds xs r⟩
 | .tuple ds,x,h=>by
  simp only [Dk]at h ⊢
  obtain⟨a,xs,e,q,r⟩:=h
  exact⟨a,xs,e,q.kp S,Am.kp S ds xs r⟩
 | .dict _,x,h=>by simp only [Dk]at h
theorem Am.kp(S:Kp H H'):∀(ds:List PyData) (xs:List V),Am K H ds xs->Am K H' ds xs
 | [],xs,h=>by simp only [Am]at h ⊢;exact h
 | d :: ds,xs,h=>by
  simp only [Am]at h ⊢
  obtain⟨x,r,e,h1,h2⟩:=h
  exact⟨x,r,e,Dk.kp S d x h1,Am.kp S ds r h2⟩
end
theorem Dh{i:Int}:Dk K H (.int i) (.int i):=by simp only [Dk]
theorem J7{b:Bool}:Dk K H (.bool b) (.bl b):=by simp only [Dk]
theorem Of{z:Str}:Dk K H (.str z) (.str z):=by simp only [Dk]
theorem T5:Dk K H .none .non:=by simp only [Dk]
theorem Dk.int{x:V}{i:Int}(h:Dk K H (.int i) x):x=.int i:=by simp only [Dk]at h;exact h
theorem Dk.bl{x:V}{i:Bool}(h:Dk K H (.bool i) x):x=.bl i:=by simp only [Dk]at h;exact h
theorem Dk.str{x:V}{i:Str}(h:Dk K H (.str i) x):x=.str i:=by simp only [Dk]at h;exact h
theorem Dk.non{x:V}(h:Dk K H .none x):x=.non:=by simp only [Dk]at h;exact h
theorem Dk.tup{x:V}{ds:List PyData}(h:Dk K H (.tuple ds) x):∃a xs,x=.ref a/\Wi K H a ds xs/\Am K H ds xs:=by simp only [Dk]at h;exact h
theorem Dk.lst{x:V}{ds:List PyData}(h:Dk K H (.list ds) x):∃a xs,x=.ref a/\Xi K H a xs/\Am K H ds xs:=by simp only [Dk]at h;exact h
theorem Og{a:Addr}{xs:List V}{ds:List PyData}(h:H a=some (.tup xs))(r:Am K H ds xs):Dk K H (.tuple ds) (.ref a):=by simp only [Dk];exact⟨a,xs,rfl,.inl h,r⟩
theorem Qbu{a:Addr}{xs:List V}{ds:List PyData}(h:Xi K H a xs)(r:Am K H ds xs):Dk K H (.list ds) (.ref a):=by simp only [Dk];exact⟨a,xs,rfl,h,r⟩
theorem Dc:Am K H [] []:=by simp only [Am]
theorem Cg{d:PyData}{ds:List PyData}{x:V}{xs:List V}(h:Dk K H d x)(r:Am K H ds xs):Am K H (d :: ds) (x :: xs):=by simp only [Am];exact⟨x,xs,rfl,h,r⟩
theorem Am.cons{d:PyData}{ds:List PyData}{xs:List V}(h:Am K H (d :: ds) xs):∃x r,xs=x :: r/\Dk K H d x/\Am K H ds r:=by simp only [Am]at h;exact h
theorem Am.nil{xs:List V}(h:Am K H [] xs):xs=[]:=by simp only [Am]at h;exact h
theorem Am.length:∀{ds:List PyData} {xs:List V},Am K H ds xs->xs.length=ds.length
 | [],_,h=>by rw [h.nil];rfl
 | _ :: ds,_,h=>by
  obtain⟨x,r,rfl,_,h2⟩:=h.cons
  rw [List.length_cons,List.length_cons,Am.length h2]
theorem Am.get:∀{ds:List PyData} {xs:List V} {i:Nat} {d:PyData},Am K H ds xs->ds[i]?=some d->∃x,xs[i]?=some x/\Dk K H d x
 | [],_,_,_,_,e=>by simp at e
 | _ :: ds,_,0,d,h,e=>by
  obtain⟨x,r,rfl,h1,_⟩:=h.cons
  simp at e;subst e
  exact⟨x,rfl,h1⟩
 | _ :: ds,_,i+1,d,h,e=>by
  obtain⟨x,r,rfl,_,h2⟩:=h.cons
  obtain⟨y,e1,e2⟩:=Am.get (i:=i) (d:=d) h2 (by simpa using e)
  exact⟨y,by simpa using e1,e2⟩
theorem Am.append:∀{ds es:List PyData} {xs ys:List V},Am K H ds xs->Am K H es ys->Am K H (ds++es) (xs++ys)
 | [],_,_,_,h,k=>by rw [h.nil];exact k
 | _ :: ds,_,_,_,h,k=>by
  obtain⟨x,r,rfl,h1,h2⟩:=h.cons
  exact Cg h1 (Am.append h2 k)
theorem Am.drop:∀(n:Nat) {ds:List PyData} {xs:List V},Am K H ds xs->Am K H (ds.drop n) (xs.drop n)
 | 0,_,_,h=>h
 | _+1,[],_,h=>by rw [h.nil];exact Dc
 | n+1,_ :: ds,_,h=>by
  obtain⟨x,r,rfl,_,h2⟩:=h.cons
  exact Am.drop n h2
theorem Am.take:∀(n:Nat) {ds:List PyData} {xs:List V},Am K H ds xs->Am K H (ds.take n) (xs.take n)
 | 0,_,_,_=>Dc
 | _+1,[],_,h=>by rw [h.nil];exact Dc
 | n+1,_ :: ds,_,h=>by
  obtain⟨x,r,rfl,h1,h2⟩:=h.cons
  exact Cg h1 (Am.take n h2)
theorem Am.cut{ds:List PyData}{xs:List V}(h:Am K H ds xs)(lo hi:Option Int):Am K H (Fr ds lo hi) (Jr xs lo hi):=by
 unfold Fr Jr
 rw [h.length]
 exact(h.drop _).take _
theorem Am.atI{ds:List PyData}{xs:List V}{i:Int}{d:PyData}(h:Am K H ds xs)(e:atI ds i=some d):∃x,L2.atI xs i=some x/\Dk K H d x:=by
 unfold L2.atI at e ⊢
 rw [h.length]
 cases q:Sv ds.length i with
 | none=>rw [q]at e;cases e
 | some j =>
  rw [q]at e
  obtain⟨x,hx,hd⟩:=h.get (show ds[j]?=some d from e)
  exact⟨x,hx,hd⟩
def Xj(K:PySem.W.Frag)(H:Hp):List (Str×PyData)->List (Str×V)->Prop:=Paired λp q=>p.1=q.1/\Dk K H p.2 q.2
theorem Xj.kp{fs:List (Str×PyData)}{vs:List (Str×V)}(S:Kp H H')(h:Xj K H fs vs):Xj K H' fs vs:=Paired.mapP h λp q r=>⟨r.1,Dk.kp S _ _ r.2⟩
def XFs(K:PySem.W.Frag)(H:Hp)(d:Option Addr)(fs:List (Str×PyData)):Prop:=match d with
 | none=>fs=[]
 | some d=>∃od kvs,H d=some (.frz od (XD d kvs))/\Xj K H fs kvs
theorem XFs.kp{d:Option Addr}{fs:List (Str×PyData)}(S:Kp H H')(h:XFs K H d fs):XFs K H' d fs:=by
 cases d with
 | none=>exact h
 | some d=>obtain⟨od,kvs,q,r⟩:=h;exact⟨od,kvs,S.f _ _ _ q,r.kp S⟩
def RelA(K:PySem.W.Frag)(H:Hp):AV->V->Prop
 | .D d,v=>Dk K H d v
 | .R a,v=>v=.ref a
 | .C ds,v=>∃a xs,v=.ref a/\(∀H,Hg K H a xs)/\Am K H ds xs
 | .X C fs,v=>∃a o d,v=.ref a/\H a=some (.frz o (XR a C d))/\XFs K H d fs
theorem Di{i:Int}:RelA K H (.D (.int i)) (.int i):=Dh (K:=K) (H:=H)
theorem Cs{i:Bool}:RelA K H (.D (.bool i)) (.bl i):=J7 (K:=K) (H:=H)
theorem Fs{i:Str}:RelA K H (.D (.str i)) (.str i):=Of (K:=K) (H:=H)
theorem T6:RelA K H (.D .none) .non:=T5 (K:=K) (H:=H)
theorem RelA.int{x:V}{i:Int}(h:RelA K H (.D (.int i)) x):x=.int i:=Dk.int (K:=K) (H:=H) h
theorem RelA.bl{x:V}{i:Bool}(h:RelA K H (.D (.bool i)) x):x=.bl i:=Dk.bl (K:=K) (H:=H) h
theorem RelA.str{x:V}{i:Str}(h:RelA K H (.D (.str i)) x):x=.str i:=Dk.str (K:=K) (H:=H) h
theorem RelA.non{x:V}(h:RelA K H (.D .none) x):x=.non:=Dk.non (K:=K) (H:=H) h
theorem RelA.tup{x:V}{ds:List PyData}(h:RelA K H (.D (.tuple ds)) x):∃a xs,x=.ref a/\Wi K H a ds xs/\Am K H ds xs:=Dk.tup (K:=K) (H:=H) h
theorem RelA.lst{x:V}{ds:List PyData}(h:RelA K H (.D (.list ds)) x):∃a xs,x=.ref a/\Xi K H a xs/\Am K H ds xs:=Dk.lst (K:=K) (H:=H) h
theorem RelA.ref{x:V}{a:Addr}(h:RelA K H (.R a) x):x=.ref a:=h
theorem Dw{a:Addr}:RelA K H (.R a) (.ref a):=rfl
theorem Oh{d:PyData}{v:V}(h:Dk K H d v):RelA K H (.D d) v:=h
theorem Ip{a:Addr}{xs:List V}{ds:List PyData}(h:H a=some (.tup xs))(r:Am K H ds xs):RelA K H (.D (.tuple ds)) (.ref a):=Og (K:=K) (H:=H) h r
abbrev Ax(K:PySem.W.Frag)(H:Hp):List AV->List V->Prop:=Paired (RelA K H)
theorem RelA.kp(S:Kp H H'):∀{x:AV} {v:V},RelA K H x v->RelA K H' x v
 | .D d,v,h=>Dk.kp S d v h
 | .R a,_,h=>h
 | .C ds,v,⟨a,xs,e,q,r⟩=>⟨a,xs,e,q,Am.kp S ds xs r⟩
 | .X C fs,v,⟨a,o,d,e,q,r⟩=>⟨a,o,d,e,S.f _ _ _ q,r.kp S⟩
theorem Ax.kp(S:Kp H H'){xs:List AV}{vs:List V}(h:Ax K H xs vs):Ax K H' xs vs:=Paired.mapP h λ_ _ q=>q.kp S
theorem Ax.length{xs:List AV}{vs:List V}(h:Ax K H xs vs):xs.length=vs.length:=Paired.length h
theorem Ax.append{xs ys:List AV}{us ws:List V}(h:Ax K H xs us)(s:Ax K H ys ws):Ax K H (xs++ys) (us++ws):=by
 induction h with
 | nil=>exact s
 | cons r t ih=>exact .cons r ih
theorem Ax.get:∀{xs:List AV} {us:List V} {i:Nat} {x:AV},Ax K H xs us->xs[i]?=some x->∃u,us[i]?=some u/\RelA K H x u
 | _,_,_,_,.nil,e=>by simp at e
 | _,_,0,_,.cons r _,e=>by simp at e;subst e;exact⟨_,rfl,r⟩
 | _,_,i+1,x,.cons _ t,e=>by
  obtain⟨u,h1,h2⟩:=Ax.get (i:=i) (x:=x) t (by simpa using e)
  exact⟨u,by simpa using h1,h2⟩
theorem Ax.set{x:AV}{u:V}(r:RelA K H x u):∀{xs:List AV} {us:List V} (i:Nat),Ax K H xs us->Ax K H (xs.set i x) (us.set i u)
 | _,_,_,.nil=>.nil
 | _,_,0,.cons _ t=>.cons r t
 | _,_,i+1,.cons q t=>.cons q (Ax.set r i t)
theorem Ax.drop:∀{xs:List AV} {us:List V} (n:Nat),Ax K H xs us->Ax K H (xs.drop n) (us.drop n)
 | _,_,0,r=>r
 | _,_,_+1,.nil=>.nil
 | _,_,n+1,.cons _ t=>Ax.drop n t
theorem Ax.take:∀{xs:List AV} {us:List V} (n:Nat),Ax K H xs us->Ax K H (xs.take n) (us.take n)
 | _,_,0,_=>.nil
 | _,_,_+1,.nil=>.nil
 | _,_,n+1,.cons r t=>.cons r (Ax.take n t)
def D8(xs:List AV)(lo hi:Option Int):List AV:=(xs.drop (HT.sIx xs.length 0 lo)).take (HT.sIx xs.length xs.length hi - HT.sIx xs.length 0 lo)
theorem Ax.cut{xs:List AV}{us:List V}(h:Ax K H xs us)(lo hi:Option Int):Ax K H (D8 xs lo hi) (Jr us lo hi):=by
 unfold D8 Jr
 rw [h.length]
 exact(h.drop _).take _
theorem Ax.atI{xs:List AV}{us:List V}{i:Int}{x:AV}(h:Ax K H xs us)(e:atI xs i=some x):∃u,L2.atI us i=some u/\RelA K H x u:=by
 unfold L2.atI at e ⊢
 rw [<- h.length]
 cases q:Sv xs.length i with
 | none=>rw [q]at e;cases e
 | some j =>
  rw [q]at e
  obtain⟨x,hx,hd⟩:=h.get (show xs[j]?=some x from e)
  exact⟨x,hx,hd⟩
def dats:List AV->Option (List PyData)
 | []=>some []
 | .D d :: r=>match dats r with
  | some ds=>some (d :: ds)
  | none=>none
 | .R _ :: _=>none
 | .C _ :: _=>none
 | .X _ _ :: _=>none
@[simp] theorem dats_nil:dats []=some []:=rfl
theorem B8:∀(ds:List PyData),dats (ds.map .D)=some ds
 | []=>rfl
 | d :: ds=>by simp only [List.map_cons,dats,B8 ds]
theorem Fc:∀{xs:List AV} {ds:List PyData},dats xs=some ds->xs=ds.map .D
 | [],ds,h=>by cases h;rfl
 | .D d :: r,ds,h=>by
  simp only [dats]at h
  cases q:dats r with
  | none=>rw [q]at h;cases h
  | some es=>rw [q]at h;cases h;rw [Fc q];rfl
 | .R _ :: _,_,h=>by simp [dats]at h
 | .C _ :: _,_,h=>by simp [dats]at h
 | .X _ _ :: _,_,h=>by simp [dats]at h
theorem Ax.dk:∀{ds:List PyData} {vs:List V},Ax K H (ds.map .D) vs->Am K H ds vs
 | [],_,h=>by cases h;exact Dc
 | _ :: _,_,h=>by
  rw [List.map_cons]at h
  cases h with
  | cons r t=>exact Cg r (Ax.dk t)
theorem Am.rel:∀{ds:List PyData} {vs:List V},Am K H ds vs->Ax K H (ds.map .D) vs
 | [],_,h=>by rw [h.nil];exact .nil
 | _ :: _,_,h=>by
  obtain⟨x,r,rfl,h1,h2⟩:=h.cons
  exact .cons h1 (Am.rel h2)
theorem Ax.dats{xs:List AV}{vs:List V}{ds:List PyData}(h:Ax K H xs vs)(e:dats xs=some ds):Am K H ds vs:=by rw [Fc e]at h;exact h.dk
inductive MO where
 | lst (xs:List AV) | dk (kvs:List (Key×AV)) | dt (kvs:List (List Key×AV)) | dd (kvs:List (PyData×AV))
abbrev M:=Addr->Option MO
def Ar(μ:M)(a:Addr)(m:MO):M:=λb=>if b=a then some m else μ b
theorem Ac{μ:M}{a:Addr}{m:MO}:Ar μ a m a=some m:=by unfold Ar;rw [if_pos rfl]
theorem Ad{μ:M}{a b:Addr}{m:MO}(h:b≠a):Ar μ a m b=μ b:=by unfold Ar;rw [if_neg h]
theorem De{μ:M}{a:Addr}{m n:MO}:Ar (Ar μ a m) a n=Ar μ a n:=by funext b;unfold Ar;split <;> rfl
def Ev{κ:Type}(K:PySem.W.Frag)(H:Hp):List (κ×AV)->List (κ×V)->Prop:=Paired λp q=>p.1=q.1/\RelA K H p.2 q.2
theorem Ev.kp{κ:Type}(S:Kp H H'){xs:List (κ×AV)}{vs:List (κ×V)}(h:Ev K H xs vs):Ev K H' xs vs:=Paired.mapP h λ_ _ q=>⟨q.1,q.2.kp S⟩
def Xk(K:PySem.W.Frag)(H:Hp):List (PyData×AV)->List (PyData×Addr×Value)->Prop:=Paired λp q=>p.1=q.1/\KeyTree p.1/\Dk K H p.1 (.ref q.2.1)/\∃v,RelA K H p.2 v/\Bj v q.2.2
theorem Xk.kp(S:Kp H H'){xs:List (PyData×AV)}{vs:List (PyData×Addr×Value)}(h:Xk K H xs vs):Xk K H' xs vs:=Paired.mapP h λ_ _ ⟨a,b,c,v,r,q⟩=>⟨a,b,Dk.kp S _ _ c,v,r.kp S,q⟩
def Mg(K:PySem.W.Frag)(H:Hp):MO->HO->Prop
 | .lst xs,o=>∃vs,o=.lst vs/\Ax K H xs vs
 | .dk kvs,o=>∃vs,o=.dK vs/\Ev K H kvs vs
 | .dt kvs,o=>∃vs,o=.dT vs/\Ev K H kvs vs
 | .dd kvs,o=>∃xs,o=.dd xs/\Xk K H kvs xs
theorem Mg.kp(S:Kp H H'){m:MO}{o:HO}(h:Mg K H m o):Mg K H' m o:=by
 cases m with
 | lst xs=>obtain⟨vs,e,r⟩:=h;exact⟨vs,e,r.kp S⟩
 | dk xs=>obtain⟨vs,e,r⟩:=h;exact⟨vs,e,r.kp S⟩
 | dt xs=>obtain⟨vs,e,r⟩:=h;exact⟨vs,e,r.kp S⟩
 | dd xs=>obtain⟨vs,e,r⟩:=h;exact⟨vs,e,r.kp S⟩
theorem Da{xs:List AV}{vs:List V}(h:Ax K H xs vs):Mg K H (.lst xs) (.lst vs):=⟨vs,rfl,h⟩
def Cn(K:PySem.W.Frag)(μ:M)(H:Hp):Prop:=∀a m,μ a=some m->∃o,H a=some o/\Mg K H m o
theorem Cn.none{μ:M}{p:Addr}(c:Cn K μ H)(h:H p=none):μ p=none:=by
 cases q:μ p with
 | none=>rfl
 | some m=>obtain⟨o,e,_⟩:=c p m q;rw [h]at e;cases e
theorem Cn.over{μ:M}{p:Addr}{o:HO}(c:Cn K μ H)(h:H p=Option.none):Cn K μ (upd H p o):=λa m e=>by
 obtain⟨o',e',r⟩:=c a m e
 exact⟨o',by rw [Bd (Cf e' h)];exact e',r.kp (Kp.new h o)⟩
theorem Cn.new{μ:M}{p:Addr}{m:MO}{o:HO}(c:Cn K μ H)(h:H p=Option.none)(r:Mg K H m o):Cn K (Ar μ p m) (upd H p o):=λa m' e=>by
 by_cases ha:a=p
 ·subst ha;rw [Ac]at e;cases e;exact⟨o,B7,r.kp (Kp.new h o)⟩
 ·rw [Ad ha]at e;exact c.over h a m' e
theorem Cn.put{μ:M}{p:Addr}{m:MO}{o o0:HO}(c:Cn K μ H)(h:H p=some o0)(hm:Mt o0)(r:Mg K H m o):Cn K (Ar μ p m) (upd H p o):=λa m' e=>by
 by_cases ha:a=p
 ·subst ha;rw [Ac]at e;cases e;exact⟨o,B7,r.kp (Kp.put h hm o)⟩
 ·rw [Ad ha]at e
  obtain⟨o',e',r'⟩:=c a m' e
  exact⟨o',by rw [Bd ha];exact e',r'.kp (Kp.put h hm o)⟩
def Sub(μ ν:M):Prop:=∀a m,μ a=some m->ν a=some m
theorem Sub.refl{μ:M}:Sub μ μ:=λ_ _ h=>h
theorem Sub.new{μ ν:M}{p:Addr}{m:MO}(h:Sub μ ν)(e:μ p=none):Sub μ (Ar ν p m):=λa m' e'=>by
 rw [Ad (by intro z;subst z;rw [e]at e';cases e')];exact h a m' e'
theorem Sub.none{μ ν:M}{p:Addr}(h:Sub μ ν)(e:ν p=none):μ p=none:=by
 cases q:μ p with
 | none=>rfl
 | some m=>rw [h p m q]at e;cases e
theorem Cn.sub{μ ν:M}(c:Cn K ν H)(h:Sub μ ν):Cn K μ H:=λa m e=>c a m (h a m e)
abbrev ASt:=List (Option AV)
def J8(K:PySem.W.Frag)(H:Hp)(a:Option AV)(b:Option V):Prop:=∀x,a=some x->∃v,b=some v/\RelA K H x v
abbrev Dz(K:PySem.W.Frag)(H:Hp):ASt->St->Prop:=Paired (J8 K H)
theorem J8.kp{a:Option AV}{b:Option V}(S:Kp H H')(h:J8 K H a b):J8 K H' a b:=λx e=>let⟨v,e2,r⟩:=h x e;⟨v,e2,r.kp S⟩
theorem Dz.kp{τ:ASt}{σ:St}(S:Kp H H')(h:Dz K H τ σ):Dz K H' τ σ:=Paired.mapP h λ_ _ q=>q.kp S
theorem Dz.get:∀{τ:ASt} {σ:St} {i:Nat} {x:AV},Dz K H τ σ->τ[i]?=some (some x)->∃v,σ[i]?=some (some v)/\RelA K H x v
 | _,_,_,_,.nil,e=>by simp at e
 | _,_,0,_,.cons r _,e=>by simp at e;subst e;obtain⟨v,rfl,q⟩:=r _ rfl;exact⟨v,rfl,q⟩
 | _,_,i+1,x,.cons _ t,e=>by
  obtain⟨u,h1,h2⟩:=Dz.get (i:=i) (x:=x) t (by simpa using e)
  exact⟨u,by simpa using h1,h2⟩
theorem Iq{x:AV}{v:V}(r:RelA K H x v):J8 K H (some x) (some v):=λy e=>by cases e;exact⟨v,rfl,r⟩
theorem Ir{b:Option V}:J8 K H none b:=λy e=>nomatch e
theorem Dz.set{x:AV}{v:V}(r:RelA K H x v):∀{τ:ASt} {σ:St} (i:Nat),Dz K H τ σ->Dz K H (τ.set i (some x)) (σ.set i (some v))
 | _,_,_,.nil=>.nil
 | _,_,0,.cons _ t=>.cons (Iq r) t
 | _,_,i+1,.cons q t=>.cons q (Dz.set r i t)
def Le(N:List Str)(xs:List AV):ASt:=xs.map some++List.replicate (N.length - xs.length) none
theorem Dz.rep:∀(n:Nat),Dz K H (List.replicate n none) (List.replicate n none)
 | 0=>.nil
 | n+1=>.cons Ir (Dz.rep n)
theorem Dz.somes:∀{xs:List AV} {vs:List V},Ax K H xs vs->Dz K H (xs.map some) (vs.map some)
 | _,_,.nil=>.nil
 | _,_,.cons r t=>.cons (Iq r) (Dz.somes t)
theorem Dz.append{τ τ':ASt}{σ σ':St}(h:Dz K H τ σ)(s:Dz K H τ' σ'):Dz K H (τ++τ') (σ++σ'):=by
 induction h with
 | nil=>exact s
 | cons r t ih=>exact .cons r ih
theorem Dz.begin{N:List Str}{xs:List AV}{vs:List V}(h:Ax K H xs vs):Dz K H (Le N xs) (start N vs):=by
 unfold Le start
 rw [h.length]
 exact(Dz.somes h).append (Dz.rep _)
def Qex(mp:List (Option Nat))(τ:ASt):ASt:=mp.map λo=>match o with
 | none=>none
 | some j=>match τ[j]? with
  | some x=>x
  | none=>none
theorem Dz.sub{τ:ASt}{σ:St}(h:Dz K H τ σ):∀(mp:List (Option Nat)),Dz K H (Qex mp τ) (Mc mp σ)
 | []=>.nil
 | none :: mp=>.cons Ir (Dz.sub h mp)
 | some j :: mp=>by
  refine .cons (λx e=>?_) (Dz.sub h mp)
  have e':τ[j]?=some (some x):=by
   dsimp only at e
   cases q:τ[j]? with
   | none=>rw [q]at e;cases e
   | some y=>rw [q]at e;exact congrArg some e
  obtain⟨v,hv,r⟩:=h.get e'
  refine⟨v,?_,r⟩
  show(σ[j]?).join=some v
  rw [hv];rfl
end
abbrev AE:=ASt->M->(AV->M->Prop)->Prop
abbrev AT:=ASt->M->(Bool->M->Prop)->Prop
abbrev AA:=ASt->M->(List AV->M->Prop)->Prop
abbrev AO:=ASt->M->(Option Int->M->Prop)->Prop
abbrev AS:=(ASt->M->Prop)->(AV->M->Prop)->(ASt->M->Prop)->(ASt->M->Prop)->ASt->M->Prop
abbrev AG:=AV->ASt->M->(ASt->M->Prop)->Prop
abbrev AGs:=List AV->ASt->M->(ASt->M->Prop)->Prop
abbrev A2:=AV->AV->M->(AV->M->Prop)->Prop
abbrev AC:=List AV->M->(AV->M->Prop)->Prop
@[irreducible] def brP (b:Bool) (T F:Prop):Prop:=match b with
 | true=>T
 | false=>F
@[irreducible] def opt {α:Type} (o:Option α) (k:α->Prop):Prop:=match o with
 | some x=>k x
 | none=>False
theorem br{b:Bool}{T F:Prop}(h1:b=true->T)(h2:b=false->F):brP b T F:=by
 unfold brP;cases b with
 | true=>exact h1 rfl
 | false=>exact h2 rfl
theorem Gs{b:Bool}{T F:Prop}(hb:b=true)(h:T):brP b T F:=by subst hb;unfold brP;exact h
theorem Hj{b:Bool}{T F:Prop}(hb:b=false)(h:F):brP b T F:=by subst hb;unfold brP;exact h
theorem T7{T F:Prop}:brP true T F=T:=by unfold brP;rfl
theorem br_e{b:Bool}{T F:Prop}(h:brP b T F):(b=true/\T)\/(b=false/\F):=by
 unfold brP at h;cases b with
 | true=>exact .inl ⟨rfl,h⟩
 | false=>exact .inr ⟨rfl,h⟩
theorem Ab{α:Type}{o:Option α}{x:α}{k:α->Prop}(h:o=some x)(q:k x):opt o k:=by subst h;unfold opt;exact q
theorem Bb{α:Type}{o:Option α}{k:α->Prop}(h:opt o k):∃x,o=some x/\k x:=by
 unfold opt at h;cases o with
 | none=>exact h.elim
 | some x=>exact⟨x,rfl,h⟩
theorem dif{p:Prop} [Decidable p]{T F:Prop}(h1:p->T)(h2:¬p->F):brP (decide p) T F:=br (λh=>h1 (of_decide_eq_true h)) (λh=>h2 (of_decide_eq_false h))
def LV(K:PySem.W.Frag)(H:Hp)(R:AV->M->Prop)(Q:VK):Prop:=∀x μ v H',Kp H H'->Cn K μ H'->RelA K H' x v->R x μ->Q v H'
def LB(K:PySem.W.Frag)(H:Hp)(R:Bool->M->Prop)(Q:Bool->Hp->Prop):Prop:=∀b μ H',Kp H H'->Cn K μ H'->R b μ->Q b H'
def LA(K:PySem.W.Frag)(n:Nat)(H:Hp)(R:List AV->M->Prop)(Q:List V->Hp->Prop):Prop:=∀xs μ vs H',Kp H H'->Cn K μ H'->Ax K H' xs vs->xs.length=n->R xs μ->Q vs H'
def LO(K:PySem.W.Frag)(H:Hp)(R:Option Int->M->Prop)(Q:Option Int->Hp->Prop):Prop:=∀b μ H',Kp H H'->Cn K μ H'->R b μ->Q b H'
def LS(K:PySem.W.Frag)(H:Hp)(R:ASt->M->Prop)(Q:St->Hp->Prop):Prop:=∀ τ μ σ H',Kp H H'->Dz K H' τ σ->Cn K μ H'->R τ μ->Q σ H'
theorem LV.kp{K:PySem.W.Frag}{H H':Hp}{R:AV->M->Prop}{Q:VK}(h:LV K H R Q)(S:Kp H H'):LV K H' R Q:=λx μ v H2 S2=>h x μ v H2 (S.trans S2)
theorem LB.kp{K:PySem.W.Frag}{H H':Hp}{R:Bool->M->Prop}{Q:Bool->Hp->Prop}(h:LB K H R Q)(S:Kp H H'):LB K H' R Q:=λx μ H2 S2=>h x μ H2 (S.trans S2)
theorem LS.kp{K:PySem.W.Frag}{H H':Hp}{R:ASt->M->Prop}{Q:St->Hp->Prop}(h:LS K H R Q)(S:Kp H H'):LS K H' R Q:=λx μ v H2 S2=>h x μ v H2 (S.trans S2)
structure LE'(K:PySem.W.Frag)(H:Hp)(k:ASt->M->Prop)(r:AV->M->Prop)(b c:ASt->M->Prop)(D:Ends):Prop where
 nx:LS K H k D.nx
 rt:LV K H r D.rt
 bk:LS K H b D.bk
 ct:LS K H c D.ct
theorem LE'.kp{K:PySem.W.Frag}{H H':Hp}{k:ASt->M->Prop}{r:AV->M->Prop}{b c:ASt->M->Prop}{D:Ends}(h:LE' K H k r b c D)(S:Kp H H'):LE' K H' k r b c D:=⟨h.nx.kp S,h.rt.kp S,h.bk.kp S,h.ct.kp S⟩
def cE(K:PySem.W.Frag)(t:AE):TE:=fun σ H Q=>∃ τ μ R,Dz K H τ σ/\Cn K μ H/\t τ μ R/\LV K H R Q
def cT(K:PySem.W.Frag)(t:AT):TT:=fun σ H Q=>∃ τ μ R,Dz K H τ σ/\Cn K μ H/\t τ μ R/\LB K H R Q
def cA(K:PySem.W.Frag)(n:Nat)(t:AA):TA:=fun σ H Q=>∃ τ μ R,Dz K H τ σ/\Cn K μ H/\t τ μ R/\LA K n H R Q
def cO(K:PySem.W.Frag)(t:AO):TO:=fun σ H Q=>∃ τ μ R,Dz K H τ σ/\Cn K μ H/\t τ μ R/\LO K H R Q
def cS(K:PySem.W.Frag)(t:AS):TS:=λD σ H=>∃ τ μ k r b c,Dz K H τ σ/\Cn K μ H/\t k r b c τ μ/\LE' K H k r b c D
def cG(K:PySem.W.Frag)(t:AG):TG:=λv σ H Q=>∃x τ μ R,RelA K H x v/\Dz K H τ σ/\Cn K μ H/\t x τ μ R/\LS K H R Q
def cGs(K:PySem.W.Frag)(t:AGs):TGs:=λvs σ H Q=>∃xs τ μ R,Ax K H xs vs/\Dz K H τ σ/\Cn K μ H/\t xs τ μ R/\LS K H R Q
def cR(K:PySem.W.Frag)(r:A2):R2:=λx y H Q=>∃a b μ R,RelA K H a x/\RelA K H b y/\Cn K μ H/\r a b μ R/\LV K H R Q
def cC(K:PySem.W.Frag)(r:AC):List V->Hp->VK->Prop:=λxs H Q=>∃as μ R,Ax K H as xs/\Cn K μ H/\r as μ R/\LV K H R Q
def cM(K:PySem.W.Frag)(r:AV->AC):V->List V->Hp->VK->Prop:=λx xs H Q=>∃a as μ R,RelA K H a x/\Ax K H as xs/\Cn K μ H/\r a as μ R/\LV K H R Q
def VE(X:Cx)(e:Expr)(t:AE):Prop:=PE X e (cE X.K t)
def VT(X:Cx)(e:Expr)(t:AT):Prop:=PT X e (cT X.K t)
def VW(X:Cx)(e:Expr)(t:AT):Prop:=PW X e (cT X.K t)
def VA(X:Cx)(es:List Expr)(t:AA):Prop:=PA X es (cA X.K es.length t)
def VO(X:Cx)(e:Option Expr)(t:AO):Prop:=PO X e (cO X.K t)
def VS(X:Cx)(st:Stmt)(t:AS):Prop:=PS X st (cS X.K t)
def VSs(X:Cx)(st:List Stmt)(t:AS):Prop:=PSs X st (cS X.K t)
def VG(X:Cx)(e:Expr)(t:AG):Prop:=PG X e (cG X.K t)
def VGs(X:Cx)(es:List Expr)(t:AGs):Prop:=PGs X es (cGs X.K t)
def VOp(X:Cx)(f:Value->Value->Sem Value)(r:A2):Prop:=Gu X f (cR X.K r)
def VIx(X:Cx)(r:A2):Prop:=IxR X (cR X.K r)
def VCall(X:Cx)(f:Value)(r:AC):Prop:=Fk X f (cC X.K r)
def VMt(X:Cx)(id:String)(r:AV->AC):Prop:=MtR X id (cM X.K r)
section
variable {X:Cx}
theorem PE.imp{e:Expr}{t u:TE}(h:PE X e t)(i:∀ σ H Q,u σ H Q->t σ H Q):PE X e u:=λpins s σ H Q I q=>h pins s σ H Q I (i σ H Q q)
theorem PT.imp{e:Expr}{t u:TT}(h:PT X e t)(i:∀ σ H Q,u σ H Q->t σ H Q):PT X e u:=λpins s σ H Q I q=>h pins s σ H Q I (i σ H Q q)
theorem PW.imp{e:Expr}{t u:TT}(h:PW X e t)(i:∀ σ H Q,u σ H Q->t σ H Q):PW X e u:=λwh pins s σ H Q I q=>h wh pins s σ H Q I (i σ H Q q)
theorem PA.imp{e:List Expr}{t u:TA}(h:PA X e t)(i:∀ σ H Q,u σ H Q->t σ H Q):PA X e u:=λpos pins s σ H Q I q=>h pos pins s σ H Q I (i σ H Q q)
theorem PO.imp{e:Option Expr}{t u:TO}(h:PO X e t)(i:∀ σ H Q,u σ H Q->t σ H Q):PO X e u:=λpins s σ H Q I q=>h pins s σ H Q I (i σ H Q q)
theorem PS.imp{e:Stmt}{t u:TS}(h:PS X e t)(i:∀D σ H,u D σ H->t D σ H):PS X e u:=λpins s σ H D I q=>h pins s σ H D I (i D σ H q)
theorem PSs.imp{e:List Stmt}{t u:TS}(h:PSs X e t)(i:∀D σ H,u D σ H->t D σ H):PSs X e u:=λpins s σ H D I q=>h pins s σ H D I (i D σ H q)
theorem PG.imp{e:Expr}{t u:TG}(h:PG X e t)(i:∀v σ H Q,u v σ H Q->t v σ H Q):PG X e u:=λpins s σ H v w Q I r q=>h pins s σ H v w Q I r (i v σ H Q q)
theorem PGs.imp{e:List Expr}{t u:TGs}(h:PGs X e t)(i:∀v σ H Q,u v σ H Q->t v σ H Q):PGs X e u:=λpins s σ H v w Q I r q=>h pins s σ H v w Q I r (i v σ H Q q)
def Oi(i:Nat):AE:=fun τ μ R=>match τ[i]? with
 | some (some x)=>R x μ
 | _=>False
theorem T8{K:PySem.W.Frag}{i:Nat}{σ:St}{H:Hp}{Q:VK}(h:cE K (Oi i) σ H Q):Qdx i σ H Q:=by
 obtain⟨τ,μ,R,hs,hc,h,hq⟩:=h
 unfold Oi at h
 split at h
 ·rename_i x e
  obtain⟨v,ev,r⟩:=hs.get e
  exact⟨v,ev,hq _ _ _ _ Kp.refl hc r h⟩
 ·exact h.elim
theorem vv(i:Nat){x:Str}{pos:Pos}(hN:X.N[i]?=some x:=by rfl)(hv:Vis X.env.scope x:=by first | exact Or.inl rfl | exact Or.inr (Or.inl rfl) | exact Or.inr (Or.inr rfl))(hd:(x==("__debug__" : Str))=false:=by decide)
  (hcd:(x==("__classdict__" : Str))=false:=by decide):VE X (.Name x pos) (Oi i):=(Qaj hN hv hd hcd).imp λ_ _ _ h=>T8 h
def vC(x:AV):AE:=λ_ μ R=>R x μ
theorem Ew{e:Expr}{v:V}{d:PyData}(h:PE X e (tC v))(r:∀H,Dk X.K H d v):VE X e (vC (.D d)):=h.imp fun σ H Q zz1=>Cd zz1 fun τ μ R hs hc h hq=>hq _ _ _ _ Kp.refl hc (Oh (r H)) h
theorem Af{i j pos}:VE X (.Constant (.int i) j pos) (vC (.D (.int i))):=Ew Qak λ_=>Dh
theorem Mh{b j pos}:VE X (.Constant (.bool b) j pos) (vC (.D (.bool b))):=Ew Qdy λ_=>J7
theorem Dx{j pos}:VE X (.Constant .none j pos) (vC (.D .none)):=Ew Qal λ_=>T5
theorem Bh{x j pos}:VE X (.Constant (.str x) j pos) (vC (.D (.str x))):=Ew Qam λ_=>Of
theorem Pr{x:Str}{v:V}{u:Value}{d:PyData}{pos:Pos}(hg:Gl X x)(hm:X.mg x=some u)(r:Bj v u)(hd:∀H,Dk X.K H d v)(h1:(x==("__debug__" : Str))=false:=by decide):VE X (.Name x pos) (vC (.D d)):=Ew (Wl hg hm r h1) hd
def Xl(r:A2)(ta tb:AE):AE:=fun τ μ R=>ta τ μ λx μ1=>tb τ μ1 λy μ2=>r x y μ2 R
theorem Hu{K:PySem.W.Frag}{r:A2}{ta tb:AE}{σ:St}{H:Hp}{Q:VK}(h:cE K (Xl r ta tb) σ H Q):tOp (cR K r) (cE K ta) (cE K tb) σ H Q:=by
 obtain⟨τ,μ,R,hs,hc,h,hq⟩:=h
 exact⟨τ,μ,_,hs,hc,h,λx μ1 v H1 S1 c1 rx hx=>⟨τ,μ1,_,hs.kp S1,c1,hx,λy μ2 u H2 S2 c2 ry hy=>⟨x,y,μ2,R,rx.kp S2,ry,c2,hy,hq.kp (S1.trans S2)⟩⟩⟩
variable {a b c:Expr}{ta tb tc:AE}{pos:Pos}
theorem A0{op:Operator}{r:A2}(ho:VOp X (binaryOp op) r)(ha:VE X a ta)(hb:VE X b tb):VE X (.BinOp a op b pos) (Xl r ta tb):=(Qd9 ho ha hb).imp λ_ _ _ h=>Hu h
theorem Gw{op:CmpOp}{r:A2}(ho:VOp X (compareOp op) r)(ha:VE X a ta)(hb:VE X b tb)(hm:behindInMarks op b=false):VE X (.Compare a [op] [b] pos) (Xl r ta tb):=(Ww ho ha hb hm).imp λ_ _ _ h=>Hu h
def Mi(t:AE):AT:=fun τ μ R=>t τ μ λx μ1=>match x with
 | .D (.bool k)=>R k μ1
 | _=>False
theorem Gx{K:PySem.W.Frag}{t:AE}{u:TE}(hu:∀ σ H Q,cE K t σ H Q->u σ H Q){σ:St}{H:Hp}{Q:Bool->Hp->Prop}(h:cT K (Mi t) σ H Q):Y9 u σ H Q:=by
 obtain⟨τ,μ,R,hs,hc,h,hq⟩:=h
 refine hu _ _ _ ⟨τ,μ,_,hs,hc,h,λx μ1 v H1 S1 c1 rx hx=>?_⟩
 split at hx
 ·cases RelA.bl rx
  exact⟨_,rfl,hq _ _ _ S1 c1 hx⟩
 ·exact hx.elim
theorem Bg{op:CmpOp}{r:A2}(ho:VOp X (compareOp op) r)(ha:VE X a ta)(hb:VE X b tb)(hm:behindInMarks op b=false):VT X (.Compare a [op] [b] pos) (Mi (Xl r ta tb)) :=
 (Wx ho ha hb hm).imp λ_ _ _ h=>Gx (λ_ _ _ q=>Hu q) h
def T9(r r':A2)(ta tb tc:AE):AE:=fun τ μ R=>ta τ μ λx μ1=>tb τ μ1 λy μ2=>r x y μ2 λz μ3=>match z with
 | .D (.bool k)=>brP k (tc τ μ3 λw μ4=>r' y w μ4 R) (R (.D (.bool false)) μ3)
 | _=>False
theorem Oj{K:PySem.W.Frag}{r r':A2}{ta tb tc:AE}{σ:St}{H:Hp}{Q:VK}(h:cE K (T9 r r' ta tb tc) σ H Q):Ti (cR K r) (cR K r') (cE K ta) (cE K tb) (cE K tc) σ H Q:=by
 obtain⟨τ,μ,R,hs,hc,h,hq⟩:=h
 refine⟨τ,μ,_,hs,hc,h,λx μ1 v H1 S1 c1 rx hx=>⟨τ,μ1,_,hs.kp S1,c1,hx,λy μ2 u H2 S2 c2 ry hy=>⟨x,y,μ2,_,rx.kp S2,ry,c2,hy,λz μ3 q H3 S3 c3 rz hz=>?_⟩⟩⟩
 split at hz
 ·cases RelA.bl rz
  rcases br_e hz with⟨rfl,hz'⟩ | ⟨rfl,hz'⟩
  ·exact⟨true,rfl,by
    first
     | exact⟨τ,μ3,_,hs.kp (S1.trans (S2.trans S3)),c3,hz',λw μ4 p H4 S4 c4 rw hw=>⟨y,w,μ4,R,ry.kp (S3.trans S4),rw,c4,hw,hq.kp (S1.trans (S2.trans (S3.trans S4)))⟩⟩
     | (rw [if_pos rfl];exact⟨τ,μ3,_,hs.kp (S1.trans (S2.trans S3)),c3,hz',λw μ4 p H4 S4 c4 rw hw=>⟨y,w,μ4,R,ry.kp (S3.trans S4),rw,c4,hw,hq.kp (S1.trans (S2.trans (S3.trans S4)))⟩⟩)⟩
  ·exact⟨false,rfl,by
    first
     | exact hq _ _ _ _ (S1.trans (S2.trans S3)) c3 Cs hz'
     | (rw [if_neg Bool.false_ne_true];exact hq _ _ _ _ (S1.trans (S2.trans S3)) c3 Cs hz')⟩
 ·exact hz.elim
theorem Ua{op op':CmpOp}{r r':A2}(ho:VOp X (compareOp op) r)(ho':VOp X (compareOp op') r')(ha:VE X a ta)(hb:VE X b tb)(hc:VE X c tc)(hm:lastMarks [op,op'] [b,c]=false:=by rfl):VE X (.Compare a [op,op'] [b,c] pos) (T9 r r' ta tb tc) :=
 (Tj ho ho' ha hb hc hm).imp λ_ _ _ h=>Oj h
theorem Dj{e:Expr}{t:AE}(h:VE X e t)(he:∀whole,isTrue e X.env whole=(do let v <- whole;standAt e.pos;holding [v] (truthy v)):=by intro _;rfl):VT X e (Mi t) :=
 (Qap h he).imp λ_ _ _ h=>by
  have h:=Gx (λ_ _ _ q=>q) h
  exact h
def Qis(t u:AT):AT:=fun τ μ R=>t τ μ λk μ1=>brP k (u τ μ1 R) (R false μ1)
def vOr(t u:AT):AT:=fun τ μ R=>t τ μ λk μ1=>brP k (R true μ1) (u τ μ1 R)
def Qit(t:AT):AT:=fun τ μ R=>t τ μ λk μ1=>R (!k) μ1
theorem VW.pt{e:Expr}{t:AT}(h:VW X e t):VT X e t:=PW.pt h
variable {rest:List Expr}{tA tB':AT}
theorem Ps(ha:VT X a tA):VW X (.BoolOp .And [a] pos) tA:=Wm ha
theorem Ex(ha:VT X a tA):VW X (.BoolOp .Or [a] pos) tA:=Qaq ha
theorem Ub(ha:VT X a tA)(hb:VW X (.BoolOp .And (b :: rest) pos) tB'):VW X (.BoolOp .And (a :: b :: rest) pos) (Qis tA tB') :=
 (Qar ha hb).imp fun σ H Q zz3=>Cd zz3 fun τ μ R hs hc h hq=>⟨τ,μ,_,hs,hc,h,λk μ1 H1 S1 c1 hk=>by
  rcases br_e hk with⟨rfl,hk'⟩ | ⟨rfl,hk'⟩
  ·exact⟨τ,μ1,R,hs.kp S1,c1,hk',hq.kp S1⟩
  ·exact hq _ _ _ S1 c1 hk'⟩
theorem Ey(ha:VT X a tA)(hb:VW X (.BoolOp .Or (b :: rest) pos) tB'):VW X (.BoolOp .Or (a :: b :: rest) pos) (vOr tA tB') :=
 (Qdz ha hb).imp fun σ H Q zz4=>Cd zz4 fun τ μ R hs hc h hq=>⟨τ,μ,_,hs,hc,h,λk μ1 H1 S1 c1 hk=>by
  rcases br_e hk with⟨rfl,hk'⟩ | ⟨rfl,hk'⟩
  ·exact hq _ _ _ S1 c1 hk'
  ·exact⟨τ,μ1,R,hs.kp S1,c1,hk',hq.kp S1⟩⟩
theorem Ej(ha:VT X a tA):VT X (.UnaryOp .Not a pos) (Qit tA):=(Qas ha).imp fun σ H Q zz5=>Cd zz5 fun τ μ R hs hc h hq=>⟨τ,μ,_,hs,hc,h,λk μ1 H1 S1 c1 hk=>hq _ _ _ S1 c1 hk⟩
theorem Ft{op}{t:AE}(h:VE X a t):VE X (.BoolOp op [a] pos) t:=Qat h
def Qey(ta tb:AE):AE:=fun τ μ R=>ta τ μ λx μ1=>match x with
 | .D (.bool k)=>brP k (tb τ μ1 R) (R (.D (.bool false)) μ1)
 | _=>False
def Qiu(ta tb:AE):AE:=fun τ μ R=>ta τ μ λx μ1=>match x with
 | .D (.bool k)=>brP k (R (.D (.bool true)) μ1) (tb τ μ1 R)
 | _=>False
def Qez(ta:AE):AE:=fun τ μ R=>ta τ μ λx μ1=>match x with
 | .D (.bool k)=>R (.D (.bool (!k))) μ1
 | _=>False
theorem Fu(ha:VE X a ta)(hb:VE X (.BoolOp .And (b :: rest) pos) tb):VE X (.BoolOp .And (a :: b :: rest) pos) (Qey ta tb) :=
 (Qau ha hb).imp fun σ H Q zz6=>Cd zz6 fun τ μ R hs hc h hq=>⟨τ,μ,_,hs,hc,h,λx μ1 v H1 S1 c1 rx hk=>by
  split at hk
  ·cases RelA.bl rx
   rcases br_e hk with⟨rfl,hk'⟩ | ⟨rfl,hk'⟩
   ·exact⟨true,rfl,⟨τ,μ1,R,hs.kp S1,c1,hk',hq.kp S1⟩⟩
   ·exact⟨false,rfl,hq _ _ _ _ S1 c1 Cs hk'⟩
  ·exact hk.elim⟩
theorem Qe0(ha:VE X a ta)(hb:VE X (.BoolOp .Or (b :: rest) pos) tb):VE X (.BoolOp .Or (a :: b :: rest) pos) (Qiu ta tb) :=
 (Qd2 ha hb).imp fun σ H Q zz7=>Cd zz7 fun τ μ R hs hc h hq=>⟨τ,μ,_,hs,hc,h,λx μ1 v H1 S1 c1 rx hk=>by
  split at hk
  ·cases RelA.bl rx
   rcases br_e hk with⟨rfl,hk'⟩ | ⟨rfl,hk'⟩
   ·exact⟨true,rfl,hq _ _ _ _ S1 c1 Cs hk'⟩
   ·exact⟨false,rfl,⟨τ,μ1,R,hs.kp S1,c1,hk',hq.kp S1⟩⟩
  ·exact hk.elim⟩
theorem Uc(ha:VE X a ta):VE X (.UnaryOp .Not a pos) (Qez ta) :=
 (Qav ha).imp fun σ H Q zz8=>Cd zz8 fun τ μ R hs hc h hq=>⟨τ,μ,_,hs,hc,h,λx μ1 v H1 S1 c1 rx hk=>by
  split at hk
  ·cases RelA.bl rx
   exact⟨_,rfl,hq _ _ _ _ S1 c1 Cs hk⟩
  ·exact hk.elim⟩
def Xm:AA:=λ_ μ R=>R [] μ
def Qe1(ta:AE)(tr:AA):AA:=fun τ μ R=>ta τ μ λx μ1=>tr τ μ1 λxs μ2=>R (x :: xs) μ2
theorem Ae:VA X [] Xm:=Qbb.imp fun σ H Q zz10=>Cd zz10 fun τ μ R hs hc h hq=>hq [] μ [] H Kp.refl hc .nil rfl h
theorem Aa{e:Expr}{es:List Expr}{te:AE}{t:AA}(ha:VE X e te)(hr:VA X es t)(hs:starEach (e :: es) X.env=(false,eval e X.env) :: starEach es X.env:=by rfl):VA X (e :: es) (Qe1 te t) :=
 (Wy ha hr hs).imp fun σ H Q zz11=>Cd zz11 fun τ μ R hs hc h hq=>⟨τ,μ,_,hs,hc,h,λx μ1 v H1 S1 c1 rx hx=>⟨τ,μ1,_,hs.kp S1,c1,hx,λxs μ2 vs H2 S2 c2 rs hl hxs =>
  hq (x :: xs) μ2 (v :: vs) H2 (S1.trans S2) c2 (.cons (rx.kp S2) rs) (by rw [List.length_cons,hl];rfl) hxs⟩⟩
def Qiv(t:AA):AE:=fun τ μ R=>t τ μ λxs μ1=>match dats xs with
 | some ds=>R (.D (.tuple ds)) μ1
 | none=>False
def Qiw(t:AA):AE:=fun τ μ R=>t τ μ λxs μ1=>∀p,μ1 p=none->R (.R p) (Ar μ1 p (.lst xs))
variable {es:List Expr}{t:AA}
theorem Cr{k:Nat}(h:VA X es t)(hn:es.length<=sizeLine:=by decide):VE X (.Tuple es k pos) (Qiv t) :=
 (Qbc h).imp fun σ H Q zz12=>Cd zz12 fun τ μ R hs hc h hq=>⟨τ,μ,_,hs,hc,h,λxs μ1 vs H1 S1 c1 rs hl hx=>⟨by rw [<- rs.length,hl];exact hn,λp hp=>by
  split at hx
  ·rename_i ds e
   refine hq _ _ _ _ (S1.trans (Kp.new hp _)) (c1.over hp) ?_ hx
   exact Og B7 (Am.kp (Kp.new hp _) _ _ (rs.dats e))
  ·exact hx.elim⟩⟩
theorem Ca(h:VA X es t)(hn:es.length<=sizeLine:=by decide):VE X (.List es pos) (Qiw t) :=
 (Qbd h).imp fun σ H Q zz13=>Cd zz13 fun τ μ R hs hc h hq=>⟨τ,μ,_,hs,hc,h,λxs μ1 vs H1 S1 c1 rs hl hx=>⟨by rw [<- rs.length,hl];exact hn,λp hp =>
  hq _ _ _ _ (S1.trans (Kp.new hp _)) (c1.new hp (Da (rs))) Dw (hx p (c1.none hp))⟩⟩
mutual
theorem Dk.reads{pins:List (Addr×Obj)}{σ:St}{H:Hp}{s:Shared}(I:Inv X pins σ H s):∀(d:PyData) (x:V) (u:Value),Dk X.K H d x->Bj x u->∃as,Reads s.heap u d as
 | .none,x,u,h,r=>by cases h.non;cases r;exact⟨_,.none⟩
 | .bool b,x,u,h,r=>by cases h.bl;cases r;exact⟨_,.bool b⟩
 | .int i,x,u,h,r=>by cases h.int;obtain⟨t,rfl⟩:=r;exact⟨_,.int i t⟩
 | .str z,x,u,h,r=>by cases h.str;obtain⟨t,rfl⟩:=r;exact⟨_,.str z t⟩
 | .list ds,x,u,h,r=>by
  obtain⟨a,xs,rfl,q,k⟩:=h.lst
  cases r
  obtain⟨its,rv,⟨o,n,e,c,_,d⟩,_⟩:=I.list q.sq
  obtain⟨as,ra⟩:=Am.reads I ds xs its k rv
  exact⟨_,.list e c d (by simpa using ra)⟩
 | .tuple ds,x,u,h,r=>by
  obtain⟨a,xs,rfl,q,k⟩:=h.tup
  cases r
  obtain⟨its,rv,⟨o,e,c,n,d⟩,_⟩:=I.tuple q.sq
  obtain⟨as,ra⟩:=Am.reads I ds xs its k rv
  exact⟨_,.tuple e c d (by simpa using ra)⟩
 | .dict _,x,u,h,_=>by simp only [Dk]at h
theorem Am.reads{pins:List (Addr×Obj)}{σ:St}{H:Hp}{s:Shared}(I:Inv X pins σ H s):∀(ds:List PyData) (xs:List V) (us:List Value),Am X.K H ds xs->Vals xs us->∃as,ReadsAll s.heap us ds as
 | [],xs,us,h,r=>by
  have e:=h.nil
  subst e
  cases r
  exact⟨_,.nil⟩
 | d :: ds,xs,us,h,r=>by
  obtain⟨x,xr,rfl,h1,h2⟩:=h.cons
  cases r with
  | cons r1 r2 =>
   obtain⟨as,ra⟩:=Dk.reads I d x _ h1 r1
   obtain⟨bs,rb⟩:=Am.reads I ds xr _ h2 r2
   exact⟨_,.cons ra rb⟩
end
def see(μ:M):AV->Option PyData
 | .X _ _=>none
 | .D d=>some d
 | .C ds=>some (.tuple ds)
 | .R a=>match μ a with
  | some (.lst xs)=>match dats xs with
   | some ds=>some (.list ds)
   | none=>none
  | _=>none
@[simp] theorem see_D {μ:M} {d:PyData}:see μ (.D d)=some d:=rfl
theorem Ct{pins:List (Addr×Obj)}{σ:St}{H:Hp}{s:Shared}{μ:M}{x:AV}{v:V}{u:Value}{d:PyData}(I:Inv X pins σ H s)(hc:Cn X.K μ H)(rx:RelA X.K H x v)(r:Bj v u)(e:see μ x=some d):∃as,Reads s.heap u d as:=by
 cases x with
 | X C fs=>cases e
 | D d'=>cases e;exact Dk.reads I _ _ _ rx r
 | C ds =>
  cases e
  obtain⟨a,xs,rfl,q,k⟩:=rx
  cases r
  obtain⟨its,rv,⟨o,e,c,n,d⟩,_⟩:=I.tuple (q H)
  obtain⟨as,ra⟩:=Am.reads I ds xs its k rv
  exact⟨_,.tuple e c d (by simpa using ra)⟩
 | R a =>
  dsimp only [see]at e
  split at e
  ·rename_i xs ex
   split at e
   ·rename_i ds ed
    cases e
    cases (show v=.ref a from rx)
    cases r
    obtain⟨o,ho,vs,rfl,rs⟩:=hc a _ ex
    obtain⟨its,rv,⟨o,n,e,c,_,dd⟩,_⟩:=I.list (D5.of ho)
    obtain⟨as,ra⟩:=Am.reads I ds vs its (rs.dats ed) rv
    exact⟨_,.list e c dd (by simpa using ra)⟩
   ·cases e
  ·cases e
def B3(d:PyData):Prop:=d.canLay0=true/\d.depth<=64
def aEq:A2:=λx y μ R=>match x,y with
 | .D d,.D e=>B3 d/\B3 e/\R (.D (.bool (PyData.eqv d e))) μ
 | x,y=>opt (see μ x) λd=>opt (see μ y) λe=>B3 d/\B3 e/\R (.D (.bool (PyData.eqv d e))) μ
theorem Xn{x y:AV}{μ:M}{R:AV->M->Prop}(h:aEq x y μ R):∃d e,see μ x=some d/\see μ y=some e/\B3 d/\B3 e/\R (.D (.bool (PyData.eqv d e))) μ:=by
 have g:∀(h:opt (see μ x) λd=>opt (see μ y) λe=>B3 d/\B3 e/\R (.D (.bool (PyData.eqv d e))) μ),∃d e,see μ x=some d/\see μ y=some e/\B3 d/\B3 e/\R (.D (.bool (PyData.eqv d e))) μ:=by
  intro h
  obtain⟨d,ed,h⟩:=Bb h
  obtain⟨e,ee,h⟩:=Bb h
  exact⟨d,e,ed,ee,h⟩
 cases x with
 | D d =>
  cases y with
  | D e=>exact⟨_,_,rfl,rfl,h⟩
  | _=>exact g h
 | _=>exact g h
def aNe:A2:=λx y μ R=>match x,y with
 | .D d,.D e=>B3 d/\B3 e/\R (.D (.bool (!PyData.eqv d e))) μ
 | x,y=>opt (see μ x) λd=>opt (see μ y) λe=>B3 d/\B3 e/\R (.D (.bool (!PyData.eqv d e))) μ
theorem Xo{x y:AV}{μ:M}{R:AV->M->Prop}(h:aNe x y μ R):∃d e,see μ x=some d/\see μ y=some e/\B3 d/\B3 e/\R (.D (.bool (!PyData.eqv d e))) μ:=by
 unfold aNe at h
 split at h
 ·exact⟨_,_,rfl,rfl,h⟩
 ·obtain⟨d,ed,h⟩:=Bb h
  obtain⟨e,ee,h⟩:=Bb h
  exact⟨d,e,ed,ee,h⟩
variable {k:Nat}
theorem Hs(hr:Room k X.A):VOp X (compareOp .Eq) aEq:=by
 intro pins s σ H x y v u Q I rx ry zz14
 refine Df zz14 λa b μ R ra rb hc h hq=>?_
 obtain⟨d,e,ed,ee,h⟩:=Xn h
 ·obtain⟨as,r1⟩:=Ct I hc ra rx ed
  obtain⟨bs,r2⟩:=Ct I hc rb ry ee
  have hu:=hr.un
  have:=h.1.2
  exact SeqAt.compareEq_reads r1 r2 h.1.1 h.2.1.1 (by omega) ⟨.bl _,H,I,rfl,hq _ _ _ _ Kp.refl hc Cs h.2.2⟩
theorem Qiy(hr:Room k X.A):VOp X (compareOp .NotEq) aNe:=by
 intro pins s σ H x y v u Q I rx ry zz15
 refine Df zz15 λa b μ R ra rb hc h hq=>?_
 obtain⟨d,e,ed,ee,h⟩:=Xo h
 ·obtain⟨as,r1⟩:=Ct I hc ra rx ed
  obtain⟨bs,r2⟩:=Ct I hc rb ry ee
  have hu:=hr.un
  have:=h.1.2
  exact SeqAt.compareNe_reads r1 r2 h.1.1 h.2.1.1 (by omega) ⟨.bl _,H,I,rfl,hq _ _ _ _ Kp.refl hc Cs h.2.2⟩
def Mj:PyData->Option Key
 | .int i=>some (.inl i)
 | .str z=>some (.inr z)
 | _=>none
def items(μ:M):AV->Option (List AV)
 | .D (.tuple ds)=>some (ds.map .D)
 | .C ds=>some (ds.map .D)
 | .D (.list ds)=>some (ds.map .D)
 | .R a=>match μ a with
  | some (.lst xs)=>some xs
  | _=>none
 | _=>none
theorem Gy{H:Hp}{μ:M}{x:AV}{v:V}{xs:List AV}(hc:Cn X.K μ H)(rx:RelA X.K H x v)(e:items μ x=some xs):∃p vs,v=.ref p/\(D5 X.K H p vs\/Hg X.K H p vs)/\Ax X.K H xs vs:=by
 unfold items at e
 split at e
 ·cases e;obtain⟨a,vs,rfl,q,r⟩:=RelA.tup rx;exact⟨a,vs,rfl,.inr q.sq,r.rel⟩
 ·cases e;obtain⟨a,vs,rfl,q,r⟩:=rx;exact⟨a,vs,rfl,.inr (q H),r.rel⟩
 ·cases e;obtain⟨a,vs,rfl,q,r⟩:=RelA.lst rx;exact⟨a,vs,rfl,.inl q.sq,r.rel⟩
 ·split at e
  ·rename_i ys ey
   cases e
   obtain⟨o,ho,vs,rfl,rs⟩:=hc _ _ ey
   exact⟨_,vs,rx,.inl (D5.of ho),rs⟩
  ·cases e
 ·cases e
def Rv:AV->Bool
 | .D (.tuple _)=>true
 | .C _=>true
 | _=>false
theorem Bp{H:Hp}{μ:M}{x:AV}{v:V}{xs:List AV}(hc:Cn X.K μ H)(rx:RelA X.K H x v)(e:items μ x=some xs):∃p vs,v=.ref p/\((Rv x=false/\D5 X.K H p vs)\/(Rv x=true/\Hg X.K H p vs))/\Ax X.K H xs vs:=by
 unfold items at e
 split at e
 ·cases e;obtain⟨a,vs,rfl,q,r⟩:=RelA.tup rx;exact⟨a,vs,rfl,.inr ⟨rfl,q.sq⟩,r.rel⟩
 ·cases e;obtain⟨a,vs,rfl,q,r⟩:=rx;exact⟨a,vs,rfl,.inr ⟨rfl,q H⟩,r.rel⟩
 ·cases e;obtain⟨a,vs,rfl,q,r⟩:=RelA.lst rx;exact⟨a,vs,rfl,.inl ⟨rfl,q.sq⟩,r.rel⟩
 ·split at e
  ·rename_i ys ey
   cases e
   obtain⟨o,ho,vs,rfl,rs⟩:=hc _ _ ey
   exact⟨_,vs,rx,.inl ⟨rfl,D5.of ho⟩,rs⟩
  ·cases e
 ·cases e
def aIn(nb:Bool->Bool):A2:=λx y μ R=>match y with
 | .D (.str j)=>match x with
  | .D (.str i)=>R (.D (.bool (nb (!(Builtin.Str.occurrences j i 0 j.length 1).isEmpty)))) μ
  | _=>False
 | .C ds=>opt (see μ x) λd=>B3 d/\B3 (.tuple ds)/\R (.D (.bool (nb (ds.any λe=>PyData.eqv e d)))) μ
 | .D (.tuple ds)=>opt (see μ x) λd=>B3 d/\B3 (.tuple ds)/\R (.D (.bool (nb (ds.any λe=>PyData.eqv e d)))) μ
 | y=>opt (see μ x) λd=>opt (items μ y) λys=>opt (dats ys) λds=>B3 d/\B3 (.tuple ds)/\R (.D (.bool (nb (ds.any λe=>PyData.eqv e d)))) μ
theorem Pt{nb:Bool->Bool}{x y:AV}{μ:M}{R:AV->M->Prop}(h:aIn nb x y μ R)(hn:∀z,y≠.D (.str z)):∃d ys ds,see μ x=some d/\items μ y=some ys/\dats ys=some ds/\B3 d/\B3 (.tuple ds)/\R (.D (.bool (nb (ds.any λe=>PyData.eqv e d)))) μ:=by
 unfold aIn at h
 split at h
 ·exact absurd rfl (hn _)
 ·obtain⟨d,ed,h⟩:=Bb h
  exact⟨d,_,_,ed,rfl,B8 _,h⟩
 ·obtain⟨d,ed,h⟩:=Bb h
  exact⟨d,_,_,ed,rfl,B8 _,h⟩
 ·obtain⟨d,ed,h⟩:=Bb h
  obtain⟨ys,ey,h⟩:=Bb h
  obtain⟨ds,eds,h⟩:=Bb h
  exact⟨d,ys,ds,ed,ey,eds,h⟩
theorem Mk{ds:List PyData}(h:B3 (.tuple ds)):PyData.canLayAll0 ds=true/\PyData.depthAll ds<=64:=by
 obtain⟨h1,h2⟩:=h
 simp only [PyData.canLay0]at h1
 simp only [PyData.depth]at h2
 exact⟨h1,by omega⟩
theorem Qe2(hr:Room k X.A):VOp X (compareOp .In) (aIn λb=>b):=by
 intro pins s σ H x y v u Q I rx ry zz16
 refine Df zz16 λa b μ R ra rb hc h hq=>?_
 by_cases hb:∃z,b=.D (.str z)
 ·obtain⟨z,rfl⟩:=hb
  unfold aIn at h
  dsimp only at h
  split at h
  ·cases RelA.str ra;cases RelA.str rb
   exact Rj pins s σ H _ _ v u Q I rx ry ⟨_,_,rfl,rfl,hq _ _ _ _ Kp.refl hc Cs h⟩
  ·exact h.elim
 ·obtain⟨d,ys,ds,ed,ey,eds,h⟩:=Pt h λz e=>hb ⟨z,e⟩
  ·skip
   obtain⟨ok1,ok2,h⟩:=h
   obtain⟨as,r1⟩:=Ct I hc ra rx ed
   obtain⟨p,vs,rfl,hp,rs⟩:=Gy hc rb ey
   cases ry
   obtain⟨c1,c2⟩:=Mk ok2
   have hs:=rs.dats eds
   have hu:=hr.un
   have q:=hq _ _ _ _ Kp.refl hc Cs h
   rcases hp with hp | hp
   ·obtain⟨its,r,pl,hz⟩:=I.list hp
    obtain⟨bs,rb⟩:=Am.reads I ds vs its hs r
    have e:=λA=>D7 (A:=A) r1 ok1.1
    refine SeqAt.in_listAt (N4 s.heap d) pl.isList (λw hw=>(e _ (by first | (show X.A.units+64 < _;omega) | (show X.A.units+1+64 < _;omega) | (show X.A.units+1+1+64 < _;omega)) rb c1 c2).1 w (by simpa using hw)) ⟨.bl _,H,I,rfl,?_⟩
    rw [show its.toArray.any (N4 s.heap d)=its.any (N4 s.heap d) by simp,(e X.A (by omega) rb c1 c2).2]
    exact q
   ·obtain⟨its,r,pl,hz⟩:=I.tuple hp
    obtain⟨bs,rb⟩:=Am.reads I ds vs its hs r
    have e:=λA=>D7 (A:=A) r1 ok1.1
    refine SeqAt.in_tupleAt (N4 s.heap d) pl (λw hw=>(e _ (by first | (show X.A.units+64 < _;omega) | (show X.A.units+1+64 < _;omega) | (show X.A.units+1+1+64 < _;omega)) rb c1 c2).1 w (by simpa using hw)) ⟨.bl _,H,I,rfl,?_⟩
    rw [show its.toArray.any (N4 s.heap d)=its.any (N4 s.heap d) by simp,(e X.A (by omega) rb c1 c2).2]
    exact q
theorem Pu(hr:Room k X.A):VOp X (compareOp .NotIn) (aIn λb=>!b):=by
 intro pins s σ H x y v u Q I rx ry zz17
 refine Df zz17 λa b μ R ra rb hc h hq=>?_
 by_cases hb:∃z,b=.D (.str z)
 ·obtain⟨z,rfl⟩:=hb
  unfold aIn at h
  dsimp only at h
  split at h
  ·cases RelA.str ra;cases RelA.str rb
   exact K8 pins s σ H _ _ v u Q I rx ry ⟨_,_,rfl,rfl,hq _ _ _ _ Kp.refl hc Cs h⟩
  ·exact h.elim
 ·obtain⟨d,ys,ds,ed,ey,eds,h⟩:=Pt h λz e=>hb ⟨z,e⟩
  ·skip
   obtain⟨ok1,ok2,h⟩:=h
   obtain⟨as,r1⟩:=Ct I hc ra rx ed
   obtain⟨p,vs,rfl,hp,rs⟩:=Gy hc rb ey
   cases ry
   obtain⟨c1,c2⟩:=Mk ok2
   have hs:=rs.dats eds
   have hu:=hr.un
   have q:=hq _ _ _ _ Kp.refl hc Cs h
   rcases hp with hp | hp
   ·obtain⟨its,r,pl,hz⟩:=I.list hp
    obtain⟨bs,rb⟩:=Am.reads I ds vs its hs r
    have e:=λA=>D7 (A:=A) r1 ok1.1
    refine SeqAt.notIn_listAt (N4 s.heap d) pl.isList (λw hw=>(e _ (by first | (show X.A.units+64 < _;omega) | (show X.A.units+1+64 < _;omega) | (show X.A.units+1+1+64 < _;omega)) rb c1 c2).1 w (by simpa using hw)) ⟨.bl _,H,I,rfl,?_⟩
    rw [show its.toArray.any (N4 s.heap d)=its.any (N4 s.heap d) by simp,(e X.A (by omega) rb c1 c2).2]
    exact q
   ·obtain⟨its,r,pl,hz⟩:=I.tuple hp
    obtain⟨bs,rb⟩:=Am.reads I ds vs its hs r
    have e:=λA=>D7 (A:=A) r1 ok1.1
    refine SeqAt.notIn_tupleAt (N4 s.heap d) pl (λw hw=>(e _ (by first | (show X.A.units+64 < _;omega) | (show X.A.units+1+64 < _;omega) | (show X.A.units+1+1+64 < _;omega)) rb c1 c2).1 w (by simpa using hw)) ⟨.bl _,H,I,rfl,?_⟩
    rw [show its.toArray.any (N4 s.heap d)=its.any (N4 s.heap d) by simp,(e X.A (by omega) rb c1 c2).2]
    exact q
def Qe3:A2:=λx y μ R=>match x,y with
 | .D .none,.D .none=>R (.D (.bool true)) μ
 | _,.D .none=>R (.D (.bool false)) μ
 | _,_=>False
theorem Ud{K:PySem.W.Frag}{H:Hp}{x:AV}(h:RelA K H x .non):x=.D .none:=by
 cases x with
 | R a=>cases (show V.non=.ref a from h)
 | C ds=>obtain⟨_,_,e,_⟩:=h;cases e
 | X C fs=>obtain⟨_,_,_,e,_⟩:=h;cases e
 | D d =>
  cases d with
  | none=>rfl
  | bool b=>cases RelA.bl h
  | int b=>cases RelA.int h
  | str b=>cases RelA.str h
  | list b=>obtain⟨_,_,e,_⟩:=RelA.lst h;cases e
  | tuple b=>obtain⟨_,_,e,_⟩:=RelA.tup h;cases e
  | dict b=>exact absurd h (by simp only [RelA,Dk];exact id)
theorem Ml:VOp X (compareOp .Is) Qe3:=by
 intro pins s σ H x y v u Q I rx ry zz18
 refine Df zz18 λa b μ R ra rb hc h hq=>?_
 unfold Qe3 at h
 split at h
 ·cases RelA.non ra;cases RelA.non rb
  exact Th pins s σ H _ _ v u Q I rx ry ⟨rfl,hq _ _ _ _ Kp.refl hc Cs h⟩
 ·rename_i ne
  cases RelA.non rb
  refine Th pins s σ H _ _ v u Q I rx ry ⟨rfl,hq _ _ _ _ Kp.refl hc ?_ h⟩
  have:x≠.non:=by intro e;subst e;exact ne (Ud ra)
  rw [decide_eq_false this];exact Cs
 ·exact h.elim
def aI(C:Int->Int->Prop)(g:Int->Int->PyData):A2:=λx y μ R=>match x,y with
 | .D (.int i),.D (.int j)=>C i j/\R (.D (g i j)) μ
 | _,_=>False
def aI0(g:Int->Int->PyData):A2:=λx y μ R=>match x,y with
 | .D (.int i),.D (.int j)=>R (.D (g i j)) μ
 | _,_=>False
theorem o_I{f:Value->Value->Sem Value}{C:Int->Int->Prop}{g:Int->Int->V}{g':Int->Int->PyData}(h:Gu X f (rI C g))(hg:∀i j H,Dk X.K H (g' i j) (g i j)):VOp X f (aI C g'):=by
 intro pins s σ H x y v u Q I rx ry zz20
 refine Df zz20 λa b μ R ra rb hc h' hq=>?_
 cases a with
 | D d =>
  cases d with
  | int i =>
   cases b with
   | D e =>
    cases e with
    | int j =>
     cases RelA.int ra;cases RelA.int rb
     exact h pins s σ H _ _ v u Q I rx ry ⟨_,_,rfl,rfl,h'.1,hq _ _ _ _ Kp.refl hc (Oh (hg _ _ _)) h'.2⟩
    | _=>exact False.elim h'
   | _=>exact False.elim h'
  | _=>exact False.elim h'
 | _=>exact False.elim h'
theorem Ue{f:Value->Value->Sem Value}{g:Int->Int->V}{g':Int->Int->PyData}(h:Gu X f (Wt g))(hg:∀i j H,Dk X.K H (g' i j) (g i j)):VOp X f (aI0 g'):=by
 intro pins s σ H x y v u Q I rx ry zz21
 refine Df zz21 λa b μ R ra rb hc h' hq=>?_
 cases a with
 | D d =>
  cases d with
  | int i =>
   cases b with
   | D e =>
    cases e with
    | int j =>
     cases RelA.int ra;cases RelA.int rb
     exact h pins s σ H _ _ v u Q I rx ry ⟨_,_,rfl,rfl,hq _ _ _ _ Kp.refl hc (Oh (hg _ _ _)) h'⟩
    | _=>exact False.elim h'
   | _=>exact False.elim h'
  | _=>exact False.elim h'
 | _=>exact False.elim h'
abbrev Qi0:A2:=aI0 λi j=>.int (i - j)
abbrev Qe4:A2:=aI CDiv λi j=>.int (i / j)
abbrev Qi1:A2:=aI (λ_ j=>0 < j) λi j=>.int (i % j)
abbrev Qi2:A2:=aI CPow λi j=>.int (i ^ j.toNat)
abbrev aLt:A2:=aI0 λi j=>.bool (decide (i < j))
abbrev aLe:A2:=aI0 λi j=>.bool (decide (i<=j))
abbrev aGt:A2:=aI0 λi j=>.bool (decide (j < i))
abbrev aGe:A2:=aI0 λi j=>.bool (decide (j<=i))
theorem Qe5:VOp X (binaryOp .Sub) Qi0:=Ue Qa6 λ_ _ _=>Dh
theorem Uf:VOp X (binaryOp .FloorDiv) Qe4:=o_I Wv λ_ _ _=>Dh
theorem Gd:VOp X (binaryOp .Mod) Qi1:=o_I Qa8 λ_ _ _=>Dh
theorem Qe6:VOp X (binaryOp .Pow) Qi2:=o_I Qa9 λ_ _ _=>Dh
theorem Mm:VOp X (compareOp .Lt) aLt:=Ue Qec λ_ _ _=>J7
theorem Qe7:VOp X (compareOp .LtE) aLe:=Ue Qed λ_ _ _=>J7
theorem Qe8:VOp X (compareOp .Gt) aGt:=Ue Qee λ_ _ _=>J7
theorem Qi3:VOp X (compareOp .GtE) aGe:=Ue Qef λ_ _ _=>J7
def Qi4:A2:=λx y μ R=>match x,y with
 | .D (.int i),.D (.int j)=>CMul i j/\R (.D (.int (i * j))) μ
 | .D (.str z),.D (.int n)=>(n=0\/n=1)/\R (.D (.str (if n=0 then Str.empty else z))) μ
 | _,_=>False
theorem J9:VOp X (binaryOp .Mult) Qi4:=by
 intro pins s σ H x y v u Q I rx ry zz22
 refine Df zz22 λa b μ R ra rb hc h hq=>?_
 cases a with
 | D d =>
  cases d with
  | int i =>
   cases b with
   | D e =>
    cases e with
    | int j =>
     cases RelA.int ra;cases RelA.int rb
     exact Qa7 pins s σ H _ _ v u Q I rx ry ⟨_,_,rfl,rfl,h.1,hq _ _ _ _ Kp.refl hc Di h.2⟩
    | _=>exact False.elim h
   | _=>exact False.elim h
  | str z =>
   cases b with
   | D e =>
    cases e with
    | int j =>
     cases RelA.str ra;cases RelA.int rb
     exact Ld pins s σ H _ _ v u Q I rx ry ⟨_,_,rfl,rfl,h.1,hq _ _ _ _ Kp.refl hc Fs h.2⟩
    | _=>exact False.elim h
   | _=>exact False.elim h
  | _=>exact False.elim h
 | _=>exact False.elim h
def Qbw:A2:=λx y μ R=>match x,y with
 | .D (.int i),.D (.int j)=>R (.D (.int (i+j))) μ
 | .D (.str i),.D (.str j)=>i.length+j.length<=sizeLine/\R (.D (.str (i++j))) μ
 | .D (.tuple i),.D (.tuple j)=>i.length+j.length<=sizeLine/\R (.D (.tuple (i++j))) μ
 | .R i,.R j=>opt (μ i) λm=>opt (μ j) λn=>match m,n with
  | .lst xs,.lst ys=>xs.length+ys.length<=sizeLine/\∀p,μ p=none->R (.R p) (Ar μ p (.lst (xs++ys)))
  | _,_=>False
 | _,_=>False
theorem Qi5{K:PySem.W.Frag}{pins:List (Addr×Obj)}{σ:St}{H:Hp}{s:Shared}{v u:Value}{x y:V}{ds es:List PyData}{Q:VK}(hK:X.K=K)(I:Inv X pins σ H s)(rx:Bj x v)(ry:Bj y u)(hx:Dk K H (.tuple ds) x)(hy:Dk K H (.tuple es) y)
  (hz:ds.length+es.length<=sizeLine) (q:∀z H',Kp H H'->(∀ μ,Cn K μ H->Cn K μ H')->Dk K H' (.tuple (ds++es)) z->Q z H'):wpAny (model X.prog X.w) X.A (binaryOp .Add v u) (EP X pins σ Q) X.xe s:=by
 subst hK
 obtain⟨a,xs,rfl,ha,hxs⟩:=hx.tup
 obtain⟨b,ys,rfl,hb,hys⟩:=hy.tup
 cases rx
 cases ry
 obtain⟨its,r1,p1,_⟩:=I.tuple ha.sq
 obtain⟨its2,r2,p2,_⟩:=I.tuple hb.sq
 have l1:=hxs.length
 have l2:=hys.length
 by_cases hv:xs=[]
 ·subst hv
  have e:its=[]:=r1.nil_iff.mpr rfl
  subst e
  have ed:ds=[]:=List.length_eq_zero_iff.mp l1.symm
  subst ed
  obtain⟨⟨cls,dd,data,sl⟩,ho,hc,n,hd⟩:=id p1
  obtain⟨⟨cls2,dd2,data2,sl2⟩,ho2,hc2,n2,hd2⟩:=id p2
  simp only at hc hd hc2 hd2
  subst hc hd hc2 hd2
  exact concat_meets ⟨_,ho,rfl⟩ ⟨_,ho2,rfl⟩ noFill_tuple_add seq_tuple_add PySem.F.slot_tuple_add PySem.F.entry_tuple_add (PySem.F.args_tuple_add_2 _ _)
   (tuple_addW0 a b [].toArray its2.toArray n n2 dd dd2 sl sl2 rfl) ⟨ho,ho2,.ref b,H,I,rfl,q _ _ Kp.refl (λ_ c=>c) (by simpa using hy)⟩
 ·refine HT.cat_tup p1 p2 (λz=>hv (r1.nil_iff.mp z)) (λz=>⟨.ref a,H,I,rfl,q _ _ Kp.refl (λ_ c=>c) ?_⟩) (λz=>?_) (by rw [<- r1.length,<- r2.length,l1,l2];exact hz)
  ·have e:ys=[]:=r2.nil_iff.mp z
   subst e
   have ed:es=[]:=List.length_eq_zero_iff.mp l2.symm
   subst ed
   simpa using hx
  ·have hf:=I.hok.fresh (Nat.le_refl s.heap.objs.size)
   refine⟨.ref s.heap.objs.size,_,I.laid (t':=s.toks) (o:=.tup (xs++ys)) (λb ob q=>Heap.get?_push_of_some _ q) (Nat.le_refl _) ?_,rfl,q _ _ (Kp.new hf _) (λ_ c=>c.over hf) ?_⟩
   ·exact⟨by rw [List.length_append,l1,l2];exact hz,_,r1.append r2,IsTup.new _ _⟩
   ·exact Og B7 (Am.kp (Kp.new hf _) _ _ (hxs.append hys))
theorem Br:VOp X (binaryOp .Add) Qbw:=by
 intro pins s σ H x y v u Q I rx ry zz23
 refine Df zz23 λa b μ R ra rb hc h hq=>?_
 cases a with
 | D d =>
  cases d with
  | int i =>
   cases b with
   | D e =>
    cases e with
    | int j =>
     cases RelA.int ra;cases RelA.int rb
     exact Qa5 pins s σ H _ _ v u Q I rx ry ⟨_,_,rfl,rfl,hq _ _ _ _ Kp.refl hc Di h⟩
    | _=>exact False.elim h
   | _=>exact False.elim h
  | str z =>
   cases b with
   | D e =>
    cases e with
    | str j =>
     cases RelA.str ra;cases RelA.str rb
     exact N8 pins s σ H _ _ v u Q I rx ry ⟨_,_,rfl,rfl,h.1,hq _ _ _ _ Kp.refl hc Fs h.2⟩
    | _=>exact False.elim h
   | _=>exact False.elim h
  | tuple ds =>
   cases b with
   | D e =>
    cases e with
    | tuple es=>exact Qi5 rfl I rx ry ra rb h.1 λz H' S c hd=>hq _ _ _ _ S (c _ hc) (Oh hd) h.2
    | _=>exact False.elim h
   | _=>exact False.elim h
  | _=>exact False.elim h
 | R i =>
  cases b with
  | R j =>
   obtain⟨m,ei,h⟩:=Bb h
   obtain⟨n,ej,h⟩:=Bb h
   cases m with
   | lst xs =>
    cases n with
    | lst ys =>
     cases (show x=.ref i from ra);cases (show y=.ref j from rb)
     obtain⟨o,ho,vs,rfl,rs⟩:=hc i _ ei
     obtain⟨o',ho',ws,rfl,rs'⟩:=hc j _ ej
     exact Qbk pins s σ H _ _ v u Q I rx ry ⟨i,j,vs,ws,rfl,rfl,ho,ho',by rw [<- rs.length,<- rs'.length];exact h.1,λp hp=>hq _ _ _ _ (Kp.new hp _) (hc.new hp (Da (rs.append rs'))) Dw (h.2 p (hc.none hp))⟩
    | _=>exact False.elim h
   | _=>exact False.elim h
  | _=>exact False.elim h
 | _=>exact False.elim h
end
section
variable {X:Cx}{a b c:Expr}{ta tb tc:AE}{pos:Pos}
def aIx:A2:=λx y μ R=>match x,y with
 | .D (.str z),.D (.int i)=>z.length<=sizeLine/\opt (atI z.cps.toList i) λc=>R (.D (.str ⟨#[c]⟩)) μ
 | .D (.tuple ds),.D (.int i)=>opt (atI ds i) λd=>R (.D d) μ
 | .D (.list ds),.D (.int i)=>opt (atI ds i) λd=>R (.D d) μ
 | .R a,.D (.int i)=>opt (μ a) λm=>match m with
  | .lst xs=>opt (atI xs i) λw=>R w μ
  | _=>False
 | _,_=>False
theorem Xp{x y:AV}{μ:M}{R:AV->M->Prop}(h:aIx x y μ R):∃i,y=.D (.int i):=by
 have no:(∀d,aIx (.D d) y μ R->False)->(∀a,aIx (.R a) y μ R->False)->False:=λh1 h2=>by
  cases x with
  | D d=>exact h1 d h
  | R a=>exact h2 a h
  | _=>exact h
 cases y with
 | D e =>
  cases e with
  | int i=>exact⟨i,rfl⟩
  | _=>exact(no (λd q=>by cases d <;> exact q) λa q=>q).elim
 | _=>exact(no (λd q=>by cases d <;> exact q) λa q=>q).elim
theorem Az:VIx X aIx:=by
 intro value slice pins s σ H x y v u Q I rx ry zq hs
 refine Df zq λa b μ R ra rb hc h hq=>?_
 obtain⟨i,rfl⟩:=Xp h
 cases RelA.int rb
 cases a with
 | D d =>
  cases d with
  | str z =>
   cases RelA.str ra
   obtain⟨h1,h⟩:=h
   obtain⟨c,e,h⟩:=Bb h
   exact Qbi value slice pins s σ H _ _ v u Q I rx ry ⟨_,_,_,rfl,rfl,h1,e,hq _ _ _ _ Kp.refl hc Fs h⟩ hs
  | tuple ds =>
   obtain⟨d,ed,h⟩:=Bb h
   obtain⟨p,vs,rfl,hp,rs⟩:=RelA.tup ra
   obtain⟨z,ez,rz⟩:=rs.atI ed
   exact Qbh value slice pins s σ H _ _ v u Q I rx ry ⟨_,_,_,_,rfl,rfl,hp.sq,ez,hq _ _ _ _ Kp.refl hc (Oh rz) h⟩ hs
  | list ds =>
   obtain⟨d,ed,h⟩:=Bb h
   obtain⟨p,vs,rfl,hp,rs⟩:=RelA.lst ra
   obtain⟨z,ez,rz⟩:=rs.atI ed
   exact Pn value slice pins s σ H _ _ v u Q I rx ry ⟨_,_,_,_,rfl,rfl,hp.sq,ez,hq _ _ _ _ Kp.refl hc (Oh rz) h⟩ hs
  | _=>exact False.elim h
 | R a =>
  obtain⟨m,em,h⟩:=Bb h
  cases m with
  | lst xs =>
   obtain⟨w,ew,h⟩:=Bb h
   obtain⟨o,ho,vs,rfl,rs⟩:=hc _ _ em
   cases (show x=.ref _ from ra)
   obtain⟨z,ez,rz⟩:=rs.atI ew
   exact Pn value slice pins s σ H _ _ v u Q I rx ry ⟨_,_,_,_,rfl,rfl,D5.of ho,ez,hq _ _ _ _ Kp.refl hc rz h⟩ hs
  | _=>exact False.elim h
 | _=>exact False.elim h
theorem An{r:A2}(hr:VIx X r)(ha:VE X a ta)(hb:VE X b tb)(hs:Pl b:=by intro _ _;rfl):VE X (.Subscript a b pos) (Xl r ta tb):=(Qeo hr ha hb hs).imp λ_ _ _ h=>Hu h
def Xq:AO:=λ_ μ R=>R none μ
def Qfa(t:AE):AO:=fun τ μ R=>t τ μ λx μ1=>match x with
 | .D (.int i)=>R (some i) μ1
 | _=>False
theorem C5:VO X none Xq:=W1.imp fun σ H Q zz24=>Cd zz24 fun τ μ R hs hc h hq=>hq _ _ _ Kp.refl hc h
theorem Cp(h:VE X a ta):VO X (some a) (Qfa ta):=(W5 h).imp fun σ H Q zz25=>Cd zz25 fun τ μ R hs hc h hq=>⟨τ,μ,_,hs,hc,h,λx μ1 v H1 S1 c1 rx hx=>by
 split at hx
 ·cases RelA.int rx
  exact⟨_,rfl,hq _ _ _ S1 c1 hx⟩
 ·exact hx.elim⟩
def aSl(x:AV)(lo hi:Option Int):M->(AV->M->Prop)->Prop:=fun μ R=>match x with
 | .D (.str z)=>z.length<=sizeLine/\R (.D (.str (Txt.slice z lo hi))) μ
 | .D (.tuple ds)=>R (.D (.tuple (Fr ds lo hi))) μ
 | .C _=>False
 | x=>opt (items μ x) λxs=>∀p,μ p=none->R (.R p) (Ar μ p (.lst (D8 xs lo hi)))
def cSl(K:PySem.W.Frag):V->Option Int->Option Int->Hp->VK->Prop:=λx lo hi H Q=>∃a μ R,RelA K H a x/\Cn K μ H/\aSl a lo hi μ R/\LV K H R Q
theorem Qi7:SlR X (cSl X.K):=by
 intro pins s σ H x v vl vu lo hi sl Q I rx hs pl pu ⟨a,μ,R,ra,hc,h,hq⟩
 unfold aSl at h
 split at h
 ·cases RelA.str ra
  exact Qbp pins s σ H _ v vl vu lo hi sl Q I rx hs pl pu ⟨_,rfl,h.1,hq _ _ _ _ Kp.refl hc Fs h.2⟩
 ·rename_i ds
  by_cases hw:HT.sIx ds.length 0 lo=0/\HT.sIx ds.length ds.length hi=ds.length
  ·obtain⟨a,xs,rfl,ha,hx⟩:=RelA.tup ra
   cases rx
   obtain⟨its,r,ht,hz⟩:=I.tuple ha.sq
   have hlen:its.toArray.size=ds.length:=by rw [List.size_toArray,<- r.length,hx.length]
   refine⟨"tuple",_,PyProof.Rows.slot_tuple_getitem.lookup,ht.typeIs,?_⟩
   refine HT.getItem_tuple_all ht hs pl pu (by rw [hlen];exact hw) ⟨.ref a,H,I,rfl,hq _ _ _ _ Kp.refl hc ?_ h⟩
   rw [T0 hw]
   exact ra
  ·obtain⟨a,xs,rfl,ha,hx⟩:=RelA.tup ra
   refine Qbg pins s σ H (.ref a) v vl vu lo hi sl Q I rx hs pl pu ⟨a,xs,rfl,ha.sq,by rw [hx.length];exact hw,λp hp=>?_⟩
   exact hq _ _ _ _ (Kp.new hp _) (hc.over hp) (Ip B7 (Am.kp (Kp.new hp _) _ _ (hx.cut lo hi))) h
 ·exact h.elim
 ·rename_i n1 n2 n3
  obtain⟨xs,ex,h⟩:=Bb h
  ·obtain⟨p,vs,rfl,hp,rs⟩:=Bp hc ra ex
   rcases hp with⟨_,hp⟩ | ⟨ht,hp⟩
   ·exact W6 pins s σ H _ v vl vu lo hi sl Q I rx hs pl pu ⟨_,_,rfl,hp,λp hp=>hq _ _ _ _ (Kp.new hp _) (hc.new hp (Da (rs.cut lo hi))) Dw (h p (hc.none hp))⟩
   ·exfalso
    unfold Rv at ht
    split at ht
    ·exact n2 _ rfl
    ·exact n3 _ rfl
    ·cases ht
def vSl(te:AE)(tl th:AO):AE:=fun τ μ R=>te τ μ λx μ1=>tl τ μ1 λl μ2=>th τ μ2 λu μ3=>aSl x l u μ3 R
theorem Ch{lo hi:Option Expr}{tl th:AO}{p2:Pos}(he:VE X a ta)(hl:VO X lo tl)(hu:VO X hi th):VE X (.Subscript a (.Slice lo hi none p2) pos) (vSl ta tl th) :=
 (Tm Qi7 he hl hu).imp fun σ H Q zz26=>Cd zz26 fun τ μ R hs hc h hq=>⟨τ,μ,_,hs,hc,h,λx μ1 v H1 S1 c1 rx hx=>⟨τ,μ1,_,hs.kp S1,c1,hx,λl μ2 H2 S2 c2 hl=>⟨τ,μ2,_,hs.kp (S1.trans S2),c2,hl,λu μ3 H3 S3 c3 hu =>
  ⟨x,μ3,R,rx.kp (S2.trans S3),c3,hu,hq.kp (S1.trans (S2.trans S3))⟩⟩⟩⟩
variable {x:Str}{p:Pos}{e:Expr}{es:List Expr}{t:AA}{fid T:String}{r:AC}
def vCB(r:AC)(t:AA):AE:=fun τ μ R=>t τ μ λxs μ1=>r xs μ1 R
theorem Pw{K:PySem.W.Frag}{n:Nat}{r:AC}{t:AA}{σ:St}{H:Hp}{Q:VK}(h:cE K (vCB r t) σ H Q):tCB (cC K r) (cA K n t) σ H Q:=by
 obtain⟨τ,μ,R,hs,hc,h,hq⟩:=h
 exact⟨τ,μ,_,hs,hc,h,λxs μ1 vs H1 S1 c1 rs hl hx=>⟨xs,μ1,R,rs,c1,hx,hq.kp S1⟩⟩
theorem Aw(hc:VCall X (.builtin fid) r)(hg:Gl X x)(hm:X.mg x=none)(hv:bootBuiltins x=some (.builtin fid))(ha:VA X (e :: es) t)(hn:x ≠ "__name__" := by decide) (hd:(x==("__debug__" : Str))=false:=by decide)
  (hst:starEach (e :: es) X.env=(false,eval e X.env) :: starEach es X.env:=by rfl) (hpl:(backTo pos (starEach es X.env)).any (·.1)=false:=by rfl):VE X (.Call (.Name x p) (e :: es) [] pos) (vCB r t) :=
 (Tk hc hg hm hv ha hn hd hst hpl).imp λ_ _ _ h=>Pw h
theorem Bi(hc:VCall X (.type T) r)(hg:Gl X x)(hm:X.mg x=none)(hv:bootBuiltins x=some (.type T))(ha:VA X (e :: es) t)(hn:x ≠ "__name__" := by decide) (hd:(x==("__debug__" : Str))=false:=by decide)
  (hst:starEach (e :: es) X.env=(false,eval e X.env) :: starEach es X.env:=by rfl) (hpl:(backTo pos (starEach es X.env)).any (·.1)=false:=by rfl):VE X (.Call (.Name x p) (e :: es) [] pos) (vCB r t) :=
 (Rm hc hg hm hv ha hn hd hst hpl).imp λ_ _ _ h=>Pw h
def Qfb:AC:=λxs μ R=>match xs with
 | [.D (.str z)]=>z.length<=sizeLine/\R (.D (.int z.length)) μ
 | [.D (.tuple ds)]=>R (.D (.int ds.length)) μ
 | [.D (.list ds)]=>R (.D (.int ds.length)) μ
 | [.R a]=>opt (μ a) λm=>match m with
  | .lst ys=>R (.D (.int ys.length)) μ
  | .dk kvs=>R (.D (.int kvs.length)) μ
  | _=>False
 | _=>False
theorem Cc:VCall X (.builtin "len") Qfb:=by
 intro pins s σ H xs us Q I r zz27
 refine Cd zz27 λas μ R ra hc h hq=>?_
 have no:∀{y:AV} {t:List AV} {x:AV},Qfb (x :: y :: t) μ R->False:=λ{y t x} q=>by
  cases x with
  | D d=>cases d <;> exact q
  | _=>exact q
 cases ra with
 | nil=>exact False.elim h
 | @cons x v xs' vs' r1 r2 =>
  cases r2 with
  | cons _ _=>exact(no h).elim
  | nil =>
   cases x with
   | D d =>
    cases d with
    | str z =>
     cases RelA.str r1
     exact K9 pins s σ H _ us Q I r ⟨_,rfl,h.1,hq _ _ _ _ Kp.refl hc Di h.2⟩
    | tuple ds =>
     obtain⟨p,vs,rfl,hp,rs⟩:=RelA.tup r1
     refine Ei pins s σ H _ us Q I r ⟨p,vs,rfl,.inr hp.sq,hq _ _ _ _ Kp.refl hc ?_ h⟩
     rw [rs.length];exact Di
    | list ds =>
     obtain⟨p,vs,rfl,hp,rs⟩:=RelA.lst r1
     refine Ei pins s σ H _ us Q I r ⟨p,vs,rfl,.inl hp.sq,hq _ _ _ _ Kp.refl hc ?_ h⟩
     rw [rs.length];exact Di
    | _=>exact False.elim h
   | R a =>
    obtain⟨m,em,h⟩:=Bb h
    cases (show _=V.ref _ from r1)
    obtain⟨o,ho,rm⟩:=hc _ _ em
    cases m with
    | lst ys =>
     obtain⟨vs,rfl,rs⟩:=rm
     refine Ei pins s σ H _ us Q I r ⟨_,vs,rfl,.inl (D5.of ho),hq _ _ _ _ Kp.refl hc ?_ h⟩
     rw [rs.length];exact Di
    | dk kvs =>
     obtain⟨vs,rfl,rs⟩:=rm
     refine Rs pins s σ H _ us Q I r ⟨_,vs,rfl,ho,hq _ _ _ _ Kp.refl hc ?_ h⟩
     rw [Paired.length rs];exact Di
    | _=>exact False.elim h
   | _=>exact False.elim h
def Lf:AC:=λxs μ R=>match xs with
 | [.D (.tuple ds)]=>R (.D (.tuple ds)) μ
 | [.C _]=>False
 | [y]=>opt (items μ y) λys=>opt (dats ys) λds=>R (.D (.tuple ds)) μ
 | _=>False
theorem Ol{x:AV}{t:List AV}{μ:M}{R:AV->M->Prop}(h:Lf (x :: t) μ R):t=[]:=by
 cases t with
 | nil=>rfl
 | cons y t =>
  refine False.elim ?_
  cases x with
  | D d=>cases d <;> exact h
  | _=>exact h
theorem Rw{x:AV}{μ:M}{R:AV->M->Prop}(ht:Rv x=false)(h:Lf [x] μ R):opt (items μ x) λys=>opt (dats ys) λds=>R (.D (.tuple ds)) μ:=by
 cases x with
 | D d=>cases d <;> first | exact h | cases ht
 | C ds=>cases ht
 | _=>exact h
theorem Ug{x:AV}{μ:M}{R:AV->M->Prop}(ht:Rv x=true)(h:Lf [x] μ R):∃ds,x=.D (.tuple ds)/\R (.D (.tuple ds)) μ:=by
 cases x with
 | D d =>
  cases d with
  | tuple ds=>exact⟨ds,rfl,h⟩
  | _=>cases ht
 | C ds=>exact False.elim h
 | _=>cases ht
theorem Cv:VCall X (.type "tuple") Lf:=by
 intro pins s σ H xs us Q I r zz28
 refine Cd zz28 λas μ R ra hc h hq=>?_
 cases ra with
 | nil=>exact False.elim h
 | @cons y v ys' vs' r1 r2 =>
  have hn:=Ol h
  subst hn
  cases r2
  cases ht:Rv y with
  | true =>
   obtain⟨ds,rfl,h⟩:=Ug ht h
   obtain⟨p,vs,rfl,hp,rs⟩:=RelA.tup r1
   exact Fl pins s σ H _ us Q I r ⟨p,vs,rfl,.inr ⟨hp.sq,hq _ _ _ _ Kp.refl hc r1 h⟩⟩
  | false =>
   obtain⟨ys,ey,h⟩:=Bb (Rw ht h)
   obtain⟨ds,ed,h⟩:=Bb h
   obtain⟨p,vs,rfl,hp,rs⟩:=Bp hc r1 ey
   rcases hp with⟨_,hp⟩ | ⟨ht2,_⟩
   ·exact Fl pins s σ H _ us Q I r ⟨p,vs,rfl,.inl ⟨hp,λl hl=>hq _ _ _ _ (Kp.new hl _) (hc.over hl) (Ip B7 (Am.kp (Kp.new hl _) _ _ (rs.dats ed))) h⟩⟩
   ·rw [ht]at ht2;cases ht2
def Zc:AC:=λxs μ R=>match xs with
 | [y]=>opt (items μ y) λys=>∀p,μ p=none->R (.R p) (Ar μ p (.lst ys))
 | _=>False
theorem Qbx:VCall X (.type "list") Zc:=by
 intro pins s σ H xs us Q I r zz29
 refine Cd zz29 λas μ R ra hc h hq=>?_
 unfold Zc at h
 split at h
 ·cases ra with
  | cons r1 r2 =>
   cases r2
   obtain⟨ys,ey,h⟩:=Bb h
   obtain⟨p,vs,rfl,hp,rs⟩:=Gy hc r1 ey
   exact La pins s σ H _ us Q I r ⟨p,vs,rfl,hp,λl hl=>hq _ _ _ _ (Kp.new hl _) (hc.new hl (Da (rs))) Dw (h l (hc.none hl))⟩
 ·exact h.elim
def bools:List AV->Option (List Bool)
 | []=>some []
 | .D (.bool b) :: r=>match bools r with
  | some bs=>some (b :: bs)
  | none=>none
 | _ :: _=>none
theorem Ka:∀(bs:List Bool),bools (bs.map λb=>.D (.bool b))=some bs
 | []=>rfl
 | b :: bs=>by simp only [List.map_cons,bools,Ka bs]
theorem Ax.bools{K:PySem.W.Frag}{H:Hp}{xs:List AV}{vs:List V}{bs:List Bool}(h:Ax K H xs vs)(e:L2.bools xs=some bs):vs=bs.map V.bl:=by
 induction h generalizing bs with
 | nil=>cases e;rfl
 | @cons x v xs vs r t ih =>
  cases x with
  | D d =>
   cases d with
   | bool b =>
    simp only [L2.bools]at e
    cases q:L2.bools xs with
    | none=>rw [q]at e;cases e
    | some cs=>rw [q]at e;cases e;cases RelA.bl r;rw [ih q];rfl
   | _=>simp [L2.bools]at e
  | _=>simp [L2.bools]at e
def Qby:AC:=λxs μ R=>match xs with
 | [.R a]=>opt (μ a) λm=>match m with
  | .lst ys=>opt (bools ys) λbs=>R (.D (.bool (bs.all id))) μ
  | _=>False
 | _=>False
theorem Mn(hcm:X.calm=true):VCall X (.builtin "all") Qby:=by
 intro pins s σ H xs us Q I r zz30
 refine Cd zz30 λas μ R ra hc h hq=>?_
 unfold Qby at h
 split at h
 ·cases ra with
  | cons r1 r2 =>
   cases r2
   obtain⟨m,em,h⟩:=Bb h
   split at h
   ·obtain⟨bs,eb,h⟩:=Bb h
    obtain⟨o,ho,vs,rfl,rs⟩:=hc _ _ em
    cases (show _=V.ref _ from r1)
    exact Ty hcm pins s σ H _ us Q I r ⟨_,bs,rfl,D5.of (by rw [ho,rs.bools eb]),hq _ _ _ _ Kp.refl hc Cs h⟩
   ·exact h.elim
 ·exact h.elim
def Qke:AC:=λxs μ R=>match xs with
 | [.D (.int i),.D (.int j)]=>R (.D (.int (if j > i then j else i))) μ
 | _=>False
def Zd:AC:=λxs μ R=>match xs with
 | [.D (.int i),.D (.int j)]=>R (.D (.int (if j < i then j else i))) μ
 | _=>False
theorem Qbz(hcm:X.calm=true):VCall X (.builtin "min") Zd:=by
 intro pins s σ H xs us Q I r zz32
 refine Cd zz32 λas μ R ra hc h hq=>?_
 unfold Zd at h
 split at h
 ·cases ra with
  | cons r1 r2 =>
   cases r2 with
   | cons r2 r3 =>
    cases r3
    cases RelA.int r1;cases RelA.int r2
    exact Rk hcm pins s σ H _ us Q I r ⟨_,_,rfl,hq _ _ _ _ Kp.refl hc Di h⟩
 ·exact h.elim
variable {o:Expr}{to:AE}{name:Str}{apos cpos:Pos}{m:AV->AC}
def Mo(μ:M):AV->Prop
 | .R a=>opt (μ a) λm=>match m with
  | .lst _=>True
  | _=>False
 | .D (.list _)=>True
 | _=>False
def Ze:AV->Prop
 | .D (.str _)=>True
 | _=>False
theorem Mo.ty{H:Hp}{μ:M}{x:AV}{v:V}(hc:Cn X.K μ H)(rx:RelA X.K H x v)(h:Mo μ x):tyV X.K "list" v H:=by
 unfold Mo at h
 split at h
 ·obtain⟨m,e,h⟩:=Bb h
  split at h
  ·obtain⟨o,ho,vs,rfl,_⟩:=hc _ _ e
   cases (show v=.ref _ from rx)
   exact .inl ⟨rfl,vs,D5.of ho⟩
  ·exact h.elim
 ·obtain⟨a,xs,rfl,q,_⟩:=RelA.lst rx
  exact .inl ⟨rfl,xs,q.sq⟩
 ·exact h.elim
def vBL(m:AV->AC)(to:AE)(t:AA):AE:=fun τ μ R=>to τ μ λx μ1=>Mo μ1 x/\t τ μ1 λxs μ2=>m x xs μ2 R
def vBS(m:AV->AC)(to:AE)(t:AA):AE:=fun τ μ R=>to τ μ λx μ1=>Ze x/\t τ μ1 λxs μ2=>m x xs μ2 R
theorem Hk(slot:Slot "list" name fid) (hty:typeOf (.builtin fid)=pure (.type "method_descriptor")) (hm:VMt X fid m) (ho:VE X o to) (ha:VA X (e :: es) t)
  (hbase:attributeBase o name X.env (eval o X.env)=eval o X.env:=by rfl)
  (hfew:((backTo cpos (starEach (e :: es) X.env)).all (λx=>!x.1) && (backToKw cpos (keywordEach [] X.env)).all (λx=>x.1.isSome)
   && decide ((e :: es).length+([]:List Keyword).length+(if([]:List Keyword).isEmpty then 0 else 1) < 30))=true:=by rfl)
  (hline:(apos.endLine==cpos.line)=true:=by rfl) (hs:starEach (e :: es) X.env=(false,eval e X.env) :: starEach es X.env:=by rfl) (hplain:(backTo cpos (starEach es X.env)).any (·.1)=false:=by rfl) :
  VE X (.Call (.Attribute o name apos) (e :: es) [] cpos) (vBL m to t) :=
 (Za PySem.F.plainAttrs_list slot hty hm ho ha hbase hfew hline hs hplain).imp fun σ H Q zz34=>Cd zz34 fun τ μ R hs hc h hq=>⟨τ,μ,_,hs,hc,h,λx μ1 v H1 S1 c1 rx hx=>⟨hx.1.ty c1 rx,τ,μ1,_,hs.kp S1,c1,hx.2,λxs μ2 vs H2 S2 c2 rs hl hxs =>
  ⟨x,xs,μ2,R,rx.kp S2,rs,c2,hxs,hq.kp (S1.trans S2)⟩⟩⟩
theorem Hl(slot:Slot "str" name fid) (hty:typeOf (.builtin fid)=pure (.type "method_descriptor")) (hm:VMt X fid m) (ho:VE X o to) (ha:VA X (e :: es) t)
  (hbase:attributeBase o name X.env (eval o X.env)=eval o X.env:=by rfl)
  (hfew:((backTo cpos (starEach (e :: es) X.env)).all (λx=>!x.1) && (backToKw cpos (keywordEach [] X.env)).all (λx=>x.1.isSome)
   && decide ((e :: es).length+([]:List Keyword).length+(if([]:List Keyword).isEmpty then 0 else 1) < 30))=true:=by rfl)
  (hline:(apos.endLine==cpos.line)=true:=by rfl) (hs:starEach (e :: es) X.env=(false,eval e X.env) :: starEach es X.env:=by rfl) (hplain:(backTo cpos (starEach es X.env)).any (·.1)=false:=by rfl) :
  VE X (.Call (.Attribute o name apos) (e :: es) [] cpos) (vBS m to t) :=
 (Za PySem.F.plainAttrs_str slot hty hm ho ha hbase hfew hline hs hplain).imp fun σ H Q zz35=>Cd zz35 fun τ μ R hs hc h hq=>⟨τ,μ,_,hs,hc,h,λx μ1 v H1 S1 c1 rx hx=>⟨by
   obtain⟨hx,_⟩:=hx
   unfold Ze at hx
   split at hx
   ·cases RelA.str rx;rfl
   ·exact hx.elim,τ,μ1,_,hs.kp S1,c1,hx.2,λxs μ2 vs H2 S2 c2 rs hl hxs =>
  ⟨x,xs,μ2,R,rx.kp S2,rs,c2,hxs,hq.kp (S1.trans S2)⟩⟩⟩
def Lg:AV->AC:=λx xs μ R=>match x,xs with
 | .R a,[y]=>opt (μ a) λm=>match m with
  | .lst ys=>ys.length < sizeLine/\R (.D .none) (Ar μ a (.lst (ys++[y])))
  | _=>False
 | _,_=>False
theorem C7:VMt X "list.append" Lg:=by
 intro pins s σ H x xs v us Q I rx r zz36
 refine Df zz36 λa as μ R ra rs hc h hq=>?_
 unfold Lg at h
 split at h
 ·rename_i a y
  obtain⟨m,ey,h⟩:=Bb h
  split at h
  ·cases rs with
   | cons r1 r2 =>
    cases r2
    obtain⟨o,ho,vs,rfl,rl⟩:=hc _ _ ey
    cases (show x=.ref a from ra)
    exact J2 pins s σ H _ _ v us Q I rx r ⟨a,vs,_,rfl,rfl,ho,by rw [<- rl.length];exact h.1,hq _ _ _ _ (Kp.put ho trivial _) (hc.put ho trivial (Da (rl.append (.cons r1 .nil)))) T6 h.2⟩
  ·exact h.elim
 ·exact h.elim
end
section
variable {X:Cx}{a b c:Expr}{ta tb tc:AE}{pos:Pos}
def kit(S T:String):Bool:=S==T || (S == "bool" && T == "int")
def tyA(μ:M):AV->Option String
 | .D .none=>some "NoneType"
 | .D (.bool _)=>some "bool"
 | .D (.int _)=>some "int"
 | .D (.str _)=>some "str"
 | .D (.list _)=>some "list"
 | .D (.tuple _)=>some "tuple"
 | .D (.dict _)=>none
 | .C _=>some "tuple"
 | .X _ _=>none
 | .R a=>match μ a with
  | some (.lst _)=>some "list"
  | some (.dk _)=>some "dict"
  | some (.dt _)=>some "dict"
  | some (.dd _)=>some "dict"
  | none=>none
def Qi9(T:String)(te:AE):AE:=fun τ μ R=>te τ μ λx μ1=>opt (tyA μ1 x) λS=>R (.D (.bool (kit S T))) μ1
def Kits(K:PySem.W.Frag)(T:String):Prop:=∀S∈["NoneType","bool","int","str","list","tuple","dict"],PySem.W.kitOne K (.type S) (.type T)=some (kit S T)
theorem Qb0{pins:List (Addr×Obj)}{σ:St}{H:Hp}{s:Shared}{E:Value->Shared->Prop}{Q:Value->Shared->Prop}{μ:M}{x:AV}{v:V}{u:Value}{S T:String}(I:Inv X pins σ H s)(hc:Cn X.K μ H)(rx:RelA X.K H x v)(r:Bj v u)(e:tyA μ x=some S)(hk:Kits X.K T)
  (h:∀tk,Q (.bool (kit S T)) { s with toks:=tk }):wpAny (model X.prog X.w) X.A (call (.builtin "isinstance") [u,.type T]) Q E s:=by
 unfold tyA at e
 split at e
 ·cases e;cases RelA.non rx;cases r;exact PySem.W.kia_one PySem.W.kitx_none I.kIn True.intro (hk _ (by decide)) (λz=>nomatch z) h
 ·cases e;cases RelA.bl rx;cases r;exact PySem.W.kia_one PySem.W.kitx_bool I.kIn True.intro (hk _ (by decide)) (λz=>nomatch z) h
 ·cases e;cases RelA.int rx;obtain⟨t,rfl⟩:=r;exact PySem.W.kia_one PySem.W.kitx_int I.kIn True.intro (hk _ (by decide)) (λz=>nomatch z) h
 ·cases e;cases RelA.str rx;obtain⟨t,rfl⟩:=r;exact PySem.W.kia_one PySem.W.kitx_str I.kIn True.intro (hk _ (by decide)) (λz=>nomatch z) h
 ·cases e
  obtain⟨a,vs,rfl,q,_⟩:=RelA.lst rx
  cases r
  obtain⟨_,_,⟨o,n,e1,e2,_⟩,_⟩:=I.list q.sq
  exact PySem.W.kia_one PySem.W.kitx_list I.kIn ⟨o,e1,e2⟩ (hk _ (by decide)) (λz=>nomatch z) h
 ·cases e
  obtain⟨a,vs,rfl,q,_⟩:=RelA.tup rx
  cases r
  obtain⟨_,_,⟨o,e1,e2,_⟩,_⟩:=I.tuple q.sq
  exact PySem.W.kia_one PySem.W.kitx_tuple I.kIn ⟨o,e1,e2⟩ (hk _ (by decide)) (λz=>nomatch z) h
 ·cases e
 ·cases e
  obtain⟨a,vs,rfl,q,_⟩:=rx
  cases r
  obtain⟨_,_,⟨o,e1,e2,_⟩,_⟩:=I.tuple (q H)
  exact PySem.W.kia_one PySem.W.kitx_tuple I.kIn ⟨o,e1,e2⟩ (hk _ (by decide)) (λz=>nomatch z) h
 ·cases e
 ·rename_i a
  cases (show v=.ref a from rx)
  cases r
  split at e
  ·rename_i xs ex
   cases e
   obtain⟨o,ho,vs,rfl,_⟩:=hc _ _ ex
   obtain⟨_,_,⟨o,n,e1,e2,_⟩,_⟩:=I.list (D5.of ho)
   exact PySem.W.kia_one PySem.W.kitx_list I.kIn ⟨o,e1,e2⟩ (hk _ (by decide)) (λz=>nomatch z) h
  ·rename_i xs ex
   cases e
   obtain⟨o,ho,vs,rfl,_⟩:=hc _ _ ex
   obtain⟨_,_,ws,_,p⟩:=(show B5 X.prog X.w H s.heap a (.dK vs) from I.hok a _ ho)
   obtain⟨o,es,ep,h1,h2,_⟩:=p
   exact PySem.W.kia_one PySem.W.kitx_dict I.kIn ⟨o,h1,h2.1⟩ (hk _ (by decide)) (λz=>nomatch z) h
  ·rename_i xs ex
   cases e
   obtain⟨o,ho,vs,rfl,_⟩:=hc _ _ ex
   obtain⟨_,_,xs,_,o,es,ep,h1,h2,_⟩:=(show B5 X.prog X.w H s.heap a (.dT vs) from I.hok a _ ho)
   exact PySem.W.kia_one PySem.W.kitx_dict I.kIn ⟨o,h1,h2.1⟩ (hk _ (by decide)) (λz=>nomatch z) h
  ·rename_i xs ex
   cases e
   obtain⟨o,ho,vs,rfl,_⟩:=hc _ _ ex
   obtain⟨o,es,ep,h1,h2,_⟩:=(show B5 X.prog X.w H s.heap a (.dd vs) from I.hok a _ ho)
   exact PySem.W.kia_one PySem.W.kitx_dict I.kIn ⟨o,h1,h2.1⟩ (hk _ (by decide)) (λz=>nomatch z) h
  ·cases e
theorem Fv{T:String}{x:Str}{p p2:Pos}(hg:Gl X "isinstance") (hm:X.mg "isinstance" = none) (hg2:Gl X x) (hm2:X.mg x=none) (hv2:bootBuiltins x=some (.type T)) (hk:Kits X.K T) (he:VE X a ta)
  (hn2:x ≠ "__name__" := by decide) (hd2:(x==("__debug__" : Str))=false:=by decide)
  (hs:starEach [a,.Name x p2] X.env=(false,eval a X.env) :: starEach [.Name x p2] X.env:=by rfl) (hs2:starEach [.Name x p2] X.env=[(false,eval (.Name x p2) X.env)]:=by rfl) (hpl:(backTo pos (starEach [.Name x p2] X.env)).any (·.1)=false:=by rfl) :
  VE X (.Call (.Name "isinstance" p) [a,.Name x p2] [] pos) (Qi9 T ta):=by
 intro pins s σ H Q I zz40
 refine Cd zz40 fun τ μ R hst hc h hq=>?_
 refine wpAny_Call_Name_kw (Cz I hg hm boot_isinstance ?_)
 refine PyProof.Rows.callWith_builtin1 ?_ hs hpl
 rw [hs]
 refine Calls.spliced_cons (thn (he pins s σ H (λv H1=>∃x μ1 S,Kp H H1/\Cn X.K μ1 H1/\RelA X.K H1 x v/\tyA μ1 x=some S/\R (.D (.bool (kit S T))) μ1) I ⟨τ,μ,_,hst,hc,h,λx μ1 v H1 S1 c1 rx hx=>?_⟩) λu s1 zz701=>?_)
 ·obtain⟨S,e,hx⟩:=Bb hx
  exact⟨x,μ1,S,S1,c1,rx,e,hx⟩
 obtain⟨v,H1,I1,r1,x,μ1,S,S1,c1,rx,ty,q1⟩:=zz701
 rw [hs2]
 refine Calls.spliced_cons (Cz I1 hg2 hm2 hv2 (Calls.spliced_nil ?_) hn2 hd2)
 exact Qb0 I1 c1 rx r1 ty hk λtk=>⟨.bl _,H1,I1.tok _,rfl,hq _ _ _ _ S1 c1 Cs q1⟩
abbrev ASp:=List AV->M->(AV->M->Prop)->Prop
def Hm(K:PySem.W.Frag)(n:Nat)(sp:ASp):Sp:=λvs H Q _=>∃xs μ R,xs.length=n/\Ax K H xs vs/\Cn K μ H/\sp xs μ R/\LV K H R Q
def VCal(P:Program)(w:World)(K:PySem.W.Frag)(mg:Str->Option Value)(base:Heap)(k:Nat)(x:Str)(ps:List Str)(sp:ASp):Prop:=Cal P w K mg base k x ps (Hm K ps.length sp)
def Qfc(n:Nat)(sp:ASp)(t:AA):AE:=fun τ μ R=>t τ μ λxs μ1=>sp xs μ1 R
variable {x:Str}{p:Pos}{e:Expr}{es:List Expr}{t:AA}{k:Nat}{ps:List Str}{sp:ASp}
theorem Ak(F:VCal X.prog X.w X.K X.mg X.base k x ps sp)(hr:Room k X.A)(hg:Gl X x)(ha:VA X (e :: es) t)(hl:(e :: es).length=ps.length:=by rfl)(hdb:(x==("__debug__" : Str))=false:=by decide)
  (hst:starEach (e :: es) X.env=(false,eval e X.env) :: starEach es X.env:=by rfl) (hpl:(backTo pos (starEach es X.env)).any (·.1)=false:=by rfl):VE X (.Call (.Name x p) (e :: es) [] pos) (Qfc ps.length sp t):=by
 obtain⟨g,gd,G,gb,gk,gm⟩:=F
 refine PE.imp (Wz (E:=E0) G hr hg gm gk gb .nil Qew ha (hdb:=hdb) (he:=hst) (hpl:=hpl)) fun σ H Q zz41=>Cd zz41 fun τ μ R hs hc h hq=>?_
 exact⟨τ,μ,_,hs,hc,h,λxs μ1 vs H1 S1 c1 rs hn hx=>⟨xs,μ1,R,hn.trans hl,by rw [List.append_nil];exact rs,c1,hx,hq.kp S1⟩⟩
def Qfd:AS:=λk _ _ _ τ μ=>k τ μ
def Xr(t u:AS):AS:=λk r b c τ μ=>t (u k r b c) r b c τ μ
variable {st:Stmt}{rest:List Stmt}{s1 s2:AS}
theorem Be:VSs X [] Qfd:=Wn.imp λD σ H zz43=>Ib zz43 fun τ μ nk nr nb nc hs hc h hq=>hq.nx _ _ _ _ Kp.refl hs hc h
theorem Ag(h1:VS X st s1)(h2:VSs X rest s2):VSs X (st :: rest) (Xr s1 s2):=(Tb h1 h2).imp λD σ H zz44=>Ib zz44 fun τ μ nk nr nb nc hs hc h hq =>
 ⟨τ,μ,_,_,_,_,hs,hc,h,⟨fun τ' μ' σ' H' S' hs' hc' h'=>⟨τ',μ',nk,nr,nb,nc,hs',hc',h',hq.kp S'⟩,hq.rt,hq.bk,hq.ct⟩⟩
theorem Ai(h1:VS X st s1):VSs X [st] s1:=Wo h1
def Qb1:AS:=λ_ _ b _ τ μ=>b τ μ
theorem Uh:VS X (.Break pos) Qb1:=Tc.imp λD σ H zz46=>Ib zz46 fun τ μ nk nr nb nc hs hc h hq=>hq.bk _ _ _ _ Kp.refl hs hc h
def Qfe(te:AE):AS:=λk _ _ _ τ μ=>te τ μ λ_ μ1=>k τ μ1
theorem Dp(he:VE X a ta)(hs:swapsWith a none pos.line X.env=pure false:=by rfl):VS X (.Expr a pos) (Qfe ta):=(Wp he hs).imp λD σ H zz48=>Ib zz48 fun τ μ nk nr nb nc hs hc h hq =>
 ⟨τ,μ,_,hs,hc,h,λx μ1 v H1 S1 c1 rx hx=>hq.nx _ _ _ _ S1 (hs.kp S1) c1 hx⟩
def Qja(te:AE):AS:=λ_ r _ _ τ μ=>te τ μ r
theorem A8(he:VE X a ta):VS X (.Return (some a) pos) (Qja ta):=(Qax he).imp λD σ H zz49=>Ib zz49 fun τ μ nk nr nb nc hs hc h hq=>⟨τ,μ,_,hs,hc,h,hq.rt⟩
def Qjb(ct:AT)(t u:AS):AS:=λk r b c τ μ=>ct τ μ λx μ1=>brP x (t k r b c τ μ1) (u k r b c τ μ1)
theorem B1{c:Expr}{a b:List Stmt}{tc:AT}(hc:VT X c tc)(ha:VSs X a s1)(hb:VSs X b s2):VS X (.If c a b pos) (Qjb tc s1 s2):=(Qd5 hc ha hb).imp λD σ H zz51=>Ib zz51 fun τ μ nk nr nb nc hs hc h hq =>
 ⟨τ,μ,_,hs,hc,h,λk μ1 H1 S1 c1 hk=>by
  rcases br_e hk with⟨rfl,hk'⟩ | ⟨rfl,hk'⟩
  ·exact⟨τ,μ1,nk,nr,nb,nc,hs.kp S1,c1,hk',hq.kp S1⟩
  ·exact⟨τ,μ1,nk,nr,nb,nc,hs.kp S1,c1,hk',hq.kp S1⟩⟩
def Qb2:AS:=λ_ _ _ _ _ _=>False
theorem Ge:VS X st Qb2:=Td.imp λD σ H zz52=>Ib zz52 fun τ μ nk nr nb nc hs hc h hq=>h.elim
def Dq(i:Nat):AG:=λv τ μ R=>R (τ.set i (some v)) μ
theorem Ap{i:Nat}{x:Str}(hN:X.N.Nodup)(hi:X.N[i]?=some x)(hx:Loc X.env.scope x)(hf:X.fn x=true\/X.env.scope.names.lookup x=some .local:=by first | exact .inl rfl | exact .inr rfl | assumption):VG X (.Name x pos) (Dq i) :=
 (Wq hN hi hx hf).imp λv σ H Q zz54=>Df zz54 λx τ μ R rx hs hc h hq=>hq _ _ _ _ Kp.refl (hs.set rx i) hc h
def Ui:AGs:=λvs τ μ R=>match vs with
 | []=>R τ μ
 | _ :: _=>False
def Fn(t:AG)(u:AGs):AGs:=λvs τ μ R=>match vs with
 | []=>False
 | v :: r=>t v τ μ fun τ' μ'=>u r τ' μ' R
theorem C6:VGs X [] Ui:=Wr.imp λvs σ H Q zz55=>Df zz55 λxs τ μ R rx hs hc h hq=>by
 cases rx with
 | nil=>exact⟨rfl,hq _ _ _ _ Kp.refl hs hc h⟩
 | cons=>exact h.elim
theorem Bf{e:Expr}{es:List Expr}{t:AG}{u:AGs}(h1:VG X e t)(h2:VGs X es u)
  (hs:(assignEach (e :: es) X.env).map (·.2)=assign e X.env :: (assignEach es X.env).map (·.2):=by rfl):VGs X (e :: es) (Fn t u):=(Tf h1 h2 hs).imp λvs σ H Q zz56=>Df zz56 λxs τ μ R rx hs hc h hq=>by
 cases rx with
 | nil=>exact h.elim
 | cons r1 r2=>exact⟨_,_,rfl,_,τ,μ,_,r1,hs,hc,h,fun τ' μ' σ' H' S' hs' hc' h'=>⟨_,τ',μ',R,Ax.kp S' r2,hs',hc',h',hq.kp S'⟩⟩
def Qb3(n:Nat)(t:AGs):AG:=λv τ μ R=>match v with
 | .D (.tuple ds)=>ds.length=n/\t (ds.map .D) τ μ R
 | _=>False
theorem Ek{es:List Expr}{k:Nat}{t:AGs}{n:Nat}(hcm:X.calm=true)(h:VGs X es t)
  (hn:(assignEach es X.env).length=n:=by rfl) (hst:(assignEach es X.env).findIdx? (·.1)=none:=by rfl):VG X (.Tuple es k pos) (Qb3 n t):=(Qaz hcm h hn hst).imp λv σ H Q zz57=>Df zz57 λx τ μ R rx hs hc h hq=>by
 unfold Qb3 at h
 split at h
 ·obtain⟨a,vs,rfl,q,r⟩:=RelA.tup rx
  exact⟨a,vs,rfl,q.sq,by rw [r.length];exact h.1,_,τ,μ,R,r.rel,hs,hc,h.2,hq⟩
 ·exact h.elim
def Qb4(o i v:AV)(μ:M)(R:M->Prop):Prop:=match o,i with
 | .R a,.D (.int k)=>opt (μ a) λm=>match m with
  | .lst xs=>opt (Sv xs.length k) λj=>R (Ar μ a (.lst (xs.set j v)))
  | _=>False
 | _,_=>False
def Qjc(K:PySem.W.Frag):TSet:=λo i v H Q=>∃a b c μ R,RelA K H a o/\RelA K H b i/\RelA K H c v/\Cn K μ H/\Qb4 a b c μ R/\∀ μ' H',Kp H H'->Cn K μ' H'->R μ'->Q H'
theorem Qff:PSet X (Qjc X.K):=by
 intro pins s σ H o i v ov iv u Q I r1 r2 r3 ⟨a,b,c,μ,R,ra,rb,rc,hc,h,hq⟩
 unfold Qb4 at h
 split at h
 ·rename_i q k
  obtain⟨m,ex,h⟩:=Bb h
  split at h
  ·obtain⟨j,ej,h⟩:=Bb h
   ·obtain⟨o',ho,vs,rfl,rs⟩:=hc _ _ ex
    cases (show o=.ref q from ra)
    cases RelA.int rb
    exact To pins s σ H _ _ v ov iv u Q I r1 r2 r3 ⟨q,vs,k,j,rfl,rfl,ho,by rw [<- rs.length];exact ej,hq _ _ (Kp.put ho trivial _) (hc.put ho trivial (Da (rs.set rc j))) h⟩
  ·exact h.elim
 ·exact h.elim
def Qjd(to ti:AE):AG:=λv τ μ R=>to τ μ λo μ1=>ti τ μ1 λi μ2=>Qb4 o i v μ2 fun μ3=>R τ μ3
theorem Lh{o i:Expr}{to ti:AE}(ho:VE X o to)(hi:VE X i ti)
  (ha:∀v,assign (.Subscript o i pos) X.env v=(do
   let ov <- holding [v] (eval o X.env)
   let iv <- holding [v,ov] (eval i X.env)
   standAt pos
   holding [v,ov,iv] (setItem ov iv v)
   release [v,ov,iv] []):=by intro _;rfl):VG X (.Subscript o i pos) (Qjd to ti):=(Qa0 ho hi Qff ha).imp λv σ H Q zz58=>Df zz58 λx τ μ R rx hs hc h hq =>
 ⟨τ,μ,_,hs,hc,h,λo μ1 ov H1 S1 c1 ro h1=>⟨τ,μ1,_,hs.kp S1,c1,h1,λi μ2 iv H2 S2 c2 ri h2=>⟨o,i,x,μ2,_,ro.kp S2,ri,rx.kp (S1.trans S2),c2,h2,fun μ3 H3 S3 c3 h3=>hq _ _ _ _ (S1.trans (S2.trans S3)) (hs.kp (S1.trans (S2.trans S3))) c3 h3⟩⟩⟩
def Rx(te:AE)(g:AG):AS:=λk _ _ _ τ μ=>te τ μ λx μ1=>g x τ μ1 k
theorem Uj{K:PySem.W.Frag}{te:AE}{g:AG}{D:Ends}{σ:St}{H:Hp}(h:cS K (Rx te g) D σ H):Ws (cE K te) (cG K g) D σ H:=by
 obtain⟨τ,μ,nk,nr,nb,nc,hs,hc,h,hq⟩:=h
 exact⟨τ,μ,_,hs,hc,h,λx μ1 v H1 S1 c1 rx hx=>⟨x,τ,μ1,_,rx,hs.kp S1,c1,hx,hq.nx.kp S1⟩⟩
theorem Gz{tg:Expr}{g:AG}(he:VE X a ta)(hg:VG X tg g)(hs:swapsWithSole [tg] a pos.line X.env=pure false:=by rfl)(hw:swappedStores [tg] a X.env=pure none:=by rfl)
  (h1:(assignEach [tg] X.env).map (·.2)=[assign tg X.env]:=by rfl):VS X (.Assign [tg] a pos) (Rx ta g):=(Qa1 he hg hs hw h1).imp λ_ _ _ h=>Uj h
theorem Au{i:Nat}{x:Str}{pos':Pos}(hN:X.N.Nodup)(hi:X.N[i]?=some x)(hx:Loc X.env.scope x)(he:VE X a ta)(hs:swapsWith a (some (.Name x pos')) pos.line X.env=pure false:=by rfl)(hf:X.fn x=true\/X.env.scope.names.lookup x=some .local:=by first | exact .inl rfl | exact .inr rfl | assumption) :
  VS X (.Assign [.Name x pos'] a pos) (Rx ta (Dq i)):=(Qa2 hN hi hx he hs hf).imp λD σ H zz59=>Ib zz59 fun τ μ nk nr nb nc hs hc h hq =>
 ⟨τ,μ,_,hs,hc,h,λx μ1 v H1 S1 c1 rx hx=>hq.nx _ _ _ _ S1 ((hs.kp S1).set rx i) c1 hx⟩
def Qk5(i j:Nat)(t:AA):AS:=λk _ _ _ τ μ=>t τ μ λxs μ1=>match xs with
 | [v,w]=>k ((τ.set i (some v)).set j (some w)) μ1
 | _=>False
def wl(c:AT)(tb:AS)(k:ASt->M->Prop)(r:AV->M->Prop):Nat->ASt->M->Prop
 | 0=>λ_ _=>False
 | n+1=>fun τ μ=>c τ μ λx μ1=>brP x (tb (wl c tb k r n) r k (wl c tb k r n) τ μ1) (k τ μ1)
structure ItOk(K:PySem.W.Frag)(H0:Hp)(J:It)(xs:List AV)(kp:M->Prop):Prop where
 go:∀i H μ,Kp H0 H->Cn K μ H->kp μ->i < xs.length->J.go i H
 yld:∀i H μ v H' x,Kp H0 H->Cn K μ H->kp μ->xs[i]?=some x->J.yld i H v H'->Kp H H'/\Cn K μ H'/\RelA K H' x v
 stop:∀H μ,Kp H0 H->Cn K μ H->kp μ->J.stop xs.length H
abbrev AI:=ASt->M->(List AV->(M->Prop)->M->Prop)->Prop
def cI(K:PySem.W.Frag)(wi:AI):TI:=fun σ H R=>∃ τ μ R',Dz K H τ σ/\Cn K μ H/\wi τ μ R'/\∀xs kp μ' J H',Kp H H'->Cn K μ' H'->ItOk K H' J xs kp->R' xs kp μ'->R J H'
def VI(X:Cx)(tg iter:Expr)(wi:AI):Prop:=PI X tg iter (cI X.K wi)
theorem PI.imp{tg e:Expr}{t u:TI}(h:PI X tg e t)(i:∀ σ H Q,u σ H Q->t σ H Q):PI X tg e u:=λpins s σ H Q I q=>h pins s σ H Q I (i σ H Q q)
theorem Ry{K:PySem.W.Frag}{H0:Hp}{a:Addr}{xs:List AV}{kp:M->Prop}(h:∀H μ,Kp H0 H->Cn K μ H->kp μ->∃vs,D5 K H a vs/\Ax K H xs vs):ItOk K H0 (Itl K a) xs kp:=by
 refine⟨λi H μ S c k hi=>?_,λi H μ v H' x S c k e y=>?_,λH μ S c k=>?_⟩
 ·obtain⟨vs,q,r⟩:=h H μ S c k
  exact⟨vs,vs[i]'(by rw [<- r.length];exact hi),q,List.getElem?_eq_getElem _⟩
 ·obtain⟨vs,q,r⟩:=h H μ S c k
  obtain⟨rfl,y⟩:=y
  obtain⟨u,eu,ru⟩:=r.get e
  rw [y vs q]at eu
  cases eu
  exact⟨Kp.refl,c,ru⟩
 ·obtain⟨vs,q,r⟩:=h H μ S c k
  exact⟨vs,q,by rw [r.length];exact Nat.le_refl _⟩
theorem Uk{K:PySem.W.Frag}{H0:Hp}{a:Addr}{xs:List AV}{kp:M->Prop}(h:∀H μ,Kp H0 H->Cn K μ H->kp μ->∃vs,Hg K H a vs/\Ax K H xs vs):ItOk K H0 (Itt K a) xs kp:=by
 refine⟨λi H μ S c k hi=>?_,λi H μ v H' x S c k e y=>?_,λH μ S c k=>?_⟩
 ·obtain⟨vs,q,r⟩:=h H μ S c k
  exact⟨vs,vs[i]'(by rw [<- r.length];exact hi),q,List.getElem?_eq_getElem _⟩
 ·obtain⟨vs,q,r⟩:=h H μ S c k
  obtain⟨rfl,y⟩:=y
  obtain⟨u,eu,ru⟩:=r.get e
  rw [y vs q]at eu
  cases eu
  exact⟨Kp.refl,c,ru⟩
 ·obtain⟨vs,q,r⟩:=h H μ S c k
  exact⟨vs,q,by rw [r.length];exact Nat.le_refl _⟩
variable {tg:Expr}
def D9(lo:Int):Nat->List AV
 | 0=>[]
 | n+1=>.D (.int lo) :: D9 (lo+1) n
theorem Bx:∀(n:Nat) (lo:Int),(D9 lo n).length=n
 | 0,_=>rfl
 | n+1,lo=>by rw [D9,List.length_cons,Bx n]
theorem Ez:∀(n:Nat) (lo:Int) (i:Nat) {x:AV},(D9 lo n)[i]?=some x->x=.D (.int (lo+i))
 | 0,_,_,_,h=>by simp [D9]at h
 | n+1,lo,0,_,h=>by simp [D9]at h;rw [<- h];simp
 | n+1,lo,i+1,_,h=>by
  rw [D9,List.getElem?_cons_succ]at h
  rw [Ez n (lo+1) i h]
  congr 2
  omega
theorem Ul{K:PySem.W.Frag}{H0:Hp}{lo:Int}{n:Nat}:ItOk K H0 (Itr lo n) (D9 lo n) (λ_=>True):=by
 refine⟨λi H μ S c k hi=>?_,λi H μ v H' x S c k e y=>?_,λH μ S c k=>?_⟩
 ·show i < n
  rw [Bx]at hi;exact hi
 ·obtain⟨rfl,rfl⟩:=y
  rw [Ez n lo i e]
  exact⟨Kp.refl,c,Di⟩
 ·show n<=_
  rw [Bx];exact Nat.le_refl _
def Qfg(t:AA):AI:=fun τ μ R=>t τ μ λxs μ1=>match xs with
 | [.D (.int j)]=>-(2 ^ 62)<=j/\j < 2 ^ 62/\R (D9 0 j.toNat) (λ_=>True) μ1
 | _=>False
theorem Cu{t:AA}{p:Pos}(hg:Gl X "range") (hm:X.mg "range" = none) (ha:VA X [a] t) (hs:starEach [a] X.env=[(false,eval a X.env)]:=by rfl):VI X tg (.Call (.Name "range" p) [a] [] pos) (Qfg t) :=
 (Rh hg hm ha hs).imp fun σ H Q zz62=>Cd zz62 fun τ μ R hs hc h hq=>⟨τ,μ,_,hs,hc,h,λxs μ1 vs H1 S1 c1 rs hl hx=>by
  split at hx
  ·cases rs with
   | cons r1 r2 =>
    cases r2
    cases RelA.int r1
    exact⟨_,rfl,hx.1,hx.2.1,hq _ _ _ _ _ S1 c1 Ul hx.2.2⟩
  ·exact hx.elim⟩
def fl(g:AG)(tb:AS)(k:ASt->M->Prop)(r:AV->M->Prop)(kp:M->Prop):List AV->ASt->M->Prop
 | []=>fun τ μ=>kp μ/\k τ μ
 | x :: xs=>fun τ μ=>kp μ/\g x τ μ fun τ2 μ2=>tb (fl g tb k r kp xs) r k (fl g tb k r kp xs) τ2 μ2
def Qje(wi:AI)(g:AG)(tb:AS):AS:=λk r _ _ τ μ=>wi τ μ λxs kp μ1=>fl g tb k r kp xs τ μ1
theorem Qfh{g:AG}{tb:AS}{k:ASt->M->Prop}{r:AV->M->Prop}{kp:M->Prop}{xs:List AV}{τ:ASt}{μ:M}(h:fl g tb k r kp xs τ μ):kp μ:=by
 cases xs with
 | nil=>exact h.1
 | cons x xs=>exact h.1
theorem El{iter:Expr}{body:List Stmt}{wi:AI}{g:AG}{tb:AS}(hp:PassesOwn (model X.prog X.w) X.A X.env X.xe)(hcm:X.calm=true)(hi:VI X tg iter wi)(hg:VG X tg g)(hb:VSs X body tb)(hfs:∀x,foldedSetIterable iter X.env x=pure x:=by intro _;rfl) :
  VS X (.For tg iter body [] pos) (Qje wi g tb):=(Qa3 hp hcm hi hg hb hfs).imp λD σ H zz64=>Ib zz64 fun τ μ nk nr nb nc hs hc h hq=>by
 refine⟨τ,μ,_,hs,hc,h,λxs kp μ0 J H0 S0 c0 it h0=>?_⟩
 refine Qbs xs.length (λi σ1 H1=>∃ τ1 μ1,Kp H0 H1/\Dz X.K H1 τ1 σ1/\Cn X.K μ1 H1/\fl g tb nk nr kp (xs.drop i) τ1 μ1) ⟨τ,μ0,Kp.refl,hs.kp S0,c0,h0⟩ ?_ ?_ ?_
 ·rintro i σ1 H1 hi ⟨τ1,μ1,S1,hs1,hc1,h1⟩
  exact it.go i H1 μ1 S1 hc1 (Qfh h1) hi
 ·rintro σ1 H1 ⟨τ1,μ1,S1,hs1,hc1,h1⟩
  rw [List.drop_length]at h1
  exact⟨it.stop H1 μ1 S1 hc1 h1.1,hq.nx _ _ _ _ (S0.trans S1) hs1 hc1 h1.2⟩
 ·rintro i v σ1 H1 H2 hi ⟨τ1,μ1,S1,hs1,hc1,h1⟩ y
  rw [List.drop_eq_getElem_cons hi]at h1
  obtain⟨hk,h1⟩:=h1
  obtain⟨S2,c2,rx⟩:=it.yld i H1 μ1 v H2 _ S1 hc1 hk (List.getElem?_eq_getElem hi) y
  refine⟨_,τ1,μ1,_,rx,hs1.kp S2,c2,h1,fun τ3 μ3 σ3 H3 S3 hs3 hc3 h3=>⟨τ3,μ3,_,_,_,_,hs3,hc3,h3,?_⟩⟩
  have S:Kp H0 H3:=S1.trans (S2.trans S3)
  exact⟨fun τ' μ' σ' H' S' hs' hc' h'=>⟨τ',μ',S.trans S',hs',hc',h'⟩,hq.rt.kp (S0.trans S),hq.nx.kp (S0.trans S),fun τ' μ' σ' H' S' hs' hc' h'=>⟨τ',μ',S.trans S',hs',hc',h'⟩⟩
def VIfs(X:Cx)(ifs:List Expr)(t:AT):Prop:=PIfs X ifs (cT X.K t)
def Qb5:AT:=λ_ μ R=>R true μ
theorem Bk:VIfs X [] Qb5:=λpins s σ H Q I zz65=>Cd zz65 fun τ μ R hs hc h hq=>Tu pins s σ H Q I (hq _ _ _ Kp.refl hc h)
theorem E5{t:AT}(h:VT X a t):VIfs X [a] t:=Tv h
def cl(p:Addr)(g:AG)(tst:AT)(te:AE)(kp:M->Prop)(R:M->Prop):List AV->List AV->ASt->M->Prop
 | []=>λ_ _ μ=>kp μ/\R μ
 | x :: xs=>λacc τ μ=>kp μ/\g x τ μ fun τ1 μ1=>tst τ1 μ1 λk μ2 =>
  brP k (te τ1 μ2 λv μ3=>μ3 p=some (.lst acc)/\acc.length < sizeLine/\cl p g tst te kp R xs (acc++[v]) τ1 (Ar μ3 p (.lst (acc++[v])))) (cl p g tst te kp R xs acc τ1 μ2)
def Px(mp:List (Option Nat))(wi:AI)(g:AG)(tst:AT)(te:AE):AE:=fun τ μ R=>wi τ μ λxs kp μ1=>∀p,μ1 p=none->cl p g tst te kp (fun μ2=>R (.R p) μ2) xs [] (Qex mp τ) (Ar μ1 p (.lst []))
theorem Qfi{p:Addr}{g:AG}{tst:AT}{te:AE}{kp:M->Prop}{R:M->Prop}{xs acc:List AV}{τ:ASt}{μ:M}(h:cl p g tst te kp R xs acc τ μ):kp μ:=by
 cases xs with
 | nil=>exact h.1
 | cons x xs=>exact h.1
theorem Kc{K:PySem.W.Frag}{mp:List (Option Nat)}{wi:AI}{g:AG}{tst:AT}{te:AE}{σ:St}{H:Hp}{Q:VK}(h:cE K (Px mp wi g tst te) σ H Q):Tx mp (cI K wi) (cG K g) (cT K tst) (cE K te) σ H Q:=by
 obtain⟨τ,μ,R,hs,hc,h,hq⟩:=h
 refine⟨τ,μ,_,hs,hc,h,λxs kp μ0 J H0 S0 c0 it h0=>?_⟩
 intro p hp
 have h0:=h0 p (c0.none hp)
 have c0':Cn K (Ar μ0 p (.lst [])) (upd H0 p (.lst [])):=c0.new hp (Da (.nil))
 have S0':Kp H0 (upd H0 p (.lst [])):=Kp.new hp _
 refine Xg xs.length (λi acc σ1 H1=>∃ τ1 μ1 as,Kp H0 H1/\Dz K H1 τ1 σ1/\Cn K μ1 H1/\Ax K H1 as acc/\cl p g tst te kp (fun μ2=>R (.R p) μ2) (xs.drop i) as τ1 μ1) ⟨_,_,[],S0',((hs.kp S0).kp S0').sub mp,c0',.nil,h0⟩ ?_ ?_ ?_
 ·rintro i acc σ1 H1 hi ⟨τ1,μ1,as,S1,hs1,hc1,ra,h1⟩
  exact it.go i H1 μ1 S1 hc1 (Qfi h1) hi
 ·rintro acc σ1 H1 ⟨τ1,μ1,as,S1,hs1,hc1,ra,h1⟩
  rw [List.drop_length]at h1
  exact⟨it.stop H1 μ1 S1 hc1 h1.1,hq _ _ _ _ (S0.trans S1) hc1 Dw h1.2⟩
 ·rintro i v acc σ1 H1 H2 hi ⟨τ1,μ1,as,S1,hs1,hc1,ra,h1⟩ y
  rw [List.drop_eq_getElem_cons hi]at h1
  obtain⟨hk,h1⟩:=h1
  obtain⟨S2,c2,rx⟩:=it.yld i H1 μ1 v H2 _ S1 hc1 hk (List.getElem?_eq_getElem hi) y
  refine⟨_,τ1,μ1,_,rx,hs1.kp S2,c2,h1,fun τ3 μ3 σ3 H3 S3 hs3 hc3 h3=>⟨τ3,μ3,_,hs3,hc3,h3,λk μ4 H4 S4 c4 h4=>?_⟩⟩
  rcases br_e h4 with⟨rfl,h4'⟩ | ⟨rfl,h4'⟩
  ·rw [if_pos rfl]
   refine⟨τ3,μ4,_,hs3.kp S4,c4,h4',λw μ5 u H5 S5 c5 rw h5=>?_⟩
   obtain⟨e5,hl,h5⟩:=h5
   obtain⟨o,ho,vs,rfl,rs⟩:=c5 _ _ e5
   have S:Kp H1 H5:=S2.trans (S3.trans (S4.trans S5))
   exact⟨vs,ho,by rw [<- rs.length];exact hl,τ3,_,_,(S1.trans S).trans (Kp.put ho trivial _),(hs3.kp (S4.trans S5)).kp (Kp.put ho trivial _),c5.put ho trivial (Da (rs.append (.cons rw .nil))),(rs.append (.cons rw .nil)).kp (Kp.put ho trivial _),h5⟩
  ·rw [if_neg Bool.false_ne_true]
   have S:Kp H1 H4:=S2.trans (S3.trans S4)
   exact⟨τ3,μ4,as,S1.trans S,hs3.kp S4,c4,ra.kp S,h4'⟩
variable {N':List Str}{mp:List (Option Nat)}{elt iter:Expr}{ifs:List Expr}{scope:Scope}{wi:AI}{g:AG}{tst:AT}{te:AE}
theorem Bn(hc:X.calm=true)(hi:VI X tg iter wi)(hg:∀C s H fp,VG (Bv X N' scope C s H fp) tg g)(ht:∀C s H fp,VIfs (Bv X N' scope C s H fp) ifs tst)(he:∀C s H fp,VE (Bv X N' scope C s H fp) elt te)
  (ok:CompOk X.N X.env.scope.names scope.names N' mp) (hk:scope.kind=.function:=by rfl) (hs:∀x,foldedSetIterable iter X.env x=pure x:=by intro _;rfl) :
  VE X (.ListComp elt [⟨tg,iter,ifs,0⟩] scope pos) (Px mp wi g tst te):=(Xe (g:=cG X.K g) (tst:=cT X.K tst) (te:=cE X.K te) hc hi (λC s H fp=>hg C s H fp) (λC s H fp=>ht C s H fp) (λC s H fp=>he C s H fp) ok hk hs).imp λ_ _ _ h=>Kc h
theorem Py{i:Nat}{y:Str}{py spos:Pos}(hc:X.calm=true)(hN:X.N.Nodup)(hi':X.N[i]?=some y)(hy:X.env.scope.names.lookup y=some .local)
  (hi:VI X tg iter wi) (hg:∀C s H fp,VG (Bv X N' scope C s H fp) tg g) (ht:∀C s H fp,VIfs (Bv X N' scope C s H fp) ifs tst) (he:∀C s H fp,VE (Bv X N' scope C s H fp) elt te)
  (ok:CompOk X.N X.env.scope.names scope.names N' mp) (hsw:swapsWith (.ListComp elt [⟨tg,iter,ifs,0⟩] scope pos) (some (.Name y py)) spos.line X.env=pure true:=by rfl)
  (hk:scope.kind=.function:=by rfl) (hs:∀x,foldedSetIterable iter X.env x=pure x:=by intro _;rfl) :
  VS X (.Assign [.Name y py] (.ListComp elt [⟨tg,iter,ifs,0⟩] scope pos) spos) (Rx (Px mp wi g tst te) (Dq i)):=(Xf (g:=cG X.K g) (tst:=cT X.K tst) (te:=cE X.K te) hc hN hi' hy hi (λC s H fp=>hg C s H fp) (λC s H fp=>ht C s H fp) (λC s H fp=>he C s H fp) ok hsw hk hs).imp λD σ H zz66=>Ib zz66 fun τ μ nk nr nb nc hs hc h hq =>
 Kc (K:=X.K) ⟨τ,μ,_,hs,hc,h,λx μ1 v H1 S1 c1 rx hx=>hq.nx _ _ _ _ S1 ((hs.kp S1).set rx i) c1 hx⟩
end
section
variable {P:Program}{w:World}{K:PySem.W.Frag}{mg:Str->Option Value}{base:Heap}
def aNx(R:AV->M->Prop):ASt->M->Prop:=λ_ μ'=>∃ ν,Sub ν μ'/\R (.D .none) ν
def aRt(R:AV->M->Prop):AV->M->Prop:=λv μ'=>∃ ν,Sub ν μ'/\R v ν
def aNo:ASt->M->Prop:=λ_ _=>False
theorem Fun.vok{x qual:Str}{st:Stmt}{f:Addr}{fd:FuncData}{N ps:List Str}{k:Nat}{sp:ASp}(F:Fun K x qual st f fd)(S:FnScope N ps (Ah st))
  (hbody:∀(cdv:Value) (A:Around) (outer:List Env) (s:Shared) (H:Hp) (E:XK),Room k (A.deeper (envOfC qual (Ah st) s.heap.objs.size f cdv)) ->
   ∃t,VSs (N9 Fb P w K mg base N qual (Ah st) f cdv A outer s H E).nox (A9 st) t/\∀xs μ R,xs.length=ps.length->sp xs μ R->t (aNx R) (aRt R) aNo aNo (Le N xs) μ):FnOk P w K mg base Fb (k+1) f fd ps (Hm K ps.length sp):=by
 refine F.ok S (λvs H Q E h=>?_) (λcdv A outer s H vs Q E hr h=>?_)
 ·obtain⟨xs,μ,R,hl,rs,_⟩:=h
  rw [<- rs.length];exact hl
 ·obtain⟨xs,μ,R,hl,rs,hc,hsp,hq⟩:=h
  obtain⟨t,ht,h⟩:=hbody cdv A outer s H E hr
  refine⟨_,ht,Le N xs,μ,_,_,_,_,Dz.begin rs,hc,h xs μ R hl hsp,⟨fun τ μ' σ H' S' _ c zz67=>Qdw zz67 fun ν hν r=>?_,λv μ' u H' S' c rv zz68=>Qdw zz68 fun ν hν r=>?_,λ_ _ _ _ _ _ _ h=>h.elim,λ_ _ _ _ _ _ _ h=>h.elim⟩⟩
  ·exact hq _ _ _ _ S' (c.sub hν) T6 r
  ·exact hq _ _ _ _ S' (c.sub hν) rv r
end
section
variable {X:Cx}{a b c:Expr}{ta tb tc:AE}{pos:Pos}{tg:Expr}
def Qjf(t:AE):AI:=fun τ μ R=>t τ μ λx μ1=>opt (items μ1 x) λxs=>R xs (fun μ=>items μ x=some xs) μ1
theorem B2(hl:VE X a ta):VI X tg a (Qjf ta):=by
 intro pins s σ H R I zz69
 refine Cd zz69 fun τ μ R' hs hc h hq=>?_
 refine thn (hl pins s σ H (λv H1=>∃x μ1 xs,Kp H H1/\Cn X.K μ1 H1/\RelA X.K H1 x v/\items μ1 x=some xs/\R' xs (fun μ=>items μ x=some xs) μ1) I ⟨τ,μ,_,hs,hc,h,λx μ1 v H1 S1 c1 rx hx=>?_⟩) λv s1 zz702=>?_
 ·obtain⟨xs,e,hx⟩:=Bb hx
  exact⟨x,μ1,xs,S1,c1,rx,e,hx⟩
 obtain⟨xv,H1,I1,r1,x,μ1,xs,S1,c1,rx,e,hx⟩:=zz702
 obtain⟨p,vs,rfl,hp,rs⟩:=Bp c1 rx e
 cases r1
 rcases hp with⟨k,hp⟩ | ⟨k,hp⟩
 ·obtain⟨its,rv,pl,hz⟩:=I1.list hp
  refine wpAny_pyIter_list pl.isList ?_
  refine⟨s1.heap.objs.size,[s1.heap.objs.size],_,_,H1,rfl,I1.kept (t':=s1.toks) λb o e=>Heap.get?_push_of_some _ e,Rg p _,⟨_,Heap.get?_push_size _ rfl,rfl,rfl⟩,λb hb=>?_,hq _ _ _ _ _ S1 c1 (Ry λH μ S c k2=>?_) hx⟩
  ·have e:b=s1.heap.objs.size:=by simpa using hb
   subst e
   exact I1.fpOk (Nat.le_refl _) (I1.hok.fresh (Nat.le_refl _))
  ·obtain⟨q,ws,e,hw,rw⟩:=Bp c (rx.kp S) k2
   cases e
   rcases hw with⟨_,hw⟩ | ⟨k3,_⟩
   ·exact⟨ws,hw,rw⟩
   ·rw [k]at k3;cases k3
 ·obtain⟨its,rv,pl,hz⟩:=I1.tuple hp
  refine wpAny_pyIter_tuple (show s1.heap.IsTuple p its.toArray from pl) ?_
  refine⟨s1.heap.objs.size,[s1.heap.objs.size],_,_,H1,rfl,I1.kept (t':=s1.toks) λb o e=>Heap.get?_push_of_some _ e,N6 p _,⟨_,Heap.get?_push_size _ rfl,rfl,rfl⟩,λb hb=>?_,hq _ _ _ _ _ S1 c1 (Uk λH μ S c k2=>?_) hx⟩
  ·have e:b=s1.heap.objs.size:=by simpa using hb
   subst e
   exact I1.fpOk (Nat.le_refl _) (I1.hok.fresh (Nat.le_refl _))
  ·obtain⟨q,ws,e,hw,rw⟩:=Bp c (rx.kp S) k2
   cases e
   rcases hw with⟨k3,_⟩ | ⟨_,hw⟩
   ·rw [k]at k3;cases k3
   ·exact⟨ws,hw,rw⟩
def Qjg(t:AE):AE:=fun τ μ R=>t τ μ λx μ1=>match x with
 | .D (.int i)=>R (.D (.int (-i))) μ1
 | _=>False
theorem Um(h:VE X a ta):VE X (.UnaryOp .USub a pos) (Qjg ta):=(Qea Qba h).imp fun σ H Q zz70=>Cd zz70 fun τ μ R hs hc h hq=>⟨τ,μ,_,hs,hc,h,λx μ1 v H1 S1 c1 rx hx=>by
 cases x with
 | D d =>
  cases d with
  | int i =>
   cases RelA.int rx
   exact⟨_,rfl,hq _ _ _ _ S1 c1 Di hx⟩
  | _=>exact False.elim hx
 | _=>exact False.elim hx⟩
end
section
variable {c:AT}{g:AG}{tb:AS}{k:ASt->M->Prop}{r:AV->M->Prop}{bb cc:ASt->M->Prop}{tst:AT}{te:AE}
theorem Av{t u:AS}{τ:ASt}{μ:M}(J:ASt->M->Prop)(h1:∀W:ASt->M->Prop,(∀ τ' μ',J τ' μ'->W τ' μ')->t W r bb cc τ μ)(h2:∀ τ' μ',J τ' μ'->u k r bb cc τ' μ'):Xr t u k r bb cc τ μ:=h1 (u k r bb cc) h2
theorem Hn{t u:AS}{τ:ASt}{μ:M}(h:t (u k r bb cc) r bb cc τ μ):Xr t u k r bb cc τ μ:=h
theorem Gf{kp:M->Prop}{xs:List AV}{τ:ASt}{μ:M}(I:Nat->ASt->M->Prop)(h0:I 0 τ μ)(hk:∀i τ μ,I i τ μ->kp μ)
  (step:∀i x τ μ (W:ASt->M->Prop),xs[i]?=some x->I i τ μ->(∀ τ' μ',I (i+1) τ' μ'->W τ' μ')->g x τ μ fun τ2 μ2=>tb W r k W τ2 μ2)
  (done:∀ τ μ,I xs.length τ μ->k τ μ):fl g tb k r kp xs τ μ:=by
 have key:∀n i τ μ,n+i=xs.length->I i τ μ->fl g tb k r kp (xs.drop i) τ μ:=by
  intro n
  induction n with
  | zero =>
   intro i τ μ h hI
   have e:i=xs.length:=by omega
   subst e
   rw [List.drop_length]
   exact⟨hk _ _ _ hI,done τ μ hI⟩
  | succ n ih =>
   intro i τ μ h hI
   have hi:i < xs.length:=by omega
   rw [List.drop_eq_getElem_cons hi]
   exact⟨hk _ _ _ hI,step i _ τ μ _ (List.getElem?_eq_getElem hi) hI fun τ' μ' q=>ih (i+1) τ' μ' (by omega) q⟩
 exact key xs.length 0 τ μ rfl h0
theorem C0{p:Addr}{kp:M->Prop}{R:M->Prop}{xs:List AV}{τ:ASt}{μ:M}(I:Nat->List AV->ASt->M->Prop)(h0:I 0 [] τ μ)(hk:∀i acc τ μ,I i acc τ μ->kp μ)
  (step:∀i x acc τ μ (W:List AV->ASt->M->Prop),xs[i]?=some x->I i acc τ μ->(∀acc' τ' μ',I (i+1) acc' τ' μ'->W acc' τ' μ')->g x τ μ fun τ1 μ1=>tst τ1 μ1 λk μ2 =>
   brP k (te τ1 μ2 λv μ3=>μ3 p=some (.lst acc)/\acc.length < sizeLine/\W (acc++[v]) τ1 (Ar μ3 p (.lst (acc++[v])))) (W acc τ1 μ2))
  (done:∀acc τ μ,I xs.length acc τ μ->R μ):cl p g tst te kp R xs [] τ μ:=by
 have key:∀n i acc τ μ,n+i=xs.length->I i acc τ μ->cl p g tst te kp R (xs.drop i) acc τ μ:=by
  intro n
  induction n with
  | zero =>
   intro i acc τ μ h hI
   have e:i=xs.length:=by omega
   subst e
   rw [List.drop_length]
   exact⟨hk _ _ _ _ hI,done acc τ μ hI⟩
  | succ n ih =>
   intro i acc τ μ h hI
   have hi:i < xs.length:=by omega
   rw [List.drop_eq_getElem_cons hi]
   exact⟨hk _ _ _ _ hI,step i _ acc τ μ (λacc' τ' μ'=>cl p g tst te kp R (xs.drop (i+1)) acc' τ' μ') (List.getElem?_eq_getElem hi) hI λacc' τ' μ' q=>ih (i+1) acc' τ' μ' (by omega) q⟩
 exact key xs.length 0 [] τ μ rfl h0
end
theorem Mp{z:Str}(h:PyData.canLay0 (.str z)=true):B3 (.str z):=⟨h,by simp [PyData.depth]⟩
theorem C8(i:Int):B3 (.int i):=⟨rfl,by simp [PyData.depth]⟩
theorem Hv(i j:Int):PyData.eqv (.int i) (.int j)=decide (i=j):=by
 rw [PyData.eqv];exact Bool.eq_iff_iff.mpr (by simp)
theorem ieq{i j:Int}{T F:Prop}(h1:i=j->T)(h2:i≠j->F):B3 (.int i)/\B3 (.int j)/\brP (PyData.eqv (.int i) (.int j)) T F:=by
 refine⟨C8 _,C8 _,?_⟩
 rw [Hv]
 exact dif h1 h2
theorem Aq{μ:M}{p:Addr}{xs:List AV}(h:μ p=some (.lst xs)):items μ (.R p)=some xs:=by
 show(match μ p with | some (.lst xs)=>some xs | _=>none)=_
 rw [h]
def Dd{κ:Type} [DecidableEq κ](kvs:List (κ×AV))(k:κ):Option AV:=(kvs.find? λkv=>decide (kv.1=k)).map (·.2)
def Li{κ:Type} [DecidableEq κ](kvs:List (κ×AV))(k:κ)(v:AV):List (κ×AV) :=
 if(kvs.any λkv=>decide (kv.1=k))=true then kvs.map λkv=>if kv.1=k then(kv.1,v) else kv else kvs++[(k,v)]
def Iu:List PyData->Option (List Key)
 | []=>some []
 | d :: ds=>match Mj d,Iu ds with
  | some k,some ks=>some (k :: ks)
  | _,_=>none
def Pz(ds:List PyData):Option (List Key):=match Lit ds with
 | true=>none
 | false=>Iu ds
theorem P0{ds:List PyData}{ks:List Key}(h:Pz ds=some ks):Lit ds=false/\Iu ds=some ks:=by
 unfold Pz at h
 cases c:Lit ds with
 | true=>rw [c]at h;cases h
 | false=>rw [c]at h;exact⟨rfl,h⟩
theorem Wi.heap{K:PySem.W.Frag}{H:Hp}{a:Addr}{ds:List PyData}{xs:List V}(h:Wi K H a ds xs)(hl:Lit ds=false):H a=some (.tup xs):=by
 rcases h with h | h
 ·exact h
 ·rw [hl]at h;cases h.1
def dget(m:MO)(d:PyData):Option (Option AV):=match m with
 | .dk kvs=>(Mj d).map (Dd kvs)
 | .dt kvs=>match d with
  | .tuple ds=>(Pz ds).map (Dd kvs)
  | _=>none
 | .lst _=>none
 | .dd _=>none
def dput(m:MO)(d:PyData)(v:AV):Option MO:=match m with
 | .dk kvs=>(Mj d).map λk=>.dk (Li kvs k v)
 | .dt kvs=>match d with
  | .tuple ds=>(Pz ds).map λk=>.dt (Li kvs k v)
  | _=>none
 | .lst _=>none
 | .dd _=>none
def dsize:MO->Nat
 | .dk kvs=>kvs.length
 | .dt kvs=>kvs.length
 | .lst xs=>xs.length
 | .dd kvs=>kvs.length
section
variable {X:Cx}{K:PySem.W.Frag}{H:Hp}
def Qa(K:PySem.W.Frag)(H:Hp):Option AV->Option V->Prop
 | some x,some v=>RelA K H x v
 | none,none=>True
 | _,_=>False
theorem Ev.val{κ:Type} [DecidableEq κ]{kvs:List (κ×AV)}{vs:List (κ×V)}(h:Ev K H kvs vs)(k:κ):Qa K H (Dd kvs k) (F0 vs k):=by
 unfold Ev at h
 induction h with
 | nil=>exact trivial
 | @cons p q l₁ l₂ r t ih =>
  obtain⟨p1,p2⟩:=p
  obtain⟨q1,q2⟩:=q
  obtain⟨e,r⟩:=r
  dsimp only at e
  subst e
  unfold Dd F0 at ih ⊢
  by_cases hk:p1=k
  ·simp only [List.find?_cons,decide_eq_true hk];exact r
  ·simp only [List.find?_cons,decide_eq_false hk];exact ih
theorem Ev.put{κ:Type} [DecidableEq κ]{kvs:List (κ×AV)}{vs:List (κ×V)}(h:Ev K H kvs vs)(k:κ){x:AV}{v:V}(r:RelA K H x v):Ev K H (Li kvs k x) (Ga vs k v):=by
 have hn:(kvs.any λkv=>decide (kv.1=k))=(vs.any λkv=>decide (kv.1=k)):=by
  unfold Ev at h
  induction h with
  | nil=>rfl
  | @cons p q l₁ l₂ rr t ih=>rw [List.any_cons,List.any_cons,ih,rr.1]
 have hm:Ev K H (kvs.map λkv=>if kv.1=k then(kv.1,x) else kv) (vs.map λkv=>if kv.1=k then(kv.1,v) else kv):=by
  clear hn
  unfold Ev at h ⊢
  induction h with
  | nil=>exact .nil
  | @cons p q l₁ l₂ rr t ih =>
   refine .cons ?_ ih
   obtain⟨e,rr⟩:=rr
   dsimp only
   by_cases hk:p.1=k
   ·rw [if_pos hk,if_pos (e ▸ hk)];exact⟨e,r⟩
   ·rw [if_neg hk,if_neg (e ▸ hk)];exact⟨e,rr⟩
 have ha:Ev K H (kvs++[(k,x)]) (vs++[(k,v)]):=by
  clear hn hm
  unfold Ev at h ⊢
  exact Paired.snoc h ⟨rfl,r⟩
 unfold Li Ga
 rw [hn]
 split
 ·exact hm
 ·exact ha
theorem Lj{d:PyData}{k:Key}{v:V}(h:Dk K H d v)(e:Mj d=some k):v=kV k:=by
 unfold Mj at e
 split at e
 ·cases e;exact h.int
 ·cases e;exact h.str
 ·cases e
theorem Iv:∀{ds:List PyData} {ks:List Key} {vs:List V},Am K H ds vs->Iu ds=some ks->vs=ks.map kV
 | [],ks,vs,h,e=>by cases e;exact h.nil
 | d :: ds,ks,vs,h,e=>by
  obtain⟨x,r,rfl,h1,h2⟩:=h.cons
  simp only [Iu]at e
  split at e
  ·rename_i k ks' e1 e2
   cases e
   rw [Lj h1 e1,Iv h2 e2];rfl
  ·cases e
theorem Lk{μ:M}{a:Addr}{m:MO}{d:PyData}{v:V}{o:Option AV}(hc:Cn K μ H)(hm:μ a=some m)(hd:Dk K H d v)(e:dget m d=some o):∃r,DGet H a v r/\Qa K H o r:=by
 obtain⟨ob,ho,rm⟩:=hc a m hm
 unfold dget at e
 split at e
 ·obtain⟨k,ek,rfl⟩:=Option.map_eq_some_iff.mp e
  obtain⟨vs,rfl,rs⟩:=rm
  rw [Lj hd ek]
  exact⟨_,DGet.k ho,rs.val k⟩
 ·split at e
  ·obtain⟨ks,ek,rfl⟩:=Option.map_eq_some_iff.mp e
   obtain⟨vs,rfl,rs⟩:=rm
   obtain⟨b,xs,rfl,hb,hx⟩:=hd.tup
   obtain⟨e0,ek⟩:=P0 ek
   have hb:=hb.heap e0
   rw [Iv hx ek]at hb
   exact⟨_,DGet.t ho hb,rs.val ks⟩
  ·cases e
 ·cases e
 ·cases e
theorem Xs{μ:M}{a:Addr}{m m':MO}{d:PyData}{v w:V}{x:AV}(hc:Cn K μ H)(hm:μ a=some m)(hd:Dk K H d v)(hx:RelA K H x w)(e:dput m d x=some m')(hs:dsize m < sizeLine):∃H',DPut H a v w H'/\Kp H H'/\Cn K (Ar μ a m') H':=by
 obtain⟨ob,ho,rm⟩:=hc a m hm
 unfold dput at e
 split at e
 ·obtain⟨k,ek,rfl⟩:=Option.map_eq_some_iff.mp e
  obtain⟨vs,rfl,rs⟩:=rm
  rw [Lj hd ek]
  exact⟨_,DPut.k ho (by rw [<- Paired.length rs];exact hs),Kp.put ho trivial _,hc.put ho trivial ⟨_,rfl,rs.put k hx⟩⟩
 ·split at e
  ·obtain⟨ks,ek,rfl⟩:=Option.map_eq_some_iff.mp e
   obtain⟨vs,rfl,rs⟩:=rm
   obtain⟨b,xs,rfl,hb,hxs⟩:=hd.tup
   obtain⟨e0,ek⟩:=P0 ek
   have hb:=hb.heap e0
   rw [Iv hxs ek]at hb
   exact⟨_,DPut.t ho hb (by rw [<- Paired.length rs];exact hs),Kp.put ho trivial _,hc.put ho trivial ⟨_,rfl,rs.put ks hx⟩⟩
  ·cases e
 ·cases e
 ·cases e
variable {o i e value:Expr}{pos pos':Pos}{td ty tv tx:AE}
def Qfj(td ty:AE):AE:=fun τ μ R=>td τ μ λx μ1=>ty τ μ1 λy μ2=>match x,y with
 | .R a,.D d=>opt (μ2 a) λm=>opt (dget m d) λr=>opt r λv=>R v μ2
 | _,_=>False
theorem Ll(hu:X.A.units+1 < cLine)(ho:VE X o td)(hi:VE X i ty)(hs:Qbm i:=by intro _ _;rfl):VE X (.Subscript o i pos) (Qfj td ty):=(Xb hu ho hi hs).imp fun σ H Q zz71=>Cd zz71 fun τ μ R hs hc h hq =>
 ⟨τ,μ,_,hs,hc,h,λx μ1 v H1 S1 c1 rx hx=>⟨τ,μ1,_,hs.kp S1,c1,hx,λy μ2 u H2 S2 c2 ry hy=>by
  split at hy
  ·obtain⟨m,em,hy⟩:=Bb hy
   obtain⟨r,er,hy⟩:=Bb hy
   obtain⟨w,rfl,hy2⟩:=Bb hy
   obtain⟨r',g,ro⟩:=Lk c2 em ry er
   cases r' with
   | none=>exact ro.elim
   | some z=>exact⟨_,z,(rx.kp S2).ref,g,hq _ _ _ _ (S1.trans S2) c2 ro hy2⟩
  ·exact hy.elim⟩⟩
def Xt(nb:Bool->Bool)(ty td:AE):AE:=fun τ μ R=>ty τ μ λy μ1=>td τ μ1 λx μ2=>match x,y with
 | .R a,.D d=>opt (μ2 a) λm=>opt (dget m d) λr=>R (.D (.bool (nb r.isSome))) μ2
 | _,_=>False
theorem Qa.some{o:Option AV}{r:Option V}(h:Qa K H o r):o.isSome=r.isSome:=by
 cases o <;> cases r <;> first | rfl | exact h.elim
theorem Uo{K:PySem.W.Frag}{σ:St}{H:Hp}{Q:VK}(h:cE K (Xt (λb=>b) ty td) σ H Q):Qeu (cE K ty) (cE K td) σ H Q:=by
 obtain⟨τ,μ,R,hs,hc,h,hq⟩:=h
 refine⟨τ,μ,_,hs,hc,h,λy μ1 v H1 S1 c1 ry hx=>⟨τ,μ1,_,hs.kp S1,c1,hx,λx μ2 u H2 S2 c2 rx hy=>?_⟩⟩
 split at hy
 ·obtain⟨m,em,hy⟩:=Bb hy
  obtain⟨r,er,hy⟩:=Bb hy
  obtain⟨r',g,ro⟩:=Lk c2 em (ry.kp S2) er
  refine⟨_,r',rx.ref,g,hq _ _ _ _ (S1.trans S2) c2 ?_ hy⟩
  rw [ro.some];exact Cs
 ·exact hy.elim
theorem Mq{K:PySem.W.Frag}{σ:St}{H:Hp}{Q:VK}(h:cE K (Xt (λb=>!b) ty td) σ H Q):Pp (cE K ty) (cE K td) σ H Q:=by
 obtain⟨τ,μ,R,hs,hc,h,hq⟩:=h
 refine⟨τ,μ,_,hs,hc,h,λy μ1 v H1 S1 c1 ry hx=>⟨τ,μ1,_,hs.kp S1,c1,hx,λx μ2 u H2 S2 c2 rx hy=>?_⟩⟩
 split at hy
 ·obtain⟨m,em,hy⟩:=Bb hy
  obtain⟨r,er,hy⟩:=Bb hy
  obtain⟨r',g,ro⟩:=Lk c2 em (ry.kp S2) er
  refine⟨_,r',rx.ref,g,hq _ _ _ _ (S1.trans S2) c2 ?_ hy⟩
  rw [ro.some];exact Cs
 ·exact hy.elim
theorem Qb6(hu:X.A.units+1 < cLine)(hi:VE X i ty)(ho:VE X o td)(h1:behindInMarks .In o=false:=by rfl):VE X (.Compare i [.In] [o] pos) (Xt (λb=>b) ty td):=(Qan (Qbn hu hi ho) h1).imp λ_ _ _ h=>Uo h
theorem Kd(hu:X.A.units+1 < cLine)(hi:VE X i ty)(ho:VE X o td)(h1:behindInMarks .NotIn o=false:=by rfl):VT X (.Compare i [.NotIn] [o] pos) (Mi (Xt (λb=>!b) ty td)):=(Qao (Rp hu hi ho) h1).imp λ_ _ _ h=>Gx (λ_ _ _ q=>Mq q) h
def Qfk(td ty tv:AE):AS:=λk _ _ _ τ μ=>tv τ μ λv μ1=>td τ μ1 λx μ2=>ty τ μ2 λy μ3=>match x,y with
 | .R a,.D d=>opt (μ3 a) λm=>opt (dput m d v) λm'=>dsize m < sizeLine/\k τ (Ar μ3 a m')
 | _,_=>False
theorem Xu(hu:X.A.units+1 < cLine)(ho:VE X o td)(hi:VE X i ty)(hv:VE X value tv)(hs:swapsWith value (some (.Subscript o i pos')) pos.line X.env=pure false:=by rfl):VS X (.Assign [.Subscript o i pos'] value pos) (Qfk td ty tv):=(Xc hu ho hi hv hs).imp λD σ H zz72=>Ib zz72 fun τ μ nk nr nb nc hs hc h hq =>
 ⟨τ,μ,_,hs,hc,h,λv μ1 vv H1 S1 c1 rv h1=>⟨τ,μ1,_,hs.kp S1,c1,h1,λx μ2 xv H2 S2 c2 rx h2=>⟨τ,μ2,_,hs.kp (S1.trans S2),c2,h2,λy μ3 yv H3 S3 c3 ry h3=>by
  split at h3
  ·obtain⟨m,em,h3⟩:=Bb h3
   obtain⟨m',em',h3⟩:=Bb h3
   obtain⟨H4,g,S4,c4⟩:=Xs c3 em ry (rv.kp (S2.trans S3)) em' h3.1
   have S:=S1.trans (S2.trans (S3.trans S4))
   exact⟨_,H4,(rx.kp S3).ref,g,hq.nx _ _ _ _ S (hs.kp S) c4 h3.2⟩
  ·exact h3.elim⟩⟩⟩
def Qb7:AE:=λ_ μ R=>∀p,μ p=none->R (.R p) (Ar μ p (.dk []))
theorem Qfl{kvs:List (Key×AV)}{vs:List (Key×V)}(h:Ev K H kvs vs):Mg K H (.dk kvs) (.dK vs):=⟨vs,rfl,h⟩
theorem Uq:VE X (.Dict [] [] pos) Qb7:=Tr.imp fun σ H Q zz73=>Cd zz73 fun τ μ R hs hc h hq=>λp hp=>hq _ _ _ _ (Kp.new hp _) (hc.new hp (Qfl .nil)) Dw (h p (hc.none hp))
end
end L2
namespace L2
theorem Ea{α:Type}{us:List α}{n:Nat}(h:us.length=n+1):∃a t,us=a :: t/\t.length=n:=match us,h with | a :: t,h=>⟨a,t,rfl,Nat.succ.inj h⟩
theorem Xv{α:Type}{us:List α}(h:us.length=1):∃a,us=[a]:=by
 obtain⟨a,t,rfl,h2⟩:=Ea h
 rw [List.eq_nil_of_length_eq_zero h2];exact⟨a,rfl⟩
theorem Qht{α:Type}{us:List α}(h:us.length=2):∃a b,us=[a,b]:=by
 obtain⟨a,t,rfl,h2⟩:=Ea h
 obtain⟨b,rfl⟩:=Xv h2
 exact⟨a,b,rfl⟩
open PySem PySem.Spec PySem.Calls PyProof.Rows
abbrev AX:=Addr->List (Str×PyData)->M->Prop
section
variable {K:PySem.W.Frag}{H H':Hp}
end
section
variable {X:Cx}{pins:List (Addr×Obj)}{σ:St}{H:Hp}{s:Shared}
end
section
variable {X:Cx}{x:Str}{p pos pos':Pos}{e:Expr}{es:List Expr}{t:AA}{k:Nat}{C:Addr}{fns:List Str}{EX:AX}
end
abbrev Qjh:=List AV->M->(AV->M->Prop)->AX->Prop
section
variable {X:Cx}{x:Str}{p pos:Pos}{e:Expr}{es:List Expr}{t:AA}{k:Nat}{ps:List Str}{sp:Qjh}{EX:AX}
end
section
variable {P:Program}{w:World}{K:PySem.W.Frag}{mg:Str->Option Value}{base:Heap}
end
section
variable {X:Cx}{pins:List (Addr×Obj)}{σ:St}{H:Hp}{s:Shared}{st:Stmt}{rest:List Stmt}{t s1 s2:AS}
end
section
variable {X:Cx}{a:Expr}{ta:AE}{pos p p2:Pos}{x:Str}
end
end L2
namespace L2
open PySem PySem.Spec PyProof.Rows
def Eb:Nat->List PyData->List AV
 | _,[]=>[]
 | i,d :: ds=>.D (.tuple [.int i,d]) :: Eb (i+1) ds
theorem B6:∀(ds:List PyData) (k:Nat),(Eb k ds).length=ds.length
 | [],_=>rfl
 | _ :: ds,k=>by rw [Eb,List.length_cons,B6 ds,List.length_cons]
theorem Ec:∀{ds:List PyData} {k i:Nat} {x:AV},(Eb k ds)[i]?=some x->∃d,ds[i]?=some d/\x=.D (.tuple [.int ((k+i:Nat):Int),d])
 | [],_,_,_,h=>by simp [Eb]at h
 | d :: ds,k,0,_,h=>by simp [Eb]at h;exact⟨d,rfl,by rw [<- h];simp⟩
 | _ :: ds,k,i+1,_,h=>by
  rw [Eb,List.getElem?_cons_succ]at h
  obtain⟨d,e,q⟩:=Ec h
  refine⟨d,by simpa using e,?_⟩
  rw [q]
  have e2:k+1+i=k+(i+1):=by omega
  rw [e2]
theorem Om{K:PySem.W.Frag}{H0:Hp}{a:Addr}{ys:List AV}{ds:List PyData}{kp:M->Prop}(hd:dats ys=some ds)(h:∀H μ,Kp H0 H->Cn K μ H->kp μ->∃vs,Hg K H a vs/\Ax K H ys vs):ItOk K H0 (Ien K a) (Eb 0 ds) kp:=by
 have hn:ds.length=ys.length:=by rw [Fc hd,List.length_map]
 refine⟨λi H μ S c k hi=>?_,λi H μ v H' x S c k e y=>?_,λH μ S c k=>?_⟩
 ·obtain⟨vs,q,r⟩:=h H μ S c k
  rw [B6,hn]at hi
  exact⟨vs,vs[i]'(by rw [<- r.length];exact hi),q,List.getElem?_eq_getElem _⟩
 ·obtain⟨vs,q,r⟩:=h H μ S c k
  obtain⟨T,z,hT,rfl,rfl,y⟩:=y
  obtain⟨d,e1,rfl⟩:=Ec e
  obtain⟨u,eu,ru⟩:=(r.dats hd).get e1
  rw [y vs q]at eu
  cases eu
  refine⟨Kp.new hT _,c.over hT,Ip B7 ?_⟩
  rw [Nat.zero_add]
  exact Cg Dh (Cg (Dk.kp (Kp.new hT _) _ _ ru) Dc)
 ·obtain⟨vs,q,r⟩:=h H μ S c k
  exact⟨vs,q,by rw [B6,hn,r.length]⟩
theorem On{K:PySem.W.Frag}{H0:Hp}{a:Addr}{ys:List AV}{ds:List PyData}{kp:M->Prop}(hd:dats ys=some ds)(h:∀H μ,Kp H0 H->Cn K μ H->kp μ->∃vs,D5 K H a vs/\Ax K H ys vs):ItOk K H0 (Iel K a) (Eb 0 ds) kp:=by
 have hn:ds.length=ys.length:=by rw [Fc hd,List.length_map]
 refine⟨λi H μ S c k hi=>?_,λi H μ v H' x S c k e y=>?_,λH μ S c k=>?_⟩
 ·obtain⟨vs,q,r⟩:=h H μ S c k
  rw [B6,hn]at hi
  exact⟨vs,vs[i]'(by rw [<- r.length];exact hi),q,List.getElem?_eq_getElem _⟩
 ·obtain⟨vs,q,r⟩:=h H μ S c k
  obtain⟨T,z,hT,rfl,rfl,y⟩:=y
  obtain⟨d,e1,rfl⟩:=Ec e
  obtain⟨u,eu,ru⟩:=(r.dats hd).get e1
  rw [y vs q]at eu
  cases eu
  refine⟨Kp.new hT _,c.over hT,Ip B7 ?_⟩
  rw [Nat.zero_add]
  exact Cg Dh (Cg (Dk.kp (Kp.new hT _) _ _ ru) Dc)
 ·obtain⟨vs,q,r⟩:=h H μ S c k
  exact⟨vs,q,by rw [B6,hn,r.length]⟩
def Qfm(t:AE):AI:=fun τ μ R=>t τ μ λx μ1=>opt (items μ1 x) λys=>opt (dats ys) λds=>R (Eb 0 ds) (fun μ=>items μ x=some ys) μ1
section
variable {X:Cx}{a:Expr}{ta:AE}{pos p:Pos}
theorem Qb{elts:List Expr}{k:Nat}{tpos:Pos}(hg:Gl X "enumerate") (hm:X.mg "enumerate" = none) (hl:VE X a ta) (hs:starEach [a] X.env=[(false,eval a X.env)]:=by rfl):VI X (.Tuple elts k tpos) (.Call (.Name "enumerate" p) [a] [] pos) (Qfm ta):=by
 intro pins s σ H R I zz91
 refine Cd zz91 fun τ μ R' hst hc h hq=>?_
 refine wpAny_Call_Name_kw (Cz I hg hm boot_enumerate ?_)
 refine PyProof.Rows.callWith_type1 ?_ hs rfl
 rw [hs]
 refine Calls.spliced_cons (thn (hl pins s σ H (λv H1=>∃x μ1 ys ds,Kp H H1/\Cn X.K μ1 H1/\RelA X.K H1 x v/\items μ1 x=some ys/\dats ys=some ds/\R' (Eb 0 ds) (fun μ=>items μ x=some ys) μ1) I ⟨τ,μ,_,hst,hc,h,λx μ1 v H1 S1 c1 rx hx=>?_⟩) λu s1 zz706=>Calls.spliced_nil ?_)
 ·obtain⟨ys,e,hx⟩:=Bb hx
  obtain⟨ds,ed,hx⟩:=Bb hx
  exact⟨x,μ1,ys,ds,S1,c1,rx,e,ed,hx⟩
 obtain⟨xv,H1,I1,r1,x,μ1,ys,ds,S1,c1,rx,e,ed,hx⟩:=zz706
 obtain⟨p,vs,rfl,hp,rs⟩:=Bp c1 rx e
 cases r1
 have fin:∀b∈[s1.heap.objs.size+1,s1.heap.objs.size],Ep X pins H1 b:=λb hb=>by
  have hb':s1.heap.objs.size<=b:=by
   rcases List.mem_cons.mp hb with rfl | hb
   ·exact Nat.le_succ _
   ·have e:b=s1.heap.objs.size:=by simpa using hb
    exact Nat.le_of_eq e.symm
  exact I1.fpOk hb' (I1.hok.fresh hb')
 rcases hp with⟨k,hp⟩ | ⟨k,hp⟩
 ·obtain⟨its,rv,pl,hz⟩:=I1.list hp
  refine call_enumerate_list pl.isList λh' he hit hsz kk=>?_
  refine wpAny_pyIter_enum he ?_
  refine⟨s1.heap.objs.size+1,[s1.heap.objs.size+1,s1.heap.objs.size],_,_,H1,rfl,I1.kept (t':=s1.toks) kk,Oe p _ _ (Nat.succ_ne_self _),⟨⟨_,he⟩,hit⟩,fin,hq _ _ _ _ _ S1 c1 (On ed λH μ S c k2=>?_) hx⟩
  obtain⟨q,ws,e,hw,rw⟩:=Bp c (rx.kp S) k2
  cases e
  rcases hw with⟨_,hw⟩ | ⟨k3,_⟩
  ·exact⟨ws,hw,rw⟩
  ·rw [k]at k3;cases k3
 ·obtain⟨its,rv,pl,hz⟩:=I1.tuple hp
  refine Fq pl λh' he hit hsz kk=>?_
  refine wpAny_pyIter_enum he ?_
  refine⟨s1.heap.objs.size+1,[s1.heap.objs.size+1,s1.heap.objs.size],_,_,H1,rfl,I1.kept (t':=s1.toks) kk,Rt p _ _ (Nat.succ_ne_self _),⟨⟨_,he⟩,hit⟩,fin,hq _ _ _ _ _ S1 c1 (Om ed λH μ S c k2=>?_) hx⟩
  obtain⟨q,ws,e,hw,rw⟩:=Bp c (rx.kp S) k2
  cases e
  rcases hw with⟨k3,_⟩ | ⟨_,hw⟩
  ·rw [k]at k3;cases k3
  ·exact⟨ws,hw,rw⟩
end
section
variable {X:Cx}{pos:Pos}{keys:List (Option Expr)}{values:List Expr}{ks:List Key}{ts:List AE}
end
theorem Fd{κ:Type} [DecidableEq κ]{k:κ}{v:AV}{r:List (κ×AV)}:Dd ((k,v) :: r) k=some v:=by
 unfold Dd
 simp only [List.find?_cons,decide_eq_true (rfl:k=k)];rfl
theorem Em{κ:Type} [DecidableEq κ]{k k':κ}{v:AV}{r:List (κ×AV)}(h:k'≠k):Dd ((k',v) :: r) k=Dd r k:=by
 unfold Dd
 simp only [List.find?_cons,decide_eq_false h]
theorem Ur{α:Type}(g:α->Bool)(xs:List α):bools (xs.map λx=>.D (.bool (g x)))=some (xs.map g):=by
 rw [show(xs.map λx=>AV.D (.bool (g x)))=(xs.map g).map λb=>.D (.bool b) by rw [List.map_map];rfl]
 exact Ka _
theorem Rz{μ:M}{p:Addr}{m:MO}(h:μ p=some m):Ar μ p m=μ:=by
 funext b
 unfold Ar
 split
 ·rename_i e;rw [e,h]
 ·rfl
theorem cmapf{α:Type}{p:Addr}{g:AG}{tst:AT}{te:AE}{kp:M->Prop}{R:M->Prop}{τ:ASt}{μ:M}(as:List α)(g0:α->AV)(b:α->Bool)(f:α->AV)(Sh:ASt->Prop)(h0:Sh τ)(hp:μ p=some (.lst []))(hn:as.length<=sizeLine)(hk:∀acc,kp (Ar μ p (.lst acc)))
  (step:∀(i:Nat) (x:α) (τ':ASt) (acc:List AV) (W:ASt->AV->M->Prop) (W2:ASt->M->Prop),as[i]?=some x->Sh τ'->(b x=true->∀ τ1,Sh τ1->W τ1 (f x) (Ar μ p (.lst acc)))->(b x=false->∀ τ1,Sh τ1->W2 τ1 (Ar μ p (.lst acc))) ->
   g (g0 x) τ' (Ar μ p (.lst acc)) fun τ1 μ1=>tst τ1 μ1 λk μ2=>brP k (te τ1 μ2 (W τ1)) (W2 τ1 μ2))
  (done:R (Ar μ p (.lst ((as.filter b).map f)))):cl p g tst te kp R (as.map g0) [] τ μ:=by
 refine C0 (λi acc τ' μ'=>Sh τ'/\acc=((as.take i).filter b).map f/\μ'=Ar μ p (.lst acc)) ⟨h0,by simp,(Rz hp).symm⟩ (λi acc τ μ' ⟨_,_,e⟩=>by rw [e];exact hk _) ?_ ?_
 ·rintro i y acc τ' μ' W hy ⟨sh,rfl,rfl⟩ hW
  rw [List.getElem?_map]at hy
  obtain⟨x,hx,rfl⟩:=Option.map_eq_some_iff.mp hy
  have hi:i < as.length:=(List.getElem?_eq_some_iff.mp hx).1
  have ht:as.take (i+1)=as.take i++[x]:=by rw [List.take_succ,hx];rfl
  refine step i x τ' _ (fun τ1 v μ3=>μ3 p=some (.lst (((as.take i).filter b).map f))/\(((as.take i).filter b).map f).length < sizeLine/\W ((((as.take i).filter b).map f)++[v]) τ1 (Ar μ3 p (.lst ((((as.take i).filter b).map f)++[v])))) (fun τ1 μ2=>W (((as.take i).filter b).map f) τ1 μ2) hx sh (λhb τ1 s1=>⟨Ac,?_,hW _ _ _ ⟨s1,?_,De⟩⟩) (λhb τ1 s1=>hW _ _ _ ⟨s1,?_,rfl⟩)
  ·rw [List.length_map]
   have h1:=List.length_filter_le b (as.take i)
   rw [List.length_take]at h1
   omega
  ·rw [ht,List.filter_append,List.map_append,List.filter_cons,if_pos hb];rfl
  ·rw [ht,List.filter_append,List.map_append,List.filter_cons,if_neg (by rw [hb];exact Bool.false_ne_true)];simp
 ·rintro acc τ' μ' ⟨_,rfl,rfl⟩
  rw [List.length_map,List.take_length]
  exact done
theorem cmap{α:Type}{p:Addr}{g:AG}{te:AE}{kp:M->Prop}{R:M->Prop}{τ:ASt}{μ:M}(as:List α)(g0 f:α->AV)(Sh:ASt->Prop)(h0:Sh τ)(hp:μ p=some (.lst []))(hn:as.length<=sizeLine)(hk:∀acc,kp (Ar μ p (.lst acc)))
  (step:∀(i:Nat) (x:α) (τ':ASt) (acc:List AV) (W:ASt->AV->M->Prop),as[i]?=some x->Sh τ'->(∀ τ1,Sh τ1->W τ1 (f x) (Ar μ p (.lst acc)))->g (g0 x) τ' (Ar μ p (.lst acc)) fun τ1 μ1=>te τ1 μ1 (W τ1))
  (done:R (Ar μ p (.lst (as.map f)))):cl p g Qb5 te kp R (as.map g0) [] τ μ:=by
 refine cmapf as g0 (λ_=>true) f Sh h0 hp hn hk (λi x τ' acc W W2 hx sh h1 _=>?_) (by rw [List.filter_eq_self.mpr (λ_ _=>rfl)];exact done)
 have:=step i x τ' acc W hx sh (h1 rfl)
 simp only [Qb5,T7]
 exact this
theorem Mr{α:Type}{g:α->Bool}{as:List α}{μ:M}{p:Addr}{R:AV->M->Prop}(h:μ p=some (.lst (as.map λx=>.D (.bool (g x)))))(q:R (.D (.bool (as.all g))) μ):Qby [.R p] μ R:=by
 refine Ab h (Ab (Ur g as) ?_)
 rw [List.all_map]
 exact q
theorem Iw{K:PySem.W.Frag}:Kits K "tuple" := by
 intro S hS
 simp only [List.mem_cons,List.not_mem_nil,or_false]at hS
 rcases hS with rfl | rfl | rfl | rfl | rfl | rfl | rfl <;> rfl
theorem Ms{K:PySem.W.Frag}:Kits K "str" := by
 intro S hS
 simp only [List.mem_cons,List.not_mem_nil,or_false]at hS
 rcases hS with rfl | rfl | rfl | rfl | rfl | rfl | rfl <;> rfl
theorem Us{K:PySem.W.Frag}:Kits K "int" := by
 intro S hS
 simp only [List.mem_cons,List.not_mem_nil,or_false]at hS
 rcases hS with rfl | rfl | rfl | rfl | rfl | rfl | rfl <;> rfl
theorem Ke{K:PySem.W.Frag}:Kits K "bool" := by
 intro S hS
 simp only [List.mem_cons,List.not_mem_nil,or_false]at hS
 rcases hS with rfl | rfl | rfl | rfl | rfl | rfl | rfl <;> rfl
section
variable {X:Cx}{K:PySem.W.Frag}{a:Expr}{ta:AE}{pos p p2:Pos}{x:Str}
end
def rk:PyData->Nat
 | .none=>0 | .bool _=>1 | .int _=>2 | .str _=>3 | .list _=>4 | .tuple _=>5 | .dict _=>6
def Gg(a b:Str):Bool:=decide (a.cps.toList < b.cps.toList)
mutual
def Fj:PyData->PyData->Bool
 | .int a,.int b=>decide (a < b)
 | .str a,.str b=>Gg a b
 | .tuple xs,.tuple ys=>C1 xs ys
 | x,y=>decide (rk x < rk y)
def C1:List PyData->List PyData->Bool
 | [],[]=>false
 | [],_ :: _=>true
 | _ :: _,[]=>false
 | x :: xs,y :: ys=>if PyData.eqv x y then C1 xs ys else Fj x y
end
mutual
theorem G0:∀(x y:PyData),Cano x=true->Cano y=true->PyData.eqv x y=true->x=y
 | .int a,.int b,_,_,h=>by simp [PyData.eqv]at h;rw [h]
 | .str a,.str b,_,_,h=>by simp [PyData.eqv]at h;rw [h]
 | .tuple xs,.tuple ys,h1,h2,h=>by
  simp only [Cano]at h1 h2
  rw [PyData.eqv]at h
  rw [Qc xs ys h1 h2 h]
 | .int _,.str _,_,_,h=>by simp [PyData.eqv]at h
 | .int _,.tuple _,_,_,h=>by simp [PyData.eqv]at h
 | .str _,.int _,_,_,h=>by simp [PyData.eqv]at h
 | .str _,.tuple _,_,_,h=>by simp [PyData.eqv]at h
 | .tuple _,.int _,_,_,h=>by simp [PyData.eqv]at h
 | .tuple _,.str _,_,_,h=>by simp [PyData.eqv]at h
 | .none,_,h,_,_=>by simp [Cano]at h
 | .bool _,_,h,_,_=>by simp [Cano]at h
 | .list _,_,h,_,_=>by simp [Cano]at h
 | .dict _,_,h,_,_=>by simp [Cano]at h
 | .int _,.none,_,h,_=>by simp [Cano]at h
 | .int _,.bool _,_,h,_=>by simp [Cano]at h
 | .int _,.list _,_,h,_=>by simp [Cano]at h
 | .int _,.dict _,_,h,_=>by simp [Cano]at h
 | .str _,.none,_,h,_=>by simp [Cano]at h
 | .str _,.bool _,_,h,_=>by simp [Cano]at h
 | .str _,.list _,_,h,_=>by simp [Cano]at h
 | .str _,.dict _,_,h,_=>by simp [Cano]at h
 | .tuple _,.none,_,h,_=>by simp [Cano]at h
 | .tuple _,.bool _,_,h,_=>by simp [Cano]at h
 | .tuple _,.list _,_,h,_=>by simp [Cano]at h
 | .tuple _,.dict _,_,h,_=>by simp [Cano]at h
theorem Qc:∀(xs ys:List PyData),Ao xs=true->Ao ys=true->PyData.eqvAll xs ys=true->xs=ys
 | [],[],_,_,_=>rfl
 | [],_ :: _,_,_,h=>by simp [PyData.eqvAll]at h
 | _ :: _,[],_,_,h=>by simp [PyData.eqvAll]at h
 | x :: xs,y :: ys,h1,h2,h=>by
  simp only [Ao,Bool.and_eq_true]at h1 h2
  rw [PyData.eqvAll,Bool.and_eq_true]at h
  rw [G0 x y h1.1 h2.1 h.1,Qc xs ys h1.2 h2.2 h.2]
end
mutual
theorem Gh:∀(x:PyData),Cano x=true->PyData.eqv x x=true
 | .int a,_=>by simp [PyData.eqv]
 | .str a,_=>by simp [PyData.eqv]
 | .tuple xs,h=>by rw [PyData.eqv];exact Kf xs (by simpa only [Cano] using h)
 | .none,h=>by simp [Cano]at h
 | .bool _,h=>by simp [Cano]at h
 | .list _,h=>by simp [Cano]at h
 | .dict _,h=>by simp [Cano]at h
theorem Kf:∀(xs:List PyData),Ao xs=true->PyData.eqvAll xs xs=true
 | [],_=>rfl
 | x :: xs,h=>by
  simp only [Ao,Bool.and_eq_true]at h
  rw [PyData.eqvAll,Gh x h.1,Kf xs h.2];rfl
end
theorem Oo{x y:PyData}(hx:Cano x=true)(hy:Cano y=true):PyData.eqv x y=false↔x≠y:=by
 constructor
 ·rintro h rfl
  rw [Gh x hx]at h;cases h
 ·intro h
  cases e:PyData.eqv x y with
  | false=>rfl
  | true=>exact absurd (G0 x y hx hy e) h
theorem cano_cases{x:PyData}(h:Cano x=true):(∃i,x=.int i)\/(∃z,x=.str z)\/∃xs,x=.tuple xs/\Ao xs=true:=by
 cases x with
 | int i=>exact .inl ⟨i,rfl⟩
 | str z=>exact .inr (.inl ⟨z,rfl⟩)
 | tuple xs=>exact .inr (.inr ⟨xs,rfl,by simpa only [Cano] using h⟩)
 | none=>simp [Cano]at h
 | bool _=>simp [Cano]at h
 | list _=>simp [Cano]at h
 | dict _=>simp [Cano]at h
theorem Ut{a b c:Str}(h1:Gg a b=true)(h2:Gg b c=true):Gg a c=true:=by
 unfold Gg at *
 exact decide_eq_true (List.lt_trans (of_decide_eq_true h1) (of_decide_eq_true h2))
theorem Xw{a b:Str}(h:a.cps.toList=b.cps.toList):a=b:=by
 cases a;cases b
 simp only [Array.toList_inj]at h
 rw [h]
theorem R0{a b:Str}(h:a≠b)(h1:Gg a b=false):Gg b a=true:=by
 unfold Gg at *
 have h1:=of_decide_eq_false h1
 refine decide_eq_true ?_
 rcases Decidable.em (b.cps.toList < a.cps.toList) with z | z
 ·exact z
 ·exact absurd (Xw (List.le_antisymm (List.not_lt.mp z) (List.not_lt.mp h1))) h
mutual
theorem Uu:∀(x y z:PyData),Cano x=true->Cano y=true->Cano z=true->Fj x y=true->Fj y z=true->Fj x z=true
 | .int a,y,z,_,hy,hz,h1,h2=>by
  rcases cano_cases hy with⟨b,rfl⟩ | ⟨b,rfl⟩ | ⟨ys,rfl,_⟩ <;> rcases cano_cases hz with⟨c,rfl⟩ | ⟨c,rfl⟩ | ⟨zs,rfl,_⟩ <;> simp [Fj,rk]at h1 h2 ⊢
  omega
 | .str a,y,z,_,hy,hz,h1,h2=>by
  rcases cano_cases hy with⟨b,rfl⟩ | ⟨b,rfl⟩ | ⟨ys,rfl,_⟩ <;> rcases cano_cases hz with⟨c,rfl⟩ | ⟨c,rfl⟩ | ⟨zs,rfl,_⟩ <;> simp [Fj,rk]at h1 h2 ⊢
  exact Ut h1 h2
 | .tuple xs,y,z,hx,hy,hz,h1,h2=>by
  rcases cano_cases hy with⟨b,rfl⟩ | ⟨b,rfl⟩ | ⟨ys,rfl,ky⟩ <;> rcases cano_cases hz with⟨c,rfl⟩ | ⟨c,rfl⟩ | ⟨zs,rfl,kz⟩ <;> simp [Fj,rk]at h1 h2 ⊢
  exact Qe xs ys zs (by simpa only [Cano] using hx) ky kz h1 h2
 | .none,_,_,h,_,_,_,_=>by simp [Cano]at h
 | .bool _,_,_,h,_,_,_,_=>by simp [Cano]at h
 | .list _,_,_,h,_,_,_,_=>by simp [Cano]at h
 | .dict _,_,_,h,_,_,_,_=>by simp [Cano]at h
theorem Qe:∀(xs ys zs:List PyData),Ao xs=true->Ao ys=true->Ao zs=true->C1 xs ys=true->C1 ys zs=true->C1 xs zs=true
 | [],[],_,_,_,_,h1,_=>by simp [C1]at h1
 | [],_ :: _,[],_,_,_,_,h2=>by simp [C1]at h2
 | [],_ :: _,_ :: _,_,_,_,_,_=>by simp [C1]
 | _ :: _,[],_,_,_,_,h1,_=>by simp [C1]at h1
 | _ :: _,_ :: _,[],_,_,_,_,h2=>by simp [C1]at h2
 | x :: xs,y :: ys,z :: zs,hx,hy,hz,h1,h2=>by
  simp only [Ao,Bool.and_eq_true]at hx hy hz
  simp only [C1]at h1 h2 ⊢
  cases e1:PyData.eqv x y with
  | true =>
   have e:=G0 x y hx.1 hy.1 e1
   subst e
   rw [e1]at h1
   cases e2:PyData.eqv x z with
   | true =>
    rw [e2]at h2
    exact Qe xs ys zs hx.2 hy.2 hz.2 h1 h2
   | false=>rw [e2]at h2;exact h2
  | false =>
   rw [e1]at h1
   cases e2:PyData.eqv y z with
   | true =>
    have e:=G0 y z hy.1 hz.1 e2
    subst e
    rw [e1];exact h1
   | false =>
    rw [e2]at h2
    have h3:=Uu x y z hx.1 hy.1 hz.1 h1 h2
    cases e3:PyData.eqv x z with
    | false=>exact h3
    | true =>
     have e:=G0 x z hx.1 hz.1 e3
     subst e
     exact absurd h3 (by rw [Qf x hx.1];exact Bool.false_ne_true)
theorem Qf:∀(x:PyData),Cano x=true->Fj x x=false
 | .int a,_=>by simp [Fj]
 | .str a,_=>by simp [Fj,Gg,List.lt_irrefl]
 | .tuple xs,h=>by simp only [Fj];exact Mu xs (by simpa only [Cano] using h)
 | .none,h=>by simp [Cano]at h
 | .bool _,h=>by simp [Cano]at h
 | .list _,h=>by simp [Cano]at h
 | .dict _,h=>by simp [Cano]at h
theorem Mu:∀(xs:List PyData),Ao xs=true->C1 xs xs=false
 | [],_=>by simp [C1]
 | x :: xs,h=>by
  simp only [Ao,Bool.and_eq_true]at h
  simp only [C1,Gh x h.1,if_true]
  exact Mu xs h.2
end
mutual
theorem Qg:∀(x y:PyData),Cano x=true->Cano y=true->x≠y->Fj x y=false->Fj y x=true
 | .int a,y,_,hy,hn,h=>by
  rcases cano_cases hy with⟨b,rfl⟩ | ⟨b,rfl⟩ | ⟨ys,rfl,_⟩ <;> simp [Fj,rk]at h ⊢
  have:a≠b:=λz=>hn (by rw [z])
  omega
 | .str a,y,_,hy,hn,h=>by
  rcases cano_cases hy with⟨b,rfl⟩ | ⟨b,rfl⟩ | ⟨ys,rfl,_⟩ <;> simp [Fj,rk]at h ⊢
  exact R0 (λz=>hn (by rw [z])) h
 | .tuple xs,y,hx,hy,hn,h=>by
  rcases cano_cases hy with⟨b,rfl⟩ | ⟨b,rfl⟩ | ⟨ys,rfl,ky⟩ <;> simp [Fj,rk]at h ⊢
  exact Mv xs ys (by simpa only [Cano] using hx) ky (λz=>hn (by rw [z])) h
 | .none,_,h,_,_,_=>by simp [Cano]at h
 | .bool _,_,h,_,_,_=>by simp [Cano]at h
 | .list _,_,h,_,_,_=>by simp [Cano]at h
 | .dict _,_,h,_,_,_=>by simp [Cano]at h
theorem Mv:∀(xs ys:List PyData),Ao xs=true->Ao ys=true->xs≠ys->C1 xs ys=false->C1 ys xs=true
 | [],[],_,_,hn,_=>absurd rfl hn
 | [],_ :: _,_,_,_,h=>by simp [C1]at h
 | _ :: _,[],_,_,_,_=>by simp [C1]
 | x :: xs,y :: ys,hx,hy,hn,h=>by
  simp only [Ao,Bool.and_eq_true]at hx hy
  simp only [C1]at h ⊢
  cases e:PyData.eqv x y with
  | true =>
   have e':=G0 x y hx.1 hy.1 e
   subst e'
   rw [e]at h ⊢
   exact Mv xs ys hx.2 hy.2 (λz=>hn (by rw [z])) h
  | false =>
   rw [e]at h
   have hne:=(Oo hx.1 hy.1).mp e
   rw [(Oo hy.1 hx.1).mpr (Ne.symm hne)]
   exact Qg x y hx.1 hy.1 hne h
end
end L2
namespace L2
open PySem PySem.W PyProof.Rows
section
variable {n:Nat}{lt:Nat->Nat->Bool}
structure StrictOrd(n:Nat)(lt:Nat->Nat->Bool):Prop where
 tr:∀a b c,a < n->b < n->c < n->lt a b=true->lt b c=true->lt a c=true
 tot:∀a b,a < n->b < n->a≠b->lt a b=false->lt b a=true
 irr:∀a,a < n->lt a a=false
structure Pm(n:Nat)(p:Array Nat):Prop where
 size:p.size=n
 lt:∀i,i < n->p.getD i 0 < n
 inj:∀i j,i < n->j < n->i≠j->p.getD i 0≠p.getD j 0
 perm:p.toList.Perm (List.range n)
theorem Zf{p:Array Nat}(h:p.toList.Perm (List.range n)):Pm n p:=by
 have hs:p.size=n:=by
  have:=h.length_eq
  simpa using this
 have hg:∀i,(hi:i < n)->p.getD i 0=p[i]'(by omega):=λi hi=>by simp [Array.getD,show i < p.size by omega]
 refine⟨hs,λi hi=>?_,λi j hi hj hij e=>?_,h⟩
 ·rw [hg i hi]
  have:p[i]'(by omega)∈p.toList:=by simp
  exact List.mem_range.mp (h.mem_iff.mp this)
 ·rw [hg i hi,hg j hj]at e
  have nd:p.toList.Nodup:=h.nodup_iff.mpr List.nodup_range
  have e1:p.toList[i]?=p.toList[j]?:=by
   rw [Array.getElem?_toList,Array.getElem?_toList,Array.getElem?_eq_getElem (by omega),Array.getElem?_eq_getElem (by omega),e]
  exact hij ((List.getElem?_inj (by simpa using (by omega:i < p.size)) nd).mp e1)
def Up(lt:Nat->Nat->Bool)(p:Array Nat)(k:Nat):Prop:=∀i j,i < j->j < k->lt (p.getD i 0) (p.getD j 0)=true
variable {p:Array Nat}{s:Shared}
end
section
variable {n:Nat}{lt:Nat->Nat->Bool}
structure WeakOrd(n:Nat)(lt:Nat->Nat->Bool):Prop where
 tr:∀a b c,a < n->b < n->c < n->lt b a=false->lt c b=false->lt c a=false
 asy:∀a b,a < n->b < n->lt a b=true->lt b a=false
theorem WeakOrd.irr{a:Nat}(O:WeakOrd n lt)(ha:a < n):lt a a=false:=by
 cases c:lt a a with
 | false=>rfl
 | true=>have:=O.asy a a ha ha c;rw [c]at this;cases this
theorem WeakOrd.low{a b c:Nat}(O:WeakOrd n lt)(ha:a < n)(hb:b < n)(hc:c < n)(h1:lt a b=true)(h2:lt c b=false):lt a c=true:=by
 cases e:lt a c with
 | true=>rfl
 | false=>rw [O.tr b c a hb hc ha h2 e]at h1;cases h1
theorem WeakOrd.high{a b c:Nat}(O:WeakOrd n lt)(ha:a < n)(hb:b < n)(hc:c < n)(h1:lt b a=false)(h2:lt b c=true):lt a c=true:=by
 cases e:lt a c with
 | true=>rfl
 | false=>rw [O.tr c a b hc ha hb e h1]at h2;cases h2
def UpW(lt:Nat->Nat->Bool)(p:Array Nat)(k:Nat):Prop:=∀i j,i < j->j < k->lt (p.getD j 0) (p.getD i 0)=false
variable {p:Array Nat}{s:Shared}
end
def gallop':Bool->Keyed->Array Keyed->Nat->Nat->Nat->StateT SortSt Sem (Option Nat):=sortPriv% PySem.Builtin.gallop
def setMinGallop':Nat->StateT SortSt Sem Unit:=sortPriv% PySem.Builtin.setMinGallop
theorem Op(left:Bool)(key:Keyed)(arr:Array Keyed)(base n hint:Nat):gallop' left key arr base n hint=(do
 let beyond (i:Nat):StateT SortSt Sem (Option Bool):=do
  let x <- elem' arr (base+i)
  if left then lt' x key else return (<- lt' key x).map (!·)
 let mut lastofs:=0
 let mut ofs:=1
 let mut lo:=0
 let mut hi:=0
 let some right <- beyond hint | return none
 if right then
  let maxofs:=n - hint
  for _ in [0:n] do
   if ofs>=maxofs then break
   let some more <- beyond (hint+ofs) | return none
   if !more then break
   lastofs:=ofs
   ofs:=2 * ofs+1
  lo:=hint+lastofs+1
  hi:=hint+min ofs maxofs
 else
  let maxofs:=hint+1
  for _ in [0:n] do
   if ofs>=maxofs then break
   let some found <- beyond (hint - ofs) | return none
   if found then break
   lastofs:=ofs
   ofs:=2 * ofs+1
  lo:=hint+1 - min ofs maxofs
  hi:=hint - lastofs
 for _ in [0:n] do
  if lo>=hi then break
  let m:=lo+(hi - lo) / 2
  let some more <- beyond m | return none
  if more then lo:=m+1 else hi:=m
 return some hi):=rfl
section
variable {prog:Program}{w:World}{A:Around}{E:Value->Shared->Prop}{s:Shared}{κ:SortKind}{it:Array Keyed}{n:Nat}{lt:Nat->Nat->Bool}
def Cmp(prog:Program)(w:World)(A:Around)(κ:SortKind)(it:Array Keyed)(n:Nat)(lt:Nat->Nat->Bool)(s:Shared):Prop :=
 ∀(i j:Nat) (C:Bool->Shared->Prop),i < n->j < n->C (lt i j) s->kas_cmp prog w A κ it i j C s
theorem Uv(hc:Cmp prog w A κ it n lt s){st:SortSt}(hk:kindOf st=κ){i j:Nat}(hi:i < n)(hj:j < n){Q:Option Bool->SortSt->Prop}(h:Q (some (lt i j)) st):wpS (model prog w) A E s (lt' (kas_item it i) (kas_item it j)) Q st:=by
 rw [lt'_eq]
 refine wpS_bind (wpS_get ?_)
 rw [hk]
 refine wpS_bind (wpS_lift (wpAny_attempt (wpAny_mono (hc i j (λc s'=>s'=s/\c=lt i j) hi hj ⟨rfl,rfl⟩) (λc s' hc'=>?_) λ_ _ hF=>hF.elim)))
 obtain⟨rfl,rfl⟩:=hc'
 exact⟨rfl,wpS_pure h⟩
theorem Bt{st:SortSt}{p:Array Nat}{i:Nat}(hi:i < p.size){Q:Keyed->SortSt->Prop}(h:Q (kas_item it (p.getD i 0)) st):wpS (model prog w) A E s (elem' (p.map (kas_item it)) i) Q st:=by
 rw [elem'_eq]
 have e:(p.map (kas_item it))[i]?=some (kas_item it (p.getD i 0)):=by
  rw [Array.getElem?_map,Array.getElem?_eq_getElem hi]
  simp [Array.getD,hi]
 rw [e]
 exact wpS_pure h
structure Step(f:Nat->Bool)(n k:Nat):Prop where
 le:k<=n
 yes:∀i,i < k->f i=true
 no:∀i,k<=i->i < n->f i=false
def byd(left:Bool)(key:Keyed)(arr:Array Keyed)(base i:Nat):StateT SortSt Sem (Option Bool):=do
 let x <- elem' arr (base+i)
 if left then lt' x key else return (<- lt' key x).map (!·)
theorem Mw{left:Bool}{key:Keyed}{arr:Array Keyed}{base m hint:Nat}{f:Nat->Bool}{st:SortSt}(hm:hint < m)
  (hf:∀i Q,i < m->Q (some (f i)) st->wpS (model prog w) A E s (byd left key arr base i) Q st)
  (mono:∀i j,i<=j->j < m->f j=true->f i=true) {Q:Option Nat->SortSt->Prop} (h:∀k,Step f m k->Q (some k) st):wpS (model prog w) A E s (gallop' left key arr base m hint) Q st:=by
 rw [Op]
 dsimp only
 have monof:∀i j,i<=j->j < m->f i=false->f j=false:=λi j hij hj e=>by
  cases c:f j with
  | false=>rfl
  | true=>rw [mono i j hij hj c]at e;cases e
 refine wpS_bind (hf hint _ hm ?_)
 dsimp only
 cases e0:f hint with
 | true =>
  rw [if_pos rfl]
  refine wpS_bind (wpS_mono (wpS_forRange (I:=λx c st'=>st'=st/\∃la ofs,c=(none,la,ofs)/\la < ofs/\la < m - hint/\x+1<=ofs/\f (hint+la)=true) (Q:=λc st'=>st'=st/\∃la ofs,c=(none,la,ofs)/\la < ofs/\la < m - hint/\f (hint+la)=true/\(ofs < m - hint->f (hint+ofs)=false)) ?_ ?_ ⟨rfl,0,1,rfl,by omega,by omega,by omega,e0⟩) ?_)
  ·rintro x c st' _ hx ⟨rfl,la,ofs,rfl,h1,h2,h3,h4⟩
   dsimp only
   by_cases c:ofs>=m - hint
   ·rw [if_pos c]
    exact wpS_pure ⟨rfl,la,ofs,rfl,h1,h2,h4,λz=>by omega⟩
   ·rw [if_neg c]
    refine wpS_bind (hf _ _ (by omega) ?_)
    dsimp only
    cases e:f (hint+ofs) with
    | false =>
     rw [if_pos (show(!false)=true from rfl)]
     exact wpS_pure ⟨rfl,la,ofs,rfl,h1,h2,h4,λ_=>e⟩
    | true =>
     rw [if_neg (show ¬(!true)=true by decide)]
     exact wpS_pure ⟨rfl,ofs,_,rfl,by omega,by omega,by omega,e⟩
  ·rintro c st' ⟨rfl,la,ofs,rfl,h1,h2,h3,h4⟩
   exact⟨rfl,la,ofs,rfl,h1,h2,h4,λz=>by omega⟩
  ·rintro c st' ⟨rfl,la,ofs,rfl,h1,h2,h4,h5⟩
   have no:∀i,hint+min ofs (m - hint)<=i->i < m->f i=false:=λi hi him=>by
    rcases Nat.lt_or_ge ofs (m - hint) with c | c
    ·exact monof _ i (by omega) him (h5 c)
    ·omega
   dsimp only
   refine wpS_bind (wpS_mono (wpS_forRange (I:=λx c st''=>st''=st'/\∃lo hi,c=(none,lo,hi)/\lo<=hi/\hi<=m/\hi - lo<=m - x/\(∀i,i < lo->f i=true)/\(∀i,hi<=i->i < m->f i=false)) (Q:=λc st''=>st''=st'/\∃k,c=(none,k,k)/\Step f m k) ?_ ?_ ⟨rfl,_,_,rfl,by omega,by omega,by omega,λi hi=>mono i _ (by omega) (by omega) h4,no⟩) ?_)
   ·rintro x c st'' _ hx ⟨rfl,lo,hi,rfl,h1,h2,h3,yes,no⟩
    dsimp only
    by_cases c:lo>=hi
    ·rw [if_pos c]
     have:lo=hi:=by omega
     subst this
     exact wpS_pure ⟨rfl,lo,rfl,h2,yes,no⟩
    ·rw [if_neg c]
     refine wpS_bind (hf _ _ (by omega) ?_)
     dsimp only
     cases e:f (lo+(hi - lo) / 2) with
     | true =>
      rw [if_pos rfl]
      refine wpS_pure ⟨rfl,_,_,rfl,by omega,h2,by omega,λi hi'=>mono i _ (by omega) (by omega) e,no⟩
     | false =>
      rw [if_neg Bool.false_ne_true]
      exact wpS_pure ⟨rfl,_,_,rfl,by omega,by omega,by omega,yes,λi hi' him=>monof _ i hi' him e⟩
   ·rintro c st'' ⟨rfl,lo,hi,rfl,h1,h2,h3,yes,no⟩
    have:lo=hi:=by omega
    subst this
    exact⟨rfl,lo,rfl,h2,yes,no⟩
   ·rintro c st'' ⟨rfl,k,rfl,hk⟩
    exact wpS_pure (h k hk)
 | false =>
  rw [if_neg Bool.false_ne_true]
  refine wpS_bind (wpS_mono (wpS_forRange (I:=λx c st'=>st'=st/\∃la ofs,c=(none,la,ofs)/\la < ofs/\la<=hint/\x+1<=ofs/\f (hint - la)=false) (Q:=λc st'=>st'=st/\∃la ofs,c=(none,la,ofs)/\la < ofs/\la<=hint/\f (hint - la)=false/\(ofs < hint+1->f (hint - ofs)=true)) ?_ ?_ ⟨rfl,0,1,rfl,by omega,by omega,by omega,e0⟩) ?_)
  ·rintro x c st' _ hx ⟨rfl,la,ofs,rfl,h1,h2,h3,h4⟩
   dsimp only
   by_cases c:ofs>=hint+1
   ·rw [if_pos c]
    exact wpS_pure ⟨rfl,la,ofs,rfl,h1,h2,h4,λz=>by omega⟩
   ·rw [if_neg c]
    refine wpS_bind (hf _ _ (by omega) ?_)
    dsimp only
    cases e:f (hint - ofs) with
    | true =>
     rw [if_pos rfl]
     exact wpS_pure ⟨rfl,la,ofs,rfl,h1,h2,h4,λ_=>e⟩
    | false =>
     rw [if_neg Bool.false_ne_true]
     exact wpS_pure ⟨rfl,ofs,_,rfl,by omega,by omega,by omega,e⟩
  ·rintro c st' ⟨rfl,la,ofs,rfl,h1,h2,h3,h4⟩
   exact⟨rfl,la,ofs,rfl,h1,h2,h4,λz=>by omega⟩
  ·rintro c st' ⟨rfl,la,ofs,rfl,h1,h2,h4,h5⟩
   have yes:∀i,i < hint+1 - min ofs (hint+1)->f i=true:=λi hi=>by
    rcases Nat.lt_or_ge ofs (hint+1) with c | c
    ·exact mono i (hint - ofs) (by omega) (by omega) (h5 c)
    ·omega
   dsimp only
   refine wpS_bind (wpS_mono (wpS_forRange (I:=λx c st''=>st''=st'/\∃lo hi,c=(none,lo,hi)/\lo<=hi/\hi<=m/\hi - lo<=m - x/\(∀i,i < lo->f i=true)/\(∀i,hi<=i->i < m->f i=false)) (Q:=λc st''=>st''=st'/\∃k,c=(none,k,k)/\Step f m k) ?_ ?_ ⟨rfl,_,_,rfl,by omega,by omega,by omega,yes,λi hi him=>monof _ i hi him h4⟩) ?_)
   ·rintro x c st'' _ hx ⟨rfl,lo,hi,rfl,h1,h2,h3,yes,no⟩
    dsimp only
    by_cases c:lo>=hi
    ·rw [if_pos c]
     have:lo=hi:=by omega
     subst this
     exact wpS_pure ⟨rfl,lo,rfl,h2,yes,no⟩
    ·rw [if_neg c]
     refine wpS_bind (hf _ _ (by omega) ?_)
     dsimp only
     cases e:f (lo+(hi - lo) / 2) with
     | true =>
      rw [if_pos rfl]
      refine wpS_pure ⟨rfl,_,_,rfl,by omega,h2,by omega,λi hi'=>mono i _ (by omega) (by omega) e,no⟩
     | false =>
      rw [if_neg Bool.false_ne_true]
      exact wpS_pure ⟨rfl,_,_,rfl,by omega,by omega,by omega,yes,λi hi' him=>monof _ i hi' him e⟩
   ·rintro c st'' ⟨rfl,lo,hi,rfl,h1,h2,h3,yes,no⟩
    have:lo=hi:=by omega
    subst this
    exact⟨rfl,lo,rfl,h2,yes,no⟩
   ·rintro c st'' ⟨rfl,k,rfl,hk⟩
    exact wpS_pure (h k hk)
end
def mergeLo':Array Keyed->Array Keyed->StateT SortSt Sem (Array Keyed):=sortPriv% PySem.Builtin.mergeLo
def mergeHi':Array Keyed->Array Keyed->StateT SortSt Sem (Array Keyed):=sortPriv% PySem.Builtin.mergeHi
theorem Ck(g:Nat):setMinGallop' g=modify λst=>SortSt.mk' (kindOf st) (arrOf st) (pendingOf st) g (failedOf st):=rfl
theorem Mx(a b:Array Keyed):mergeLo' a b=(do
 rule "list.sort.merge-lo"
 let total:=a.size+b.size
 let done (out:Array Keyed) (ia ib:Nat):=out++a.extract ia a.size++b.extract ib b.size
 let lastOfA (out:Array Keyed) (ia ib:Nat):=out++b.extract ib b.size++a.extract ia a.size
 let mut out:Array Keyed:=#[<- elem' b 0]
 let mut ia:=0
 let mut ib:=1
 if ib==b.size then return done out ia ib
 if ia+1==a.size then return lastOfA out ia ib
 let mut minGallop:=gallopOf (<- get)
 for _ in [0:total] do
  let mut acount:=0
  let mut bcount:=0
  for _ in [0:total] do
   let some bWins <- lt' (<- elem' b ib) (<- elem' a ia) | return done out ia ib
   if bWins then
    out:=out.push (<- elem' b ib);ib:=ib+1;bcount:=bcount+1;acount:=0
    if ib==b.size then return done out ia ib
    if bcount>=minGallop then break
   else
    out:=out.push (<- elem' a ia);ia:=ia+1;acount:=acount+1;bcount:=0
    if ia+1==a.size then return lastOfA out ia ib
    if acount>=minGallop then break
  rule "list.sort.gallop"
  minGallop:=minGallop+1
  for _ in [0:total] do
   if minGallop > 1 then minGallop:=minGallop - 1
   setMinGallop' minGallop
   let some k <- gallop' false (<- elem' b ib) a ia (a.size - ia) 0 | return done out ia ib
   acount:=k
   if k > 0 then
    out:=out++a.extract ia (ia+k);ia:=ia+k
    if ia+1==a.size then return lastOfA out ia ib
    if ia==a.size then return done out ia ib
   out:=out.push (<- elem' b ib);ib:=ib+1
   if ib==b.size then return done out ia ib
   let some k <- gallop' true (<- elem' a ia) b ib (b.size - ib) 0 | return done out ia ib
   bcount:=k
   if k > 0 then
    out:=out++b.extract ib (ib+k);ib:=ib+k
    if ib==b.size then return done out ia ib
   out:=out.push (<- elem' a ia);ia:=ia+1
   if ia+1==a.size then return lastOfA out ia ib
   if acount < 7 && bcount < 7 then break
  minGallop:=minGallop+1
  setMinGallop' minGallop
 unsupported "internal:list.sort.merge-bound"):=rfl
section
variable {prog:Program}{w:World}{A:Around}{E:Value->Shared->Prop}{s:Shared}{κ:SortKind}{it:Array Keyed}{n:Nat}{lt:Nat->Nat->Bool}
abbrev at0(p:Array Nat)(i:Nat):Nat:=p.getD i 0
theorem Qb8(O:WeakOrd n lt)(hc:Cmp prog w A κ it n lt s){st:SortSt}(hk:kindOf st=κ){p:Array Nat}{key base m hint:Nat}(hm:hint < m)(hb:base+m<=p.size)(hp:∀i,i < p.size->at0 p i < n)(hkey:key < n)
  (srt:∀i j,base<=i->i < j->j < base+m->lt (at0 p j) (at0 p i)=false) {Q:Option Nat->SortSt->Prop}
  (h:∀k,k<=m->(∀i,i < k->lt key (at0 p (base+i))=false)->(∀i,k<=i->i < m->lt key (at0 p (base+i))=true)->Q (some k) st):wpS (model prog w) A E s (gallop' false (kas_item it key) (p.map (kas_item it)) base m hint) Q st:=by
 refine Mw (f:=λi=>!lt key (at0 p (base+i))) hm (λi Q' hi q=>?_) (λi j hij hj e=>?_) λk hk'=>h k hk'.le (λi hi=>by simpa using hk'.yes i hi) (λi h1 h2=>by simpa using hk'.no i h1 h2)
 ·unfold byd
  refine wpS_bind (Bt (by omega) ?_)
  rw [if_neg Bool.false_ne_true]
  exact wpS_bind (Uv hc hk hkey (hp _ (by omega)) (wpS_pure q))
 ·rcases Nat.eq_or_lt_of_le hij with rfl | hlt
  ·exact e
  ·have e':lt key (at0 p (base+j))=false:=by simpa using e
   have:=O.tr _ _ _ (hp (base+i) (by omega)) (hp (base+j) (by omega)) hkey (srt (base+i) (base+j) (by omega) (by omega) (by omega)) e'
   simpa using this
theorem Qb9(O:WeakOrd n lt)(hc:Cmp prog w A κ it n lt s){st:SortSt}(hk:kindOf st=κ){p:Array Nat}{key base m hint:Nat}(hm:hint < m)(hb:base+m<=p.size)(hp:∀i,i < p.size->at0 p i < n)(hkey:key < n)
  (srt:∀i j,base<=i->i < j->j < base+m->lt (at0 p j) (at0 p i)=false) {Q:Option Nat->SortSt->Prop}
  (h:∀k,k<=m->(∀i,i < k->lt (at0 p (base+i)) key=true)->(∀i,k<=i->i < m->lt (at0 p (base+i)) key=false)->Q (some k) st):wpS (model prog w) A E s (gallop' true (kas_item it key) (p.map (kas_item it)) base m hint) Q st:=by
 refine Mw (f:=λi=>lt (at0 p (base+i)) key) hm (λi Q' hi q=>?_) (λi j hij hj e=>?_) λk hk'=>h k hk'.le hk'.yes hk'.no
 ·unfold byd
  refine wpS_bind (Bt (by omega) ?_)
  rw [if_pos rfl]
  exact Uv hc hk (hp _ (by omega)) hkey q
 ·rcases Nat.eq_or_lt_of_le hij with rfl | hlt
  ·exact e
  ·exact O.high (hp (base+i) (by omega)) (hp (base+j) (by omega)) hkey (srt (base+i) (base+j) (by omega) (by omega) (by omega)) e
def Kg(lt:Nat->Nat->Bool)(p:Array Nat):Prop:=∀i j,i < j->j < p.size->lt (at0 p j) (at0 p i)=false
def In(n:Nat)(p:Array Nat):Prop:=∀i,i < p.size->at0 p i < n
structure MI(lt:Nat->Nat->Bool)(a b out:Array Nat)(ia ib:Nat):Prop where
 ha:ia<=a.size
 hb:ib<=b.size
 sz:out.size=ia+ib
 perm:out.toList.Perm (a.toList.take ia++b.toList.take ib)
 srt:out.toList.Pairwise λx y=>lt y x=false
 lea:∀x∈out.toList,∀j,ia<=j->j < a.size->lt (at0 a j) x=false
 leb:∀x∈out.toList,∀j,ib<=j->j < b.size->lt (at0 b j) x=false
theorem Bz(a:Array Nat)(i k:Nat):(a.extract i (i+k)).toList=(a.toList.drop i).take k:=by
 rw [Array.toList_extract,List.extract_eq_take_drop,Nat.add_sub_cancel_left]
theorem Kh(l:List Nat)(i k:Nat):l.take (i+k)=l.take i++(l.drop i).take k:=List.take_add ..
theorem En{a:Array Nat}{i k x:Nat}(h:x∈(a.toList.drop i).take k):∃j,i<=j/\j < i+k/\j < a.size/\x=at0 a j:=by
 obtain⟨m,hm,e⟩:=List.getElem_of_mem h
 rw [List.length_take,List.length_drop,Array.length_toList]at hm
 rw [List.getElem_take,List.getElem_drop]at e
 refine⟨i+m,by omega,by omega,by omega,?_⟩
 rw [<- e]
 simp [at0,Array.getD,show i+m < a.size by omega]
theorem Qh{a:Array Nat}(h:Kg lt a)(i k:Nat):((a.toList.drop i).take k).Pairwise λx y=>lt y x=false:=by
 have:a.toList.Pairwise λx y=>lt y x=false:=by
  rw [List.pairwise_iff_getElem]
  intro x y hx hy hxy
  have:=h x y hxy (by simpa using hy)
  simp only [Array.length_toList]at hx hy
  simpa [at0,Array.getD,hx,hy] using this
 exact(this.sublist (List.drop_sublist ..)).sublist (List.take_sublist ..)
theorem MI.chunkA{a b out:Array Nat}{ia ib k:Nat}(h:MI lt a b out ia ib)(ua:Kg lt a)(hk:ia+k<=a.size)(hle:∀i,i < k->∀j,ib<=j->j < b.size->lt (at0 b j) (at0 a (ia+i))=false):MI lt a b (out++a.extract ia (ia+k)) (ia+k) ib:=by
 refine⟨hk,h.hb,?_,?_,?_,?_,?_⟩
 ·rw [Array.size_append,h.sz,Array.size_extract];omega
 ·rw [Array.toList_append,Bz,Kh]
  refine(List.Perm.append_right _ h.perm).trans ?_
  rw [List.append_assoc,List.append_assoc]
  exact List.Perm.append_left _ List.perm_append_comm
 ·rw [Array.toList_append,Bz,List.pairwise_append]
  refine⟨h.srt,Qh ua _ _,λx hx y hy=>?_⟩
  obtain⟨j,j1,j2,j3,rfl⟩:=En hy
  exact h.lea x hx j j1 j3
 ·intro x hx j j1 j2
  rw [Array.toList_append,Bz]at hx
  rcases List.mem_append.mp hx with hx | hx
  ·exact h.lea x hx j (by omega) j2
  ·obtain⟨m,m1,m2,m3,rfl⟩:=En hx
   exact ua m j (by omega) j2
 ·intro x hx j j1 j2
  rw [Array.toList_append,Bz]at hx
  rcases List.mem_append.mp hx with hx | hx
  ·exact h.leb x hx j j1 j2
  ·obtain⟨m,m1,m2,m3,rfl⟩:=En hx
   have:=hle (m - ia) (by omega) j j1 j2
   rwa [show ia+(m - ia)=m by omega]at this
theorem MI.chunkB{a b out:Array Nat}{ia ib k:Nat}(h:MI lt a b out ia ib)(ub:Kg lt b)(hk:ib+k<=b.size)(hle:∀i,i < k->∀j,ia<=j->j < a.size->lt (at0 a j) (at0 b (ib+i))=false):MI lt a b (out++b.extract ib (ib+k)) ia (ib+k):=by
 refine⟨h.ha,hk,?_,?_,?_,?_,?_⟩
 ·rw [Array.size_append,h.sz,Array.size_extract];omega
 ·rw [Array.toList_append,Bz,Kh,<- List.append_assoc]
  exact List.Perm.append_right _ h.perm
 ·rw [Array.toList_append,Bz,List.pairwise_append]
  refine⟨h.srt,Qh ub _ _,λx hx y hy=>?_⟩
  obtain⟨j,j1,j2,j3,rfl⟩:=En hy
  exact h.leb x hx j j1 j3
 ·intro x hx j j1 j2
  rw [Array.toList_append,Bz]at hx
  rcases List.mem_append.mp hx with hx | hx
  ·exact h.lea x hx j j1 j2
  ·obtain⟨m,m1,m2,m3,rfl⟩:=En hx
   have:=hle (m - ib) (by omega) j j1 j2
   rwa [show ib+(m - ib)=m by omega]at this
 ·intro x hx j j1 j2
  rw [Array.toList_append,Bz]at hx
  rcases List.mem_append.mp hx with hx | hx
  ·exact h.leb x hx j (by omega) j2
  ·obtain⟨m,m1,m2,m3,rfl⟩:=En hx
   exact ub m j (by omega) j2
theorem Lm{a:Array Nat}{i:Nat}(h:i < a.size)(out:Array Nat):out.push (at0 a i)=out++a.extract i (i+1):=by
 apply Array.toList_inj.mp
 rw [Array.toList_push,Array.toList_append,Bz,List.drop_eq_getElem_cons (by simpa using h)]
 simp [at0,Array.getD,h]
theorem MI.pushA{a b out:Array Nat}{ia ib:Nat}(h:MI lt a b out ia ib)(ua:Kg lt a)(hk:ia < a.size)(hle:∀j,ib<=j->j < b.size->lt (at0 b j) (at0 a ia)=false):MI lt a b (out.push (at0 a ia)) (ia+1) ib:=by
 rw [Lm hk]
 exact h.chunkA ua hk λi hi j j1 j2=>by rw [show ia+i=ia by omega];exact hle j j1 j2
theorem MI.pushB{a b out:Array Nat}{ia ib:Nat}(h:MI lt a b out ia ib)(ub:Kg lt b)(hk:ib < b.size)(hle:∀j,ia<=j->j < a.size->lt (at0 a j) (at0 b ib)=false):MI lt a b (out.push (at0 b ib)) ia (ib+1):=by
 rw [Lm hk]
 exact h.chunkB ub hk λi hi j j1 j2=>by rw [show ib+i=ib by omega];exact hle j j1 j2
structure Mgd(lt:Nat->Nat->Bool)(a b R:Array Nat):Prop where
 perm:R.toList.Perm (a.toList++b.toList)
 srt:R.toList.Pairwise λx y=>lt y x=false
theorem MI.end_{a b out:Array Nat}(h:MI lt a b out a.size b.size):Mgd lt a b out:=by
 refine⟨?_,h.srt⟩
 have:=h.perm
 rwa [List.take_of_length_le (by simp),List.take_of_length_le (by simp)]at this
theorem MI.doneB{a b out:Array Nat}{ia:Nat}(h:MI lt a b out ia b.size)(ua:Kg lt a):Mgd lt a b (out++a.extract ia a.size++b.extract b.size b.size):=by
 have h1:=h.chunkA (k:=a.size - ia) ua (by have:=h.ha;omega) λi _ j j1 j2=>by omega
 rw [show ia+(a.size - ia)=a.size by have:=h.ha;omega]at h1
 have:=h1.end_
 rwa [show b.extract b.size b.size=#[] by simp,Array.append_empty]
theorem MI.doneA{a b out:Array Nat}{ib:Nat}(h:MI lt a b out a.size ib)(ub:Kg lt b):Mgd lt a b (out++a.extract a.size a.size++b.extract ib b.size):=by
 have h1:=h.chunkB (k:=b.size - ib) ub (by have:=h.hb;omega) λi _ j j1 j2=>by omega
 rw [show ib+(b.size - ib)=b.size by have:=h.hb;omega]at h1
 have:=h1.end_
 rwa [show a.extract a.size a.size=#[] by simp,Array.append_empty]
theorem MI.lastA{a b out:Array Nat}{ia ib:Nat}(h:MI lt a b out ia ib)(ua:Kg lt a)(ub:Kg lt b)(hl:ia+1=a.size)(hle:∀j,j < b.size->lt (at0 a (a.size - 1)) (at0 b j)=false):Mgd lt a b (out++b.extract ib b.size++a.extract ia a.size):=by
 have h1:=h.chunkB (k:=b.size - ib) ub (by have:=h.hb;omega) λi _ j j1 j2=>by
  rw [show j=a.size - 1 by omega];exact hle _ (by omega)
 rw [show ib+(b.size - ib)=b.size by have:=h.hb;omega]at h1
 have h2:=h1.chunkA (k:=1) ua (by omega) λi _ j j1 j2=>by omega
 rw [hl]at h2
 exact h2.end_
theorem Zg(out a:Array Nat)(i k:Nat):out.map (kas_item it)++(a.map (kas_item it)).extract i k=(out++a.extract i k).map (kas_item it):=by
 rw [Array.map_append,Array.map_extract]
theorem Zh(out:Array Nat)(x:Nat):(out.map (kas_item it)).push (kas_item it x)=(out.push x).map (kas_item it):=Array.map_push.symm
abbrev LoS:=Option (Array Keyed)×Array Keyed×Nat×Nat×Nat×Nat×Nat
abbrev B4(st:SortSt)(g:Nat):SortSt:=SortSt.mk' (kindOf st) (arrOf st) (pendingOf st) g (failedOf st)
def Xx(a b out:Array Keyed)(ia ib mg ac bc:Nat):StateT SortSt Sem (ForInStep LoS) :=
 elem' a ia >>= λy =>
  if(ia+1+1==a.size)=true then pure (ForInStep.done (some (out.push y++b.extract ib b.size++a.extract (ia+1) a.size),out.push y,ia+1,ib,mg,ac,bc))
  else if(decide (ac < 7) && decide (bc < 7))=true then pure (ForInStep.done (none,out.push y,ia+1,ib,mg,ac,bc))
  else pure (ForInStep.yield (none,out.push y,ia+1,ib,mg,ac,bc))
def Xy(a b out:Array Keyed)(ia ib mg ac bc:Nat):StateT SortSt Sem (ForInStep LoS) :=
 elem' b ib >>= λy =>
  if(ib+1==b.size)=true then pure (ForInStep.done (some (out.push y++a.extract ia a.size++b.extract (ib+1) b.size),out.push y,ia,ib+1,mg,ac,bc))
  else elem' a ia >>= λz=>gallop' true z b (ib+1) (b.size - (ib+1)) 0 >>= λx =>
   match x with
   | some k=>if k > 0 then
     (if(ib+1+k==b.size)=true then pure (ForInStep.done (some (out.push y++b.extract (ib+1) (ib+1+k)++a.extract ia a.size++b.extract (ib+1+k) b.size),out.push y++b.extract (ib+1) (ib+1+k),ia,ib+1+k,mg,ac,k))
     else Xx a b (out.push y++b.extract (ib+1) (ib+1+k)) ia (ib+1+k) mg ac k)
    else Xx a b (out.push y) ia (ib+1) mg ac k
   | _=>pure (ForInStep.done (some (out.push y++a.extract ia a.size++b.extract (ib+1) b.size),out.push y,ia,ib+1,mg,ac,bc))
def Qca(a b out:Array Keyed)(ia ib mg ac bc:Nat):StateT SortSt Sem (ForInStep LoS) :=
 setMinGallop' mg >>= λ_=>elem' b ib >>= λy=>gallop' false y a ia (a.size - ia) 0 >>= λx =>
  match x with
  | some k=>if k > 0 then
    (if(ia+k+1==a.size)=true then pure (ForInStep.done (some (out++a.extract ia (ia+k)++b.extract ib b.size++a.extract (ia+k) a.size),out++a.extract ia (ia+k),ia+k,ib,mg,k,bc))
    else if(ia+k==a.size)=true then pure (ForInStep.done (some (out++a.extract ia (ia+k)++a.extract (ia+k) a.size++b.extract ib b.size),out++a.extract ia (ia+k),ia+k,ib,mg,k,bc))
    else Xy a b (out++a.extract ia (ia+k)) (ia+k) ib mg k bc)
   else Xy a b out ia ib mg k bc
  | _=>pure (ForInStep.done (some (out++a.extract ia a.size++b.extract ib b.size),out,ia,ib,mg,ac,bc))
structure Mid(lt:Nat->Nat->Bool)(it:Array Keyed)(a b:Array Nat)(q:Nat)(o:Array Keyed)(ia ib:Nat):Prop where
 m:∃out:Array Nat,o=out.map (kas_item it)/\MI lt a b out ia ib
 ha:ia+1 < a.size
 hb:ib < b.size
 q:q<=ia+ib
structure MPre(n:Nat)(lt:Nat->Nat->Bool)(a b:Array Nat):Prop where
 na:0 < a.size
 nb:0 < b.size
 ia:In n a
 ib:In n b
 ua:Kg lt a
 ub:Kg lt b
 h0:lt (at0 b 0) (at0 a 0)=true
 hl:∀j,j < b.size->lt (at0 b j) (at0 a (a.size - 1))=true
theorem MPre.le{a b:Array Nat}(O:WeakOrd n lt)(p:MPre n lt a b):∀j,j < b.size->lt (at0 a (a.size - 1)) (at0 b j)=false:=λj hj=>O.asy _ _ (p.ib j hj) (p.ia _ (by have:=p.na;omega)) (p.hl j hj)
section
variable {a b:Array Nat}{st:SortSt}{Qd Qy:LoS->SortSt->Prop}{out:Array Nat}{ia ib mg ac bc:Nat}
theorem Zi(O:WeakOrd n lt)(p:MPre n lt a b)(M:MI lt a b out ia ib)(ha:ia+1 < a.size)(hb:ib < b.size)(hle:∀j,ib<=j->j < b.size->lt (at0 b j) (at0 a ia)=false)
  (fin:∀R c,Mgd lt a b R->c.1=some (R.map (kas_item it))->Qd c st) (go:∀o i j m x y,Mid lt it a b (ia+ib+1) o i j->Qd (none,o,i,j,m,x,y) st/\Qy (none,o,i,j,m,x,y) st) :
  wpS (model prog w) A E s (Xx (a.map (kas_item it)) (b.map (kas_item it)) (out.map (kas_item it)) ia ib mg ac bc) (λr st'=>match r with | .done c'=>Qd c' st' | .yield c'=>Qy c' st') st:=by
 unfold Xx
 refine wpS_bind (Bt (by omega) ?_)
 have M1:=M.pushA p.ua (by omega) hle
 simp only [Array.size_map,Zh,Zg]
 by_cases e:ia+1+1=a.size
 ·rw [if_pos (by simpa using e)]
  exact wpS_pure (fin _ _ (M1.lastA p.ua p.ub e (p.le O)) rfl)
 ·rw [if_neg (by simpa using e)]
  have g:=go _ _ _ mg ac bc (⟨⟨_,rfl,M1⟩,by omega,hb,by omega⟩:Mid lt it a b (ia+ib+1) _ (ia+1) ib)
  split
  ·exact wpS_pure g.1
  ·exact wpS_pure g.2
theorem Zj(O:WeakOrd n lt)(hc:Cmp prog w A κ it n lt s)(hk:kindOf st=κ)(p:MPre n lt a b)(M:MI lt a b out ia ib)(ha:ia+1 < a.size)(hb:ib < b.size)(hle:∀j,ia<=j->j < a.size->lt (at0 a j) (at0 b ib)=false)
  (fin:∀R c,Mgd lt a b R->c.1=some (R.map (kas_item it))->Qd c st) (go:∀o i j m x y,Mid lt it a b (ia+ib+1) o i j->Qd (none,o,i,j,m,x,y) st/\Qy (none,o,i,j,m,x,y) st) :
  wpS (model prog w) A E s (Xy (a.map (kas_item it)) (b.map (kas_item it)) (out.map (kas_item it)) ia ib mg ac bc) (λr st'=>match r with | .done c'=>Qd c' st' | .yield c'=>Qy c' st') st:=by
 unfold Xy
 refine wpS_bind (Bt hb ?_)
 have M1:=M.pushB p.ub hb hle
 have go':∀k,∀o i j m x y,Mid lt it a b (ia+(ib+1+k)+1) o i j->Qd (none,o,i,j,m,x,y) st/\Qy (none,o,i,j,m,x,y) st:=λk o i j m x y h=>go o i j m x y ⟨h.m,h.ha,h.hb,by have:=h.q;omega⟩
 simp only [Array.size_map,Zh]
 by_cases e:ib+1=b.size
 ·rw [if_pos (by simpa using e)]
  refine wpS_pure (fin _ _ (show Mgd lt a b (out.push (at0 b ib)++a.extract ia a.size++b.extract (ib+1) b.size) from ?_) (by simp only [Zg]))
  have:=(show MI lt a b (out.push (at0 b ib)) ia b.size by rw [<- e];exact M1).doneB p.ua
  rw [e];exact this
 ·rw [if_neg (by simpa using e)]
  refine wpS_bind (Bt (by omega) ?_)
  refine wpS_bind (Qb9 O hc hk (by omega) (by omega) p.ib (p.ia ia (by omega)) (λi j h1 h2 h3=>p.ub i j h2 (by omega)) λk k1 k2 k3=>?_)
  dsimp only
  have M2:=M1.chunkB (k:=k) p.ub (by omega) λi hi j j1 j2=>by
   have h1:=k2 i hi
   rcases Nat.eq_or_lt_of_le j1 with rfl | j1
   ·exact O.asy _ _ (p.ib _ (by omega)) (p.ia _ j2) h1
   ·exact O.tr _ _ _ (p.ib _ (by omega)) (p.ia ia (by omega)) (p.ia _ j2) (O.asy _ _ (p.ib _ (by omega)) (p.ia _ (by omega)) h1) (p.ua ia j j1 j2)
  by_cases kp:k > 0
  ·rw [if_pos kp]
   simp only [Zg]
   by_cases e2:ib+1+k=b.size
   ·rw [if_pos (by simpa using e2)]
    refine wpS_pure (fin _ _ (show Mgd lt a b (out.push (at0 b ib)++b.extract (ib+1) (ib+1+k)++a.extract ia a.size++b.extract (ib+1+k) b.size) from ?_) rfl)
    rw [e2]at M2 ⊢
    exact M2.doneB p.ua
   ·rw [if_neg (by simpa using e2)]
    refine Zi O p M2 ha (by omega) (λj j1 j2=>?_) fin (go' k)
    have:=k3 (j - (ib+1)) (by omega) (by omega)
    rwa [show ib+1+(j - (ib+1))=j by omega]at this
  ·rw [if_neg kp]
   refine Zi O p M1 ha (by omega) (λj j1 j2=>?_) fin (go' 0)
   have:=k3 (j - (ib+1)) (by omega) (by omega)
   rwa [show ib+1+(j - (ib+1))=j by omega]at this
theorem Qfn(O:WeakOrd n lt)(hc:Cmp prog w A κ it n lt s)(hk:kindOf st=κ)(p:MPre n lt a b)(M:MI lt a b out ia ib)(ha:ia+1 < a.size)(hb:ib < b.size)
  (fin:∀R c,Mgd lt a b R->c.1=some (R.map (kas_item it))->Qd c (B4 st mg)) (go:∀o i j m x y,Mid lt it a b (ia+ib+1) o i j->Qd (none,o,i,j,m,x,y) (B4 st mg)/\Qy (none,o,i,j,m,x,y) (B4 st mg)) :
  wpS (model prog w) A E s (Qca (a.map (kas_item it)) (b.map (kas_item it)) (out.map (kas_item it)) ia ib mg ac bc) (λr st'=>match r with | .done c'=>Qd c' st' | .yield c'=>Qy c' st') st:=by
 unfold Qca
 rw [Ck]
 refine wpS_bind (wpS_modify (wpS_bind (Bt hb ?_)))
 simp only [Array.size_map]
 refine wpS_bind (Qb8 O hc (st:=B4 st mg) hk (by omega) (by omega) p.ia (p.ib ib hb) (λi j h1 h2 h3=>p.ua i j h2 (by omega)) λk k1 k2 k3=>?_)
 dsimp only
 have M1:=M.chunkA (k:=k) p.ua (by omega) λi hi j j1 j2=>by
  have h1:=k2 i hi
  rcases Nat.eq_or_lt_of_le j1 with rfl | j1
  ·exact h1
  ·exact O.tr _ _ _ (p.ia _ (by omega)) (p.ib ib hb) (p.ib _ j2) h1 (p.ub ib j j1 j2)
 have low:∀j,ia+k<=j->j < a.size->lt (at0 a j) (at0 b ib)=false:=λj j1 j2=>by
  have:=k3 (j - ia) (by omega) (by omega)
  rw [show ia+(j - ia)=j by omega]at this
  exact O.asy _ _ (p.ib ib hb) (p.ia j j2) this
 have go':∀o i j m x y,Mid lt it a b (ia+k+ib+1) o i j->Qd (none,o,i,j,m,x,y) (B4 st mg)/\Qy (none,o,i,j,m,x,y) (B4 st mg):=λo i j m x y h=>go o i j m x y ⟨h.m,h.ha,h.hb,by have:=h.q;omega⟩
 by_cases kp:k > 0
 ·rw [if_pos kp]
  simp only [Zg]
  by_cases e1:ia+k+1=a.size
  ·rw [if_pos (by simpa using e1)]
   exact wpS_pure (fin _ _ (M1.lastA p.ua p.ub e1 (p.le O)) rfl)
  ·rw [if_neg (by simpa using e1)]
   by_cases e2:ia+k=a.size
   ·rw [if_pos (by simpa using e2)]
    refine wpS_pure (fin _ _ (show Mgd lt a b (out++a.extract ia (ia+k)++a.extract (ia+k) a.size++b.extract ib b.size) from ?_) rfl)
    rw [e2]at M1 ⊢
    exact M1.doneA p.ub
   ·rw [if_neg (by simpa using e2)]
    exact Zj O hc (st:=B4 st mg) hk p M1 (by omega) hb low fin go'
 ·rw [if_neg kp]
  have k0:k=0:=by omega
  subst k0
  exact Zj O hc (st:=B4 st mg) hk p M ha hb low fin go'
end
theorem MI.zero(a b:Array Nat):MI lt a b #[] 0 0:=⟨Nat.zero_le _,Nat.zero_le _,rfl,by simp,.nil,λ_ h=>by simp at h,λ_ h=>by simp at h⟩
theorem MPre.first{a b:Array Nat}(O:WeakOrd n lt)(p:MPre n lt a b):MI lt a b #[at0 b 0] 0 1:=by
 refine(MI.zero a b).pushB p.ub p.nb λj _ j2=>?_
 rcases Nat.eq_zero_or_pos j with rfl | j1
 ·exact O.asy _ _ (p.ib 0 p.nb) (p.ia 0 j2) p.h0
 ·exact O.tr _ _ _ (p.ib 0 p.nb) (p.ia 0 p.na) (p.ia j j2) (O.asy _ _ (p.ib 0 p.nb) (p.ia 0 p.na) p.h0) (p.ua 0 j j1 j2)
theorem R3(O:WeakOrd n lt)(hc:Cmp prog w A κ it n lt s){a b:Array Nat}{st:SortSt}(hk:kindOf st=κ)(p:MPre n lt a b){Q:Array Keyed->SortSt->Prop}(h:∀R g,Mgd lt a b R->Q (R.map (kas_item it)) (B4 st g)) :
  wpS (model prog w) A E s (mergeLo' (a.map (kas_item it)) (b.map (kas_item it))) Q st:=by
 rw [Mx]
 dsimp only
 have M0:=p.first O
 have na:=p.na
 have nb:=p.nb
 have e0:#[kas_item it (b.getD 0 0)]=(#[at0 b 0]:Array Nat).map (kas_item it):=by simp
 refine wpS_bind (wpS_lift (wpAny_rule ⟨rfl,?_⟩))
 refine wpS_bind (Bt nb ?_)
 rw [e0]
 by_cases e1:1=b.size
 ·rw [if_pos (by simpa using e1)]
  simp only [Array.size_map,Zg]
  refine wpS_pure (h _ (gallopOf st) ?_)
  have:=(show MI lt a b #[at0 b 0] 0 b.size by rw [<- e1];exact M0).doneB p.ua
  rw [<- e1]at this ⊢
  exact this
 rw [if_neg (by simpa using e1)]
 by_cases e2:0+1=a.size
 ·rw [if_pos (by simpa using e2)]
  simp only [Array.size_map,Zg]
  exact wpS_pure (h _ (gallopOf st) (M0.lastA p.ua p.ub e2 (p.le O)))
 rw [if_neg (by simpa using e2)]
 refine wpS_bind (wpS_get ?_)
 have sa:(a.map (kas_item it)).size=a.size:=Array.size_map ..
 have sb:(b.map (kas_item it)).size=b.size:=Array.size_map ..
 refine wpS_bind (wpS_mono (wpS_forRange (I:=λx c st'=>(∃g,st'=B4 st g)/\c.1=none/\Mid lt it a b (1+x) c.2.1 c.2.2.1 c.2.2.2.1) (Q:=λc st'=>(∃g,st'=B4 st g)/\∃R,c.1=some (R.map (kas_item it))/\Mgd lt a b R) ?_ ?_ ⟨⟨gallopOf st,rfl⟩,rfl,⟨_,rfl,M0⟩,by show 0+1 < _;omega,by show 1 < _;omega,by show 1+0<=0+1;omega⟩) ?_)
 ·rintro x ⟨c1,o,ia,ib,mg⟩ st' _ hx ⟨⟨g,rfl⟩,rfl,⟨out,eo,M⟩,ha,hb,hq⟩
  dsimp only at eo M ha hb hq ⊢
  subst eo
  refine wpS_bind (wpS_mono (wpS_forRange (I:=λx c st'=>st'=B4 st g/\c.1=none/\Mid lt it a b (ia+ib+x) c.2.1 c.2.2.1 c.2.2.2.1) (Q:=λc st'=>st'=B4 st g/\((∃R,c.1=some (R.map (kas_item it))/\Mgd lt a b R)\/(c.1=none/\Mid lt it a b (ia+ib+1) c.2.1 c.2.2.1 c.2.2.2.1))) ?_ ?_ ⟨rfl,rfl,⟨out,rfl,M⟩,ha,hb,Nat.le_refl _⟩) ?_)
  ·clear M ha hb
   rintro y ⟨c1,o,ja,jb,ac,bc⟩ st' _ hy ⟨rfl,rfl,⟨out,eo,M⟩,ha,hb,hq'⟩
   dsimp only at eo M ha hb hq' ⊢
   subst eo
   refine wpS_bind (Bt hb (wpS_bind (Bt (by omega) (wpS_bind (Uv hc (st:=B4 st g) hk (p.ib _ hb) (p.ia _ (by omega)) ?_)))))
   dsimp only
   cases e:lt (b.getD jb 0) (a.getD ja 0) with
   | true =>
    rw [if_pos rfl]
    refine wpS_bind (Bt hb ?_)
    have M1:=M.pushB p.ub hb λj j1 j2=>by
     have e':=O.asy _ _ (p.ib _ hb) (p.ia ja (by omega)) e
     rcases Nat.eq_or_lt_of_le j1 with rfl | j1
     ·exact e'
     ·exact O.tr _ _ _ (p.ib _ hb) (p.ia ja (by omega)) (p.ia _ j2) e' (p.ua ja j j1 j2)
    simp only [Zh]
    by_cases e3:jb+1=b.size
    ·rw [if_pos (by simpa using e3)]
     simp only [Zg,Array.size_map]
     refine wpS_pure ⟨rfl,.inl ⟨_,rfl,?_⟩⟩
     rw [e3]at M1 ⊢
     exact M1.doneB p.ua
    ·rw [if_neg (by simpa using e3)]
     by_cases e4:bc+1>=mg <;> simp only [e4,if_true,if_false]
     ·exact wpS_pure ⟨rfl,.inr ⟨rfl,⟨_,rfl,M1⟩,ha,by show jb+1 < _;omega,by show _<=ja+(jb+1);omega⟩⟩
     ·exact wpS_pure ⟨rfl,rfl,⟨_,rfl,M1⟩,ha,by show jb+1 < _;omega,by show _<=ja+(jb+1);omega⟩
   | false =>
    rw [if_neg Bool.false_ne_true]
    refine wpS_bind (Bt (by omega) ?_)
    have M1:=M.pushA p.ua (by omega) λj j1 j2=>by
     rcases Nat.eq_or_lt_of_le j1 with rfl | j1
     ·exact e
     ·exact O.tr _ _ _ (p.ia ja (by omega)) (p.ib _ hb) (p.ib _ j2) e (p.ub jb j j1 j2)
    simp only [Zh]
    by_cases e3:ja+1+1=a.size
    ·rw [if_pos (by simpa using e3)]
     simp only [Zg,Array.size_map]
     exact wpS_pure ⟨rfl,.inl ⟨_,rfl,M1.lastA p.ua p.ub e3 (p.le O)⟩⟩
    ·rw [if_neg (by simpa using e3)]
     by_cases e4:ac+1>=mg <;> simp only [e4,if_true,if_false]
     ·exact wpS_pure ⟨rfl,.inr ⟨rfl,⟨_,rfl,M1⟩,by show ja+1+1 < _;omega,hb,by show _<=ja+1+jb;omega⟩⟩
     ·exact wpS_pure ⟨rfl,rfl,⟨_,rfl,M1⟩,by show ja+1+1 < _;omega,hb,by show _<=ja+1+jb;omega⟩
  ·rintro c st' ⟨_,_,⟨out,_,M⟩,ha',hb',hq'⟩
   omega
  ·rintro⟨c1,o,ja,jb,ac,bc⟩ st' ⟨rfl,⟨R,rfl,hR⟩ | ⟨rfl,hM⟩⟩
   ·exact wpS_pure ⟨⟨g,rfl⟩,R,rfl,hR⟩
   ·dsimp only at hM ⊢
    refine wpS_bind (wpS_lift (wpAny_rule ⟨rfl,?_⟩))
    refine wpS_bind (wpS_mono (wpS_forRange (I:=λx c st'=>(∃g,st'=B4 st g)/\c.1=none/\Mid lt it a b (ia+ib+1+x) c.2.1 c.2.2.1 c.2.2.2.1) (Q:=λc st'=>(∃g,st'=B4 st g)/\((∃R,c.1=some (R.map (kas_item it))/\Mgd lt a b R)\/(c.1=none/\Mid lt it a b (ia+ib+1) c.2.1 c.2.2.1 c.2.2.2.1))) ?_ ?_ ⟨⟨g,rfl⟩,rfl,hM⟩) ?_)
    ·clear hM
     rintro y ⟨c1,o,ja,jb,mg,ac,bc⟩ st' _ hy ⟨⟨g,rfl⟩,rfl,⟨out,eo,M⟩,ha,hb,hq'⟩
     dsimp only at eo M ha hb hq' ⊢
     subst eo
     have key:∀mg,wpS (model prog w) A E s (Qca (a.map (kas_item it)) (b.map (kas_item it)) (out.map (kas_item it)) ja jb mg ac bc) (λr st'=>match r with
       | .done c=>(∃g,st'=B4 st g)/\((∃R,c.1=some (R.map (kas_item it))/\Mgd lt a b R)\/(c.1=none/\Mid lt it a b (ia+ib+1) c.2.1 c.2.2.1 c.2.2.2.1))
       | .yield c=>(∃g,st'=B4 st g)/\c.1=none/\Mid lt it a b (ia+ib+1+(y+1)) c.2.1 c.2.2.1 c.2.2.2.1) (B4 st g):=λmg =>
      Qfn (Qd:=λc st'=>(∃g,st'=B4 st g)/\((∃R,c.1=some (R.map (kas_item it))/\Mgd lt a b R)\/(c.1=none/\Mid lt it a b (ia+ib+1) c.2.1 c.2.2.1 c.2.2.2.1)))
       (Qy:=λc st'=>(∃g,st'=B4 st g)/\c.1=none/\Mid lt it a b (ia+ib+1+(y+1)) c.2.1 c.2.2.1 c.2.2.2.1) O hc (st:=B4 st g) hk p M ha hb (λR c hR e=>⟨⟨mg,rfl⟩,.inl ⟨R,e,hR⟩⟩)
       λo i j m x y hm=>⟨⟨⟨mg,rfl⟩,.inr ⟨rfl,hm.m,hm.ha,hm.hb,by have:=hm.q;show _<=i+j;omega⟩⟩,⟨mg,rfl⟩,rfl,hm.m,hm.ha,hm.hb,by have:=hm.q;show _<=i+j;omega⟩
     by_cases e4:mg > 1
     ·rw [if_pos e4]
      refine wpS_mono (key (mg - 1)) ?_
      rintro(c | c) st' hh <;> exact hh
     ·rw [if_neg e4]
      refine wpS_mono (key mg) ?_
      rintro(c | c) st' hh <;> exact hh
    ·rintro c st' ⟨⟨g,rfl⟩,h1,h2⟩
     exact⟨⟨g,rfl⟩,.inr ⟨h1,h2.m,h2.ha,h2.hb,by have:=h2.q;omega⟩⟩
    ·rintro⟨c1,o,ja,jb,mg,ac,bc⟩ st' ⟨⟨g,rfl⟩,⟨R,rfl,hR⟩ | ⟨rfl,hM⟩⟩
     ·exact wpS_pure ⟨⟨g,rfl⟩,R,rfl,hR⟩
     ·dsimp only at hM ⊢
      rw [Ck]
      refine wpS_bind (wpS_modify (wpS_pure ⟨⟨_,rfl⟩,rfl,hM.m,hM.ha,hM.hb,?_⟩))
      have:=hM.q
      show _<=ja+jb
      omega
 ·rintro c st' ⟨_,_,⟨out,_,M⟩,ha',hb',hq'⟩
  omega
 ·rintro⟨c1,o⟩ st' ⟨⟨g,rfl⟩,R,rfl,hR⟩
  exact wpS_pure (h R g hR)
end
theorem My(a b:Array Keyed):mergeHi' a b=(do
 rule "list.sort.merge-hi"
 let total:=a.size+b.size
 let done (out:Array Keyed) (na nb:Nat):=a.extract 0 na++b.extract 0 nb++out.reverse
 let firstOfB (out:Array Keyed) (na nb:Nat):=b.extract 0 nb++a.extract 0 na++out.reverse
 let mut na:=a.size - 1
 let mut nb:=b.size
 let mut out:Array Keyed:=#[<- elem' a na]
 if na==0 then return done out na nb
 if nb==1 then return firstOfB out na nb
 let mut minGallop:=gallopOf (<- get)
 for _ in [0:total] do
  let mut acount:=0
  let mut bcount:=0
  for _ in [0:total] do
   let some aWins <- lt' (<- elem' b (nb - 1)) (<- elem' a (na - 1)) | return done out na nb
   if aWins then
    na:=na - 1;out:=out.push (<- elem' a na);acount:=acount+1;bcount:=0
    if na==0 then return done out na nb
    if acount>=minGallop then break
   else
    nb:=nb - 1;out:=out.push (<- elem' b nb);bcount:=bcount+1;acount:=0
    if nb==1 then return firstOfB out na nb
    if bcount>=minGallop then break
  rule "list.sort.gallop"
  minGallop:=minGallop+1
  for _ in [0:total] do
   if minGallop > 1 then minGallop:=minGallop - 1
   setMinGallop' minGallop
   let some at_ <- gallop' false (<- elem' b (nb - 1)) a 0 na (na - 1) | return done out na nb
   let k:=na - at_
   acount:=k
   if k > 0 then
    out:=out++(a.extract at_ na).reverse;na:=at_
    if na==0 then return done out na nb
   nb:=nb - 1;out:=out.push (<- elem' b nb)
   if nb==1 then return firstOfB out na nb
   let some at_ <- gallop' true (<- elem' a (na - 1)) b 0 nb (nb - 1) | return done out na nb
   let k:=nb - at_
   bcount:=k
   if k > 0 then
    out:=out++(b.extract at_ nb).reverse;nb:=at_
    if nb==1 then return firstOfB out na nb
    if nb==0 then return done out na nb
   na:=na - 1;out:=out.push (<- elem' a na)
   if na==0 then return done out na nb
   if acount < 7 && bcount < 7 then break
  minGallop:=minGallop+1
  setMinGallop' minGallop
 unsupported "internal:list.sort.merge-bound"):=rfl
section
variable {prog:Program}{w:World}{A:Around}{E:Value->Shared->Prop}{s:Shared}{κ:SortKind}{it:Array Keyed}{n:Nat}{lt:Nat->Nat->Bool}
abbrev flp(lt:Nat->Nat->Bool):Nat->Nat->Bool:=λx y=>lt y x
theorem WeakOrd.fl(O:WeakOrd n lt):WeakOrd n (flp lt):=⟨λa b c ha hb hc h1 h2=>O.tr c b a hc hb ha h2 h1,λa b ha hb h=>O.asy b a hb ha h⟩
theorem Cl{p:Array Nat}{i:Nat}(h:i < p.size):at0 p.reverse i=at0 p (p.size - 1 - i):=by
 simp [at0,Array.getD,h,show p.size - 1 - i < p.size by omega]
theorem Ln(p:Array Nat){i j:Nat}(h:i<=j)(hj:j<=p.size):p.reverse.extract (p.size - j) (p.size - j+(j - i))=(p.extract i j).reverse:=by
 apply Array.toList_inj.mp
 rw [Bz,Array.toList_reverse,Array.toList_reverse,show j=i+(j - i) by omega,Bz,show i+(j - i)=j by omega]
 apply List.ext_getElem?
 intro k
 by_cases hk:k < j - i
 ·rw [List.getElem?_take_of_lt hk,List.getElem?_drop,List.getElem?_reverse (by simp;omega),List.getElem?_reverse (by simp;omega),List.getElem?_take_of_lt (by simp;omega),List.getElem?_drop]
  congr 1
  simp;omega
 ·rw [List.getElem?_eq_none (by simp;omega),List.getElem?_eq_none (by simp;omega)]
theorem Hw(p:Array Nat){j:Nat}(hj:j<=p.size):p.reverse.extract (p.size - j) p.reverse.size=(p.extract 0 j).reverse:=by
 rw [<- Ln p (Nat.zero_le j) hj,Array.size_reverse]
 congr 1;omega
theorem MPre.fl{a b:Array Nat}(O:WeakOrd n lt)(p:MPre n lt a b):MPre n (flp lt) b.reverse a.reverse:=by
 have na:=p.na
 have nb:=p.nb
 refine⟨by simpa using nb,by simpa using na,λi hi=>?_,λi hi=>?_,λi j hij hj=>?_,λi j hij hj=>?_,?_,λj hj=>?_⟩
 ·rw [Array.size_reverse]at hi;rw [Cl hi];exact p.ib _ (by omega)
 ·rw [Array.size_reverse]at hi;rw [Cl hi];exact p.ia _ (by omega)
 ·rw [Array.size_reverse]at hj
  show lt (at0 b.reverse i) (at0 b.reverse j)=false
  rw [Cl hj,Cl (by omega)]
  exact p.ub _ _ (by omega) (by omega)
 ·rw [Array.size_reverse]at hj
  show lt (at0 a.reverse i) (at0 a.reverse j)=false
  rw [Cl hj,Cl (by omega)]
  exact p.ua _ _ (by omega) (by omega)
 ·show lt (at0 b.reverse 0) (at0 a.reverse 0)=true
  rw [Cl na,Cl nb]
  exact p.hl _ (by omega)
 ·rw [Array.size_reverse]at hj
  show lt (at0 b.reverse (b.reverse.size - 1)) (at0 a.reverse j)=true
  rw [Array.size_reverse,Cl hj,Cl (by omega),show b.size - 1 - (b.size - 1)=0 by omega]
  rcases Nat.eq_zero_or_pos (a.size - 1 - j) with e | e
  ·rw [e];exact p.h0
  ·exact O.low (p.ib 0 nb) (p.ia 0 na) (p.ia _ (by omega)) p.h0 (p.ua 0 _ e (by omega))
theorem Mgd.fl{a b R:Array Nat}(h:Mgd (flp lt) b.reverse a.reverse R):Mgd lt a b R.reverse:=by
 refine⟨?_,?_⟩
 ·rw [Array.toList_reverse]
  refine(List.reverse_perm _).trans (h.perm.trans ?_)
  rw [Array.toList_reverse,Array.toList_reverse]
  exact((List.reverse_perm _).append (List.reverse_perm _)).trans List.perm_append_comm
 ·rw [Array.toList_reverse,List.pairwise_reverse]
  exact h.srt
structure HM(lt:Nat->Nat->Bool)(a b out:Array Nat)(na nb:Nat):Prop where
 ha:na<=a.size
 hb:nb<=b.size
 m:MI (flp lt) b.reverse a.reverse out (b.size - nb) (a.size - na)
section
variable {a b out:Array Nat}{na nb:Nat}
theorem Kg.fl(h:Kg lt a):Kg (flp lt) a.reverse:=λi j hij hj=>by
 rw [Array.size_reverse]at hj
 show lt (at0 a.reverse i) (at0 a.reverse j)=false
 rw [Cl hj,Cl (by omega)]
 exact h _ _ (by omega) (by omega)
theorem HM.chunkA(h:HM lt a b out na nb)(ua:Kg lt a){k:Nat}(hk:k<=na)(hle:∀i,k<=i->i < na->∀j,j < nb->lt (at0 a i) (at0 b j)=false):HM lt a b (out++(a.extract k na).reverse) k nb:=by
 have h1:=h.ha
 have h2:=h.hb
 refine⟨by omega,h2,?_⟩
 have:=h.m.chunkB (k:=na - k) ua.fl (by rw [Array.size_reverse];omega) λi hi j j1 j2=>by
  rw [Array.size_reverse]at j2
  show lt (at0 a.reverse _) (at0 b.reverse j)=false
  rw [Cl j2,Cl (by omega)]
  exact hle _ (by omega) (by omega) _ (by omega)
 rw [Ln a hk h1,show a.size - na+(na - k)=a.size - k by omega]at this
 exact this
theorem HM.chunkB(h:HM lt a b out na nb)(ub:Kg lt b){k:Nat}(hk:k<=nb)(hle:∀i,k<=i->i < nb->∀j,j < na->lt (at0 b i) (at0 a j)=false):HM lt a b (out++(b.extract k nb).reverse) na k:=by
 have h1:=h.ha
 have h2:=h.hb
 refine⟨h1,by omega,?_⟩
 have:=h.m.chunkA (k:=nb - k) ub.fl (by rw [Array.size_reverse];omega) λi hi j j1 j2=>by
  rw [Array.size_reverse]at j2
  show lt (at0 b.reverse _) (at0 a.reverse j)=false
  rw [Cl j2,Cl (by omega)]
  exact hle _ (by omega) (by omega) _ (by omega)
 rw [Ln b hk h2,show b.size - nb+(nb - k)=b.size - k by omega]at this
 exact this
theorem Qi{p:Array Nat}{i:Nat}(h:i < p.size)(out:Array Nat):out.push (at0 p i)=out++(p.extract i (i+1)).reverse:=by
 rw [Lm h]
 congr 1
 apply Array.toList_inj.mp
 rw [Array.toList_reverse,Bz,List.drop_eq_getElem_cons (by simpa using h)]
 simp
theorem HM.pushA(h:HM lt a b out na nb)(ua:Kg lt a)(h0:0 < na)(hle:∀j,j < nb->lt (at0 a (na - 1)) (at0 b j)=false):HM lt a b (out.push (at0 a (na - 1))) (na - 1) nb:=by
 have h1:=h.ha
 rw [Qi (show na - 1 < a.size by omega),show na - 1+1=na by omega]
 exact h.chunkA ua (by omega) λi i1 i2 j hj=>by rw [show i=na - 1 by omega];exact hle j hj
theorem HM.pushB(h:HM lt a b out na nb)(ub:Kg lt b)(h0:0 < nb)(hle:∀j,j < na->lt (at0 b (nb - 1)) (at0 a j)=false):HM lt a b (out.push (at0 b (nb - 1))) na (nb - 1):=by
 have h1:=h.hb
 rw [Qi (show nb - 1 < b.size by omega),show nb - 1+1=nb by omega]
 exact h.chunkB ub (by omega) λi i1 i2 j hj=>by rw [show i=nb - 1 by omega];exact hle j hj
theorem HM.doneA(h:HM lt a b out 0 nb)(ub:Kg lt b):Mgd lt a b (a.extract 0 0++b.extract 0 nb++out.reverse):=by
 have h2:=h.hb
 have:=(MI.doneB (a:=b.reverse) (b:=a.reverse) (by rw [Array.size_reverse];exact h.m) ub.fl).fl
 rw [Hw b h2,Array.reverse_append,Array.reverse_append,Array.reverse_reverse]at this
 rw [show(a.reverse.extract a.reverse.size a.reverse.size).reverse=a.extract 0 0 by simp,<- Array.append_assoc]at this
 exact this
theorem HM.doneB(h:HM lt a b out na 0)(ua:Kg lt a):Mgd lt a b (a.extract 0 na++b.extract 0 0++out.reverse):=by
 have h1:=h.ha
 have:=(MI.doneA (a:=b.reverse) (b:=a.reverse) (by rw [Array.size_reverse];exact h.m) ua.fl).fl
 rw [Hw a h1,Array.reverse_append,Array.reverse_append,Array.reverse_reverse]at this
 rw [show(b.reverse.extract b.reverse.size b.reverse.size).reverse=b.extract 0 0 by simp,<- Array.append_assoc]at this
 exact this
theorem HM.firstB(O:WeakOrd n lt)(p:MPre n lt a b)(h:HM lt a b out na 1):Mgd lt a b (b.extract 0 1++a.extract 0 na++out.reverse):=by
 have h1:=h.ha
 have h2:=h.hb
 have:=(h.m.lastA p.ub.fl p.ua.fl (by rw [Array.size_reverse];omega) ((p.fl O).le O.fl)).fl
 rw [Hw a h1,Hw b h2,Array.reverse_append,Array.reverse_append,Array.reverse_reverse,Array.reverse_reverse,<- Array.append_assoc]at this
 exact this
end
theorem mpR(out a:Array Nat)(i k:Nat):out.map (kas_item it)++((a.map (kas_item it)).extract i k).reverse=(out++(a.extract i k).reverse).map (kas_item it):=by
 rw [Array.map_append,Array.map_reverse,Array.map_extract]
theorem Zk(x y z:Array Nat)(i j k l:Nat):(x.map (kas_item it)).extract i j++(y.map (kas_item it)).extract k l++(z.map (kas_item it)).reverse=(x.extract i j++y.extract k l++z.reverse).map (kas_item it):=by
 rw [Array.map_append,Array.map_append,Array.map_reverse,Array.map_extract,Array.map_extract]
abbrev HiS:=Option (Array Keyed)×Nat×Nat×Array Keyed×Nat×Nat×Nat
def Xz(a b out:Array Keyed)(na nb mg ac bc:Nat):StateT SortSt Sem (ForInStep HiS) :=
 elem' a (na - 1) >>= λy =>
  if(na - 1==0)=true then pure (ForInStep.done (some (a.extract 0 (na - 1)++b.extract 0 nb++(out.push y).reverse),na - 1,nb,out.push y,mg,ac,bc))
  else if(decide (ac < 7) && decide (bc < 7))=true then pure (ForInStep.done (none,na - 1,nb,out.push y,mg,ac,bc))
  else pure (ForInStep.yield (none,na - 1,nb,out.push y,mg,ac,bc))
def X0(a b out:Array Keyed)(na nb mg ac bc:Nat):StateT SortSt Sem (ForInStep HiS) :=
 elem' b (nb - 1) >>= λy =>
  if(nb - 1==1)=true then pure (ForInStep.done (some (b.extract 0 (nb - 1)++a.extract 0 na++(out.push y).reverse),na,nb - 1,out.push y,mg,ac,bc))
  else elem' a (na - 1) >>= λz=>gallop' true z b 0 (nb - 1) (nb - 1 - 1) >>= λx =>
   match x with
   | some k=>if nb - 1 - k > 0 then
     (if(k==1)=true then pure (ForInStep.done (some (b.extract 0 k++a.extract 0 na++(out.push y++(b.extract k (nb - 1)).reverse).reverse),na,k,out.push y++(b.extract k (nb - 1)).reverse,mg,ac,nb - 1 - k))
     else if(k==0)=true then pure (ForInStep.done (some (a.extract 0 na++b.extract 0 k++(out.push y++(b.extract k (nb - 1)).reverse).reverse),na,k,out.push y++(b.extract k (nb - 1)).reverse,mg,ac,nb - 1 - k))
     else Xz a b (out.push y++(b.extract k (nb - 1)).reverse) na k mg ac (nb - 1 - k))
    else Xz a b (out.push y) na (nb - 1) mg ac (nb - 1 - k)
   | _=>pure (ForInStep.done (some (a.extract 0 na++b.extract 0 (nb - 1)++(out.push y).reverse),na,nb - 1,out.push y,mg,ac,bc))
def Qcb(a b out:Array Keyed)(na nb mg ac bc:Nat):StateT SortSt Sem (ForInStep HiS) :=
 setMinGallop' mg >>= λ_=>elem' b (nb - 1) >>= λy=>gallop' false y a 0 na (na - 1) >>= λx =>
  match x with
  | some k=>if na - k > 0 then
    (if(k==0)=true then pure (ForInStep.done (some (a.extract 0 k++b.extract 0 nb++(out++(a.extract k na).reverse).reverse),k,nb,out++(a.extract k na).reverse,mg,na - k,bc))
    else X0 a b (out++(a.extract k na).reverse) k nb mg (na - k) bc)
   else X0 a b out na nb mg (na - k) bc
  | _=>pure (ForInStep.done (some (a.extract 0 na++b.extract 0 nb++out.reverse),na,nb,out,mg,ac,bc))
structure HMid(lt:Nat->Nat->Bool)(it:Array Keyed)(a b:Array Nat)(q:Nat)(o:Array Keyed)(na nb:Nat):Prop where
 m:∃out:Array Nat,o=out.map (kas_item it)/\HM lt a b out na nb
 ha:0 < na
 hb:1 < nb
 q:na+nb+q<=a.size+b.size
section
variable {a b:Array Nat}{st:SortSt}{Qd Qy:HiS->SortSt->Prop}{out:Array Nat}{na nb mg ac bc:Nat}
theorem Zl(O:WeakOrd n lt)(p:MPre n lt a b)(M:HM lt a b out na nb)(ha:0 < na)(hb:1 < nb)(hle:∀j,j < nb->lt (at0 a (na - 1)) (at0 b j)=false){q:Nat}(hq:na+nb+q<=a.size+b.size)
  (fin:∀R c,Mgd lt a b R->c.1=some (R.map (kas_item it))->Qd c st) (go:∀o i j m x y,HMid lt it a b (q+1) o i j->Qd (none,i,j,o,m,x,y) st/\Qy (none,i,j,o,m,x,y) st) :
  wpS (model prog w) A E s (Xz (a.map (kas_item it)) (b.map (kas_item it)) (out.map (kas_item it)) na nb mg ac bc) (λr st'=>match r with | .done c'=>Qd c' st' | .yield c'=>Qy c' st') st:=by
 have h1:=M.ha
 unfold Xz
 refine wpS_bind (Bt (by omega) ?_)
 have M1:=M.pushA p.ua ha hle
 simp only [Zh,Zk]
 by_cases e:na - 1=0
 ·rw [if_pos (by simpa using e)]
  refine wpS_pure (fin _ _ (show Mgd lt a b (a.extract 0 (na - 1)++b.extract 0 nb++(out.push (at0 a (na - 1))).reverse) from ?_) rfl)
  have:=(show HM lt a b (out.push (at0 a (na - 1))) 0 nb by rw [<- e];rw [e]at M1 ⊢;exact M1).doneA p.ub
  rw [e]at this ⊢
  exact this
 ·rw [if_neg (by simpa using e)]
  have g:=go _ _ _ mg ac bc (⟨⟨_,rfl,M1⟩,by omega,hb,by omega⟩:HMid lt it a b (q+1) _ (na - 1) nb)
  by_cases e4:(decide (ac < 7) && decide (bc < 7))=true
  ·rw [if_pos e4];exact wpS_pure g.1
  ·rw [if_neg e4];exact wpS_pure g.2
theorem Zm(O:WeakOrd n lt)(hc:Cmp prog w A κ it n lt s)(hk:kindOf st=κ)(p:MPre n lt a b)(M:HM lt a b out na nb)(ha:0 < na)(hb:1 < nb)(hle:∀j,j < na->lt (at0 b (nb - 1)) (at0 a j)=false){q:Nat}(hq:na+nb+q<=a.size+b.size)
  (fin:∀R c,Mgd lt a b R->c.1=some (R.map (kas_item it))->Qd c st) (go:∀o i j m x y,HMid lt it a b (q+1) o i j->Qd (none,i,j,o,m,x,y) st/\Qy (none,i,j,o,m,x,y) st) :
  wpS (model prog w) A E s (X0 (a.map (kas_item it)) (b.map (kas_item it)) (out.map (kas_item it)) na nb mg ac bc) (λr st'=>match r with | .done c'=>Qd c' st' | .yield c'=>Qy c' st') st:=by
 have h1:=M.ha
 have h2:=M.hb
 unfold X0
 refine wpS_bind (Bt (by omega) ?_)
 have M1:=M.pushB p.ub (by omega) hle
 simp only [Zh]
 by_cases e:nb - 1=1
 ·rw [if_pos (by simpa using e)]
  simp only [Zk]
  refine wpS_pure (fin _ _ (show Mgd lt a b (b.extract 0 (nb - 1)++a.extract 0 na++(out.push (at0 b (nb - 1))).reverse) from ?_) rfl)
  rw [e]at M1 ⊢
  exact M1.firstB O p
 ·rw [if_neg (by simpa using e)]
  refine wpS_bind (Bt (by omega) ?_)
  refine wpS_bind (Qb9 O hc hk (by omega) (by omega) p.ib (p.ia (na - 1) (by omega)) (λi j _ h2 h3=>p.ub i j h2 (by omega)) λk k1 k2 k3=>?_)
  dsimp only
  simp only [Nat.zero_add]at k2 k3
  have hge:∀i,k<=i->i < nb - 1->∀j,j < na->lt (at0 b i) (at0 a j)=false:=λi i1 i2 j hj=>by
   have e1:=k3 i i1 i2
   rcases Nat.eq_or_lt_of_le (show j<=na - 1 by omega) with rfl | hj'
   ·exact e1
   ·exact O.tr _ _ _ (p.ia j (by omega)) (p.ia (na - 1) (by omega)) (p.ib i (by omega)) (p.ua j (na - 1) hj' (by omega)) e1
  have M2:=M1.chunkB p.ub (k:=k) k1 hge
  by_cases kp:nb - 1 - k > 0
  ·rw [if_pos kp]
   simp only [mpR,Zk]
   by_cases e1:k=1
   ·rw [if_pos (by simpa using e1)]
    refine wpS_pure (fin _ _ (show Mgd lt a b (b.extract 0 k++a.extract 0 na++(out.push (at0 b (nb - 1))++(b.extract k (nb - 1)).reverse).reverse) from ?_) rfl)
    subst e1
    exact M2.firstB O p
   ·rw [if_neg (by simpa using e1)]
    by_cases e2:k=0
    ·rw [if_pos (by simpa using e2)]
     refine wpS_pure (fin _ _ (show Mgd lt a b (a.extract 0 na++b.extract 0 k++(out.push (at0 b (nb - 1))++(b.extract k (nb - 1)).reverse).reverse) from ?_) rfl)
     subst e2
     exact M2.doneB p.ua
    ·rw [if_neg (by simpa using e2)]
     exact Zl O p M2 ha (by omega) (λj hj=>O.asy _ _ (p.ib j (by omega)) (p.ia _ (by omega)) (k2 j hj)) (q:=q) (by omega) fin go
  ·rw [if_neg kp]
   exact Zl O p M1 ha (by omega) (λj hj=>O.asy _ _ (p.ib j (by omega)) (p.ia _ (by omega)) (k2 j (by omega))) (q:=q) (by omega) fin go
theorem Qfo(O:WeakOrd n lt)(hc:Cmp prog w A κ it n lt s)(hk:kindOf st=κ)(p:MPre n lt a b)(M:HM lt a b out na nb)(ha:0 < na)(hb:1 < nb){q:Nat}(hq:na+nb+q<=a.size+b.size)
  (fin:∀R c,Mgd lt a b R->c.1=some (R.map (kas_item it))->Qd c (B4 st mg)) (go:∀o i j m x y,HMid lt it a b (q+1) o i j->Qd (none,i,j,o,m,x,y) (B4 st mg)/\Qy (none,i,j,o,m,x,y) (B4 st mg)) :
  wpS (model prog w) A E s (Qcb (a.map (kas_item it)) (b.map (kas_item it)) (out.map (kas_item it)) na nb mg ac bc) (λr st'=>match r with | .done c'=>Qd c' st' | .yield c'=>Qy c' st') st:=by
 have h1:=M.ha
 have h2:=M.hb
 unfold Qcb
 rw [Ck]
 refine wpS_bind (wpS_modify (wpS_bind (Bt (by omega) ?_)))
 refine wpS_bind (Qb8 O hc (st:=B4 st mg) hk (by omega) (by omega) p.ia (p.ib (nb - 1) (by omega)) (λi j _ h2 h3=>p.ua i j h2 (by omega)) λk k1 k2 k3=>?_)
 dsimp only
 simp only [Nat.zero_add]at k2 k3
 have hge:∀i,k<=i->i < na->∀j,j < nb->lt (at0 a i) (at0 b j)=false:=λi i1 i2 j hj=>by
  have e1:=O.asy _ _ (p.ib (nb - 1) (by omega)) (p.ia i (by omega)) (k3 i i1 i2)
  rcases Nat.eq_or_lt_of_le (show j<=nb - 1 by omega) with rfl | hj'
  ·exact e1
  ·exact O.tr _ _ _ (p.ib j (by omega)) (p.ib (nb - 1) (by omega)) (p.ia i (by omega)) (p.ub j (nb - 1) hj' (by omega)) e1
 have M1:=M.chunkA p.ua (k:=k) k1 hge
 by_cases kp:na - k > 0
 ·rw [if_pos kp]
  simp only [mpR,Zk]
  by_cases e1:k=0
  ·rw [if_pos (by simpa using e1)]
   refine wpS_pure (fin _ _ (show Mgd lt a b (a.extract 0 k++b.extract 0 nb++(out++(a.extract k na).reverse).reverse) from ?_) rfl)
   subst e1
   exact M1.doneA p.ub
  ·rw [if_neg (by simpa using e1)]
   exact Zm O hc (st:=B4 st mg) hk p M1 (by omega) hb k2 (q:=q) (by omega) fin go
 ·rw [if_neg kp]
  exact Zm O hc (st:=B4 st mg) hk p M ha hb (λj hj=>k2 j (by omega)) (q:=q) hq fin go
end
theorem MPre.last{a b:Array Nat}(O:WeakOrd n lt)(p:MPre n lt a b):HM lt a b #[at0 a (a.size - 1)] (a.size - 1) b.size:=by
 have na:=p.na
 have nb:=p.nb
 have h0:HM lt a b #[] a.size b.size:=⟨Nat.le_refl _,Nat.le_refl _,by rw [Nat.sub_self,Nat.sub_self];exact MI.zero _ _⟩
 exact h0.pushA p.ua na λj hj=>p.le O j hj
theorem R4(O:WeakOrd n lt)(hc:Cmp prog w A κ it n lt s){a b:Array Nat}{st:SortSt}(hk:kindOf st=κ)(p:MPre n lt a b){Q:Array Keyed->SortSt->Prop}(h:∀R g,Mgd lt a b R->Q (R.map (kas_item it)) (B4 st g)) :
  wpS (model prog w) A E s (mergeHi' (a.map (kas_item it)) (b.map (kas_item it))) Q st:=by
 rw [My]
 dsimp only
 have M0:=p.last O
 have na:=p.na
 have nb:=p.nb
 have sa:(a.map (kas_item it)).size=a.size:=Array.size_map ..
 have sb:(b.map (kas_item it)).size=b.size:=Array.size_map ..
 have e0:#[kas_item it (a.getD (a.size - 1) 0)]=(#[at0 a (a.size - 1)]:Array Nat).map (kas_item it):=by simp
 refine wpS_bind (wpS_lift (wpAny_rule ⟨rfl,?_⟩))
 refine wpS_bind (Bt (by omega) ?_)
 rw [sa,e0]
 by_cases e1:a.size - 1=0
 ·rw [if_pos (by simpa using e1)]
  simp only [sb,Zk]
  refine wpS_pure (h _ (gallopOf st) ?_)
  have:=(show HM lt a b #[at0 a (a.size - 1)] 0 b.size by rw [e1]at M0 ⊢;exact M0).doneA p.ub
  rw [e1]at this ⊢
  exact this
 rw [if_neg (by simpa using e1)]
 by_cases e2:b.size=1
 ·rw [if_pos (by simpa using e2)]
  simp only [sb,Zk]
  refine wpS_pure (h _ (gallopOf st) ?_)
  rw [e2]at M0 ⊢
  exact M0.firstB O p
 rw [if_neg (by simpa using e2)]
 refine wpS_bind (wpS_get ?_)
 refine wpS_bind (wpS_mono (wpS_forRange (I:=λx c st'=>(∃g,st'=B4 st g)/\c.1=none/\HMid lt it a b (1+x) c.2.2.2.1 c.2.1 c.2.2.1) (Q:=λc st'=>(∃g,st'=B4 st g)/\∃R,c.1=some (R.map (kas_item it))/\Mgd lt a b R) ?_ ?_ ⟨⟨gallopOf st,rfl⟩,rfl,⟨_,rfl,by rw [sb];exact M0⟩,by show 0 < a.size - 1;omega,by show 1 < (b.map (kas_item it)).size;omega,by show a.size - 1+(b.map (kas_item it)).size+(1+0)<=_;omega⟩) ?_)
 ·rintro x ⟨c1,ia,ib,o,mg⟩ st' _ hx ⟨⟨g,rfl⟩,rfl,⟨out,eo,M⟩,ha,hb,hq⟩
  dsimp only at eo M ha hb hq ⊢
  subst eo
  refine wpS_bind (wpS_mono (wpS_forRange (I:=λy c st'=>st'=B4 st g/\c.1=none/\HMid lt it a b (1+x+y) c.2.2.2.1 c.2.1 c.2.2.1) (Q:=λc st'=>st'=B4 st g/\((∃R,c.1=some (R.map (kas_item it))/\Mgd lt a b R)\/(c.1=none/\HMid lt it a b (1+x+1) c.2.2.2.1 c.2.1 c.2.2.1))) ?_ ?_ ⟨rfl,rfl,⟨out,rfl,M⟩,ha,hb,hq⟩) ?_)
  ·clear M ha hb hq
   rintro y ⟨c1,ja,jb,o,ac,bc⟩ st' _ hy ⟨rfl,rfl,⟨out,eo,M⟩,ha,hb,hq'⟩
   dsimp only at eo M ha hb hq' ⊢
   subst eo
   have h1:=M.ha
   have h2:=M.hb
   refine wpS_bind (Bt (by omega) (wpS_bind (Bt (by omega) (wpS_bind (Uv hc (st:=B4 st g) hk (p.ib _ (by omega)) (p.ia _ (by omega)) ?_)))))
   dsimp only
   cases e:lt (b.getD (jb - 1) 0) (a.getD (ja - 1) 0) with
   | true =>
    rw [if_pos rfl]
    refine wpS_bind (Bt (by omega) ?_)
    have M1:=M.pushA p.ua ha λj hj=>by
     have e':=O.asy _ _ (p.ib _ (by omega)) (p.ia (ja - 1) (by omega)) e
     rcases Nat.eq_or_lt_of_le (show j<=jb - 1 by omega) with rfl | hj'
     ·exact e'
     ·exact O.tr _ _ _ (p.ib j (by omega)) (p.ib (jb - 1) (by omega)) (p.ia (ja - 1) (by omega)) (p.ub j (jb - 1) hj' (by omega)) e'
    simp only [Zh]
    by_cases e3:ja - 1=0
    ·rw [if_pos (by simpa using e3)]
     simp only [Zk]
     refine wpS_pure ⟨rfl,.inl ⟨_,rfl,?_⟩⟩
     have:=(show HM lt a b (out.push (at0 a (ja - 1))) 0 jb by rw [e3]at M1 ⊢;exact M1).doneA p.ub
     rw [e3]at this ⊢
     exact this
    ·rw [if_neg (by simpa using e3)]
     by_cases e4:ac+1>=mg <;> simp only [e4,if_true,if_false]
     ·exact wpS_pure ⟨rfl,.inr ⟨rfl,⟨_,rfl,M1⟩,by show 0 < ja - 1;omega,hb,by show ja - 1+jb+_<=_;omega⟩⟩
     ·exact wpS_pure ⟨rfl,rfl,⟨_,rfl,M1⟩,by show 0 < ja - 1;omega,hb,by show ja - 1+jb+_<=_;omega⟩
   | false =>
    rw [if_neg Bool.false_ne_true]
    refine wpS_bind (Bt (by omega) ?_)
    have M1:=M.pushB p.ub (by omega) λj hj=>by
     rcases Nat.eq_or_lt_of_le (show j<=ja - 1 by omega) with rfl | hj'
     ·exact e
     ·exact O.tr _ _ _ (p.ia j (by omega)) (p.ia (ja - 1) (by omega)) (p.ib (jb - 1) (by omega)) (p.ua j (ja - 1) hj' (by omega)) e
    simp only [Zh]
    by_cases e3:jb - 1=1
    ·rw [if_pos (by simpa using e3)]
     simp only [Zk]
     refine wpS_pure ⟨rfl,.inl ⟨_,rfl,?_⟩⟩
     rw [e3]at M1 ⊢
     exact M1.firstB O p
    ·rw [if_neg (by simpa using e3)]
     by_cases e4:bc+1>=mg <;> simp only [e4,if_true,if_false]
     ·exact wpS_pure ⟨rfl,.inr ⟨rfl,⟨_,rfl,M1⟩,ha,by show 1 < jb - 1;omega,by show ja+(jb - 1)+_<=_;omega⟩⟩
     ·exact wpS_pure ⟨rfl,rfl,⟨_,rfl,M1⟩,ha,by show 1 < jb - 1;omega,by show ja+(jb - 1)+_<=_;omega⟩
  ·rintro c st' ⟨_,_,⟨out,_,M⟩,ha',hb',hq'⟩
   omega
  ·rintro⟨c1,ja,jb,o,ac,bc⟩ st' ⟨rfl,⟨R,rfl,hR⟩ | ⟨rfl,hM⟩⟩
   ·exact wpS_pure ⟨⟨g,rfl⟩,R,rfl,hR⟩
   ·dsimp only at hM ⊢
    refine wpS_bind (wpS_lift (wpAny_rule ⟨rfl,?_⟩))
    refine wpS_bind (wpS_mono (wpS_forRange (I:=λy c st'=>(∃g,st'=B4 st g)/\c.1=none/\HMid lt it a b (1+x+1+y) c.2.2.2.1 c.2.1 c.2.2.1) (Q:=λc st'=>(∃g,st'=B4 st g)/\((∃R,c.1=some (R.map (kas_item it))/\Mgd lt a b R)\/(c.1=none/\HMid lt it a b (1+x+1) c.2.2.2.1 c.2.1 c.2.2.1))) ?_ ?_ ⟨⟨g,rfl⟩,rfl,hM⟩) ?_)
    ·clear hM
     rintro y ⟨c1,ja,jb,o,mg,ac,bc⟩ st' _ hy ⟨⟨g,rfl⟩,rfl,⟨out,eo,M⟩,ha,hb,hq'⟩
     dsimp only at eo M ha hb hq' ⊢
     subst eo
     have key:∀mg,wpS (model prog w) A E s (Qcb (a.map (kas_item it)) (b.map (kas_item it)) (out.map (kas_item it)) ja jb mg ac bc) _ (B4 st g):=λmg =>
      Qfo (Qd:=λc st'=>(∃g,st'=B4 st g)/\((∃R,c.1=some (R.map (kas_item it))/\Mgd lt a b R)\/(c.1=none/\HMid lt it a b (1+x+1) c.2.2.2.1 c.2.1 c.2.2.1)))
       (Qy:=λc st'=>(∃g,st'=B4 st g)/\c.1=none/\HMid lt it a b (1+x+1+(y+1)) c.2.2.2.1 c.2.1 c.2.2.1) O hc (st:=B4 st g) hk p M ha hb (q:=1+x+1+y) hq' (λR c hR e=>⟨⟨mg,rfl⟩,.inl ⟨R,e,hR⟩⟩)
       λo i j m x y hm=>⟨⟨⟨mg,rfl⟩,.inr ⟨rfl,hm.m,hm.ha,hm.hb,by have:=hm.q;show i+j+_<=_;omega⟩⟩,⟨mg,rfl⟩,rfl,hm.m,hm.ha,hm.hb,by have:=hm.q;show i+j+_<=_;omega⟩
     by_cases e4:mg > 1
     ·rw [if_pos e4]
      refine wpS_mono (key (mg - 1)) ?_
      rintro(c | c) st' hh <;> exact hh
     ·rw [if_neg e4]
      refine wpS_mono (key mg) ?_
      rintro(c | c) st' hh <;> exact hh
    ·rintro c st' ⟨⟨g,rfl⟩,h1,h2⟩
     exact⟨⟨g,rfl⟩,.inr ⟨h1,h2.m,h2.ha,h2.hb,by have:=h2.q;omega⟩⟩
    ·rintro⟨c1,ja,jb,o,mg,ac,bc⟩ st' ⟨⟨g,rfl⟩,⟨R,rfl,hR⟩ | ⟨rfl,hM⟩⟩
     ·exact wpS_pure ⟨⟨g,rfl⟩,R,rfl,hR⟩
     ·dsimp only at hM ⊢
      rw [Ck]
      refine wpS_bind (wpS_modify (wpS_pure ⟨⟨_,rfl⟩,rfl,hM.m,hM.ha,hM.hb,?_⟩))
      have:=hM.q
      show ja+jb+_<=_
      omega
 ·rintro c st' ⟨_,_,⟨out,_,M⟩,ha',hb',hq'⟩
  omega
 ·rintro⟨c1,o⟩ st' ⟨⟨g,rfl⟩,R,rfl,hR⟩
  exact wpS_pure (h R g hR)
end
theorem Mz(i:Nat):mergeAt' i=(do
 let s <- get
 let(some (sa,na,power),some (sb,nb,_)):=((pendingOf s)[i]?,(pendingOf s)[i+1]?) | unsupported "internal:list.sort.pending"
 set (setPending s (((pendingOf s).setIfInBounds i (sa,na+nb,power)).eraseIdxIfInBounds (i+1)))
 let some k <- gallop' false (<- elem' (arrOf s) sb) (arrOf s) sa na 0 | return false
 let(sa,na):=(sa+k,na - k)
 if na==0 then return true
 let some nb <- gallop' true (<- elem' (arrOf s) (sa+na - 1)) (arrOf s) sb nb (nb - 1) | return false
 if nb==0 then return true
 let x:=(arrOf s).extract sa sb
 let y:=(arrOf s).extract sb (sb+nb)
 let merged <- if na<=nb then mergeLo' x y else mergeHi' x y
 modify λs=>setArr s (merged.toList.zipIdx.foldl (λa (p,j)=>a.setIfInBounds (sa+j) p) (arrOf s))
 return (failedOf (<- get)).isNone):=rfl
section
variable {prog:Program}{w:World}{A:Around}{E:Value->Shared->Prop}{s:Shared}{κ:SortKind}{it:Array Keyed}{n:Nat}{lt:Nat->Nat->Bool}
def SS(κ:SortKind)(it:Array Keyed)(p:Array Nat)(pd:Array (Nat×Nat×Nat))(g:Nat):SortSt:=SortSt.mk' κ (p.map (kas_item it)) pd g none
def Seg(lt:Nat->Nat->Bool)(p:Array Nat)(lo len:Nat):Prop:=∀i j,lo<=i->i < j->j < lo+len->lt (at0 p j) (at0 p i)=false
theorem X1{σ:Type}{M:Model}{x:σ}{Q:PUnit->σ->Prop}{st:σ}(h:Q ⟨⟩ x):wpS M A E s (set x:StateT σ Sem PUnit) Q st:=by
 unfold wpS;rw [StateT.run_set];exact wpAny_pure ⟨rfl,h⟩
def wr{α:Type}(off:Nat):List α->Nat->Array α->Array α
 | [],_,p=>p
 | x :: xs,k,p=>wr off xs (k+1) (p.setIfInBounds (off+k) x)
theorem Qj{α:Type}(off:Nat):∀(xs:List α) (k:Nat) (p:Array α),(xs.zipIdx k).foldl (λa (z:α×Nat)=>a.setIfInBounds (off+z.2) z.1) p=wr off xs k p
 | [],_,_=>rfl
 | x :: xs,k,p=>by
  rw [List.zipIdx_cons,List.foldl_cons,wr]
  exact Qj off xs (k+1) _
theorem Uw{α β:Type}(f:α->β)(off:Nat):∀(xs:List α) (k:Nat) (p:Array α),wr off (xs.map f) k (p.map f)=(wr off xs k p).map f
 | [],_,_=>rfl
 | x :: xs,k,p=>by
  rw [List.map_cons,wr,wr,<- Uw f off xs (k+1)]
  congr 1
  rw [Array.map_setIfInBounds]
theorem Qk{α:Type}(off:Nat):∀(xs:List α) (k:Nat) (p:Array α),(wr off xs k p).size=p.size
 | [],_,_=>rfl
 | x :: xs,k,p=>by rw [wr,Qk off xs,Array.size_setIfInBounds]
theorem Oq{α:Type}(off:Nat):∀(xs:List α) (k:Nat) (p:Array α),off+k+xs.length<=p.size->∀i:Nat,(wr off xs k p)[i]?=if off+k<=i/\i < off+k+xs.length then xs[i - (off+k)]? else p[i]?
 | [],k,p,_,i=>by rw [wr,if_neg (by simp only [List.length_nil];omega)]
 | x :: xs,k,p,h,i=>by
  rw [List.length_cons]at h
  rw [wr,Oq off xs (k+1) _ (by rw [Array.size_setIfInBounds];omega),Array.getElem?_setIfInBounds,List.length_cons]
  by_cases h1:off+k=i
  ·subst h1
   rw [if_neg (by omega),if_pos rfl,if_pos (by omega),if_pos (by omega),Nat.sub_self];rfl
  ·by_cases h2:off+(k+1)<=i/\i < off+(k+1)+xs.length
   ·rw [if_pos h2,if_pos (by omega)]
    rw [show i - (off+k)=i - (off+(k+1))+1 by omega,List.getElem?_cons_succ]
   ·rw [if_neg h2,if_neg h1,if_neg (by omega)]
theorem Fw{p q:Array Nat}{i j:Nat}(h:p[i]?=q[j]?):at0 p i=at0 q j:=by
 unfold at0
 rw [Array.getD_eq_getD_getElem?,Array.getD_eq_getD_getElem?,h]
theorem Ux{p:Array Nat}{xs:List Nat}{i j:Nat}{d:Nat}(h:p[i]?=xs[j]?)(hj:j < xs.length):at0 p i=xs[j]:=by
 unfold at0
 rw [Array.getD_eq_getD_getElem?,h,List.getElem?_eq_getElem hj];rfl
theorem X3(off:Nat)(R:List Nat)(p:Array Nat)(h:off+R.length<=p.size):(wr off R 0 p).toList=p.toList.take off++R++p.toList.drop (off+R.length):=by
 apply List.ext_getElem?
 intro i
 rw [Array.getElem?_toList,Oq off R 0 p h]
 simp only [Nat.add_zero]
 have hl:(p.toList.take off).length=off:=by rw [List.length_take,Array.length_toList];omega
 by_cases h1:i < off
 ·rw [if_neg (by omega),List.append_assoc,List.getElem?_append_left (by omega),List.getElem?_take_of_lt h1,Array.getElem?_toList]
 ·by_cases h2:i < off+R.length
  ·rw [if_pos (by omega),List.getElem?_append_left (by rw [List.length_append];omega),List.getElem?_append_right (by omega),hl]
  ·rw [if_neg (by omega),List.getElem?_append_right (by rw [List.length_append];omega),List.length_append,hl,List.getElem?_drop,Array.getElem?_toList]
   congr 1;omega
theorem Dy{p:Array Nat}{i j k:Nat}(h:i+k < j)(hj:j<=p.size):at0 (p.extract i j) k=at0 p (i+k):=Fw (by
 rw [Array.getElem?_extract]
 rw [if_pos (by omega)])
theorem X4{p:Array Nat}{i j k:Nat}(h1:i<=j)(h2:j<=k):(p.extract i j).toList++(p.extract j k).toList=(p.toList.drop i).take (k - i):=by
 rw [show j=i+(j - i) by omega,Bz,show i+(j - i)=j by omega,show k=j+(k - j) by omega,Bz,show j+(k - j) - i=(j - i)+(k - j) by omega,List.take_add,List.drop_drop,show i+(j - i)=j by omega]
structure Kept(p p':Array Nat)(lo hi:Nat):Prop where
 size:p'.size=p.size
 perm:p'.toList.Perm p.toList
 same:∀i,i < lo\/hi<=i->at0 p' i=at0 p i
theorem Kept.refl{p:Array Nat}{lo hi:Nat}:Kept p p lo hi:=⟨rfl,.refl _,λ_ _=>rfl⟩
theorem Kept.trans{p q r:Array Nat}{lo hi:Nat}(h:Kept p q lo hi)(k:Kept q r lo hi):Kept p r lo hi:=⟨k.size.trans h.size,k.perm.trans h.perm,λi hi=>(k.same i hi).trans (h.same i hi)⟩
theorem Kept.mono{p q:Array Nat}{lo hi lo' hi':Nat}(h:Kept p q lo hi)(h1:lo'<=lo)(h2:hi<=hi'):Kept p q lo' hi':=⟨h.size,h.perm,λi hi=>h.same i (by omega)⟩
theorem X8{p:Array Nat}{x:Nat}(h:x∈p.toList):∃i,i < p.size/\x=at0 p i:=by
 obtain⟨i,hi,e⟩:=List.getElem_of_mem h
 rw [Array.length_toList]at hi
 refine⟨i,hi,?_⟩
 rw [<- e];simp [at0,Array.getD,hi]
theorem X9{p:Array Nat}{i:Nat}(h:i < p.size):at0 p i∈p.toList:=by
 simp [at0,Array.getD,h]
theorem Kept.in{p p':Array Nat}{lo hi:Nat}(h:Kept p p' lo hi)(hp:In n p):In n p':=λi hi=>by
 obtain⟨j,hj,e⟩:=X8 (h.perm.mem_iff.mp (X9 hi))
 rw [e];exact hp j hj
theorem Seg.kept{p p':Array Nat}{lo hi a len:Nat}(h:Seg lt p a len)(k:Kept p p' lo hi)(ho:a+len<=lo\/hi<=a):Seg lt p' a len:=λi j h1 h2 h3=>by
 rw [k.same i (by omega),k.same j (by omega)]
 exact h i j h1 h2 h3
theorem R5(O:WeakOrd n lt)(hc:Cmp prog w A κ it n lt s){p:Array Nat}{pd:Array (Nat×Nat×Nat)}{g i sa na pw nb pw2:Nat}(hp:In n p)(h1:pd[i]?=some (sa,na,pw))(h2:pd[i+1]?=some (sa+na,nb,pw2))(ha:0 < na)(hb:0 < nb)(hs:sa+na+nb<=p.size)
  (sA:Seg lt p sa na) (sB:Seg lt p (sa+na) nb) {Q:Bool->SortSt->Prop}
  (h:∀p' g',Kept p p' sa (sa+na+nb)->Seg lt p' sa (na+nb)->Q true (SS κ it p' ((pd.setIfInBounds i (sa,na+nb,pw)).eraseIdxIfInBounds (i+1)) g')):wpS (model prog w) A E s (mergeAt' i) Q (SS κ it p pd g):=by
 rw [Mz]
 refine wpS_bind (wpS_get ?_)
 have e1:(pendingOf (SS κ it p pd g))[i]?=some (sa,na,pw):=h1
 have e2:(pendingOf (SS κ it p pd g))[i+1]?=some (sa+na,nb,pw2):=h2
 rw [e1,e2]
 dsimp only
 have earr:arrOf (SS κ it p pd g)=p.map (kas_item it):=rfl
 rw [earr]
 refine wpS_bind (X1 (wpS_bind (Bt (by omega) ?_)))
 have hl:=λi (hi:i < p.size)=>hp i hi
 refine wpS_bind (Qb8 O hc (st:=SS κ it p ((pd.setIfInBounds i (sa,na+nb,pw)).eraseIdxIfInBounds (i+1)) g) rfl ha (by omega) hp (hl _ (by omega)) (λx y a1 a2 a3=>sA x y a1 a2 a3) λk k1 k2 k3=>?_)
 dsimp only
 have low:∀x,sa<=x->x < sa+k->lt (at0 p (sa+na)) (at0 p x)=false:=λx a1 a2=>by
  have:=k2 (x - sa) (by omega)
  rwa [show sa+(x - sa)=x by omega]at this
 have bfrom:∀y,sa+na<=y->y < sa+na+nb->lt (at0 p y) (at0 p (sa+na))=false:=λy a1 a2=>by
  rcases Nat.eq_or_lt_of_le a1 with rfl | a1
  ·exact O.irr (hl _ (by omega))
  ·exact sB _ y (Nat.le_refl _) a1 (by omega)
 have lowB:∀x y,sa<=x->x < sa+k->sa+na<=y->y < sa+na+nb->lt (at0 p y) (at0 p x)=false:=λx y a1 a2 a3 a4 =>
  O.tr _ _ _ (hl x (by omega)) (hl (sa+na) (by omega)) (hl y (by omega)) (low x a1 a2) (bfrom y a3 a4)
 by_cases c1:na - k=0
 ·rw [if_pos (by simpa using c1)]
  refine wpS_pure (h p g .refl λx y a1 a2 a3=>?_)
  by_cases c2:y < sa+na
  ·exact sA x y a1 a2 c2
  ·by_cases c3:x < sa+na
   ·exact lowB x y a1 (by omega) (by omega) (by omega)
   ·exact sB x y (by omega) a2 (by omega)
 rw [if_neg (by simpa using c1)]
 refine wpS_bind (Bt (by omega) ?_)
 refine wpS_bind (Qb9 O hc (st:=SS κ it p ((pd.setIfInBounds i (sa,na+nb,pw)).eraseIdxIfInBounds (i+1)) g) rfl (by omega) (by omega) hp (hl _ (by omega)) (λx y a1 a2 a3=>sB x y a1 a2 a3) λm m1 m2 m3=>?_)
 dsimp only
 have el:sa+k+(na - k) - 1=sa+na - 1:=by omega
 rw [el]at m2 m3
 have ato:∀x,sa<=x->x < sa+na->lt (at0 p (sa+na - 1)) (at0 p x)=false:=λx a1 a2=>by
  rcases Nat.eq_or_lt_of_le (show x<=sa+na - 1 by omega) with rfl | a2'
  ·exact O.irr (hl _ (by omega))
  ·exact sA x _ a1 a2' (by omega)
 have high:∀x y,sa<=x->x < sa+na->sa+na+m<=y->y < sa+na+nb->lt (at0 p y) (at0 p x)=false:=λx y a1 a2 a3 a4=>by
  have:=m3 (y - (sa+na)) (by omega) (by omega)
  rw [show sa+na+(y - (sa+na))=y by omega]at this
  exact O.tr _ _ _ (hl x (by omega)) (hl (sa+na - 1) (by omega)) (hl y (by omega)) (ato x a1 a2) this
 by_cases c2:m=0
 ·rw [if_pos (by simpa using c2)]
  refine wpS_pure (h p g .refl λx y a1 a2 a3=>?_)
  by_cases c3:y < sa+na
  ·exact sA x y a1 a2 c3
  ·by_cases c4:x < sa+na
   ·exact high x y a1 c4 (by omega) (by omega)
   ·exact sB x y (by omega) a2 (by omega)
 rw [if_neg (by simpa using c2)]
 have x1:(p.map (kas_item it)).extract (sa+k) (sa+na)=(p.extract (sa+k) (sa+na)).map (kas_item it):=Array.map_extract.symm
 have x2:(p.map (kas_item it)).extract (sa+na) (sa+na+m)=(p.extract (sa+na) (sa+na+m)).map (kas_item it):=Array.map_extract.symm
 rw [x1,x2]
 have z1:(p.extract (sa+k) (sa+na)).size=na - k:=by rw [Array.size_extract];omega
 have z2:(p.extract (sa+na) (sa+na+m)).size=m:=by rw [Array.size_extract];omega
 have pre:MPre n lt (p.extract (sa+k) (sa+na)) (p.extract (sa+na) (sa+na+m)):=by
  refine⟨by omega,by omega,λx hx=>?_,λx hx=>?_,λx y a1 a2=>?_,λx y a1 a2=>?_,?_,λy hy=>?_⟩
  ·rw [z1]at hx;rw [Dy (by omega) (by omega)];exact hl _ (by omega)
  ·rw [z2]at hx;rw [Dy (by omega) (by omega)];exact hl _ (by omega)
  ·rw [z1]at a2;rw [Dy (by omega) (by omega),Dy (by omega) (by omega)];exact sA _ _ (by omega) (by omega) (by omega)
  ·rw [z2]at a2;rw [Dy (by omega) (by omega),Dy (by omega) (by omega)];exact sB _ _ (by omega) (by omega) (by omega)
  ·rw [Dy (by omega) (by omega),Dy (by omega) (by omega)]
   have:=k3 k (Nat.le_refl _) (by omega)
   exact this
  ·rw [z2]at hy
   rw [z1,Dy (by omega) (by omega),Dy (by omega) (by omega),show sa+k+(na - k - 1)=sa+na - 1 by omega]
   exact m2 y hy
 have fin:∀(R:Array Nat) (g':Nat),Mgd lt (p.extract (sa+k) (sa+na)) (p.extract (sa+na) (sa+na+m)) R ->
   Q true (SS κ it (wr (sa+k) R.toList 0 p) ((pd.setIfInBounds i (sa,na+nb,pw)).eraseIdxIfInBounds (i+1)) g'):=λR g' hR=>by
  have hRl:R.toList.length=na - k+m:=by
   have:=hR.perm.length_eq
   rw [List.length_append,Array.length_toList,Array.length_toList,Array.length_toList,z1,z2]at this
   rw [Array.length_toList];exact this
  have hfit:sa+k+R.toList.length<=p.size:=by omega
  have el:(p.extract (sa+k) (sa+na)).toList++(p.extract (sa+na) (sa+na+m)).toList=(p.toList.drop (sa+k)).take R.toList.length:=by
   rw [X4 (by omega) (by omega),hRl]
   congr 1;omega
  have hget:=Oq (sa+k) R.toList 0 p hfit
  simp only [Nat.add_zero]at hget
  have out:∀x,x < sa+k\/sa+na+m<=x->at0 (wr (sa+k) R.toList 0 p) x=at0 p x:=λx hx=>Fw (by rw [hget,if_neg (by omega)])
  have inn:∀x,sa+k<=x->x < sa+na+m->∃hx,at0 (wr (sa+k) R.toList 0 p) x=R.toList[x - (sa+k)]'hx:=λx a1 a2=>⟨by omega,Ux (d:=0) (by rw [hget,if_pos (by omega)]) (by omega)⟩
  have mem:∀x,sa+k<=x->x < sa+na+m->∃y,sa+k<=y/\y < sa+na+m/\at0 (wr (sa+k) R.toList 0 p) x=at0 p y:=λx a1 a2=>by
   obtain⟨hx,e⟩:=inn x a1 a2
   have hm:R.toList[x - (sa+k)]∈(p.toList.drop (sa+k)).take R.toList.length:=by rw [<- el];exact hR.perm.mem_iff.mp (List.getElem_mem _)
   obtain⟨j,j1,j2,j3,j4⟩:=En hm
   exact⟨j,j1,by omega,e.trans j4⟩
  refine h _ g' ⟨Qk _ _ _ _,?_,λx hx=>out x (by omega)⟩ λx y a1 a2 a3=>?_
  ·rw [X3 _ _ _ hfit]
   have e3:p.toList=p.toList.take (sa+k)++(p.toList.drop (sa+k)).take R.toList.length++p.toList.drop (sa+k+R.toList.length):=by
    have a:=(List.take_append_drop (sa+k) p.toList).symm
    have b:=(List.take_append_drop R.toList.length (p.toList.drop (sa+k))).symm
    rw [List.drop_drop]at b
    refine a.trans ?_
    rw [List.append_assoc]
    exact congrArg _ b
   refine List.Perm.trans ?_ (List.Perm.of_eq e3.symm)
   refine List.Perm.append_right _ (List.Perm.append_left _ ?_)
   rw [<- el];exact hR.perm
  ·by_cases c3:y < sa+k
   ·rw [out x (by omega),out y (by omega)];exact sA x y a1 a2 (by omega)
   ·by_cases c4:sa+na+m<=y
    ·rw [out y (by omega)]
     by_cases c5:x < sa+k
     ·rw [out x (by omega)];exact lowB x y a1 c5 (by omega) (by omega)
     ·by_cases c6:sa+na+m<=x
      ·rw [out x (by omega)];exact sB x y (by omega) a2 (by omega)
      ·obtain⟨z,b1,b2,e⟩:=mem x (by omega) (by omega)
       rw [e]
       by_cases c7:z < sa+na
       ·exact high z y (by omega) c7 c4 (by omega)
       ·exact sB z y (by omega) (by omega) (by omega)
    ·by_cases c5:x < sa+k
     ·obtain⟨z,b1,b2,e⟩:=mem y (by omega) (by omega)
      rw [e,out x (by omega)]
      by_cases c7:z < sa+na
      ·exact sA x z a1 (by omega) c7
      ·exact lowB x z a1 c5 (by omega) (by omega)
     ·obtain⟨hx,ex⟩:=inn x (by omega) (by omega)
      obtain⟨hy,ey⟩:=inn y (by omega) (by omega)
      rw [ex,ey]
      exact List.pairwise_iff_getElem.mp hR.srt _ _ hx hy (by omega)
 have last:∀(R:Array Nat) (g':Nat),Mgd lt (p.extract (sa+k) (sa+na)) (p.extract (sa+na) (sa+na+m)) R->∀st',st'=SS κ it p ((pd.setIfInBounds i (sa,na+nb,pw)).eraseIdxIfInBounds (i+1)) g' ->
   wpS (model prog w) A E s (do
    modify λs=>setArr s ((R.map (kas_item it)).toList.zipIdx.foldl (λa (p,j)=>a.setIfInBounds (sa+k+j) p) (arrOf s))
    return (failedOf (<- get)).isNone) Q st':=λR g' hR st' e=>by
  subst e
  refine wpS_bind (wpS_modify (wpS_bind (wpS_get (wpS_pure ?_))))
  have:=fin R g' hR
  have e2:(R.map (kas_item it)).toList.zipIdx.foldl (λa (z:Keyed×Nat)=>a.setIfInBounds (sa+k+z.2) z.1) (p.map (kas_item it))=(wr (sa+k) R.toList 0 p).map (kas_item it):=by
   rw [Qj,Array.toList_map,Uw]
  show Q true (SortSt.mk' κ ((R.map (kas_item it)).toList.zipIdx.foldl (λa (z:Keyed×Nat)=>a.setIfInBounds (sa+k+z.2) z.1) (p.map (kas_item it))) _ g' none)
  rw [e2]
  exact this
 by_cases c3:na - k<=m
 ·rw [if_pos c3]
  refine wpS_bind (R3 O hc rfl pre λR g' hR=>?_)
  exact last R g' hR _ rfl
 ·rw [if_neg c3]
  refine wpS_bind (R4 O hc rfl pre λR g' hR=>?_)
  exact last R g' hR _ rfl
end
def Uy(lo nrem n:Nat):StateT SortSt Sem (Option Nat):=do
 reverseSlice' lo (lo+n)
 let mut n:=n
 for _ in [n:nrem] do
  let some smaller <- ltAt' (lo+n) (lo+n - 1) | return none
  if smaller then break
  n:=n+1
 return some n
def Uz(lo nrem n:Nat):StateT SortSt Sem (Option Nat):=do
 rule "list.sort.descending-run"
 let mut n:=n+1
 let mut neq:=0
 for _ in [n:nrem] do
  let some smaller <- ltAt' (lo+n) (lo+n - 1) | return none
  if smaller then
   if neq > 0 then reverseSlice' (lo+n - (neq+1)) (lo+n)
   neq:=0
  else
   let some larger <- ltAt' (lo+n - 1) (lo+n) | return none
   if larger then break
   neq:=neq+1
  n:=n+1
 if neq > 0 then reverseSlice' (lo+n - (neq+1)) (lo+n)
 Uy lo nrem n
theorem Lo(lo nrem:Nat):countRun' lo nrem=(do
 let mut n:=1
 for _ in [1:nrem] do
  let some smaller <- ltAt' (lo+n) (lo+n - 1) | return none
  if smaller then break
  n:=n+1
 if n==nrem then return some n
 if n > 1 then
  let some rose <- ltAt' lo (lo+n - 1) | return none
  if rose then return some n
  reverseSlice' lo (lo+n)
 Uz lo nrem n):=rfl
section
variable {prog:Program}{w:World}{A:Around}{E:Value->Shared->Prop}{s:Shared}{κ:SortKind}{it:Array Keyed}{n:Nat}{lt:Nat->Nat->Bool}{p:Array Nat}{pd:Array (Nat×Nat×Nat)}{g:Nat}
theorem G1(hc:Cmp prog w A κ it n lt s)(hp:In n p){i j:Nat}(hi:i < p.size)(hj:j < p.size){Q:Option Bool->SortSt->Prop}(h:Q (some (lt (at0 p i) (at0 p j))) (SS κ it p pd g)):wpS (model prog w) A E s (ltAt' i j) Q (SS κ it p pd g):=by
 rw [ltAt'_eq]
 refine wpS_bind (wpS_get ?_)
 show wpS _ _ _ _ (do let x <- elem' (p.map (kas_item it)) i;let y <- elem' (p.map (kas_item it)) j;lt' x y) Q _
 exact wpS_bind (Bt hi (wpS_bind (Bt hj (Uv hc rfl (hp i hi) (hp j hj) h))))
abbrev rvs(p:Array Nat)(i j:Nat):Array Nat:=mirror p i j ((j - i) / 2)
theorem Dl{i j:Nat}(hj:j<=p.size)(k:Nat):at0 (rvs p i j) k=if i<=k/\k < j then at0 p (i+j - 1 - k) else at0 p k:=by
 have e:=getElem?_mirror_all (xs:=p) (i:=i) hj k
 by_cases h:i<=k/\k < j
 ·rw [if_pos h]at e ⊢;exact Fw e
 ·rw [if_neg h]at e ⊢;exact Fw e
theorem Gi{i j:Nat}(hj:j<=p.size):Kept p (rvs p i j) i j:=⟨mirror_size _ _ _ _,(mirror_perm p i j _).toList,λk hk=>by rw [Dl hj,if_neg (by omega)]⟩
theorem Ql{i j:Nat}{Q:Unit->SortSt->Prop}(h:Q () (SS κ it (rvs p i j) pd g)):wpS (model prog w) A E s (reverseSlice' i j) Q (SS κ it p pd g):=by
 rw [reverseSlice'_eq]
 refine wpS_modify ?_
 have e:mirror (p.map (kas_item it)) i j ((j - i) / 2)=(rvs p i j).map (kas_item it):=kas_swaps_map _ _ _ _ _
 show Q () (SortSt.mk' κ (mirror (p.map (kas_item it)) i j ((j - i) / 2)) pd g none)
 rw [e];exact h
def Sw(lt:Nat->Nat->Bool)(p:Array Nat)(lo len:Nat):Prop:=∀i j,lo<=i->i < j->j < lo+len->lt (at0 p i) (at0 p j)=false
def EqS(lt:Nat->Nat->Bool)(p:Array Nat)(a b:Nat):Prop:=∀i j,a<=i->i < b->a<=j->j < b->lt (at0 p i) (at0 p j)=false
theorem Seg.next(O:WeakOrd n lt)(hp:In n p){lo m:Nat}(h:Seg lt p lo m)(h1:1<=m)(hm:lo+m < p.size)(e:lt (at0 p (lo+m)) (at0 p (lo+m - 1))=false):Seg lt p lo (m+1):=λi j a1 a2 a3=>by
 by_cases c:j < lo+m
 ·exact h i j a1 a2 c
 ·have:j=lo+m:=by omega
  subst this
  by_cases c2:i=lo+m - 1
  ·subst c2;exact e
  ·exact O.tr _ _ _ (hp i (by omega)) (hp (lo+m - 1) (by omega)) (hp (lo+m) hm) (h i (lo+m - 1) a1 (by omega) (by omega)) e
theorem Sw.next(O:WeakOrd n lt)(hp:In n p){lo m:Nat}(h:Sw lt p lo m)(h1:1<=m)(hm:lo+m < p.size)(e:lt (at0 p (lo+m - 1)) (at0 p (lo+m))=false):Sw lt p lo (m+1):=λi j a1 a2 a3=>by
 by_cases c:j < lo+m
 ·exact h i j a1 a2 c
 ·have:j=lo+m:=by omega
  subst this
  by_cases c2:i=lo+m - 1
  ·subst c2;exact e
  ·exact O.tr _ _ _ (hp (lo+m) hm) (hp (lo+m - 1) (by omega)) (hp i (by omega)) e (h i (lo+m - 1) a1 (by omega) (by omega))
theorem Sw.turn{lo k a:Nat}(hs:lo+k<=p.size)(ha:lo<=a)(h:Sw lt p lo k)(e:EqS lt p a (lo+k)):Sw lt (rvs p a (lo+k)) lo k:=λi j a1 a2 a3=>by
 rw [Dl hs,Dl hs]
 by_cases h1:a<=i
 ·rw [if_pos ⟨h1,by omega⟩,if_pos ⟨by omega,a3⟩]
  exact e _ _ (by omega) (by omega) (by omega) (by omega)
 ·rw [if_neg (by omega)]
  by_cases h2:a<=j
  ·rw [if_pos ⟨h2,a3⟩]
   exact h _ _ (by omega) (by omega) (by omega)
  ·rw [if_neg (by omega)]
   exact h _ _ a1 a2 a3
theorem Zn(O:WeakOrd n lt)(hc:Cmp prog w A κ it n lt s)(hp:In n p){lo nrem m:Nat}(h1:1<=m)(hm:m<=nrem)(hs:lo+nrem<=p.size)(h:Seg lt p lo m){F:Nat->Option (Option Nat)×Nat->StateT SortSt Sem (ForInStep (Option (Option Nat)×Nat))}
  (hF:∀x k Q,1<=k->k < nrem->(∀b,b=lt (at0 p (lo+k)) (at0 p (lo+k - 1))->Q (if b=true then ForInStep.done (none,k) else ForInStep.yield (none,k+1)) (SS κ it p pd g))->wpS (model prog w) A E s (F x (none,k)) Q (SS κ it p pd g))
  {Q:Option (Option Nat)×Nat->SortSt->Prop} (hQ:∀k,m<=k->k<=nrem->Seg lt p lo k->(k < nrem->lt (at0 p (lo+k)) (at0 p (lo+k - 1))=true)->Q (none,k) (SS κ it p pd g)):wpS (model prog w) A E s (forIn [m:nrem] ((none,m):Option (Option Nat)×Nat) F) Q (SS κ it p pd g):=by
 refine wpS_mono (wpS_forRange (I:=λx c st'=>st'=SS κ it p pd g/\c=(none,x)/\m<=x/\x<=nrem/\Seg lt p lo x) (Q:=λc st'=>st'=SS κ it p pd g/\∃k,c=(none,k)/\m<=k/\k<=nrem/\Seg lt p lo k/\(k < nrem->lt (at0 p (lo+k)) (at0 p (lo+k - 1))=true)) ?_ ?_ ⟨rfl,rfl,Nat.le_refl _,hm,h⟩) ?_
 ·rintro x c st' _ hx ⟨rfl,rfl,a1,a2,a3⟩
  refine hF x x _ (by omega) hx λb eb=>?_
  cases b with
  | true=>exact⟨rfl,x,rfl,a1,a2,a3,λ_=>eb.symm⟩
  | false=>exact⟨rfl,rfl,by omega,by omega,a3.next O hp (by omega) (by omega) eb.symm⟩
 ·rintro c st' ⟨rfl,rfl,a1,a2,a3⟩
  rw [Nat.max_eq_right hm]at a3 ⊢
  exact⟨rfl,nrem,rfl,hm,Nat.le_refl _,a3,λz=>absurd z (Nat.lt_irrefl _)⟩
 ·rintro c st' ⟨rfl,k,rfl,a1,a2,a3,a4⟩
  exact hQ k a1 a2 a3 a4
theorem U0(O:WeakOrd n lt)(hc:Cmp prog w A κ it n lt s)(hp:In n p){lo nrem m:Nat}(h1:1<=m)(hm:m<=nrem)(hs:lo+nrem<=p.size)(h:Sw lt p lo m){Q:Option Nat->SortSt->Prop}
  (hQ:∀k p',1<=k->k<=nrem->Kept p p' lo (lo+nrem)->Seg lt p' lo k->Q (some k) (SS κ it p' pd g)):wpS (model prog w) A E s (Uy lo nrem m) Q (SS κ it p pd g):=by
 unfold Uy
 refine wpS_bind (Ql ?_)
 have hk:Kept p (rvs p lo (lo+m)) lo (lo+nrem):=(Gi (by omega)).mono (Nat.le_refl _) (by omega)
 have hU:Seg lt (rvs p lo (lo+m)) lo m:=λi j a1 a2 a3=>by
  rw [Dl (by omega),Dl (by omega),if_pos ⟨by omega,a3⟩,if_pos ⟨a1,by omega⟩]
  exact h _ _ (by omega) (by omega) (by omega)
 have hp':=hk.in hp
 have hs':lo+nrem<=(rvs p lo (lo+m)).size:=by rw [hk.size];exact hs
 refine wpS_bind (Zn O hc hp' h1 hm hs' hU (λx k Q' k1 k2 q=>?_) λk k1 k2 k3 _=>wpS_pure (hQ k _ (by omega) k2 hk k3))
 refine wpS_bind (G1 hc hp' (by omega) (by omega) ?_)
 dsimp only
 have:=q _ rfl
 by_cases e:lt (at0 (rvs p lo (lo+m)) (lo+k)) (at0 (rvs p lo (lo+m)) (lo+k - 1))=true
 ·rw [if_pos e]at this ⊢;exact wpS_pure this
 ·rw [if_neg e]at this ⊢;exact wpS_pure this
theorem U1(O:WeakOrd n lt)(hc:Cmp prog w A κ it n lt s)(hp:In n p){lo nrem m:Nat}(h1:1<=m)(hm:m+1<=nrem)(hs:lo+nrem<=p.size)(h:Sw lt p lo (m+1)){Q:Option Nat->SortSt->Prop}
  (hQ:∀k p',1<=k->k<=nrem->Kept p p' lo (lo+nrem)->Seg lt p' lo k->Q (some k) (SS κ it p' pd g)):wpS (model prog w) A E s (Uz lo nrem m) Q (SS κ it p pd g):=by
 unfold Uz
 refine wpS_bind (wpS_lift (wpAny_rule ⟨rfl,?_⟩))
 have one:∀p':Array Nat,In n p'->p'.size=p.size->∀k,k < nrem->EqS lt p' (lo+(k+1) - (0+1)) (lo+(k+1)):=λp' hp' hz k hk i j a1 a2 a3 a4=>by
  have hi:i=lo+k:=by omega
  have hj:j=lo+k:=by omega
  rw [hi,hj]
  exact O.irr (hp' _ (by omega))
 refine wpS_bind (wpS_mono (wpS_forRange (I:=λx c st'=>∃p' q,st'=SS κ it p' pd g/\c=(none,x,q)/\Kept p p' lo (lo+nrem)/\q+1<=x/\x<=nrem/\Sw lt p' lo x/\EqS lt p' (lo+x - (q+1)) (lo+x))
  (Q:=λc st'=>∃p' k q,st'=SS κ it p' pd g/\c=(none,k,q)/\Kept p p' lo (lo+nrem)/\q+1<=k/\k<=nrem/\Sw lt p' lo k/\EqS lt p' (lo+k - (q+1)) (lo+k)) ?_ ?_ ⟨p,0,rfl,rfl,.refl,by omega,hm,h,one p hp rfl m (by omega)⟩) ?_)
 ·rintro x c st' _ hx ⟨p',q,rfl,rfl,K,q1,q2,D,e⟩
  have hp':=K.in hp
  have hz:=K.size
  dsimp only
  refine wpS_bind (G1 hc hp' (by omega) (by omega) ?_)
  dsimp only
  cases c1:lt (at0 p' (lo+x)) (at0 p' (lo+x - 1)) with
  | true =>
   rw [if_pos rfl]
   have c2:=O.asy _ _ (hp' _ (by omega)) (hp' _ (by omega)) c1
   by_cases hq:q > 0
   ·rw [if_pos hq]
    refine wpS_bind (Ql (wpS_pure ?_))
    have K2:Kept p' (rvs p' (lo+x - (q+1)) (lo+x)) lo (lo+nrem):=(Gi (by omega)).mono (by omega) (by omega)
    have hp2:=K2.in hp'
    refine⟨_,0,rfl,rfl,K.trans K2,by omega,by omega,(D.turn (by omega) (by omega) e).next O hp2 (by omega) (by rw [K2.size];omega) ?_,one _ hp2 (K2.size.trans hz) x (by omega)⟩
    rw [Dl (by omega),if_pos ⟨by omega,by omega⟩,Dl (by omega),if_neg (by omega),show lo+x - (q+1)+(lo+x) - 1 - (lo+x - 1)=lo+x - (q+1) by omega]
    exact O.tr _ _ _ (hp' _ (by omega)) (hp' (lo+x - 1) (by omega)) (hp' _ (by omega)) c2 (e _ _ (by omega) (by omega) (by omega) (by omega))
   ·rw [if_neg hq]
    exact wpS_pure ⟨_,0,rfl,rfl,K,by omega,by omega,D.next O hp' (by omega) (by omega) c2,one _ hp' hz x (by omega)⟩
  | false =>
   rw [if_neg Bool.false_ne_true]
   refine wpS_bind (G1 hc hp' (by omega) (by omega) ?_)
   dsimp only
   cases c2:lt (at0 p' (lo+x - 1)) (at0 p' (lo+x)) with
   | true =>
    rw [if_pos rfl]
    exact wpS_pure ⟨_,x,q,rfl,rfl,K,q1,q2,D,e⟩
   | false =>
    rw [if_neg Bool.false_ne_true]
    refine wpS_pure ⟨_,q+1,rfl,rfl,K,by omega,by omega,D.next O hp' (by omega) (by omega) c2,λi j a1 a2 a3 a4=>?_⟩
    by_cases hi:i=lo+x
    ·subst hi
     by_cases hj:j=lo+x
     ·subst hj;exact O.irr (hp' _ (by omega))
     ·exact O.tr _ _ _ (hp' j (by omega)) (hp' (lo+x - 1) (by omega)) (hp' (lo+x) (by omega)) (e (lo+x - 1) j (by omega) (by omega) (by omega) (by omega)) c1
    ·by_cases hj:j=lo+x
     ·subst hj
      exact O.tr _ _ _ (hp' (lo+x) (by omega)) (hp' (lo+x - 1) (by omega)) (hp' i (by omega)) c2 (e i (lo+x - 1) (by omega) (by omega) (by omega) (by omega))
     ·exact e i j (by omega) (by omega) (by omega) (by omega)
 ·rintro c st' ⟨p',q,rfl,rfl,K,q1,q2,D,e⟩
  exact⟨p',_,q,rfl,rfl,K,q1,q2,D,e⟩
 ·rintro c st' ⟨p',k,q,rfl,rfl,K,q1,q2,D,e⟩
  have hp':=K.in hp
  have hz:=K.size
  dsimp only
  by_cases hq:q > 0
  ·rw [if_pos hq]
   have K2:Kept p' (rvs p' (lo+k - (q+1)) (lo+k)) lo (lo+nrem):=(Gi (by omega)).mono (by omega) (by omega)
   refine wpS_bind (Ql (U0 O hc (K2.in hp') (by omega) q2 (by rw [K2.size];omega) (D.turn (by omega) (by omega) e) λk' p'' a1 a2 a3 a4=>hQ k' p'' a1 a2 ((K.trans K2).trans a3) a4))
  ·rw [if_neg hq]
   exact U0 O hc hp' (by omega) q2 (by omega) D λk' p'' a1 a2 a3 a4=>hQ k' p'' a1 a2 (K.trans a3) a4
theorem Ya(O:WeakOrd n lt)(hc:Cmp prog w A κ it n lt s)(hp:In n p){lo nrem:Nat}(h1:1<=nrem)(hs:lo+nrem<=p.size){Q:Option Nat->SortSt->Prop}
  (hQ:∀k p',1<=k->k<=nrem->Kept p p' lo (lo+nrem)->Seg lt p' lo k->Q (some k) (SS κ it p' pd g)):wpS (model prog w) A E s (countRun' lo nrem) Q (SS κ it p pd g):=by
 rw [Lo]
 refine wpS_bind (Zn O hc hp (Nat.le_refl 1) h1 hs (λi j a1 a2 a3=>by omega) (λx k Q' k1 k2 q=>?_) λk k1 k2 k3 k4=>?_)
 ·refine wpS_bind (G1 hc hp (by omega) (by omega) ?_)
  dsimp only
  have:=q _ rfl
  by_cases e:lt (at0 p (lo+k)) (at0 p (lo+k - 1))=true
  ·rw [if_pos e]at this ⊢;exact wpS_pure this
  ·rw [if_neg e]at this ⊢;exact wpS_pure this
 dsimp only
 by_cases e:k=nrem
 ·rw [if_pos (by simpa using e)]
  exact wpS_pure (hQ k p k1 k2 .refl k3)
 rw [if_neg (by simpa using e)]
 have c1:=k4 (by omega)
 have c2:=O.asy _ _ (hp (lo+k) (by omega)) (hp (lo+k - 1) (by omega)) c1
 by_cases e1:k > 1
 ·rw [if_pos e1]
  refine wpS_bind (G1 hc hp (by omega) (by omega) ?_)
  dsimp only
  cases e2:lt (at0 p lo) (at0 p (lo+k - 1)) with
  | true =>
   rw [if_pos rfl]
   exact wpS_pure (hQ k p k1 k2 .refl k3)
  | false =>
   rw [if_neg Bool.false_ne_true]
   have K:Kept p (rvs p lo (lo+k)) lo (lo+nrem):=(Gi (by omega)).mono (Nat.le_refl _) (by omega)
   have up:∀i j,lo<=i->i<=j->j < lo+k->lt (at0 p j) (at0 p i)=false:=λi j a1 a2 a3=>by
    rcases Nat.eq_or_lt_of_le a2 with rfl | a2
    ·exact O.irr (hp _ (by omega))
    ·exact k3 i j a1 a2 a3
   have all:EqS lt p lo (lo+k):=λi j a1 a2 a3 a4 =>
    O.tr _ _ _ (hp j (by omega)) (hp lo (by omega)) (hp i (by omega)) (O.tr _ _ _ (hp j (by omega)) (hp (lo+k - 1) (by omega)) (hp lo (by omega)) (up j (lo+k - 1) a3 (by omega) (by omega)) e2) (up lo i (Nat.le_refl _) a1 a2)
   have D:Sw lt (rvs p lo (lo+k)) lo k:=λi j a1 a2 a3=>by
    rw [Dl (by omega),Dl (by omega),if_pos ⟨a1,by omega⟩,if_pos ⟨by omega,a3⟩]
    exact all _ _ (by omega) (by omega) (by omega) (by omega)
   refine wpS_bind (Ql (U1 O hc (K.in hp) k1 (by omega) (by rw [K.size];omega) (D.next O (K.in hp) k1 (by rw [K.size];omega) ?_) λk' p'' a1 a2 a3 a4=>hQ k' p'' a1 a2 (K.trans a3) a4))
   rw [Dl (by omega),if_pos ⟨by omega,by omega⟩,Dl (by omega),if_neg (by omega),show lo+(lo+k) - 1 - (lo+k - 1)=lo by omega]
   exact O.tr _ _ _ (hp _ (by omega)) (hp (lo+k - 1) (by omega)) (hp lo (by omega)) c2 (all lo (lo+k - 1) (Nat.le_refl _) (by omega) (by omega) (by omega))
 ·rw [if_neg e1]
  have k0:k=1:=by omega
  subst k0
  refine U1 O hc hp (Nat.le_refl 1) (by omega) hs (Sw.next O hp (m:=1) (λi j a1 a2 a3=>by omega) (Nat.le_refl 1) (by omega) c2) hQ
end
section
variable {prog:Program}{w:World}{A:Around}{E:Value->Shared->Prop}{s:Shared}{κ:SortKind}{it:Array Keyed}{n:Nat}{lt:Nat->Nat->Bool}{p:Array Nat}{pd:Array (Nat×Nat×Nat)}{g:Nat}
theorem Qcc{src d:Nat}(hs:src < p.size)(hd:d<=src)(k:Nat):at0 (bubble p src d) k=if k=src - d then at0 p src else if src - d < k/\k<=src then at0 p (k - 1) else at0 p k:=by
 have e:=getElem?_bubble hs d hd k
 by_cases h1:k=src - d
 ·rw [if_pos h1]at e ⊢;exact Fw e
 ·rw [if_neg h1]at e ⊢
  by_cases h2:src - d < k/\k<=src
  ·rw [if_pos h2]at e ⊢;exact Fw e
  ·rw [if_neg h2]at e ⊢;exact Fw e
theorem Qcd{src dst:Nat}{Q:Unit->SortSt->Prop}(h:Q () (SS κ it (bubble p src (src - dst)) pd g)):wpS (model prog w) A E s (moveDown' src dst) Q (SS κ it p pd g):=by
 rw [moveDown'_eq]
 refine wpS_modify ?_
 have e:bubble (p.map (kas_item it)) src (src - dst)=(bubble p src (src - dst)).map (kas_item it):=kas_swaps_map _ _ _ _ _
 show Q () (SortSt.mk' κ (bubble (p.map (kas_item it)) src (src - dst)) pd g none)
 rw [e];exact h
theorem U2(O:WeakOrd n lt)(hc:Cmp prog w A κ it n lt s)(hp:In n p){lo m ok:Nat}(h1:1<=ok)(hm:ok<=m)(hs:lo+m<=p.size)(h:Seg lt p lo ok){Q:Bool->SortSt->Prop}
  (hQ:∀p',Kept p p' lo (lo+m)->Seg lt p' lo m->Q true (SS κ it p' pd g)):wpS (model prog w) A E s (binarySort' lo m ok) Q (SS κ it p pd g):=by
 rw [binarySort'_eq,Nat.max_eq_left h1]
 refine wpS_bind (wpS_mono (wpS_forRange (I:=λx c st'=>∃p',st'=SS κ it p' pd g/\c=(none,())/\Kept p p' lo (lo+m)/\Seg lt p' lo x/\x<=m) (Q:=λc st'=>∃p',st'=SS κ it p' pd g/\c=(none,())/\Kept p p' lo (lo+m)/\Seg lt p' lo m) ?_ ?_ ⟨p,rfl,rfl,.refl,h,hm⟩) ?_)
 ·rintro x c st' hx0 hx ⟨p',rfl,rfl,K,S,_⟩
  have hp':=K.in hp
  have hz:=K.size
  refine wpS_bind (wpS_mono (wpS_forRange (I:=λy c st'=>st'=SS κ it p' pd g/\∃l r,c=(none,l,r)/\l<=r/\r<=x/\r - l<=x - y/\(∀i,i < l->lt (at0 p' (lo+x)) (at0 p' (lo+i))=false)/\(∀i,r<=i->i < x->lt (at0 p' (lo+x)) (at0 p' (lo+i))=true))
   (Q:=λc st'=>st'=SS κ it p' pd g/\∃l,c=(none,l,l)/\l<=x/\(∀i,i < l->lt (at0 p' (lo+x)) (at0 p' (lo+i))=false)/\(∀i,l<=i->i < x->lt (at0 p' (lo+x)) (at0 p' (lo+i))=true)) ?_ ?_ ⟨rfl,0,x,rfl,by omega,Nat.le_refl _,by omega,λi hi=>absurd hi (Nat.not_lt_zero _),λi a1 a2=>by omega⟩) ?_)
  ·rintro y c st' _ hy ⟨rfl,l,r,rfl,a1,a2,a3,a4,a5⟩
   dsimp only
   by_cases e:l>=r
   ·rw [if_pos e]
    have:l=r:=by omega
    subst this
    exact wpS_pure ⟨rfl,l,rfl,a2,a4,a5⟩
   ·rw [if_neg e]
    refine wpS_bind (G1 hc hp' (by omega) (by omega) ?_)
    dsimp only
    cases c1:lt (at0 p' (lo+x)) (at0 p' (lo+(l+r) / 2)) with
    | true =>
     rw [if_pos rfl]
     refine wpS_pure ⟨rfl,l,(l+r) / 2,rfl,by omega,by omega,by omega,a4,λi b1 b2=>?_⟩
     rcases Nat.eq_or_lt_of_le b1 with rfl | b1
     ·exact c1
     ·exact O.low (hp' _ (by omega)) (hp' _ (by omega)) (hp' _ (by omega)) c1 (S _ _ (by omega) (by omega) (by omega))
    | false =>
     rw [if_neg Bool.false_ne_true]
     refine wpS_pure ⟨rfl,(l+r) / 2+1,r,rfl,by omega,by omega,by omega,λi b1=>?_,a5⟩
     rcases Nat.eq_or_lt_of_le (show i<=(l+r) / 2 by omega) with rfl | b2
     ·exact c1
     ·exact O.tr _ _ _ (hp' _ (by omega)) (hp' _ (by omega)) (hp' _ (by omega)) (S (lo+i) (lo+(l+r) / 2) (by omega) (by omega) (by omega)) c1
  ·rintro c st' ⟨rfl,l,r,rfl,a1,a2,a3,a4,a5⟩
   have:l=r:=by omega
   subst this
   exact⟨rfl,l,rfl,a2,a4,a5⟩
  ·rintro c st' ⟨rfl,l,rfl,a2,a4,a5⟩
   dsimp only
   refine wpS_bind (Qcd (wpS_pure ?_))
   have ed:lo+x - (lo+l)=x - l:=by omega
   rw [ed]
   have hat:=λk=>Qcc (p:=p') (src:=lo+x) (d:=x - l) (by omega) (by omega) k
   rw [show lo+x - (x - l)=lo+l by omega]at hat
   refine⟨_,rfl,rfl,K.trans ⟨bubble_size _ _ _,(bubble_perm p' _ _).toList,λi hi=>by rw [hat,if_neg (by omega),if_neg (by omega)]⟩,λi j b1 b2 b3=>?_,by omega⟩
   rw [hat i,hat j]
   by_cases i1:i=lo+l
   ·rw [if_pos i1,if_neg (by omega),if_pos (by omega)]
    have:=a5 (j - 1 - lo) (by omega) (by omega)
    rw [show lo+(j - 1 - lo)=j - 1 by omega]at this
    exact O.asy _ _ (hp' _ (by omega)) (hp' _ (by omega)) this
   ·rw [if_neg i1]
    by_cases j1:j=lo+l
    ·rw [if_pos j1,if_neg (by omega)]
     have:=a4 (i - lo) (by omega)
     rwa [show lo+(i - lo)=i by omega]at this
    ·rw [if_neg j1]
     by_cases i2:lo+l < i/\i<=lo+x
     ·rw [if_pos i2,if_pos (by omega)]
      exact S _ _ (by omega) (by omega) (by omega)
     ·rw [if_neg i2]
      by_cases j2:lo+l < j/\j<=lo+x
      ·rw [if_pos j2];exact S _ _ b1 (by omega) (by omega)
      ·rw [if_neg j2];exact S _ _ b1 b2 (by omega)
 ·rintro c st' ⟨p',rfl,rfl,K,S,a⟩
  rw [Nat.max_eq_right hm]at S
  exact⟨p',rfl,rfl,K,S⟩
 ·rintro c st' ⟨p',rfl,rfl,K,S⟩
  exact wpS_pure (hQ p' K S)
def Chain:List (Nat×Nat×Nat)->Nat->Nat->Prop
 | [],lo,hi=>lo=hi
 | (a,l,_) :: r,lo,hi=>a=lo/\0 < l/\Chain r (lo+l) hi
theorem Chain.le:∀{l:List (Nat×Nat×Nat)} {lo hi:Nat},Chain l lo hi->lo+l.length<=hi
 | [],_,_,h=>by cases h;simp
 | (a,l,_) :: r,lo,hi,h=>by have:=h.2.2.le;have:=h.2.1;rw [List.length_cons];omega
theorem Chain.app:∀{l m:List (Nat×Nat×Nat)} {lo hi:Nat},Chain (l++m) lo hi↔∃k,Chain l lo k/\Chain m k hi
 | [],m,lo,hi=>⟨λh=>⟨lo,rfl,h⟩,λ⟨k,e,h⟩=>by cases e;exact h⟩
 | (a,l,q) :: r,m,lo,hi=>by
  constructor
  ·rintro⟨h1,h2,h3⟩
   obtain⟨k,k1,k2⟩:=Chain.app.mp h3
   exact⟨k,⟨h1,h2,k1⟩,k2⟩
  ·rintro⟨k,⟨h1,h2,h3⟩,h4⟩
   exact⟨h1,h2,Chain.app.mpr ⟨k,h3,h4⟩⟩
theorem Chain.low:∀{l:List (Nat×Nat×Nat)} {lo hi:Nat},Chain l lo hi->∀e∈l,lo<=e.1/\e.1+e.2.1<=hi
 | (a,l,q) :: r,lo,hi,h,e,he=>by
  have h3:=h.2.2.le
  rcases List.mem_cons.mp he with rfl | he
  ·exact⟨by rw [h.1];exact Nat.le_refl _,by show a+l<=hi;rw [h.1];omega⟩
  ·have:=h.2.2.low e he
   exact⟨by have:=h.2.1;omega,this.2⟩
structure Wait(lt:Nat->Nat->Bool)(p:Array Nat)(l:List (Nat×Nat×Nat))(hi:Nat):Prop where
 ch:Chain l 0 hi
 sg:∀e∈l,Seg lt p e.1 e.2.1
theorem Wait.keep{p':Array Nat}{l:List (Nat×Nat×Nat)}{hi top:Nat}(h:Wait lt p l hi)(k:Kept p p' hi top):Wait lt p' l hi:=⟨h.ch,λe he=>(h.sg e he).kept k (.inl (h.ch.low e he).2)⟩
theorem M3{l:List (Nat×Nat×Nat)}{i:Nat}{a b:Nat×Nat×Nat}(h1:l[i]?=some a)(h2:l[i+1]?=some b):l=l.take i++a :: b :: l.drop (i+2):=by
 obtain⟨k1,e1⟩:=List.getElem?_eq_some_iff.mp h1
 obtain⟨k2,e2⟩:=List.getElem?_eq_some_iff.mp h2
 have a1:=(List.take_append_drop i l).symm
 rw [List.drop_eq_getElem_cons k1,List.drop_eq_getElem_cons k2,e1,e2]at a1
 exact a1
theorem Yb{pd:Array (Nat×Nat×Nat)}{i:Nat}{a b c:Nat×Nat×Nat}(h1:pd[i]?=some a)(h2:pd[i+1]?=some b):((pd.setIfInBounds i c).eraseIdxIfInBounds (i+1)).toList=pd.toList.take i++c :: pd.toList.drop (i+2):=by
 have h1':pd.toList[i]?=some a:=by rw [Array.getElem?_toList];exact h1
 have h2':pd.toList[i+1]?=some b:=by rw [Array.getElem?_toList];exact h2
 have hi:=(List.getElem?_eq_some_iff.mp h1').1
 have hj:=(List.getElem?_eq_some_iff.mp h2').1
 rw [Array.toList_eraseIdxIfInBounds,Array.toList_setIfInBounds,List.eraseIdx_eq_take_drop_succ,List.take_set,List.drop_set_of_lt (by omega)]
 have e:=M3 h1' h2'
 have hl:(pd.toList.take i).length=i:=by rw [List.length_take];omega
 rw [show i+1+1=i+2 by omega]
 have:(pd.toList.take (i+1)).set i c=pd.toList.take i++[c]:=by
  rw [List.take_succ,h1',List.set_append_right _ _ (by omega),hl,Nat.sub_self];rfl
 rw [this,List.append_assoc];rfl
theorem Ix(O:WeakOrd n lt)(hc:Cmp prog w A κ it n lt s)(hp:In n p){i hi:Nat}(hw:Wait lt p pd.toList hi)(hs:hi<=p.size)(hi2:i+1 < pd.size){Q:Bool->SortSt->Prop}
  (h:∀p' pd' g',Kept p p' 0 hi->Wait lt p' pd'.toList hi->pd'.size+1=pd.size->Q true (SS κ it p' pd' g')):wpS (model prog w) A E s (mergeAt' i) Q (SS κ it p pd g):=by
 have e1:pd[i]?=some pd[i]:=Array.getElem?_eq_getElem (by omega)
 have e2:pd[i+1]?=some pd[i+1]:=Array.getElem?_eq_getElem hi2
 generalize pd[i]'(by omega)=ea at e1
 generalize pd[i+1]=eb at e2
 obtain⟨sa,na,pw⟩:=ea
 obtain⟨sb,nb,pw2⟩:=eb
 have l1:pd.toList[i]?=some (sa,na,pw):=by rw [Array.getElem?_toList];exact e1
 have l2:pd.toList[i+1]?=some (sb,nb,pw2):=by rw [Array.getElem?_toList];exact e2
 have el:=M3 l1 l2
 have hch:=hw.ch
 rw [el]at hch
 obtain⟨k,c1,c2,c3,c4,c5,c6⟩:=Chain.app.mp hch
 subst c2
 subst c4
 have hle:=c6.le
 refine R5 O hc hp e1 e2 c3 c5 (by omega) (hw.sg _ (List.mem_of_getElem? l1)) (hw.sg _ (List.mem_of_getElem? l2)) λp' g' K S=>?_
 have eu:=Yb (c:=(sa,na+nb,pw)) e1 e2
 refine h p' _ g' (K.mono (Nat.zero_le _) (by omega)) ⟨?_,λe he=>?_⟩ ?_
 ·rw [eu]
  exact Chain.app.mpr ⟨sa,c1,rfl,by omega,by rw [<- Nat.add_assoc];exact c6⟩
 ·rw [eu]at he
  rcases List.mem_append.mp he with he | he
  ·refine(hw.sg e (List.mem_of_mem_take he)).kept K (.inl ?_)
   exact(c1.low e he).2
  ·rcases List.mem_cons.mp he with rfl | he
   ·exact S
   ·refine(hw.sg e (List.mem_of_mem_drop he)).kept K (.inr ?_)
    exact(c6.low e he).1
 ·have:=congrArg List.length eu
  have hz:=congrArg List.length el
  simp only [List.length_append,List.length_cons,Array.length_toList]at this hz
  omega
end
section
variable {prog:Program}{w:World}{A:Around}{E:Value->Shared->Prop}{s:Shared}{κ:SortKind}{it:Array Keyed}{n:Nat}{lt:Nat->Nat->Bool}{p:Array Nat}{pd:Array (Nat×Nat×Nat)}{g:Nat}
theorem Chain.mod{f:Nat×Nat×Nat->Nat×Nat×Nat}(hf:∀e,(f e).1=e.1/\(f e).2.1=e.2.1):∀{l:List (Nat×Nat×Nat)} {i lo hi:Nat},Chain l lo hi->Chain (l.modify i f) lo hi
 | [],i,lo,hi,h=>by rw [List.modify_nil];exact h
 | (a,l,q) :: r,0,lo,hi,h=>by
  rw [List.modify_zero_cons]
  have:=hf (a,l,q)
  generalize f (a,l,q)=e at this
  obtain⟨a',l',q'⟩:=e
  obtain⟨h1,h2⟩:=this
  dsimp only at h1 h2
  subst h1
  subst h2
  exact h
 | (a,l,q) :: r,i+1,lo,hi,h=>by
  rw [List.modify_succ_cons]
  exact⟨h.1,h.2.1,h.2.2.mod hf⟩
theorem Qm{f:Nat×Nat×Nat->Nat×Nat×Nat}:∀{l:List (Nat×Nat×Nat)} {i:Nat} {e:Nat×Nat×Nat},e∈l.modify i f->∃e'∈l,e=e'\/e=f e'
 | [],i,e,h=>by rw [List.modify_nil]at h;cases h
 | a :: r,0,e,h=>by
  rw [List.modify_zero_cons]at h
  rcases List.mem_cons.mp h with rfl | h
  ·exact⟨a,.head _,.inr rfl⟩
  ·exact⟨e,.tail _ h,.inl rfl⟩
 | a :: r,i+1,e,h=>by
  rw [List.modify_succ_cons]at h
  rcases List.mem_cons.mp h with rfl | h
  ·exact⟨e,.head _,.inl rfl⟩
  ·obtain⟨e',h1,h2⟩:=Qm h
   exact⟨e',.tail _ h1,h2⟩
theorem Wait.modify{f:Nat×Nat×Nat->Nat×Nat×Nat}(hf:∀e,(f e).1=e.1/\(f e).2.1=e.2.1){i hi:Nat}(h:Wait lt p pd.toList hi):Wait lt p (pd.modify i f).toList hi:=by
 rw [Array.toList_modify]
 refine⟨h.ch.mod hf,λe he=>?_⟩
 obtain⟨e',h1,h2⟩:=Qm he
 have:=h.sg e' h1
 rcases h2 with rfl | rfl
 ·exact this
 ·rw [(hf e').1,(hf e').2];exact this
theorem Wait.push{lo m:Nat}(h:Wait lt p pd.toList lo)(hm:0 < m)(S:Seg lt p lo m):Wait lt p (pd.push (lo,m,0)).toList (lo+m):=by
 rw [Array.toList_push]
 refine⟨Chain.app.mpr ⟨lo,h.ch,rfl,hm,rfl⟩,λe he=>?_⟩
 rcases List.mem_append.mp he with he | he
 ·exact h.sg e he
 ·rw [List.mem_singleton.mp he];exact S
theorem Os(O:WeakOrd n lt)(hc:Cmp prog w A κ it n lt s)(hp:In n p){Q:Unit->SortSt->Prop}(hQ:∀p' pd' g',Kept p p' 0 p.size->Seg lt p' 0 p.size->Q () (SS κ it p' pd' g')):wpS (model prog w) A E s sortRuns' Q (SS κ it p #[] g):=by
 rw [sortRuns'_eq]
 refine wpS_bind (wpS_get ?_)
 have ez:(arrOf (SS κ it p #[] g)).size=p.size:=by show(p.map _).size=_;rw [Array.size_map]
 rw [ez]
 generalize hN:p.size=N at hQ
 dsimp only
 generalize minRun' N N 0=mr
 refine wpS_bind (wpS_mono (wpS_forRange (I:=λx c st'=>∃p' pd' g' lo,st'=SS κ it p' pd' g'/\c=(none,lo)/\Kept p p' 0 N/\Wait lt p' pd'.toList lo/\lo<=N/\x<=lo) (Q:=λc st'=>∃p' pd' g',st'=SS κ it p' pd' g'/\c=(none,N)/\Kept p p' 0 N/\Wait lt p' pd'.toList N) ?_ ?_ ⟨p,#[],g,0,rfl,rfl,.refl,⟨rfl,λe he=>by simp at he⟩,Nat.zero_le _,Nat.le_refl _⟩) ?_)
 ·rintro x c st' _ hx ⟨p',pd',g',lo,rfl,rfl,K,W,hlo,hxl⟩
  have hp':=K.in hp
  have hz:=K.size
  dsimp only
  by_cases e:lo>=N
  ·rw [if_pos e]
   have:lo=N:=by omega
   subst this
   exact wpS_pure ⟨p',pd',g',rfl,rfl,K,W⟩
  rw [if_neg e]
  refine wpS_bind (Ya O hc hp' (show 1<=N - lo by omega) (by omega) λk p1 k1 k2 K1 S1=>?_)
  rw [show lo+(N - lo)=N by omega]at K1
  dsimp only
  have yes:∀(p2:Array Nat) (pd2:Array (Nat×Nat×Nat)) (g2 m:Nat),Kept p p2 0 N->Wait lt p2 pd2.toList lo->Seg lt p2 lo m->1<=m->lo+m<=N ->
    ∃p' pd' g' lo',SS κ it p2 (pd2.push (lo,m,0)) g2=SS κ it p' pd' g'/\((none:Option Unit),lo+m)=(none,lo')/\Kept p p' 0 N/\Wait lt p' pd'.toList lo'/\lo'<=N/\x+1<=lo':=λp2 pd2 g2 m K2 W2 S2 m1 m2=>⟨p2,_,g2,lo+m,rfl,rfl,K2,W2.push m1 S2,m2,by omega⟩
  by_cases e1:k < mr
  ·rw [if_pos e1]
   refine wpS_bind (wpS_lift (wpAny_rule ⟨rfl,?_⟩))
   refine wpS_bind (U2 O hc (K1.in hp') k1 (m:=min (N - lo) mr) (by omega) (by rw [K1.size];omega) S1 λp2 Kb S2=>?_)
   rw [if_neg (show ¬(!true)=true by decide)]
   have K2:Kept p p2 0 N:=(K.trans (K1.mono (Nat.zero_le _) (Nat.le_refl _))).trans (Kb.mono (Nat.zero_le _) (by omega))
   have W2:Wait lt p2 pd'.toList lo:=(W.keep K1).keep Kb
   refine wpS_bind (wpS_get ?_)
   show wpS _ _ _ _ (match pd'.back? with
    | some (s1,n1,_)=>_
    | _=>_) _ _
   cases eb:pd'.back? with
   | none =>
    dsimp only
    exact wpS_bind (wpS_modify (wpS_pure (yes p2 pd' g' _ K2 W2 S2 (by omega) (by omega))))
   | some e =>
    obtain⟨s1,n1,q1⟩:=e
    dsimp only
    refine wpS_bind (wpS_mono (wpS_forRange (I:=λ_ c st'=>∃p3 pd3 g3,st'=SS κ it p3 pd3 g3/\c=(none,())/\Kept p2 p3 0 lo/\Wait lt p3 pd3.toList lo) (Q:=λc st'=>∃p3 pd3 g3,st'=SS κ it p3 pd3 g3/\c=(none,())/\Kept p2 p3 0 lo/\Wait lt p3 pd3.toList lo) ?_ (λ_ _ z=>z) ⟨p2,pd',g',rfl,rfl,.refl,W2⟩) ?_)
    ·rintro y c st' _ _ ⟨p3,pd3,g3,rfl,rfl,K3,W3⟩
     refine wpS_bind (wpS_get ?_)
     have hp3:=K3.in (K2.in hp)
     have z3:p3.size=N:=by rw [K3.size,K2.size,hN]
     have epd:pendingOf (SS κ it p3 pd3 g3)=pd3:=rfl
     rw [epd]
     by_cases c1:pd3.size > 1
     ·rw [if_pos c1,Array.getElem?_eq_getElem (by omega)]
      generalize pd3[pd3.size - 2]'(by omega)=e3
      obtain⟨u1,u2,u3⟩:=e3
      dsimp only
      by_cases c2:u3<=power' N (2 * s1+n1) (2 * s1+n1+n1+min (N - lo) mr) N
      ·rw [if_pos c2]
       exact wpS_pure ⟨p3,pd3,g3,rfl,rfl,K3,W3⟩
      ·rw [if_neg c2]
       refine wpS_bind (Ix O hc hp3 (i:=pd3.size - 2) W3 (by omega) (by omega) λp4 pd4 g4 K4 W4 _=>?_)
       rw [if_neg (show ¬(!true)=true by decide)]
       exact wpS_pure ⟨p4,pd4,g4,rfl,rfl,K3.trans K4,W4⟩
     ·rw [if_neg c1]
      exact wpS_pure ⟨p3,pd3,g3,rfl,rfl,K3,W3⟩
    ·rintro c st' ⟨p3,pd3,g3,rfl,rfl,K3,W3⟩
     dsimp only
     refine wpS_bind (wpS_modify (wpS_bind (wpS_modify (wpS_pure ?_))))
     exact yes p3 _ g3 _ (K2.trans (K3.mono (Nat.le_refl _) (by omega))) (Wait.modify (i:=pd3.size - 1) (f:=λx=>(x.1,x.2.1,power' N (2 * s1+n1) (2 * s1+n1+n1+min (N - lo) mr) N)) (λe=>⟨rfl,rfl⟩) W3) (S2.kept K3 (.inr (Nat.le_refl _))) (by omega) (by omega)
  ·rw [if_neg e1]
   obtain⟨p2,e2⟩:∃p2,p2=p1:=⟨_,rfl⟩
   subst e2
   have S2:=S1
   have K2:Kept p p2 0 N:=K.trans (K1.mono (Nat.zero_le _) (Nat.le_refl _))
   have W2:Wait lt p2 pd'.toList lo:=W.keep K1
   refine wpS_bind (wpS_get ?_)
   show wpS _ _ _ _ (match pd'.back? with
    | some (s1,n1,_)=>_
    | _=>_) _ _
   cases eb:pd'.back? with
   | none =>
    dsimp only
    exact wpS_bind (wpS_modify (wpS_pure (yes p2 pd' g' _ K2 W2 S2 k1 (by omega))))
   | some e =>
    obtain⟨s1,n1,q1⟩:=e
    dsimp only
    refine wpS_bind (wpS_mono (wpS_forRange (I:=λ_ c st'=>∃p3 pd3 g3,st'=SS κ it p3 pd3 g3/\c=(none,())/\Kept p2 p3 0 lo/\Wait lt p3 pd3.toList lo) (Q:=λc st'=>∃p3 pd3 g3,st'=SS κ it p3 pd3 g3/\c=(none,())/\Kept p2 p3 0 lo/\Wait lt p3 pd3.toList lo) ?_ (λ_ _ z=>z) ⟨p2,pd',g',rfl,rfl,.refl,W2⟩) ?_)
    ·rintro y c st' _ _ ⟨p3,pd3,g3,rfl,rfl,K3,W3⟩
     refine wpS_bind (wpS_get ?_)
     have hp3:=K3.in (K2.in hp)
     have z3:p3.size=N:=by rw [K3.size,K2.size,hN]
     have epd:pendingOf (SS κ it p3 pd3 g3)=pd3:=rfl
     rw [epd]
     by_cases c1:pd3.size > 1
     ·rw [if_pos c1,Array.getElem?_eq_getElem (by omega)]
      generalize pd3[pd3.size - 2]'(by omega)=e3
      obtain⟨u1,u2,u3⟩:=e3
      dsimp only
      by_cases c2:u3<=power' N (2 * s1+n1) (2 * s1+n1+n1+k) N
      ·rw [if_pos c2]
       exact wpS_pure ⟨p3,pd3,g3,rfl,rfl,K3,W3⟩
      ·rw [if_neg c2]
       refine wpS_bind (Ix O hc hp3 (i:=pd3.size - 2) W3 (by omega) (by omega) λp4 pd4 g4 K4 W4 _=>?_)
       rw [if_neg (show ¬(!true)=true by decide)]
       exact wpS_pure ⟨p4,pd4,g4,rfl,rfl,K3.trans K4,W4⟩
     ·rw [if_neg c1]
      exact wpS_pure ⟨p3,pd3,g3,rfl,rfl,K3,W3⟩
    ·rintro c st' ⟨p3,pd3,g3,rfl,rfl,K3,W3⟩
     dsimp only
     refine wpS_bind (wpS_modify (wpS_bind (wpS_modify (wpS_pure ?_))))
     exact yes p3 _ g3 _ (K2.trans (K3.mono (Nat.le_refl _) (by omega))) (Wait.modify (i:=pd3.size - 1) (f:=λx=>(x.1,x.2.1,power' N (2 * s1+n1) (2 * s1+n1+n1+k) N)) (λe=>⟨rfl,rfl⟩) W3) (S2.kept K3 (.inr (Nat.le_refl _))) k1 (by omega)
 ·rintro c st' ⟨p',pd',g',lo,rfl,rfl,K,W,hlo,hxl⟩
  have:lo=N:=by omega
  subst this
  exact⟨p',pd',g',rfl,rfl,K,W⟩
 ·rintro c st' ⟨p',pd',g',rfl,rfl,K,W⟩
  dsimp only
  have h0:pd'.size<=N:=by have:=W.ch.le;rw [Array.length_toList]at this;omega
  refine wpS_bind (wpS_mono (wpS_forRange (I:=λx c st'=>∃p' pd' g',st'=SS κ it p' pd' g'/\c=(none,())/\Kept p p' 0 N/\Wait lt p' pd'.toList N/\(pd'.size<=1\/pd'.size+x<=N)) (Q:=λc st'=>∃p' pd' g',st'=SS κ it p' pd' g'/\c=(none,())/\Kept p p' 0 N/\Wait lt p' pd'.toList N/\pd'.size<=1) ?_ ?_ ⟨p',pd',g',rfl,rfl,K,W,.inr (by omega)⟩) ?_)
  ·clear K W h0
   rintro x c st' _ hx ⟨p',pd',g',rfl,rfl,K,W,hsz⟩
   refine wpS_bind (wpS_get ?_)
   have epd:pendingOf (SS κ it p' pd' g')=pd':=rfl
   rw [epd]
   by_cases e1:pd'.size<=1
   ·rw [if_pos e1]
    exact wpS_pure ⟨p',pd',g',rfl,rfl,K,W,e1⟩
   rw [if_neg e1]
   have go:∀i,i+1 < pd'.size->wpS (model prog w) A E s (mergeAt' i) (λb st'=>b=true/\∃p2 pd2 g2,st'=SS κ it p2 pd2 g2/\Kept p p2 0 N/\Wait lt p2 pd2.toList N/\(pd2.size<=1\/pd2.size+(x+1)<=N)) (SS κ it p' pd' g'):=λi hi =>
    Ix O hc (K.in hp) W (by rw [K.size];omega) hi λp2 pd2 g2 K2 W2 hz2=>⟨rfl,p2,pd2,g2,rfl,K.trans K2,W2,by omega⟩
   refine wpS_bind (wpS_mono (go _ ?_) ?_)
   ·have lem:∀(c:Prop) [Decidable c],(if c then pd'.size - 2 - 1 else pd'.size - 2)+1 < pd'.size:=λc _=>by
     by_cases h:c
     ·rw [if_pos h];omega
     ·rw [if_neg h];omega
    exact lem _
   ·rintro b st' ⟨rfl,p2,pd2,g2,rfl,K2,W2,h2⟩
    rw [if_neg (show ¬(!true)=true by decide)]
    exact wpS_pure ⟨p2,pd2,g2,rfl,rfl,K2,W2,h2⟩
  ·rintro c st' ⟨p',pd',g',rfl,rfl,K,W,hsz⟩
   exact⟨p',pd',g',rfl,rfl,K,W,by omega⟩
  ·clear K W h0
   rintro c st' ⟨p',pd',g',rfl,rfl,K,W,hsz⟩
   refine wpS_pure (hQ p' pd' g' K ?_)
   have hch:=W.ch
   have hsg:=W.sg
   rw [<- Array.length_toList]at hsz
   generalize pd'.toList=l at hch hsg hsz
   match l,hch,hsg,hsz with
   | [],h,_,_=>cases h;exact λi j _ _ h3=>by omega
   | [(a,m,q)],h,hs,_ =>
    obtain⟨h1,h2,h3⟩:=h
    have:=hs (a,m,q) (.head _)
    have h3:0+m=N:=h3
    rw [h1,show m=N by omega]at this
    exact this
   | _ :: _ :: _,_,_,h=>simp at h
theorem StrictOrd.weak(O:StrictOrd n lt):WeakOrd n lt:=by
 have asy:∀a b,a < n->b < n->lt a b=true->lt b a=false:=λa b ha hb h=>by
  cases c:lt b a with
  | false=>rfl
  | true =>
   have:=O.tr a b a ha hb ha h c
   rw [O.irr a ha]at this;cases this
 refine⟨λa b c ha hb hc h1 h2=>?_,asy⟩
 by_cases e1:b=a
 ·subst e1;exact h2
 by_cases e2:c=b
 ·subst e2;exact h1
 exact asy a c ha hc (O.tr a b c ha hb hc (O.tot b a hb ha e1 h1) (O.tot c b hc hb e2 h2))
theorem StrictOrd.up(O:StrictOrd n lt)(P:Pm n p)(h:UpW lt p n):Up lt p n:=λi j hij hj=>O.tot _ _ (P.lt j hj) (P.lt i (by omega)) (P.inj j i hj (by omega) (by omega)) (h i j hij hj)
theorem Yc{vs:List Value}{lt:Nat->Nat->Bool}(O:WeakOrd vs.length lt){κ:SortKind}(q2:∀i j C,i < vs.length->j < vs.length->C (lt i j) s->kas_ask prog w A κ vs i j C s){Q:SortSt->Shared->Prop}
  (hQ:∀(p:Array Nat) (st:SortSt),Pm vs.length p->UpW lt p vs.length->arrOf st=p.map (kas_item (vs.toArray.zip vs.toArray))->failedOf st=none->Q st s) :
  wpAny (model prog w) A ((sortRuns').run (SortSt.mk' κ (vs.toArray.zip vs.toArray) #[] 7 none)) (λr s'=>Q r.2 s') E s:=by
 have hsz:(vs.toArray.zip vs.toArray).size=vs.length:=by simp
 have est:SortSt.mk' κ (vs.toArray.zip vs.toArray) #[] 7 none=SS κ (vs.toArray.zip vs.toArray) (List.toArray (List.range vs.length)) #[] 7:=by
  have e:=kas_range (vs.toArray.zip vs.toArray)
  rw [hsz]at e
  show SortSt.mk' κ (vs.toArray.zip vs.toArray) #[] 7 none=SortSt.mk' κ ((List.toArray (List.range vs.length)).map (kas_item (vs.toArray.zip vs.toArray))) #[] 7 none
  rw [e]
 rw [est]
 have hc:Cmp prog w A κ (vs.toArray.zip vs.toArray) vs.length lt s:=λi j C hi hj h=>by
  have:=q2 i j C hi hj h
  rwa [kat_ask_eq rfl]at this
 have hin:In vs.length (List.toArray (List.range vs.length)):=λi hi=>by
  simp at hi
  simp [at0,Array.getD,hi]
 have hps:(List.toArray (List.range vs.length)).size=vs.length:=by simp
 have:=Os (E:=E) (g:=7) O hc hin (Q:=λ_ st=>Q st s) λp' pd' g' K S=>by
  have P:Pm vs.length p':=Zf (by have:=K.perm;simpa using this)
  refine hQ p' _ P (λi j hij hj=>?_) rfl rfl
  exact S i j (Nat.zero_le _) hij (by rw [hps];omega)
 refine wpAny_mono this (λr s' h=>?_) λ_ _ e=>e
 obtain⟨rfl,h⟩:=h
 exact h
end
end L2
namespace L2
open PySem
def Qce(A:Around)(s:Shared)(u v:Value)(b:Bool):Prop:=∀(prog:Program) (w:World) (E:Value->Shared->Prop) (Q:Value->Shared->Prop),Q (.bool b) s->wpAny (model prog w) A (richCompare .Lt u v) Q E s
inductive LexAt (A:Around) (s:Shared):List Value->List Value->Bool->Prop
 | nil {ys:List Value}:LexAt A s [] ys (decide (0 < ys.length))
 | stop {x:Value} {xs:List Value}:LexAt A s (x :: xs) [] false
 | eq {x y:Value} {xs ys:List Value} {r:Bool}:SeqAt.EqAt A s x y true->LexAt A s xs ys r->LexAt A s (x :: xs) (y :: ys) r
 | ne {x y:Value} {xs ys:List Value} {r:Bool}:SeqAt.EqAt A s x y false->Qce A s x y r->LexAt A s (x :: xs) (y :: ys) r
section
variable {prog:Program}{w:World}{A:Around}{E:Value->Shared->Prop}{s:Shared}
theorem LexAt.ends{xs ys:List Value}{r:Bool}(h:LexAt A s xs ys r)(e:xs.zip ys=[]):r=decide (xs.length < ys.length):=by
 cases h with
 | nil=>simp
 | stop=>simp
 | eq=>simp at e
 | ne=>simp at e
theorem Ju{a b:Addr}{oa ob:Obj}{xs ys:Array Value}{n k:Nat}{P:PySem.Fin->Shared->Prop}{r:Bool}(ha:s.heap.get? a=some oa)(hb:s.heap.get? b=some ob)(cb:ob.cls=.type "tuple") (da:oa.data=.seq xs n) (db:ob.data=.seq ys k)
  (h:LexAt A s xs.toList ys.toList r) (q:P (.done (.ret (.bool r))) s):wpAny (model prog w) A (Builtin.«tuple.__lt__» ⟨[.ref a,.ref b],[]⟩) P E s:=by
 have tb:s.TypeIs (.ref b) "tuple" := ⟨ob,hb,cb⟩
 refine(show wpAny _ _ (isInstance (.ref b) (.type "tuple") >>= _) _ _ s from wpAny_bind (wpAny_isInstance tb isSubtype_tuple_tuple ?_))
 rw [show(!true)=false from rfl,if_neg Bool.false_ne_true]
 refine wpAny_bind (wpAny_tupleItemsOf ha da (wpAny_bind (wpAny_tupleItemsOf hb db (wpAny_bind ?_))))
 refine wpAny_forIn_list _ (λleft acc s1=>acc.1=none/\s1=s/\∃us vs,left=List.zip us vs/\LexAt A s us vs r/\decide (us.length < vs.length)=decide (xs.size < ys.size)) _ ?_ ?_ _ _ ⟨rfl,rfl,xs.toList,ys.toList,rfl,h,by simp⟩
 ·rintro⟨u,v⟩ left acc s1 ⟨ea,rfl,us,vs,ez,hl,hn⟩
  cases hl with
  | nil=>simp at ez
  | stop=>simp at ez
  | eq h1 h2 =>
   simp only [List.zip_cons_cons,List.cons.injEq,Prod.mk.injEq]at ez
   obtain⟨⟨rfl,rfl⟩,rfl⟩:=ez
   refine wpAny_bind (h1 prog w _ _ ?_)
   dsimp only
   rw [show(!true)=false from rfl,if_neg Bool.false_ne_true]
   exact wpAny_pure ⟨rfl,rfl,_,_,rfl,h2,by simpa using hn⟩
  | ne h1 h2 =>
   simp only [List.zip_cons_cons,List.cons.injEq,Prod.mk.injEq]at ez
   obtain⟨⟨rfl,rfl⟩,rfl⟩:=ez
   refine wpAny_bind (h1 prog w _ _ ?_)
   simp only [Bool.not_false,if_true]
   exact wpAny_bind (wpAny_rule (wpAny_bind (h2 prog w _ _ (wpAny_bind (wpAny_pure (wpAny_pure (wpAny_pure q)))))))
 ·rintro⟨a1,a2⟩ s1 ⟨ea,rfl,us,vs,ez,hl,hn⟩
  simp only at ea
  subst ea
  have e:=hl.ends ez.symm
  rw [e,hn]at q
  exact wpAny_pure q
theorem Ot{a b:Addr}{oa ob:Obj}{xs ys:Array Value}{n k:Nat}{r:Bool}(ha:s.heap.get? a=some oa)(hb:s.heap.get? b=some ob)(ca:oa.cls=.type "tuple") (cb:ob.cls=.type "tuple") (da:oa.data=.seq xs n) (db:ob.data=.seq ys k)
  (hu:A.units < cLine) (h:LexAt A.in1 s xs.toList ys.toList r):Qce A s (.ref a) (.ref b) r:=λprog w E Q q =>
 wpAny_richCompare_same_room (T := "tuple") ⟨oa,ha,ca⟩ ⟨ob,hb,cb⟩ F.slot_tuple_lt (wpAny_call_entry F.slot_tuple_lt ⟨oa,ha,ca⟩ F.entry_tuple_lt (Ju ha hb cb da db h ⟨_,rfl,(λz=>nomatch z),q⟩) (F.args_tuple_lt_2 _ _)) hu
end
mutual
def cmpb:PyData->PyData->Bool
 | .int _,.int _=>true
 | .tuple xs,.tuple ys=>cmpbs xs ys
 | _,_=>false
def cmpbs:List PyData->List PyData->Bool
 | [],_=>true
 | _ :: _,[]=>true
 | x :: xs,y :: ys=>if PyData.eqv x y then cmpbs xs ys else cmpb x y
end
theorem U3{u a b c d:Nat}(h:u+min (max a b) (max c d) < cLine):u+min a c < cLine:=by omega
theorem Qcf{u a b c d:Nat}(h:u+min (max a b) (max c d) < cLine):u+min b d < cLine:=by omega
mutual
theorem Iy:∀(x y:PyData) (A:Around) (s:Shared) (u v:Value) (as bs:List Addr),Reads s.heap u x as->Reads s.heap v y bs->x.canLay0=true->y.canLay0=true->cmpb x y=true->A.units+min x.depth y.depth < cLine->Qce A s u v (Fj x y)
 | .int a,.int b,A,s,u,v,as,bs,r1,r2,_,_,_,_=>by
  cases r1;cases r2
  intro prog w E Q q
  have e:Fj (.int a) (.int b)=decide (a < b):=by simp [Fj]
  rw [e]at q
  exact wpAny_lt_int q
 | .tuple xs,.tuple ys,A,s,u,v,as,bs,r1,r2,c1,c2,hc,hu=>by
  cases r1 with
  | tuple a1 a2 a3 a4 =>
   cases r2 with
   | tuple b1 b2 b3 b4 =>
    have e:Fj (.tuple xs) (.tuple ys)=C1 xs ys:=by simp [Fj]
    rw [e]
    simp only [PyData.canLay0]at c1 c2
    simp only [cmpb]at hc
    simp only [PyData.depth]at hu
    refine Ot a1 b1 a2 b2 a3 b3 (by omega) (E6 xs ys A.in1 s _ _ _ _ a4 b4 c1 c2 hc ?_)
    show A.units+1+_ < _
    omega
 | .int _,.none,_,_,_,_,_,_,_,_,_,_,h,_=>by simp [cmpb]at h
 | .int _,.bool _,_,_,_,_,_,_,_,_,_,_,h,_=>by simp [cmpb]at h
 | .int _,.str _,_,_,_,_,_,_,_,_,_,_,h,_=>by simp [cmpb]at h
 | .int _,.list _,_,_,_,_,_,_,_,_,_,_,h,_=>by simp [cmpb]at h
 | .int _,.tuple _,_,_,_,_,_,_,_,_,_,_,h,_=>by simp [cmpb]at h
 | .int _,.dict _,_,_,_,_,_,_,_,_,_,_,h,_=>by simp [cmpb]at h
 | .tuple _,.none,_,_,_,_,_,_,_,_,_,_,h,_=>by simp [cmpb]at h
 | .tuple _,.bool _,_,_,_,_,_,_,_,_,_,_,h,_=>by simp [cmpb]at h
 | .tuple _,.str _,_,_,_,_,_,_,_,_,_,_,h,_=>by simp [cmpb]at h
 | .tuple _,.list _,_,_,_,_,_,_,_,_,_,_,h,_=>by simp [cmpb]at h
 | .tuple _,.int _,_,_,_,_,_,_,_,_,_,_,h,_=>by simp [cmpb]at h
 | .tuple _,.dict _,_,_,_,_,_,_,_,_,_,_,h,_=>by simp [cmpb]at h
 | .none,_,_,_,_,_,_,_,_,_,_,_,h,_=>by simp [cmpb]at h
 | .bool _,_,_,_,_,_,_,_,_,_,_,_,h,_=>by simp [cmpb]at h
 | .str _,_,_,_,_,_,_,_,_,_,_,_,h,_=>by simp [cmpb]at h
 | .list _,_,_,_,_,_,_,_,_,_,_,_,h,_=>by simp [cmpb]at h
 | .dict _,_,_,_,_,_,_,_,_,_,_,_,h,_=>by simp [cmpb]at h
theorem E6:∀(xs ys:List PyData) (A:Around) (s:Shared) (us vs:List Value) (as bs:List Addr),ReadsAll s.heap us xs as->ReadsAll s.heap vs ys bs->PyData.canLayAll0 xs=true->PyData.canLayAll0 ys=true->cmpbs xs ys=true->A.units+min (PyData.depthAll xs) (PyData.depthAll ys) < cLine->LexAt A s us vs (C1 xs ys)
 | [],ys,A,s,us,vs,as,bs,r1,r2,_,_,_,_=>by
  cases r1
  have e:C1 [] ys=decide (0 < vs.length):=by
   cases r2 <;> simp [C1]
  rw [e]
  exact .nil
 | x :: xs,[],A,s,us,vs,as,bs,r1,r2,_,_,_,_=>by
  cases r2
  cases r1 with
  | cons a1 a2 =>
   have e:C1 (x :: xs) []=false:=by simp [C1]
   rw [e]
   exact .stop
 | x :: xs,y :: ys,A,s,us,vs,as,bs,r1,r2,c1,c2,hc,hu=>by
  simp only [PyData.canLayAll0,Bool.and_eq_true]at c1 c2
  simp only [PyData.depthAll]at hu
  cases r1 with
  | cons a1 a2 =>
   cases r2 with
   | cons b1 b2 =>
    have q:=SeqAt.eqAt_reads x y A s _ _ _ _ a1 b1 c1.1 c2.1 (U3 hu)
    simp only [cmpbs]at hc
    simp only [C1]
    cases e:PyData.eqv x y with
    | true =>
     rw [e]at q hc
     exact .eq q (E6 xs ys A s _ _ _ _ a2 b2 c1.2 c2.2 hc (Qcf hu))
    | false =>
     rw [e]at q hc
     exact .ne q (Iy x y A s _ _ _ _ a1 b1 c1.1 c2.1 hc (U3 hu))
end
end L2
namespace L2
open PySem PySem.W PyProof.Rows
section
variable {prog:Program}{w:World}{A:Around}{E:Value->Shared->Prop}{s:Shared}
theorem Yd{fin b:Bool}{Q:Bool->Shared->Prop}:∀{us vs:List Value} {r:Bool},LexAt A s us vs r->fin=decide (us.length < vs.length)->∀i,Q r s->KatLex prog w A b fin Q (us.zip vs) (i+1) s:=by
 intro us vs r h
 induction h with
 | nil =>
  intro e i q
  have e':fin=decide (0 < _):=e
  rw [<- e']at q
  exact kat_nil q
 | stop =>
  intro e i q
  have e':fin=false:=by rw [e];simp
  rw [<- e']at q
  exact kat_nil q
 | eq h1 h2 ih =>
  intro e i q
  exact kat_cons (h1 prog w _ _ (kat_yes (ih (by rw [e];simp) (i+1) q)))
 | ne h1 h2 =>
  intro e i q
  refine kat_cons (h1 prog w _ _ (kat_no ?_))
  have eb:(b && i+1==0)=false:=by simp
  rw [eb]
  exact kat_one _ _ (h2 prog w _ _ (show PySem.W.BoolBack Q (.bool _) s from q))
theorem Qcg{x y:Addr}{a b:Int}{ra rb:List PyData}{as bs:List Addr}{Q:Bool->Shared->Prop}(r1:Reads s.heap (.ref x) (.tuple (.int a :: ra)) as)(r2:Reads s.heap (.ref y) (.tuple (.int b :: rb)) bs)(c1:(PyData.tuple (.int a :: ra)).canLay0=true)(c2:(PyData.tuple (.int b :: rb)).canLay0=true)
  (hc:cmpb (.tuple (.int a :: ra)) (.tuple (.int b :: rb))=true) (hu:A.units+64 < cLine) (hd:(PyData.tuple (.int a :: ra)).depth<=64) (q:Q (Fj (.tuple (.int a :: ra)) (.tuple (.int b :: rb))) s):wpAny (model prog w) A (keyLt' (tuples' true) (.ref x) (.ref y)) Q E s:=by
 cases r1 with
 | @tuple _ ox xs n _ _ a1 a2 a3 a4 =>
  cases r2 with
  | @tuple _ oy ys m _ _ b1 b2 b3 b4 =>
   refine kat_lt a1 a3 b1 b3 ?_
   simp only [PyData.canLay0,PyData.canLayAll0,Bool.and_eq_true]at c1 c2
   simp only [PyData.depth,PyData.depthAll]at hd
   simp only [cmpb,cmpbs]at hc
   simp only [Fj,C1]at q
   have ex:xs.size=xs.toList.length:=by simp
   have ey:ys.size=ys.toList.length:=by simp
   rw [ex,ey]
   generalize xs.toList=us at a4 ⊢
   generalize ys.toList=vs at b4 ⊢
   cases a4 with
   | cons u1 u2 =>
    cases b4 with
    | cons v1 v2 =>
     cases u1 with
     | int _ t =>
      cases v1 with
      | int _ t' =>
       rw [List.zip_cons_cons]
       have e0:=SeqAt.eqAt_reads (.int a) (.int b) A s _ _ _ _ (.int a t) (.int b t') rfl rfl (by simp [PyData.depth];omega)
       cases e:PyData.eqv (.int a) (.int b) with
       | true =>
        rw [e]at e0 hc q
        refine kat_cons (e0 prog w _ _ (kat_yes ?_))
        refine Yd (E6 ra rb A s _ _ _ _ u2 v2 c1.2 c2.2 hc (by omega)) (by simp) 0 q
       | false =>
        rw [e]at e0 hc q
        refine kat_cons (e0 prog w _ _ (kat_no ?_))
        exact kat_lt_int q
theorem Iz{a:Addr}{vs:List Value}{lt:Nat->Nat->Bool}{n:Nat}{P:PySem.Fin->Shared->Prop}(ho:s.heap.get? a=some (seqObj "list" vs.toArray n)) (h64:vs.length < 1000) (O:StrictOrd vs.length lt)
  (hk:2<=vs.length->∀h':Heap,(∀b o,b≠a->s.heap.get? b=some o->h'.get? b=some o)->∃ κ,(∀Q:SortKind->Shared->Prop,Q κ { s with heap:=h' }->wpAny (model prog w) A (keyKind' vs.toArray) Q E { s with heap:=h' }) /\
   ∀i j C,i < vs.length->j < vs.length->C (lt i j) { s with heap:=h' }->kas_ask prog w A κ vs i j C { s with heap:=h' })
  (h:∀(p:Array Nat) (h':Heap) (c:Nat),Pm vs.length p->Up lt p vs.length->(∀b o,b≠a->s.heap.get? b=some o->h'.get? b=some o)->h'.get? a=some (seqObj "list" (p.toList.map λi=>vs.getD i Value.none).toArray c)->P (.done (.ret .none)) { s with heap:=h' }) :
  wpAny (model prog w) A (Builtin.«list.sort» ⟨[.ref a],[]⟩) P E s:=by
 obtain⟨e1,ho1⟩:∃e1,(s.heap.update a (Obj.mapSeq λ_=>(#[]:Array Value))).get? a=some (seqObj "list" #[] e1):=⟨_,get?_update_seq ho λ_=>#[]⟩
 have sz:vs.toArray.size<=sizeLine:=by rw [List.size_toArray];exact Nat.le_trans (Nat.le_of_lt h64) (by decide)
 have k2:∀b o,b≠a->s.heap.get? b=some o->(((s.heap.update a (Obj.mapSeq λ_=>(#[]:Array Value))).push (seqObj "tuple" vs.toArray 0)).push (seqObj "list" #[] 0)).get? b=some o:=λb o hb e =>
  Heap.get?_push_of_some _ (Heap.get?_push_of_some _ (((Heap.SameBut.update s.heap a _).2 b hb).trans e))
 have ho2:(((s.heap.update a (Obj.mapSeq λ_=>(#[]:Array Value))).push (seqObj "tuple" vs.toArray 0)).push (seqObj "list" #[] 0)).get? a=some (seqObj "list" #[] e1):=Heap.get?_push_of_some _ (Heap.get?_push_of_some _ ho1)
 rw [list_sort_plain]
 refine wpAny_bind (listItems_at ho rfl (wpAny_bind (listUpdate_at ho rfl (wpAny_bind (seqEpoch_at ho1 rfl (wpAny_bind (wpAny_newTuple (wpAny_bind (wpAny_newList (wpAny_holding ?_) (Nat.zero_le _))) (by simpa using sz))))) sz (Nat.zero_le _))))
 show wpAny (model prog w) A _ P E { s with heap:=(((s.heap.update a (Obj.mapSeq λ_=>(#[]:Array Value))).push (seqObj "tuple" vs.toArray 0)).push (seqObj "list" #[] 0)) }
 generalize ((s.heap.update a (Obj.mapSeq λ_=>(#[]:Array Value))).push (seqObj "tuple" vs.toArray 0)).push (seqObj "list" #[] 0)=h2 at k2 ho2 ⊢
 dsimp only
 have fin:∀(st:SortSt) (p:Array Nat),(arrOf st).map (·.2)=List.toArray (p.toList.map λi=>vs.getD i Value.none)->failedOf st=none->Pm vs.length p->Up lt p vs.length->∀Q:Heap->Prop,(∀(h':Heap) (c:Nat),(∀b o,b≠a->s.heap.get? b=some o->h'.get? b=some o)->h'.get? a=some (seqObj "list" (p.toList.map λi=>vs.getD i Value.none).toArray c)->Q h') ->
   Q (h2.update a (Obj.mapSeq λ_=>(arrOf st).map (·.2))):=λst p e _ _ _ Q q=>by
  rw [e]
  exact q _ _ (λb o hb eb=>((Heap.SameBut.update h2 a _).2 b hb).trans (k2 b o hb eb)) (get?_update_seq ho2 _)
 by_cases h1:vs.toArray.size < 2
 ·rw [if_pos h1,if_pos h1]
  refine wpAny_bind (wpAny_pure ?_)
  rw [StateT.run_pure]
  have pm:Pm vs.length (List.range vs.length).toArray:=Zf (by simp)
  have up:Up lt (List.range vs.length).toArray vs.length:=λi j hij hj=>by
   rw [List.size_toArray]at h1
   omega
  have ev:(arrOf (SortSt.mk' general' (vs.toArray.zip vs.toArray) #[] 7 none)).map (·.2)=List.toArray ((List.range vs.length).toArray.toList.map λi=>vs.getD i Value.none):=by
   have ek:=kat_snds (ks:=vs) (vs:=vs) (st:=SortSt.mk' general' (vs.toArray.zip vs.toArray) #[] 7 none) (p:=(List.range vs.length).toArray) rfl (by
    have e:=kas_range (vs.toArray.zip vs.toArray)
    rw [show(vs.toArray.zip vs.toArray).size=vs.length by simp]at e
    exact e.symm)
   exact ek
  have fn:=fin _ _ ev rfl pm up (λh'=>P (.done (.ret .none)) { s with heap:=h' }) (λh' c k e=>h _ h' c pm up k e)
  refine wpAny_bind (wpAny_pure (wpAny_bind (seqEpoch_at ho2 rfl (wpAny_bind (listUpdate_at ho2 rfl ?_ (Nat.zero_le _) ?_)))))
  ·rw [show failedOf (SortSt.mk' general' (vs.toArray.zip vs.toArray) #[] 7 none)=none from rfl,bne_self_eq_false,if_neg Bool.false_ne_true]
   exact wpAny_pure fn
  ·refine Nat.le_trans ?_ (Nat.le_succ_of_le sz)
   show(Array.map _ _).size<=_
   rw [ev];simp
 ·rw [if_neg h1,if_neg h1]
  have hn2:2<=vs.length:=by rw [List.size_toArray]at h1;omega
  obtain⟨κ,q1,q2⟩:=hk hn2 h2 k2
  refine wpAny_bind (q1 _ ?_)
  refine wpAny_bind (wpAny_mono (Yc O.weak q2 (Q:=λst s1=>s1={ s with heap:=h2 }/\∃p:Array Nat,(arrOf st).map (·.2)=List.toArray (p.toList.map λi=>vs.getD i Value.none)/\failedOf st=none/\Pm vs.length p/\Up lt p vs.length)
   λp st pm up ea ef=>⟨rfl,p,kat_snds rfl ea,ef,pm,O.up pm up⟩) ?_ λ_ _ e=>e)
  rintro⟨⟨⟩,st⟩ s1 ⟨rfl,p,ev,ef,pm,up⟩
  dsimp only
  have fn:=fin _ _ ev ef pm up (λh'=>P (.done (.ret .none)) { s with heap:=h' }) (λh' c k e=>h _ h' c pm up k e)
  refine wpAny_bind (seqEpoch_at ho2 rfl (wpAny_bind (listUpdate_at ho2 rfl ?_ (Nat.zero_le _) ?_)))
  ·rw [ef,bne_self_eq_false,if_neg Bool.false_ne_true]
   exact wpAny_pure fn
  ·refine Nat.le_trans ?_ (Nat.le_succ_of_le sz)
   show(Array.map _ _).size<=_
   rw [ev]
   simp [pm.size]
end
end L2
namespace L2
open PySem PySem.Spec PyProof.Rows
structure SortOk(ds:List PyData):Prop where
 len:ds.length < 1000
 can:PyData.canLayAll0 ds=true
 dp:PyData.depthAll ds<=64
 cano:Ao ds=true
 nd:ds.Nodup
 fst:2<=ds.length->∀d∈ds,∃i r,d=.tuple (.int i :: r)
 cmp:∀d∈ds,∀e∈ds,cmpb d e=true
def ltI(ds:List PyData)(i j:Nat):Bool:=Fj (ds.getD i .none) (ds.getD j .none)
theorem Ci:∀{ds:List PyData},Ao ds=true->∀d∈ds,Cano d=true
 | d :: ds,h,e,he=>by
  simp only [Ao,Bool.and_eq_true]at h
  rcases List.mem_cons.mp he with rfl | he
  ·exact h.1
  ·exact Ci h.2 e he
theorem Fx:∀{ds:List PyData},PyData.canLayAll0 ds=true->∀d∈ds,d.canLay0=true
 | d :: ds,h,e,he=>by
  simp only [PyData.canLayAll0,Bool.and_eq_true]at h
  rcases List.mem_cons.mp he with rfl | he
  ·exact h.1
  ·exact Fx h.2 e he
theorem Ki:∀{ds:List PyData},∀d∈ds,d.depth<=PyData.depthAll ds
 | d :: ds,e,he=>by
  simp only [PyData.depthAll]
  rcases List.mem_cons.mp he with rfl | he
  ·omega
  ·have:=Ki (ds:=ds) e he
   omega
theorem C9{α:Type}{xs:List α}{i:Nat}{d:α}(h:i < xs.length):xs.getD i d∈xs:=by
 rw [List.getD_eq_getElem?_getD,List.getElem?_eq_getElem h];exact List.getElem_mem h
theorem G2{α:Type}{xs:List α}{i:Nat}{d:α}(h:i < xs.length):xs[i]?=some (xs.getD i d):=by
 rw [List.getD_eq_getElem?_getD,List.getElem?_eq_getElem h];rfl
theorem SortOk.ord{ds:List PyData}(h:SortOk ds):StrictOrd ds.length (ltI ds):=by
 refine⟨λa b c ha hb hc h1 h2=>?_,λa b ha hb hab h1=>?_,λa ha=>Qf _ (Ci h.cano _ (C9 ha))⟩
 ·exact Uu _ _ _ (Ci h.cano _ (C9 ha)) (Ci h.cano _ (C9 hb)) (Ci h.cano _ (C9 hc)) h1 h2
 ·refine Qg _ _ (Ci h.cano _ (C9 ha)) (Ci h.cano _ (C9 hb)) (λe=>hab ?_) h1
  refine(List.getElem?_inj ha h.nd).mp ?_
  rw [G2 (d:=PyData.none) ha,G2 (d:=PyData.none) hb,e]
theorem Qch{h:Heap}:∀{us:List Value} {ds:List PyData} {as:List Addr} {i:Nat},ReadsAll h us ds as->i < ds.length->∃bs,Reads h (us.getD i .none) (ds.getD i .none) bs
 | _,_,_,0,.cons r _,_=>⟨_,r⟩
 | _,_,_,i+1,.cons _ t,hi=>Qch (i:=i) t (by simpa using hi)
theorem M4{h:Heap}:∀{us:List Value} {ds:List PyData} {as:List Addr},ReadsAll h us ds as->(∀d∈ds,∃i r,d=.tuple (.int i :: r))->∃fs:List Value,PySem.W.KatTups h us fs/\fs.length=us.length/\∀v∈fs,∃i t,v=.int i t
 | _,_,_,.nil,_=>⟨[],PySem.W.KatTups.nil,rfl,λ_ z=>nomatch z⟩
 | _,_,_,.cons r t,hd=>by
  obtain⟨fs,k,l,z⟩:=M4 t λd hd'=>hd d (List.mem_cons_of_mem _ hd')
  obtain⟨i,r',rfl⟩:=hd _ List.mem_cons_self
  cases r with
  | @tuple a o vs n xs as a1 a2 a3 a4 =>
   cases hv:vs.toList with
   | nil=>rw [hv]at a4;cases a4
   | cons v0 vr =>
    rw [hv]at a4
    cases a4 with
    | cons u1 u2 =>
     cases u1 with
     | int _ t0 =>
      refine⟨.int i t0 :: fs,PySem.W.KatTups.cons a1 a2 a3 ?_ k,by simp [l],λv hv'=>?_⟩
      ·rw [<- Array.getElem?_toList,hv];rfl
      ·rcases List.mem_cons.mp hv' with rfl | hv'
       ·exact⟨_,_,rfl⟩
       ·exact z v hv'
theorem Ja{α:Type}(xs:List α)(d:α):(List.range xs.length).map (λi=>xs.getD i d)=xs:=by
 apply List.ext_getElem?
 intro i
 rw [List.getElem?_map]
 by_cases h:i < xs.length
 ·rw [List.getElem?_range h,G2 (d:=d) h];rfl
 ·rw [List.getElem?_eq_none (by simpa using h),List.getElem?_eq_none (by simpa using h)];rfl
section
variable {X:Cx}{k:Nat}
end
section
variable {prog:Program}{w:World}{A:Around}{E:Value->Shared->Prop}{s:Shared}
end
section
variable {X:Cx}{tg a:Expr}{ta:AE}{pos p:Pos}
end
section
variable {X:Cx}{o e f:Expr}{apos cpos:Pos}{td ty tx:AE}
end
section
variable {X:Cx}{e:Expr}{te:AE}{p p2 pos pos2:Pos}
end
end L2
namespace L2
open PySem
def Ed(xs:Array Nat):Prop:=xs.toList.Pairwise (· < ·)
theorem Ed.lt{xs:Array Nat}(h:Ed xs){i j:Nat}{d:Nat}(hij:i < j)(hj:j < xs.size):xs.getD i d < xs.getD j d:=by
 have:=List.pairwise_iff_getElem.mp h i j (by simp;omega) (by simpa using hj) hij
 simp only [Array.getElem_toList]at this
 simp only [Array.getD,show i < xs.size by omega,hj,dif_pos]
 exact this
theorem Jb{xs:Array Nat}(h:Ed xs){j:Nat}:∀(f lo hi:Nat),hi - lo<=f->lo<=hi->hi<=xs.size->(∀i,i < lo->xs.getD i j < j)->(∀i,hi<=i->i < xs.size->j<=xs.getD i j) ->
  SetTable.below.go xs j f lo hi<=xs.size/\(∀i,i < SetTable.below.go xs j f lo hi->xs.getD i j < j)/\∀i,SetTable.below.go xs j f lo hi<=i->i < xs.size->j<=xs.getD i j
 | 0,lo,hi,h1,h2,h3,h4,h5=>by
  have e:lo=hi:=by omega
  subst e
  exact⟨h3,h4,h5⟩
 | f+1,lo,hi,h1,h2,h3,h4,h5=>by
  rw [SetTable.below.go]
  by_cases c:lo < hi
  ·rw [if_pos c]
   dsimp only
   by_cases c2:xs.getD ((lo+hi) / 2) j < j
   ·rw [if_pos c2]
    refine Jb h f _ _ (by omega) (by omega) h3 (λi hi'=>?_) h5
    by_cases e:i=(lo+hi) / 2
    ·rw [e];exact c2
    ·have:=h.lt (d:=j) (show i < (lo+hi) / 2 by omega) (show(lo+hi) / 2 < xs.size by omega)
     omega
   ·rw [if_neg c2]
    refine Jb h f _ _ (by omega) (by omega) (by omega) h4 (λi hi' hs=>?_)
    by_cases e:i=(lo+hi) / 2
    ·rw [e];omega
    ·have:=h.lt (d:=j) (show(lo+hi) / 2 < i by omega) hs
     omega
  ·rw [if_neg c]
   have e:lo=hi:=by omega
   subst e
   exact⟨h3,h4,h5⟩
theorem Ee{xs:Array Nat}(h:Ed xs)(j:Nat):SetTable.below xs j<=xs.size/\(∀i,i < SetTable.below xs j->xs.getD i j < j)/\∀i,SetTable.below xs j<=i->i < xs.size->j<=xs.getD i j :=
 Jb h xs.size 0 xs.size (by omega) (Nat.zero_le _) (Nat.le_refl _) (λi hi=>absurd hi (Nat.not_lt_zero _)) λi hi hs=>by omega
theorem Ou{xs:Array Nat}(h:Ed xs){k:Nat}(hk:k < xs.size):SetTable.below xs (xs[k]+1)=k+1:=by
 obtain⟨b1,b2,b3⟩:=Ee h (xs[k]+1)
 have g:∀i,(hi:i < xs.size)->xs.getD i (xs[k]+1)=xs[i]:=λi hi=>by simp [Array.getD,hi]
 rcases Nat.lt_trichotomy (SetTable.below xs (xs[k]+1)) (k+1) with c | c | c
 ·have:=b3 k (by omega) hk
  rw [g k hk]at this
  omega
 ·exact c
 ·have h1:k+1 < xs.size:=by omega
  have:=b2 (k+1) c
  rw [g _ h1]at this
  have h2:=h.lt (d:=0) (Nat.lt_succ_self k) h1
  simp only [Array.getD,hk,h1,dif_pos]at h2
  have h3:xs[k] < xs[k+1]:=h2
  omega
theorem Ov{xs:Array Nat}(h:Ed xs):SetTable.below xs 0=0:=by
 obtain⟨b1,b2,b3⟩:=Ee h 0
 rcases Nat.eq_zero_or_pos (SetTable.below xs 0) with e | e
 ·exact e
 ·have:=b2 0 e;omega
theorem E7{α:Type}(xs:Array α)(p:Nat)(x:α)(hp:p<=xs.size):(SetTable.insertAt xs p x).toList=xs.toList.take p++x :: xs.toList.drop p:=by
 rw [SetTable.toList_insertAt]
theorem M5{xs:Array Nat}(h:Ed xs){j:Nat}(hj:xs[SetTable.below xs j]?≠some j):Ed (SetTable.insertAt xs (SetTable.below xs j) j):=by
 obtain⟨b1,b2,b3⟩:=Ee h j
 unfold Ed
 rw [E7 _ _ _ b1]
 have ht:∀a∈xs.toList.take (SetTable.below xs j),a < j:=λa ha=>by
  obtain⟨i,hi,e⟩:=List.getElem_of_mem ha
  have h1:i < SetTable.below xs j:=by
   rw [List.length_take]at hi;omega
  have:=b2 i h1
  simp only [Array.getD,show i < xs.size by omega,dif_pos]at this
  rw [<- e]
  simpa using this
 have hd:∀a∈xs.toList.drop (SetTable.below xs j),j < a:=λa ha=>by
  obtain⟨i,hi,e⟩:=List.getElem_of_mem ha
  have h1:SetTable.below xs j+i < xs.size:=by
   rw [List.length_drop]at hi;simp at hi;omega
  have h2:=b3 _ (Nat.le_add_right _ i) h1
  simp only [Array.getD,h1,dif_pos]at h2
  have e2:a=xs[SetTable.below xs j+i]:=by rw [<- e];simp
  have h3:a≠j:=by
   intro z
   by_cases c:i=0
   ·subst c
    apply hj
    rw [Array.getElem?_eq_getElem (by omega)]
    exact congrArg some (e2.symm.trans z)
   ·have h0:SetTable.below xs j < xs.size:=by omega
    have h4:=b3 _ (Nat.le_refl _) h0
    simp only [Array.getD,h0,dif_pos]at h4
    have h5:=h.lt (d:=0) (show SetTable.below xs j < SetTable.below xs j+i by omega) h1
    simp only [Array.getD,h0,h1,dif_pos]at h5
    have h5':xs[SetTable.below xs j] < xs[SetTable.below xs j+i]:=h5
    have h4':j<=xs[SetTable.below xs j]:=h4
    omega
  have h2':j<=xs[SetTable.below xs j+i]:=h2
  omega
 refine List.pairwise_append.mpr ⟨h.sublist (List.take_sublist _ _),List.pairwise_cons.mpr ⟨hd,h.sublist (List.drop_sublist _ _)⟩,λa ha b hb=>?_⟩
 rcases List.mem_cons.mp hb with rfl | hb
 ·exact ht a ha
 ·have:=ht a ha
  have:=hd b hb
  omega
structure TblOk(t:SetTable)(led:Bool):Prop where
 rise:Ed t.place
 dum:t.dummies=#[]
 led:t.led=led
theorem TblOk.plain{t:SetTable}{led:Bool}(h:TblOk t led)(b:Bool):TblOk { t with plain:=b } led:=⟨h.rise,h.dum,h.led⟩
theorem M6(j:Nat):SetTable.has #[] j=false:=by
 unfold SetTable.has
 simp
theorem Ow{t:SetTable}{led:Bool}(h:TblOk t led){j:Nat}(e:t.slot j=.empty):t.place[SetTable.below t.place j]?≠some j:=by
 unfold SetTable.slot at e
 dsimp only at e
 split at e
 ·cases e
 ·rename_i c
  simpa using c
theorem TblOk.put{t:SetTable}{led:Bool}(h:TblOk t led){s:Nat}(hs:t.place[SetTable.below t.place s]?≠some s):TblOk (t.put s).1 led:=by
 refine⟨M5 h.rise hs,?_,h.led⟩
 show(if SetTable.has t.dummies s then _ else t.dummies)=#[]
 rw [h.dum,M6];rfl
theorem TblOk.laid{mask finger moves:Nat}{led plain:Bool}{hs:Array Int}{t:SetTable}{order:Array Nat}(e:SetTable.laid mask finger moves led plain hs=some (t,order)):TblOk t led:=by
 unfold SetTable.laid at e
 cases c:SetTable.layClean mask hs with
 | none=>rw [c]at e;cases e
 | some owner =>
  rw [c]at e
  have e':=Option.some.inj e
  injection e' with e1 _
  subst e1
  refine⟨?_,rfl,rfl⟩
  unfold Ed
  show(List.map _ _).Pairwise _
  rw [List.pairwise_map]
  refine List.Pairwise.filterMap _ (R:=(· < ·)) (λa a' haa b hb b' hb'=>?_) List.pairwise_lt_range
  obtain⟨z,_,rfl⟩:=Option.map_eq_some_iff.mp hb
  obtain⟨z',_,rfl⟩:=Option.map_eq_some_iff.mp hb'
  exact haa
theorem TblOk.fresh(led:Bool):TblOk (.fresh 0 0 led) led:=⟨List.Pairwise.nil,rfl,rfl⟩
section
variable {prog:Program}{w:World}{Kt:Type} [DecidableEq Kt]{knd:KeyKind prog w Kt}{A:Around}{E:Value->Shared->Prop}{s:Shared}{a:Addr}{led:Bool}
end
theorem Gj:plainId "set.update.loop" = true:=by decide +kernel
theorem M7:entryFor table "set.update.loop" = some Builtin.«set.update.loop»:=entryFor_of_tree (by kernel_rfl)
section
variable {prog:Program}{w:World}{Kt:Type} [DecidableEq Kt]{knd:KeyKind prog w Kt}{A:Around}{R:Result->Shared->Prop}{sa it t:Addr}{led:Bool}
end
section
variable {prog:Program}{w:World}{A:Around}{E:Value->Shared->Prop}{s:Shared}
theorem U4{M:Model}{self v:Value}{Q:Unit->Shared->Prop}(hT:s.TypeIs self "set") (q:Q () s):wpAny M A (checkBuiltinCall "set.__init__" ⟨[self,v],[]⟩) Q E s:=by
 simp only [checkBuiltinCall,kind_set_init,split_set_init,sig_set_init]
 refine wpAny_bind (wpAny_isInstance hT sub_set_self (show wpAny _ _ _ _ _ _ from ?_))
 rw [show(!true)=false from rfl,if_neg Bool.false_ne_true]
 unfold Bind.checkArgs
 dsimp only
 refine wpAny_bind (m:=Bind.printed "set" true _ _) (PyProof.Rows.printed_name (by decide) (wpAny_bind (m:=Bind.printed "*" false _ _) (PyProof.Rows.printed_star (self:=self) rfl hT λshort=>?_)))
 have e:(if(Manifest.Receiver.self==Manifest.Receiver.none)=true then [self,v].length else [self,v].length - 1)=1:=rfl
 rw [e]
 have hc:Bind.check ⟨.positional,"set","*",.self,[⟨"iterable",.posOnly,false⟩]⟩ "set" short 1 []=pure ():=by simp +decide [Bind.check,Bind.checkCount,Bind.isPositional]
 simp only [List.map_nil]
 rw [hc];exact wpAny_pure q
theorem Ye(v:Value):checkTypeCall "set" ⟨[v],[]⟩=pure ():=by kernel_rfl
theorem Qci(v:Value):checkBuiltinCall "set.__new__" ⟨[.type "set",v],[]⟩=pure ():=by kernel_rfl
def Fo(w:World):Bool:=!(w.params.followText "set-order")
def B9(w:World):Obj:={ cls:=.type "set",dict:=none,data:=.set #[] 0 (.fresh 0 0 (Fo w)) }
theorem Yf{v:Value}{Q1:Value->Shared->Prop}(h:Q1 (.ref s.heap.objs.size) { s with heap:=s.heap.push (B9 w) }) :
  codeAny (model prog w) A (.call (.builtin "set.__new__") ⟨[.type "set",v],[]⟩) (wants Q1 E) s:=by
 refine codeAny_of_tree (show wpAny _ A.in1 (do checkBuiltinCall "set.__new__" ⟨[.type "set",v],[]⟩;again (.builtin "set.__new__" ⟨[.type "set",v],[]⟩)) _ _ s from ?_)
 refine wpAny_bind (wpAny_of_eq (Qci v) (wpAny_pure ⟨plainId_quiet F.plain_set_new _,codeAny_builtin F.entry_set_new (show wpAny _ _ _ _ _ _ from ?_)⟩))
 rw [Around.under_plainId F.plain_set_new _]
 unfold Builtin.«set.__new__» Builtin.Frozenset.newClass
 have k1:=sub_set_self
 obtain⟨hp,g,d,tk,os⟩:=s
 dsimp only
 wp_walk
 refine wpAny_askSetting (wpAny_pure (show wpAny _ _ _ _ _ _ from ?_))
 dsimp only
 simp only [newObj]
 exact wpAny_bind (wpAny_alloc (wpAny_pure (wpAny_pure h)))
theorem Ox{v:Value}{Q:Value->Shared->Prop}(h:wpAny (model prog w) A.in1.in1 (Builtin.Frozenset.updateFrom "set.__init__" s.heap.objs.size v) (λ_ s2=>Q (.ref s.heap.objs.size) s2) E { s with heap:=s.heap.push (B9 w) }) :
  wpAny (model prog w) A (call (.type "set") [v]) Q E s:=by
 obtain⟨c,tl,hmro⟩:=F.called_set.mro
 have k1:=F.called_set.made
 have k2:=F.called_set.sub
 refine wpAny_call (codeAny_of_tree (show wpAny _ _ (callAny (.type "set") _) _ _ _ from ?_))
 refine wpAny_pure ⟨Code.quiet_builtin _ (by decide +kernel),codeAny_builtin F.entry_type_call ?_⟩
 rw [Around.under_plain (weight_type_call_type "set" [v] []) rfl]
 have k3:=F.called_set.notType
 have k4:=F.called_set.canCreate
 have k5:=Ye v
 repeat any_goals first | assumption | wp_step
 refine codeAny_mono (Yf (E:=E) (Q1:=λob s1=>ob=.ref s.heap.objs.size/\s1={ s with heap:=s.heap.push (B9 w) }) ⟨rfl,rfl⟩) λr s1 hr=>?_
 cases r with
 | error e=>exact hr
 | ok fl =>
  cases fl with
  | ret ob =>
   obtain⟨rfl,rfl⟩:=hr
   have g:(s.heap.push (B9 w)).get? s.heap.objs.size=some (B9 w):=Heap.get?_push_size _ rfl
   have T:Shared.TypeIs { s with heap:=s.heap.push (B9 w) } (.ref s.heap.objs.size) "set" := ⟨_,g,rfl⟩
   have k6:=F.called_set.init.lookup
   have k7:=F.called_set.init.bind (.ref s.heap.objs.size)
   repeat any_goals first | assumption | wp_step
   refine codeAny_mono (codeAny_call_builtin (R:=wants (λr s2=>r=.none/\Q (.ref s.heap.objs.size) s2) E) F.called_set.init.plain F.entry_set_init (U4 T ?_)) λr2 s2 hr2=>?_
   ·unfold Builtin.«set.__init__» noKeywords
    generalize hU:Builtin.Frozenset.updateFrom=U at h ⊢
    unfold B9 at g
    wp_walk
    exact wpAny_mono h (λ_ _ q=>wpAny_pure ⟨rfl,q⟩) λ_ _ e=>e
   ·cases r2 with
    | error e=>exact hr2
    | ok fl2 =>
     cases fl2 with
     | ret z =>
      obtain⟨rfl,q⟩:=hr2
      repeat any_goals first | assumption | wp_step
     | _=>exact hr2.elim
  | _=>exact hr.elim
end
section
theorem M8:isSubtype (.type "tuple") (.type "set")=pure false:=by rw [isSubtype_type];kernel_rfl
theorem M9:isSubtype (.type "tuple") (.type "frozenset")=pure false:=by rw [isSubtype_type];kernel_rfl
end
section
variable {prog:Program}{w:World}{Kt:Type} [DecidableEq Kt]{knd:KeyKind prog w Kt}{A:Around}{E:Value->Shared->Prop}{s:Shared}{sa t:Addr}{led:Bool}
end
theorem Na:Manifest.owners.lookup (String.ofList ['r','o','t','a','r','e','t','i','_','t','e','s'].reverse)=some Manifest.sig_set_iterator:=by kernel_rfl
theorem Dr:Slot "set_iterator" "__next__" "set_iterator.__next__" := .of (owner := "set_iterator") (n := "__next__") (by rw [typeLookup_type,builtinLookup_eq_fast];kernel_rfl) (by decide +kernel) (by decide +kernel) (by decide +kernel) (.inl (by decide +kernel)) (by rw [isSubtype_type];kernel_rfl)
theorem Nb:entryFor table "set_iterator.__next__" = some Builtin.«set_iterator.__next__»:=entryFor_of_tree (by kernel_rfl)
theorem Qn(a:Value):argsOk "set_iterator.__next__" ⟨[a],[]⟩:=by
 rw [argsOk,signature?_of (id := "set_iterator.__next__") (n:=['_','_','t','x','e','n','_','_']) (o:=['r','o','t','a','r','e','t','i','_','t','e','s']) (by kernel_rfl) Na];kernel_rfl
theorem Qo:Slot "set_iterator" "__iter__" "set_iterator.__iter__" := .of (owner := "set_iterator") (n := "__iter__") (by rw [typeLookup_type,builtinLookup_eq_fast];kernel_rfl) (by decide +kernel) (by decide +kernel) (by decide +kernel) (.inl (by decide +kernel)) (by rw [isSubtype_type];kernel_rfl)
theorem U5(a:Value):argsOk "set_iterator.__iter__" ⟨[a],[]⟩:=by
 rw [argsOk,signature?_of (id := "set_iterator.__iter__") (n:=['_','_','r','e','t','i','_','_']) (o:=['r','o','t','a','r','e','t','i','_','t','e','s']) (by kernel_rfl) Na];kernel_rfl
theorem R6:entryFor table "set_iterator.__iter__" = some Builtin.«dict_keyiterator.__iter__»:=entryFor_alias (id' := "dict_keyiterator.__iter__") (by kernel_rfl) (by first | rfl | decide +kernel) (by decide +kernel) (by kernel_rfl)
theorem Oy:entryFor table "set.__iter__" = some Builtin.«frozenset.__iter__»:=entryFor_alias (id' := "frozenset.__iter__") (by kernel_rfl) (by first | rfl | decide +kernel) (by decide +kernel) (by kernel_rfl)
section
variable {prog:Program}{w:World}{A:Around}{E:Value->Shared->Prop}{s:Shared}
theorem Oz{M:Model}{src:Source}{n:Nat}{Q:Nat->Shared->Prop}(hn:n≠0)(h:∀i d',i < n->Q i { s with drawn:=d' }):wpAny M A (choose src n) Q E s:=fun Γ p _=>by
 unfold choose
 rw [Sem.wp_choose]
 refine⟨hn,?_⟩
 rw [Sem.wp_pure]
 exact h _ _ (Nat.mod_lt _ (Nat.pos_of_ne_zero hn))
theorem G3{α:Type}:∀{xs:List α} {i:Nat} {x:α},xs[i]?=some x->(x :: xs.eraseIdx i).Perm xs
 | _ :: _,0,_,h=>by simp at h;subst h;exact List.Perm.refl _
 | y :: ys,i+1,x,h=>by
  have:=G3 (xs:=ys) (i:=i) (x:=x) (by simpa using h)
  exact(List.Perm.swap y x _).trans (this.cons y)
theorem Jc{M:Model}{α:Type}:∀(n:Nat) (xs:List α) (s:Shared) (Q:List α->Shared->Prop),xs.length=n->(∀ys d',ys.Perm xs->Q ys { s with drawn:=d' })->wpAny M A (drawOrder n xs) Q E s
 | 0,xs,s,Q,hn,h=>by
  have:xs=[]:=List.eq_nil_of_length_eq_zero hn
  subst this
  exact wpAny_pure (h [] s.drawn (List.Perm.refl _))
 | n+1,[],s,Q,hn,h=>by cases hn
 | n+1,x :: xs,s,Q,hn,h=>by
  unfold drawOrder
  refine wpAny_bind (Oz (by simp) λi d1 hi=>?_)
  have e:(x :: xs)[i]?=some (x :: xs)[i]:=List.getElem?_eq_getElem hi
  rw [e]
  refine wpAny_bind (Jc n _ _ _ ?_ λys d2 hp=>wpAny_pure (h _ d2 ((hp.cons _).trans (G3 e))))
  rw [List.length_eraseIdx_of_lt hi];simp at hn ⊢;omega
theorem Qp{α:Type}(next:Nat->Nat):∀(n k:Nat) (left:List α) (out:Array α),left.length=n->(pickOrder.go next n k left out).toList.Perm (out.toList++left)
 | 0,k,left,out,hn=>by
  have:left=[]:=List.eq_nil_of_length_eq_zero hn
  subst this
  unfold pickOrder.go
  simp
 | n+1,k,left,out,hn=>by
  unfold pickOrder.go
  have hl:next k % left.length < left.length:=Nat.mod_lt _ (by omega)
  have e:left[next k % left.length]?=some left[next k % left.length]:=List.getElem?_eq_getElem hl
  rw [e]
  dsimp only
  refine(Qp next n (k+1) _ _ (by rw [List.length_eraseIdx_of_lt hl];omega)).trans ?_
  rw [Array.toList_push,List.append_assoc]
  exact(G3 e).append_left _
theorem R7{α:Type}(next:Nat->Nat)(xs:Array α):(pickOrder next xs).toList.Perm xs.toList:=by
 unfold pickOrder
 simpa using Qp next xs.size 0 xs.toList #[] (by simp)
def Dm(h:Heap)(a:Addr)(es:Array (Int×Value))(ep:Nat)(t:SetTable):Prop:=∃o,h.get? a=some o/\o.cls=.type "set" /\ o.data=.set es ep t/\t.fits es.size=true
theorem Dm.typeIs{a:Addr}{es:Array (Int×Value)}{ep:Nat}{t:SetTable}(x:Dm s.heap a es ep t):s.TypeIs (.ref a) "set" := let⟨o,ho,hc,_⟩:=x;⟨o,ho,hc⟩
theorem Dm.at{h h':Heap}{a:Addr}{es:Array (Int×Value)}{ep:Nat}{t:SetTable}(x:Dm h a es ep t)(e:∀o,h.get? a=some o->h'.get? a=some o):Dm h' a es ep t:=let⟨o,ho,r⟩:=x;⟨o,e _ ho,r⟩
def E8(h:Heap)(it a:Addr)(first:Value)(i n ep:Nat):Prop:=∃o,h.get? it=some o/\o.cls=.type "set_iterator" /\ o.data=.fields #[first,rawInt i,.ref a,rawInt n,rawInt ep]
theorem E8.typeIs{it a:Addr}{first:Value}{i n ep:Nat}(x:E8 s.heap it a first i n ep):s.TypeIs (.ref it) "set_iterator" := let⟨o,ho,hc,_⟩:=x;⟨o,ho,hc⟩
theorem E8.at{h h':Heap}{it a:Addr}{first:Value}{i n ep:Nat}(x:E8 h it a first i n ep)(e:∀o,h.get? it=some o->h'.get? it=some o):E8 h' it a first i n ep:=let⟨o,ho,r⟩:=x;⟨o,e _ ho,r⟩
def Jd(pl:Array Nat):Nat->Nat
 | 0=>0
 | i+1=>pl.getD i 0+1
inductive Mode (w:World) (a:Addr) (es:Array (Int×Value)) (ep:Nat) (t:SetTable) (h:Heap):Nat->Value->List Value->Prop
 | text {i:Nat} (hb:w.params.followText "set-order" = true):Mode w a es ep t h i (rawInt 0) ((pickOrder (w.params.setOrder a ep) es).toList.map (·.2))
 | table {i:Nat} (hb:w.params.followText "set-order" = false) (hd:(!t.plain && decide (es.size > 1))=false):Mode w a es ep t h i (rawInt (Jd t.place i)) (es.toList.map (·.2))
 | drawn {i:Nat} {pt:Addr} {ps:List Nat} (hb:w.params.followText "set-order" = false) (hp:ps.Perm (List.range es.size)) (ht:h.IsTuple pt (ps.map λ(j:Nat)=>rawInt j).toArray):Mode w a es ep t h i (.ref pt) (ps.map λj=>(es.getD j (0,.none)).2)
theorem R8{α:Type}(xs:Array α)(d:α):(List.range xs.size).map (λj=>xs.getD j d)=xs.toList:=by
 refine List.ext_getElem (by simp) λi h1 h2=>?_
 simp at h1 h2 ⊢
 simp [h1]
theorem Mode.perm{a:Addr}{es:Array (Int×Value)}{ep:Nat}{t:SetTable}{h:Heap}{i:Nat}{first:Value}{ord:List Value}(m:Mode w a es ep t h i first ord):ord.Perm (es.toList.map (·.2)):=by
 cases m with
 | text hb=>exact(R7 _ _).map _
 | table hb hd=>exact List.Perm.refl _
 | @drawn pt ps hb hp ht =>
  have:=hp.map λj=>(es.getD j (0,Value.none)).2
  refine this.trans (List.Perm.of_eq ?_)
  rw [<- R8 es (0,Value.none),List.map_map];rfl
theorem Fe{Q:Bool->Shared->Prop}(h:Q (w.params.followText "set-order") s):wpAny (model prog w) A setsByText Q E s:=by
 unfold setsByText
 exact wpAny_bind (wpAny_askSetting (wpAny_pure h))
theorem O0{a:Addr}{es:Array (Int×Value)}{ep:Nat}{t:SetTable}{Q:Value->Shared->Prop}(hA:Dm s.heap a es ep t)(hz:es.size<=1000)
  (h:∀it h' d' first ord,s.heap.objs.size<=it->(∀b o,s.heap.get? b=some o->h'.get? b=some o)->E8 h' it a first 0 es.size ep->Mode w a es ep t h' 0 first ord->(∀pt,first=.ref pt->s.heap.objs.size<=pt/\pt≠it)->Q (.ref it) { s with heap:=h',drawn:=d' }) :
  wpAny (model prog w) A (pyIter (.ref a)) Q E s:=by
 obtain⟨o,ho,hc,hd,hf⟩:=id hA
 refine wpAny_pyIter_slot hA.typeIs F.slot_set_iter (wpAny_call_entry F.slot_set_iter hA.typeIs Oy ?_ (F.args_set_iter_1 _))
 unfold Builtin.«frozenset.__iter__» Builtin.Frozenset.sizeOf setEntries setDrawn setEpoch
 refine(show wpAny _ _ (_ >>= _) _ _ _ from wpAny_bind (show wpAny _ _ (pure a) _ _ _ from wpAny_pure (wpAny_bind (wpAny_bind (wpAny_bind (wpAny_setState_of ho hd hf (wpAny_pure (wpAny_pure ?_))))))))
 refine wpAny_bind (wpAny_bind (wpAny_setState_of ho hd hf (wpAny_bind (Fe (wpAny_pure ?_)))))
 cases hb:w.params.followText "set-order" with
 | true =>
  refine(show wpAny _ _ (if(!true && _)=true then _ else _) _ _ _ from ?_)
  rw [Bool.not_true,Bool.false_and,if_neg Bool.false_ne_true]
  refine wpAny_bind (wpAny_pure (wpAny_bind (wpAny_bind (wpAny_setState_of ho hd hf (wpAny_pure (wpAny_bind (wpAny_newObj_type (wpAny_pure ⟨_,rfl,"set_iterator",_,⟨_,Heap.get?_push_size _ rfl,rfl⟩,Dr.lookup,?_⟩))))))))
  exact h _ _ s.drawn _ _ (Nat.le_refl _) (λb o e=>Heap.get?_push_of_some _ e) ⟨_,Heap.get?_push_size _ rfl,rfl,rfl⟩ (.text hb) λpt e=>by cases e
 | false =>
  cases hdr:(!t.plain && decide (es.size > 1)) with
  | false =>
   refine(show wpAny _ _ (if(!false && (!t.plain && decide (es.size > 1)))=true then _ else _) _ _ _ from ?_)
   rw [hdr,Bool.not_false,Bool.true_and,if_neg Bool.false_ne_true]
   refine wpAny_bind (wpAny_pure (wpAny_bind (wpAny_bind (wpAny_setState_of ho hd hf (wpAny_pure (wpAny_bind (wpAny_newObj_type (wpAny_pure ⟨_,rfl,"set_iterator",_,⟨_,Heap.get?_push_size _ rfl,rfl⟩,Dr.lookup,?_⟩))))))))
   exact h _ _ s.drawn _ _ (Nat.le_refl _) (λb o e=>Heap.get?_push_of_some _ e) ⟨_,Heap.get?_push_size _ rfl,rfl,rfl⟩ (.table hb hdr) λpt e=>by cases e
  | true =>
   refine(show wpAny _ _ (if(!false && (!t.plain && decide (es.size > 1)))=true then _ else _) _ _ _ from ?_)
   rw [hdr,Bool.not_false,Bool.true_and,if_pos rfl]
   refine wpAny_bind (Jc _ _ _ _ (by simp) λps d1 hp=>?_)
   refine wpAny_bind (m:=newTuple _) (show wpAny _ _ _ _ _ _ from ?_)
   simp only [newTuple]
   have hps:ps.length<=1000:=by rw [hp.length_eq];simpa using hz
   refine wpAny_newObj_type ?_ (by size_fits)
   have ho2:=Heap.get?_push_of_some { cls:=Value.type "tuple",data:=Data.seq (List.map (λ(i:Nat)=>rawInt ↑i) ps).toArray } ho
   refine wpAny_bind (wpAny_bind (wpAny_setState_of ho2 hd hf (wpAny_pure (wpAny_bind (wpAny_newObj_type (wpAny_pure ⟨_,rfl,"set_iterator",_,⟨_,Heap.get?_push_size _ rfl,rfl⟩,Dr.lookup,?_⟩))))))
   refine h _ _ d1 _ _ (by rw [Heap.size_push];exact Nat.le_succ _) (λb o e=>Heap.get?_push_of_some _ (Heap.get?_push_of_some _ e)) ⟨_,Heap.get?_push_size _ rfl,rfl,rfl⟩ (.drawn hb hp ⟨_,Heap.get?_push_of_some _ (Heap.get?_push_size _ rfl),rfl,0,rfl⟩) λpt e=>?_
   cases e
   exact⟨Nat.le_refl _,Nat.ne_of_lt (by rw [Heap.size_push];exact Nat.lt_succ_self _)⟩
theorem O1{t:SetTable}(hr:Ed t.place){i:Nat}(hi:i<=t.place.size):SetTable.below t.place (Jd t.place i)=i:=by
 cases i with
 | zero=>exact Ov hr
 | succ i =>
  have:=Ou hr (k:=i) (by omega)
  show SetTable.below t.place (t.place.getD i 0+1)=i+1
  rw [show t.place.getD i 0=t.place[i] by simp [show i < t.place.size by omega]]
  exact this
theorem Kj{a:Addr}{es:Array (Int×Value)}{ep slot i:Nat}{t:SetTable}{Q:Option (Value×Nat)->Shared->Prop}(hA:Dm s.heap a es ep t)(hb:w.params.followText "set-order" = true) (h:Q (((pickOrder (w.params.setOrder a ep) es)[i]?).map λe=>(e.2,slot)) s) :
  wpAny (model prog w) A (setNext a slot i ep) Q E s:=by
 obtain⟨oa,hoa,_,hda,hf⟩:=hA
 unfold setNext
 refine wpAny_bind (wpAny_setState_of hoa hda hf (wpAny_bind (Fe (show wpAny _ _ (if _=true then _ else _) _ _ _ from ?_))))
 rw [if_pos hb]
 refine(show wpAny _ _ (if(ep != ep)=true then _ else _) _ _ _ from ?_)
 rw [if_neg (by simp)]
 unfold setWalk
 refine wpAny_bind (wpAny_bind (wpAny_setState_of hoa hda hf (wpAny_bind (Fe (show wpAny _ _ (if _=true then _ else _) _ _ _ from ?_)))))
 rw [if_pos hb]
 exact wpAny_bind (wpAny_askSetting (wpAny_pure (wpAny_pure h)))
theorem Je{a:Addr}{es:Array (Int×Value)}{ep i g:Nat}{t:SetTable}{Q:Option (Value×Nat)->Shared->Prop}(hA:Dm s.heap a es ep t)(hT:TblOk t (Fo w))(hb:w.params.followText "set-order" = false) (hdr:(!t.plain && decide (es.size > 1))=false) (hi:i<=es.size)
  (h:Q (match es[i]?,t.place[i]? with | some (_,x),some j=>some (x,j+1) | _,_=>none) s):wpAny (model prog w) A (setNext a (Jd t.place i) g ep) Q E s:=by
 obtain⟨oa,hoa,_,hda,hf⟩:=hA
 have hpl:t.place.size=es.size:=by simp [SetTable.fits]at hf;exact hf.1
 unfold setNext
 refine wpAny_bind (wpAny_setState_of hoa hda hf (wpAny_bind (Fe (show wpAny _ _ (if _=true then _ else _) _ _ _ from ?_))))
 rw [if_neg (by rw [hb];exact Bool.false_ne_true)]
 refine(show wpAny _ _ (if(!t.plain && decide (es.size > 1))=true then _ else _) _ _ _ from ?_)
 rw [hdr,if_neg Bool.false_ne_true]
 refine wpAny_bind (show wpAny _ _ (if(!t.led && !es.isEmpty)=true then _ else _) _ _ _ from ?_)
 rw [if_neg (by rw [hT.led,Fo,hb];simp)]
 refine wpAny_pure (show wpAny _ _ (pure _) _ _ _ from wpAny_pure ?_)
 rw [O1 hT.rise (by omega)]
 exact h
theorem C2{a:Addr}{o:Obj}{vs:Array Value}{i:Nat}{x:Value}{Q:Unit->Shared->Prop}(ho:s.heap.get? a=some o)(hd:o.data=.fields vs)(hi:i < vs.size)
  (h:∀h' o',h'.get? a=some o'->o'.cls=o.cls->o'.data=.fields (vs.setIfInBounds i x)->Heap.SameBut a s.heap h'->Q () { s with heap:=h' }):wpAny (model prog w) A (setField (.ref a) i x) Q E s :=
 wpAny_setField ho hd hi (h _ _ (Heap.get?_update_self _ ho (Obj.isFreed_of_fields (Obj.data_mapFields hd _))) (Obj.cls_mapFields ..) (Obj.data_mapFields hd _) (Heap.SameBut.update ..))
theorem U6{it a:Addr}{es:Array (Int×Value)}{ep:Nat}{t:SetTable}{first x:Value}{i:Nat}{ord:List Value}{Q:Option Value->Shared->Prop}(hA:Dm s.heap a es ep t)(hT:TblOk t (Fo w))(hI:E8 s.heap it a first i es.size ep)(hM:Mode w a es ep t s.heap i first ord)(hne:a≠it)(hnp:∀pt,first=.ref pt->pt≠it)(hx:ord[i]?=some x)
  (hQ:∀h' first',E8 h' it a first' (i+1) es.size ep->Mode w a es ep t h' (i+1) first' ord->(∀pt,first'=.ref pt->first=.ref pt)->Heap.SameBut it s.heap h'->Q (some x) { s with heap:=h' }) :
  wpAny (model prog w) A (pyNext (.ref it)) Q E s:=by
 obtain⟨o,ho,hc,hd⟩:=id hI
 obtain⟨oa,hoa,_,hda,hf⟩:=id hA
 have hpl:t.place.size=es.size:=by simp [SetTable.fits]at hf;exact hf.1
 unfold pyNext
 refine wpAny_bind (wpAny_attempt (wpAny_callSpecial?_slot (name:=Str.ofString "__next__") hI.typeIs Dr (wpAny_call_entry Dr hI.typeIs Nb ?_ (Qn _))))
 unfold Builtin.«set_iterator.__next__»
 refine(show wpAny _ _ (_ >>= _) _ _ _ from wpAny_bind (show wpAny _ _ (pure (Value.ref it,[])) _ _ _ from wpAny_pure (show wpAny _ _ (fieldsOf (.ref it) >>= _) _ _ _ from wpAny_bind (wpAny_fieldsOf ho hd (show wpAny _ _ (setEntries a >>= _) _ _ _ from wpAny_bind ?_)))))
 refine(show wpAny _ _ (setState a >>= _) _ _ _ from wpAny_bind (wpAny_setState_of hoa hda hf (wpAny_pure (show wpAny _ _ (if((es.size:Int) != (es.size:Int))=true then _ else _) _ _ _ from ?_))))
 rw [if_neg (by simp)]
 have fin:∀(Q2:PySem.Fin->Shared->Prop) (E2:Value->Shared->Prop) (nx:Nat),(∀h',E8 h' it a (rawInt nx) (i+1) es.size ep->Heap.SameBut it s.heap h'->Q2 (.done (.ret x)) { s with heap:=h' }) ->
   wpAny (model prog w) A.in1 (setField (.ref it) 0 (rawInt (nx:Nat)) >>= λ_=>setField (.ref it) 1 (rawInt ((i:Int)+1)) >>= λ_=>ret x) Q2 E2 s:=λQ2 E2 nx q=>by
  refine wpAny_bind (C2 ho hd (by simp) λh1 o1 e1 c1 d1 b1=>wpAny_bind (C2 (s:={ s with heap:=h1 }) e1 d1 (by simp) λh2 o2 e2 c2 d2 b2=>wpAny_pure (q h2 ⟨o2,e2,c2.trans (c1.trans hc),?_⟩ (b1.trans b2))))
  rw [d2];simp [rawInt]
 cases hM with
 | text hb =>
  refine(show wpAny _ _ (setNext a 0 i ep >>= _) _ _ _ from wpAny_bind (Kj hA hb ?_))
  obtain⟨e,he,rfl⟩:∃e,(pickOrder (w.params.setOrder a ep) es)[i]?=some e/\e.2=x:=by
   rw [List.getElem?_map,Option.map_eq_some_iff]at hx
   obtain⟨e,he,r⟩:=hx
   exact⟨e,by rw [<- Array.getElem?_toList];exact he,r⟩
  rw [he]
  exact fin _ _ 0 λh' I' b'=>⟨_,rfl,wpAny_pure (hQ h' _ I' (.text hb) (λ_ z=>z) b')⟩
 | table hb hdr =>
  have hlt:i < es.size:=by
   rw [List.getElem?_map]at hx
   rcases Nat.lt_or_ge i es.size with c | c
   ·exact c
   ·simp [List.getElem?_eq_none,c]at hx
  refine(show wpAny _ _ (setNext a (Jd t.place i) i ep >>= _) _ _ _ from wpAny_bind (Je hA hT hb hdr (Nat.le_of_lt hlt) ?_))
  have he:es[i]?=some es[i]:=Array.getElem?_eq_getElem hlt
  have hp:t.place[i]?=some (t.place.getD i 0):=by simp [hpl,hlt]
  have hx2:es[i].2=x:=by
   rw [List.getElem?_map,Array.getElem?_toList,he]at hx
   exact Option.some.inj hx
  rw [he,hp]
  dsimp only
  rw [hx2]
  exact fin _ _ (t.place.getD i 0+1) λh' I' b'=>⟨_,rfl,wpAny_pure (hQ h' _ I' (.table (i:=i+1) hb hdr) (λ_ z=>by cases z) b')⟩
 | @drawn pt ps hb hp ht =>
  have hlt:i < ps.length:=by
   rcases Nat.lt_or_ge i ps.length with c | c
   ·exact c
   ·rw [List.getElem?_eq_none (by simpa using c)]at hx;cases hx
  have e1:ps[i]?=some ps[i]:=List.getElem?_eq_getElem hlt
  have hin:ps[i] < es.size:=by simpa using hp.mem_iff.mp (List.getElem_mem hlt)
  obtain⟨y,hy,hx2⟩:∃y,es[ps[i]]?=some y/\y.2=x:=by
   rw [List.getElem?_map,e1]at hx
   have:=Option.some.inj hx
   exact⟨es[ps[i]],Array.getElem?_eq_getElem hin,by simpa [hin] using this⟩
  obtain⟨ot,hot,_,nt,hdt⟩:=id ht
  refine(show wpAny _ _ (seqItems? (.ref pt) >>= _) _ _ _ from wpAny_bind (wpAny_seqItems hot hdt (show wpAny _ _ _ _ _ _ from ?_)))
  dsimp only
  have e2:((ps.map λ(j:Nat)=>rawInt (j:Int)).toArray)[i]?=some (rawInt (ps[i]:Int)):=by
   simp [e1]
  rw [Int.toNat_natCast,e2]
  refine(show wpAny _ _ (setNextDrawn a ps[i] ep >>= _) _ _ _ from wpAny_bind ?_)
  unfold setNextDrawn
  refine wpAny_bind (wpAny_setState_of hoa hda hf (show wpAny _ _ (if(ep != ep)=true then _ else _) _ _ _ from ?_))
  rw [if_neg (by simp),hy]
  refine wpAny_pure ?_
  rw [hx2]
  refine wpAny_bind (C2 ho hd (by simp) λh1 o1 e1 c1 d1 b1=>wpAny_pure ⟨_,rfl,wpAny_pure (hQ h1 (.ref pt) ⟨o1,e1,c1.trans hc,?_⟩ (.drawn hb hp (ht.at λo e=>(b1.2 pt (hnp pt rfl)).trans e)) (λ_ z=>z) b1)⟩)
  rw [d1];simp [rawInt]
theorem Yg{it a:Addr}{es:Array (Int×Value)}{ep:Nat}{t:SetTable}{first:Value}{ord:List Value}{Q:Option Value->Shared->Prop}(hh:A.handled=none)(hA:Dm s.heap a es ep t)(hT:TblOk t (Fo w))(hI:E8 s.heap it a first es.size es.size ep)(hM:Mode w a es ep t s.heap es.size first ord)
  (hQ:∀h',Heap.ExtBut it s.heap h'->Q none { s with heap:=h' }):wpAny (model prog w) A (pyNext (.ref it)) Q E s:=by
 obtain⟨o,ho,hc,hd⟩:=id hI
 obtain⟨oa,hoa,_,hda,hf⟩:=id hA
 have hpl:t.place.size=es.size:=by simp [SetTable.fits]at hf;exact hf.1
 have hlen:ord.length=es.size:=by rw [hM.perm.length_eq];simp
 unfold pyNext
 refine wpAny_bind (wpAny_attempt (wpAny_callSpecial?_slot (name:=Str.ofString "__next__") hI.typeIs Dr (wpAny_call_entry Dr hI.typeIs Nb ?_ (Qn _))))
 unfold Builtin.«set_iterator.__next__»
 refine(show wpAny _ _ (_ >>= _) _ _ _ from wpAny_bind (show wpAny _ _ (pure (Value.ref it,[])) _ _ _ from wpAny_pure (show wpAny _ _ (fieldsOf (.ref it) >>= _) _ _ _ from wpAny_bind (wpAny_fieldsOf ho hd (show wpAny _ _ (setEntries a >>= _) _ _ _ from wpAny_bind ?_)))))
 refine(show wpAny _ _ (setState a >>= _) _ _ _ from wpAny_bind (wpAny_setState_of hoa hda hf (wpAny_pure (show wpAny _ _ (if((es.size:Int) != (es.size:Int))=true then _ else _) _ _ _ from ?_))))
 rw [if_neg (by simp)]
 have fin:∀(h1:Heap) (Q2:PySem.Fin->Shared->Prop) (E2:Value->Shared->Prop) ,(∀e h',Heap.ExtBut it h1 h'->Shared.TypeIs { s with heap:=h' } e "StopIteration" -> E2 e { s with heap:=h' }) ->
   wpAny (model prog w) A.in1 (newExc (.type "StopIteration") [] >>= λe=>raiseNew e) Q2 E2 { s with heap:=h1 }:=λh1 Q2 E2 q=>by
  refine wpAny_bind ?_
  simp only [newExc,newTuple]
  refine wpAny_bind (wpAny_newObj_type (wpAny_bind (m:=firstArgMember _ _) (wpAny_of_eq (a:=Value.none) (by first | rfl | (simp only [firstArgMember];rfl)) (wpAny_newObj_type ?_ (by size_fits)))) (by size_fits))
  simp only [raiseNew]
  refine wpAny_bind (wpAny_handled ?_)
  rw [show A.in1.handled=none from hh]
  have x0:Heap.ExtBut it h1 h1:=λb o hb e=>e
  refine wpAny_bind (wpAny_pure (wpAny_throw ?_))
  exact q _ _ ((x0.push _).push _) ⟨_,Heap.get?_push_size _ rfl,rfl⟩
 have fin2:∀(h1:Heap) (e:Value) (h':Heap),Heap.ExtBut it s.heap h1->Heap.ExtBut it h1 h'->Shared.TypeIs { s with heap:=h' } e "StopIteration" -> wpAny (model prog w) A (isInstance e (.type "StopIteration") >>= λb=>if b=true then pure none else throw e) Q E { s with heap:=h' }:=λh1 e h' x1 x2 T=>by
  refine wpAny_bind (wpAny_isInstance (b:=true) T isSubtype_stop ?_)
  exact wpAny_pure (hQ h' λb o hb e=>x2 b o hb (x1 b o hb e))
 cases hM with
 | text hb =>
  refine(show wpAny _ _ (setNext a 0 es.size ep >>= _) _ _ _ from wpAny_bind (Kj hA hb ?_))
  rw [List.length_map,Array.length_toList]at hlen
  rw [Array.getElem?_eq_none (by omega)]
  exact wpAny_bind (C2 ho hd (by simp) λh1 o1 e1 c1 d1 b1=>fin h1 _ _ λe h' x T=>fin2 h1 e h' b1.extBut x T)
 | table hb hdr =>
  refine(show wpAny _ _ (setNext a (Jd t.place es.size) es.size ep >>= _) _ _ _ from wpAny_bind (Je hA hT hb hdr (Nat.le_refl _) ?_))
  rw [Array.getElem?_eq_none (Nat.le_refl _)]
  exact wpAny_bind (C2 ho hd (by simp) λh1 o1 e1 c1 d1 b1=>fin h1 _ _ λe h' x T=>fin2 h1 e h' b1.extBut x T)
 | @drawn pt ps hb hp ht =>
  obtain⟨ot,hot,_,nt,hdt⟩:=id ht
  refine(show wpAny _ _ (seqItems? (.ref pt) >>= _) _ _ _ from wpAny_bind (wpAny_seqItems hot hdt (show wpAny _ _ _ _ _ _ from ?_)))
  dsimp only
  rw [Int.toNat_natCast,Array.getElem?_eq_none (by simpa using Nat.le_of_eq (by simpa using hlen))]
  exact wpAny_bind (C2 ho hd (by simp) λh1 o1 e1 c1 d1 b1=>wpAny_bind (C2 (s:={ s with heap:=h1 }) e1 d1 (by simp) λh2 o2 e2 c2 d2 b2=>fin h2 _ _ λe h' x T=>fin2 h2 e h' (b1.trans b2).extBut x T))
end
end L2
namespace L2
open PySem PySem.Spec PyProof.Rows PySem.W
section
variable {prog:Program}{w:World}{A:Around}{E:Value->Shared->Prop}{s:Shared}
theorem Mode.at{a:Addr}{es:Array (Int×Value)}{ep:Nat}{t:SetTable}{h h':Heap}{i:Nat}{first:Value}{ord:List Value}(m:Mode w a es ep t h i first ord)(hk:∀pt,first=.ref pt->∀o,h.get? pt=some o->h'.get? pt=some o):Mode w a es ep t h' i first ord:=by
 cases m with
 | text hb=>exact .text hb
 | table hb hd=>exact .table hb hd
 | @drawn pt ps hb hp ht=>exact .drawn hb hp (ht.at λo e=>hk pt rfl o e)
theorem R9(hh:A.handled=none){it a:Addr}{es:Array (Int×Value)}{ep:Nat}{t:SetTable}{ord:List Value}(pts:List Addr)(hT:TblOk t (Fo w))(hne:a≠it)(hnp:it∉pts)(hlen:ord.length=es.size) :
  Walks prog w A it (it :: a :: pts) [it] es.size (λi v=>ord[i]?=some v) (λi h=>Dm h a es ep t/\∃first,E8 h it a first i es.size ep/\Mode w a es ep t h i first ord/\∀pt,first=.ref pt->pt∈pts) where
 sub:=λb hb=>by simp at hb;simp [hb]
 frame:=λi h h' st hk=>by
  obtain⟨hA,first,hI,hM,hp⟩:=st
  exact⟨hA.at λo e=>hk a (by simp) o e,first,hI.at λo e=>hk it (by simp) o e,hM.at λpt z o e=>hk pt (by simp [hp pt z]) o e,hp⟩
 item:=λi s Q E hi st hQ=>by
  obtain⟨hA,first,hI,hM,hp⟩:=st
  refine U6 hA hT hI hM hne (λpt z q=>hnp (q ▸ hp pt z)) (x:=ord[i]'(by omega)) (List.getElem?_eq_getElem _) λh' first' hI' hM' hr hb=>?_
  exact hQ _ h' s.toks (List.getElem?_eq_getElem _) ⟨hA.at λo e=>(hb.2 a hne).trans e,first',hI',hM',λpt z=>hp pt (hr pt z)⟩ λb o hb' e=>hb.extBut b o (λz=>hb' (by simp [z])) e
 done:=λs Q E st hQ=>by
  obtain⟨hA,first,hI,hM,hp⟩:=st
  exact Yg hh hA hT hI hM λh' he=>hQ h' s.toks λb o hb e=>he b o (λz=>hb (by simp [z])) e
 self:=λi s Q E st hQ=>by
  obtain⟨hA,first,hI,hM,hp⟩:=st
  refine wpAny_pyIter_slot hI.typeIs Qo (wpAny_call_entry Qo hI.typeIs R6 (show wpAny _ _ (ret (.ref it)) _ _ s from ?_) (U5 _))
  exact wpAny_pure ⟨_,rfl,"set_iterator",_,hI.typeIs,Dr.lookup,hQ⟩
theorem U7{a:Addr}{Q:Bool->Shared->Prop}(hT:s.TypeIs (.ref a) "set") (h:Q false s):wpAny (model prog w) A (Builtin.List.listLengthHint (.ref a)) Q E s:=by
 unfold Builtin.List.listLengthHint
 refine wpAny_bind (wpAny_specialOf hT PySem.F.slot_set_len.lookup ?_)
 generalize hid:("set.__len__" : String)=id0
 wp_delta
 rw [show splitId id0=some ("set","__len__") from by subst hid;decide +kernel]
 subst hid
 refine wpAny_bind (wpAny_isInstance (T := "set") (b:=true) hT sub_set_self (wpAny_ite_split (λhab=>absurd hab (by decide)) λ_=>wpAny_ite_split (λ_=>?_) (λhab=>absurd (by decide +kernel) hab)))
 exact wpAny_bind (wpAny_typeOf hT (wpAny_pure h))
theorem Sa{ord:List Value}{acc:Array Value}{n:Nat}(h:ItemsOf (λi v=>ord[i]?=some v) acc n)(hl:ord.length=n):acc.toList=ord:=by
 refine List.ext_getElem? λi=>?_
 rw [Array.getElem?_toList]
 rcases Nat.lt_or_ge i acc.size with c | c
 ·have:=h.2 i acc[i] (Array.getElem?_eq_getElem c)
  rw [this,Array.getElem?_eq_getElem c]
 ·rw [Array.getElem?_eq_none c,List.getElem?_eq_none (by rw [hl,<- h.1];exact c)]
theorem Nc{a:Addr}{es:Array (Int×Value)}{ep:Nat}{t:SetTable}{Q:List Value->Shared->Prop}(hh:A.handled=none)(hA:Dm s.heap a es ep t)(hT:TblOk t (Fo w))(hz:es.size<=1000)
  (h:∀h' d' tk ord,(∀b o,s.heap.get? b=some o->h'.get? b=some o)->s.heap.objs.size<=h'.objs.size->ord.Perm (es.toList.map (·.2))->Q ord { s with heap:=h',drawn:=d',toks:=tk }) :
  wpAny (model prog w) A (collect (.ref a)) Q E s:=by
 have la:a < s.heap.objs.size:=by obtain⟨o,e,_⟩:=hA;exact Heap.lt_size e
 unfold collect
 refine wpAny_bind (wpAny_runValue (codeAny_builtin F.entry_proto_collect ?_))
 rw [Around.under_plainId F.plain_proto_collect _]
 refine(show wpAny _ A.in1 (newList [] >>= λl=>again (.builtin "list.__iadd__" ⟨[l,.ref a],[]⟩)) _ _ s from wpAny_bind (wpAny_newObj_type (wpAny_pure ⟨plainId_quiet F.plain_list_iadd _,codeAny_builtin F.entry_list_iadd ?_⟩)))
 rw [Around.under_plainId F.plain_list_iadd _]
 generalize hL:s.heap.objs.size=S
 generalize h1e:s.heap.push { cls:=.type "list",data:=.seq ([]:List Value).toArray }=h1
 have k1:∀b o,s.heap.get? b=some o->h1.get? b=some o:=λb o e=>by subst h1e;exact Heap.get?_push_of_some _ e
 have eS:h1.get? S=some { cls:=.type "list",data:=.seq ([]:List Value).toArray }:=by subst h1e;subst hL;exact Heap.get?_push_size _ rfl
 have hSa:S≠a:=Ne.symm (Nat.ne_of_lt (hL ▸ la))
 have hsame:Builtin.List.listSameRef (.ref S) (.ref a)=false:=by simp [Builtin.List.listSameRef,hSa]
 have hA1:Dm h1 a es ep t:=hA.at λo e=>k1 a o e
 refine(show wpAny _ A.in1 (Builtin.List.listExtendWith (.ref S) (.ref a) (.ref S)) _ _ { s with heap:=h1 } from ?_)
 unfold Builtin.List.listExtendWith
 refine wpAny_bind (wpAny_typeOf (Dm.typeIs (s:={ s with heap:=h1 }) hA1) (wpAny_ite_split (λhab=>absurd hab (by rw [hsame];decide)) λ_=>?_))
 refine wpAny_bind (O0 (s:={ s with heap:=h1 }) hA1 hz λit h2 d2 first ord hit k2 hI hM hpt=>?_)
 refine wpAny_bind (wpAny_holding (U7 (s:={ s with heap:=h2,drawn:=d2 }) (Dm.typeIs (s:={ s with heap:=h2,drawn:=d2 }) (hA1.at λo e=>k2 a o e)) ?_))
 refine wpAny_ite_split (λ_=>?_) λhab=>absurd (by decide) hab
 have e2:h2.get? S=some { cls:=.type "list",data:=.seq ([]:List Value).toArray }:=k2 S _ eS
 refine wpAny_bind (wpAny_rule (wpAny_bind (show wpAny _ _ (updateSeq S (·.push .none) >>= λ_=>updateSeq S (·.pop)) _ _ _ from wpAny_bind (wpAny_updateSeq e2 rfl (wpAny_updateSeq (Heap.get?_update_self (Obj.mapSeq (·.push Value.none)) e2 rfl) rfl ?_)))))
 have e4:=Heap.get?_update_self (Obj.mapSeq (·.pop)) (Heap.get?_update_self (Obj.mapSeq (·.push Value.none)) e2 rfl) rfl
 have k4:∀b o,b≠S->h2.get? b=some o->((h2.update S (Obj.mapSeq (·.push Value.none))).update S (Obj.mapSeq (·.pop))).get? b=some o:=λb o hb e=>(Heap.get?_update_other _ _ (Ne.symm hb)).trans ((Heap.get?_update_other _ _ (Ne.symm hb)).trans e)
 generalize ((h2.update S (Obj.mapSeq (·.push Value.none))).update S (Obj.mapSeq (·.pop)))=h4 at e4 k4 ⊢
 have lS:S < h1.objs.size:=Heap.lt_size eS
 have hit':h1.objs.size<=it:=hit
 have nS:S≠it:=by intro z;subst z;omega
 have na:a≠it:=Nat.ne_of_lt (Nat.lt_trans (hL ▸ la) (Nat.lt_of_lt_of_le lS hit'))
 obtain⟨pts,hp1,hp2⟩:∃pts:List Addr,(∀pt,first=.ref pt->pt∈pts)/\∀pt∈pts,h1.objs.size<=pt/\pt≠it:=by
  by_cases hf:∃pt,first=.ref pt
  ·obtain⟨pt,hf⟩:=hf
   exact⟨[pt],λq hq=>by rw [hf]at hq;cases hq;simp,λq hq=>by rw [List.mem_singleton]at hq;subst hq;exact hpt q hf⟩
  ·exact⟨[],λq hq=>absurd ⟨q,hq⟩ hf,λ_ hq=>nomatch hq⟩
 have hlen:ord.length=es.size:=by rw [hM.perm.length_eq];simp
 have W:=R9 (prog:=prog) (A:=A.in1) hh (es:=es) (ep:=ep) (ord:=ord) pts hT na (λz=>(hp2 it z).2 rfl) hlen
 have hSf:S∉it :: a :: pts:=by
  simp only [List.mem_cons,not_or]
  exact⟨nS,hSa,λz=>by have:=(hp2 S z).1;omega⟩
 refine wpAny_pure ⟨plainId_quiet F.plain_extend_loop _,codeAny_extend_loopS W.toS (Nat.le_trans hz (by decide)) S hSf (.ref S) es.size 0 { s with heap:=h4,drawn:=d2 } #[] _ rfl (Nat.zero_le _) ?_ e4 (ItemsOf.nil _) λs' acc' c' hm hS' hacc=>?_⟩
 ·refine⟨hA1.at λo e=>k4 a o (Ne.symm hSa) (k2 a o e),first,hI.at λo e=>k4 it o (Ne.symm nS) e,hM.at λpt z o e=>k4 pt o (λq=>?_) e,hp1⟩
  have:=(hp2 pt (hp1 pt z)).1
  subst q;omega
 ·rw [Moved.eq_with hm]
  refine wpAny_bind (wpAny_load hS' (wpAny_pure ?_))
  rw [Sa hacc hlen]
  refine h s'.heap d2 s'.toks ord (λb o e=>hm.heap b o ?_ (k4 b o ?_ (k2 b o (k1 b o e)))) (Nat.le_of_lt ?_) hM.perm
  ·have lb:=Heap.lt_size e
   simp only [List.mem_cons,List.not_mem_nil,or_false,not_or]
   rw [hL]at lb
   exact⟨Nat.ne_of_lt lb,Nat.ne_of_lt (Nat.lt_trans lb (Nat.lt_of_lt_of_le lS hit'))⟩
  ·have lb:=Heap.lt_size e
   rw [hL]at lb
   exact Nat.ne_of_lt lb
  ·rw [hL];exact Heap.lt_size hS'
theorem Nd{v:Value}{Q:Value->Shared->Prop}(hcol:wpAny (model prog w) A.in1 (collect v) (λvs s1=>∃lt:Nat->Nat->Bool,vs.length < 1000/\StrictOrd vs.length lt /\
   (2<=vs.length->∀h':Heap,(∀b o,s1.heap.get? b=some o->h'.get? b=some o)->∃ κ,(∀Q:SortKind->Shared->Prop,Q κ { s1 with heap:=h' }->wpAny (model prog w) A.in1.in1 (keyKind' vs.toArray) Q E { s1 with heap:=h' }) /\
    ∀i j C,i < vs.length->j < vs.length->C (lt i j) { s1 with heap:=h' }->kas_ask prog w A.in1.in1 κ vs i j C { s1 with heap:=h' }) /\
   ∀(p:Array Nat) (h':Heap) (l c:Nat),Pm vs.length p->Up lt p vs.length->s1.heap.objs.size<=l->(∀b o,s1.heap.get? b=some o->h'.get? b=some o)->h'.get? l=some (seqObj "list" (p.toList.map λi=>vs.getD i Value.none).toArray c)->Q (.ref l) { s1 with heap:=h' }) E s) :
  wpAny (model prog w) A (call (.builtin "sorted") [v]) Q E s:=by
 refine Calls.call_function_entry kind_sorted plain_sorted entry_sorted (args_sorted1 _) ?_
 unfold Builtin.«sorted»
 refine wpAny_bind (m:=checkCount "sorted" 1 1 _) (wpAny_pure (wpAny_bind (wpAny_mono hcol (λvs s1 hx=>?_) λ_ _ e=>e)))
 obtain⟨lt,h64,O,hk,h⟩:=hx
 have sz:vs.length<=sizeLine:=Nat.le_trans (Nat.le_of_lt h64) (by decide)
 have hL:(s1.heap.push (seqObj "list" vs.toArray 0)).get? s1.heap.objs.size=some (seqObj "list" vs.toArray 0):=Heap.get?_push_size _ rfl
 refine wpAny_bind (wpAny_newList (wpAny_bind (wpAny_holding (wpAny_call_entry slot_list_sort ⟨_,hL,rfl⟩ entry_list_sort ?_ (args_list_sort _)))) sz)
 have kk:∀(h':Heap),(∀b o,b≠s1.heap.objs.size->(s1.heap.push (seqObj "list" vs.toArray 0)).get? b=some o->h'.get? b=some o)->∀b o,s1.heap.get? b=some o->h'.get? b=some o:=λh' k b o q=>k b o (Nat.ne_of_lt (Heap.lt_size q)) (Heap.get?_push_of_some _ q)
 exact Iz (s:={ s1 with heap:=s1.heap.push (seqObj "list" vs.toArray 0) }) hL h64 O (λh2 h' k=>hk h2 h' (kk h' k)) λp h' c pm up k e=>⟨_,rfl,wpAny_pure ⟨_,rfl,h p h' _ c pm up (Nat.le_refl _) (kk h' k) e⟩⟩
end
end L2
namespace L2
open PySem PySem.Spec PyProof.Rows
section
variable {X:Cx}{pins:List (Addr×Obj)}{σ:St}{H:Hp}{s:Shared}
theorem Inv.drw(I:Inv X pins σ H s)(d:Drawn):Inv X pins σ H { s with drawn:=d }:=⟨I.ok,I.os,I.bare,I.base,I.loc,I.cell,I.free,I.freeC,I.pin,I.hok,I.len⟩
end
noncomputable instance decPD:DecidableEq PyData:=λa b=>Classical.propDecidable (a=b)
mutual
def G4:PyData->Nat
 | .tuple ds=>Cq ds+1
 | _=>1
def Cq:List PyData->Nat
 | []=>0
 | d :: ds=>G4 d+Cq ds
end
theorem Jf(w:World):∀(a b:List PyData),Cy w (a++b)=Cy w a++Cy w b
 | [],b=>rfl
 | x :: a,b=>by simp only [List.cons_append,Cy,Jf w a b]
theorem Ho:∀(a b:List PyData),Cq (a++b)=Cq a+Cq b
 | [],b=>by simp [Cq]
 | x :: a,b=>by simp only [List.cons_append,Cq,Ho a b];omega
section
variable {prog:Program}{w:World}
theorem Yh:∀(n:Nat) (d:PyData) (u:Value) (as:List Addr) (A:Around) (E:Value->Shared->Prop) (s:Shared) (Q:Int->Shared->Prop),d.depth<=n->Cano d=true->Reads s.heap u d as->A.units+n < cLine->Q (Ba w d) { s with toks:=s.toks+G4 d } ->
  wpAny (model prog w) A (pyHash u) Q E s:=by
 intro n
 induction n with
 | zero =>
  intro d u as A E s Q hd hc hr hu h
  cases hr with
  | int i t=>exact(Bw prog w).pyHash (Er _ _ _ _) h
  | str x t=>exact(Bw prog w).pyHash (Es _ _ _ _) h
  | tuple a1 a2 a3 a4=>simp [PyData.depth]at hd
  | none=>simp [Cano]at hc
  | bool b=>simp [Cano]at hc
  | list a1 a2 a3 a4=>simp [Cano]at hc
  | dict a1 a2 a3 a4 a5=>simp [Cano]at hc
 | succ n ih =>
  intro d u as A E s Q hd hc hr hu h
  cases hr with
  | int i t=>exact(Bw prog w).pyHash (Er _ _ _ _) h
  | str x t=>exact(Bw prog w).pyHash (Es _ _ _ _) h
  | none=>simp [Cano]at hc
  | bool b=>simp [Cano]at hc
  | list a1 a2 a3 a4=>simp [Cano]at hc
  | dict a1 a2 a3 a4 a5=>simp [Cano]at hc
  | @tuple a o items m ds as ho hcl hdt hi =>
   have hT:s.TypeIs (.ref a) "tuple" := ⟨o,ho,hcl⟩
   have hd':PyData.depthAll ds<=n:=by simp only [PyData.depth]at hd;omega
   have hc':Ao ds=true:=hc
   unfold pyHash
   first | unfold pyHashByItsType | skip
   first | refine wpAny_bind (wpAny_cRoomFor_or (.inr (by omega)) ?_) | skip
   refine wpAny_bind (wpAny_specialOf hT F.slot_tuple_hash.lookup (show wpAny _ _ (if(some (Value.builtin "tuple.__hash__")==some Value.none)=true then _ else _) Q E s from ?_))
   rw [if_neg (by rw [beq_builtin_none];exact Bool.false_ne_true)]
   refine wpAny_bind (wpAny_specialOf hT F.slot_tuple_hash.lookup (show wpAny _ _ (callSpecialIfBoundUnlessNone? (.ref a) "__hash__" _ >>= _) Q E s from ?_))
   refine wpAny_bind (wpAny_callSpecialIfBoundUnlessNone?_slot hT F.slot_tuple_hash (wpAny_call_entry F.slot_tuple_hash hT F.entry_tuple_hash (show wpAny _ _ (Builtin.Tuple.tupleItemsOf (.ref a) >>= _) _ _ s from ?_) (F.args_tuple_hash_1 _)))
   refine wpAny_bind (wpAny_tupleItemsOf ho hdt (wpAny_bind ?_))
   rw [<- Array.forIn_toList]
   refine wpAny_forIn_list _ (λrest (b:Array Int) s'=>∃dn lf bs,ds=dn++lf/\ReadsAll s.heap rest lf bs/\Ao lf=true/\PyData.depthAll lf<=n/\b.toList=Cy w dn/\s'={ s with toks:=s.toks+Cq dn }) _ ?_ ?_ _ _ ⟨[],ds,as,rfl,hi,hc',hd',rfl,rfl⟩
   ·rintro x rest b s' ⟨dn,lf,bs,rfl,hl,hcl,hdl,hb,rfl⟩
    cases hl with
    | @cons _ _ d ds' as1 bs1 h1 hl' =>
     simp only [Ao,Bool.and_eq_true]at hcl
     simp only [PyData.depthAll]at hdl
     refine wpAny_bind (ih d x as1 A.in1 _ { s with toks:=s.toks+Cq dn } _ (by omega) hcl.1 h1 (by show A.units+1+n < _;omega) ?_)
     have fin:∃dn' lf' bs',dn++d :: ds'=dn'++lf'/\ReadsAll s.heap rest lf' bs'/\Ao lf'=true/\PyData.depthAll lf'<=n/\(b.push (Ba w d)).toList=Cy w dn'/\({ s with toks:=s.toks+Cq dn+G4 d }:Shared)={ s with toks:=s.toks+Cq dn' } :=
      ⟨dn++[d],ds',bs1,by simp,hl',hcl.2,by omega,by simp [hb,Jf,Cy],by simp [Ho,Cq,Nat.add_assoc]⟩
     first
      | exact wpAny_pure fin
      | exact wpAny_bind (wpAny_pure (wpAny_pure fin))
   ·rintro b s' ⟨dn,lf,bs,rfl,hl,hcl,hdl,hb,rfl⟩
    cases hl
    rw [List.append_nil]at h
    simp only [Ba,G4]at h
    refine(show wpAny _ _ (retInt (Builtin.Tuple.tupleHashOf b.toList)) _ _ _ from ?_)
    rw [hb]
    refine wpAny_ret_mkInt (show wpAny _ _ (if(decide (-(2:Int) ^ 63<=Builtin.Tuple.tupleHashOf (Cy w dn)) && decide (Builtin.Tuple.tupleHashOf (Cy w dn) < 2 ^ 63))=true then _ else _) Q E _ from ?_)
    unfold reduceHash at h
    by_cases hr:(decide (-(2:Int) ^ 63<=Builtin.Tuple.tupleHashOf (Cy w dn)) && decide (Builtin.Tuple.tupleHashOf (Cy w dn) < 2 ^ 63))=true
    ·rw [if_pos hr]at h ⊢
     exact wpAny_pure (by simpa [Nat.add_assoc] using h)
    ·rw [if_neg hr]at h ⊢
     exact wpAny_bind (wpAny_rule (wpAny_pure (by simpa [Nat.add_assoc] using h)))
theorem Jg:∀(n q:Nat) (d:PyData) (u:Value) (as:List Addr) (A:Around) (E:Value->Shared->Prop) (s:Shared) (Q:Bool->Shared->Prop),d.depth<=n->n < q->Cano d=true->Reads s.heap u d as->Q true s->wpAny (model prog w) A (eqIsQuiet q u) Q E s:=by
 intro n
 induction n with
 | zero =>
  intro q d u as A E s Q hd hq hc hr h
  cases hr with
  | int i t=>rw [eqIsQuiet_byValue _ rfl];exact wpAny_pure h
  | str x t=>rw [eqIsQuiet_byValue _ rfl];exact wpAny_pure h
  | tuple a1 a2 a3 a4=>simp [PyData.depth]at hd
  | none=>simp [Cano]at hc
  | bool b=>simp [Cano]at hc
  | list a1 a2 a3 a4=>simp [Cano]at hc
  | dict a1 a2 a3 a4 a5=>simp [Cano]at hc
 | succ n ih =>
  intro q d u as A E s Q hd hq hc hr h
  cases hr with
  | int i t=>rw [eqIsQuiet_byValue _ rfl];exact wpAny_pure h
  | str x t=>rw [eqIsQuiet_byValue _ rfl];exact wpAny_pure h
  | none=>simp [Cano]at hc
  | bool b=>simp [Cano]at hc
  | list a1 a2 a3 a4=>simp [Cano]at hc
  | dict a1 a2 a3 a4 a5=>simp [Cano]at hc
  | @tuple a o items m ds as ho hcl hdt hi =>
   have hT:s.TypeIs (.ref a) "tuple" := ⟨o,ho,hcl⟩
   have hd':PyData.depthAll ds<=n:=by simp only [PyData.depth]at hd;omega
   have hc':Ao ds=true:=hc
   obtain⟨q',rfl⟩:∃q',q=q'+1:=⟨q - 1,by omega⟩
   unfold eqIsQuiet
   refine wpAny_bind (wpAny_specialOf hT F.slot_tuple_eq.lookup (show wpAny _ _ (isInstance (.ref a) (.type "tuple") >>= _) _ _ s from wpAny_bind (wpAny_isInstance hT isSubtype_tuple_tuple ?_)))
   simp only [Bool.not_true,Bool.false_eq_true,if_false]
   refine wpAny_bind (wpAny_seqItems ho hdt (wpAny_bind (show wpAny _ _ (forIn items _ _) _ _ s from ?_)))
   rw [<- Array.forIn_toList]
   refine wpAny_forIn_list _ (λrest r s'=>r.1=none/\s'=s/\∃lf bs,ReadsAll s.heap rest lf bs/\Ao lf=true/\PyData.depthAll lf<=n) _ ?_ ?_ _ _ ⟨rfl,rfl,ds,as,hi,hc',hd'⟩
   ·rintro v rest r s' ⟨hr,rfl,lf,bs,hl,hcl,hdl⟩
    cases hl with
    | @cons _ _ d ds' as1 bs1 h1 hl' =>
     simp only [Ao,Bool.and_eq_true]at hcl
     simp only [PyData.depthAll]at hdl
     refine wpAny_bind (ih q' d v as1 A _ s' _ (by omega) (by omega) hcl.1 h1 ?_)
     simp only [Bool.not_true,Bool.false_eq_true,if_false]
     exact wpAny_pure ⟨rfl,rfl,ds',bs1,hl',hcl.2,by omega⟩
   ·rintro⟨r1,r2⟩ s' ⟨hr,rfl,_⟩
    simp only at hr
    subst hr
    exact wpAny_pure h
mutual
theorem Kk{h:Heap}:∀{v:Value} {d e:PyData} {as bs:List Addr},Reads h v d as->Reads h v e bs->Cano d=true->Cano e=true->d=e
 | _,_,_,_,_,.int i t,r,_,_=>by cases r;rfl
 | _,_,_,_,_,.str x t,r,_,_=>by cases r;rfl
 | _,_,_,_,_,.tuple a1 a2 a3 a4,r,hc,hc2=>by
  cases r with
  | tuple b1 b2 b3 b4 =>
   rw [a1]at b1;cases b1
   rw [a3]at b3;cases b3
   rw [Gk a4 b4 hc hc2]
  | list b1 b2 b3 b4=>simp [Cano]at hc2
  | dict b1 b2 b3 b4 b5=>simp [Cano]at hc2
 | _,_,_,_,_,.none,_,hc,_=>by simp [Cano]at hc
 | _,_,_,_,_,.bool b,_,hc,_=>by simp [Cano]at hc
 | _,_,_,_,_,.list a1 a2 a3 a4,_,hc,_=>by simp [Cano]at hc
 | _,_,_,_,_,.dict a1 a2 a3 a4 a5,_,hc,_=>by simp [Cano]at hc
theorem Gk{h:Heap}:∀{vs:List Value} {ds es:List PyData} {as bs:List Addr},ReadsAll h vs ds as->ReadsAll h vs es bs->Ao ds=true->Ao es=true->ds=es
 | _,_,_,_,_,.nil,r,_,_=>by cases r;rfl
 | _,_,_,_,_,.cons r1 r2,r,hc,hc2=>by
  cases r with
  | cons q1 q2 =>
   simp only [Ao,Bool.and_eq_true]at hc hc2
   rw [Kk r1 q1 hc.1 hc2.1,Gk r2 q2 hc.2 hc2.2]
end
mutual
theorem G5{h h':Heap}{p:Addr}(hk:∀b o,b≠p->h.get? b=some o->h'.get? b=some o)(hp:∀o vs n,h.get? p=some o->o.data≠.seq vs n):∀{v:Value} {d:PyData} {as:List Addr},Reads h v d as->Cano d=true->Reads h' v d as
 | _,_,_,.int i t,_=>.int i t
 | _,_,_,.str x t,_=>.str x t
 | _,_,_,.tuple a1 a2 a3 a4,hc=>.tuple (hk _ _ (λz=>by subst z;exact hp _ _ _ a1 a3) a1) a2 a3 (Gm hk hp a4 hc)
 | _,_,_,.none,hc=>by simp [Cano]at hc
 | _,_,_,.bool b,hc=>by simp [Cano]at hc
 | _,_,_,.list a1 a2 a3 a4,hc=>by simp [Cano]at hc
 | _,_,_,.dict a1 a2 a3 a4 a5,hc=>by simp [Cano]at hc
theorem Gm{h h':Heap}{p:Addr}(hk:∀b o,b≠p->h.get? b=some o->h'.get? b=some o)(hp:∀o vs n,h.get? p=some o->o.data≠.seq vs n):∀{vs:List Value} {ds:List PyData} {as:List Addr},ReadsAll h vs ds as->Ao ds=true->ReadsAll h' vs ds as
 | _,_,_,.nil,_=>.nil
 | _,_,_,.cons r1 r2,hc=>by
  simp only [Ao,Bool.and_eq_true]at hc
  exact .cons (G5 hk hp r1 hc.1) (Gm hk hp r2 hc.2)
end
theorem Gn{x y:PyData}(hx:Cano x=true)(hy:Cano y=true):PyData.eqv x y=decide (x=y):=by
 by_cases h:x=y
 ·subst h;rw [Gh x hx,decide_eq_true rfl]
 ·rw [decide_eq_false h];exact(Oo hx hy).mpr h
variable(prog w) in
noncomputable def Jh:HeapKind prog w PyData where
 is:=λh d a=>KeyTree d/\∃as,Reads h (.ref a) d as
 hash:=Ba w
 draws:=G4
 room:=λA=>A.units+6 < cLine
 inj:=λ⟨kx,_,rx⟩ ⟨ky,_,ry⟩=>Kk rx ry kx.can ky.can
 keeps:=λ⟨k,as,r⟩ ho hd hs=>⟨k,as,G5 (λb o hb e=>(hs.2 b hb).trans e) (λo' vs n e q=>by rw [ho]at e;cases e;rw [hd]at q;cases q) r k.can⟩
 pyHash:=λhu ⟨k,as,r⟩ h=>Yh 6 _ _ as _ _ _ _ k.dep k.can r hu h
 eqBool:=λhu ⟨kx,as,rx⟩ ⟨ky,bs,ry⟩ h=>SeqAt.eqAt_reads _ _ _ _ _ _ _ _ rx ry kx.lay ky.lay (by have:=kx.dep;omega) _ _ _ _ (by rw [Gn kx.can ky.can];exact h)
 quiet:=λ⟨k,as,r⟩ h=>Jg 6 8 _ _ as _ _ _ _ k.dep (by decide) k.can r h
end
section
variable {X:Cx}{pins:List (Addr×Obj)}{σ:St}{H:Hp}{s:Shared}{a:Addr}{e:Expr}{te:AE}{τ:ASt}{μ:M}
theorem VE.run{R1:AV->M->Prop}(he:VE X e te)(I:Inv X pins σ H s)(hs:Dz X.K H τ σ)(hc:Cn X.K μ H)(h:te τ μ R1) :
  wpAny (model X.prog X.w) X.A (eval e X.env) (λu s1=>∃x v μ1 H1,Inv X pins σ H1 s1/\Bj v u/\Kp H H1/\Cn X.K μ1 H1/\RelA X.K H1 x v/\R1 x μ1) X.xe s :=
 wpAny_mono (he pins s σ H (λv H1=>∃x μ1,Kp H H1/\Cn X.K μ1 H1/\RelA X.K H1 x v/\R1 x μ1) I ⟨τ,μ,R1,hs,hc,h,λx μ1 v H1 S c r q=>⟨x,μ1,S,c,r,q⟩⟩)
  (λ_ _ z=>by obtain⟨v,H1,I1,rv,x,μ1,S,c,r,q⟩:=z;exact⟨x,v,μ1,H1,I1,rv,S,c,r,q⟩) λ_ _ e=>e
variable {o i value:Expr}{pos pos':Pos}{td ty tv:AE}
end
section
variable {prog:Program}{w:World}{A:Around}{E:Value->Shared->Prop}{s:Shared}
end
section
variable {X:Cx}{pins:List (Addr×Obj)}{σ:St}{s:Shared}
def Qkj(ta tb:AE):AE:=fun τ μ R=>ta τ μ λx μ1=>tb τ μ1 λy μ2=>match x,y with
 | .R a,.R b=>opt (μ2 a) λm=>opt (μ2 b) λn=>match m,n with
  | .lst us,.lst vs=>opt (dats us) λds=>opt (dats vs) λes=>(ds.length=es.length/\ds.length<=1000)/\R (.D (.tuple (List.zipWith (λd e=>PyData.tuple [d,e]) ds es))) μ2
  | _,_=>False
 | _,_=>False
def Qk7:AC:=λxs μ R=>match xs with
 | [.D (.bool b)]=>R (.D (.int (if b then 1 else 0))) μ
 | [.D (.int i)]=>R (.D (.int i)) μ
 | _=>False
def txts:List AV->Option (List Str)
 | []=>some []
 | .D (.str z) :: xs=>(txts xs).map (z :: ·)
 | _ :: _=>none
theorem Nf{K:PySem.W.Frag}{H:Hp}:∀{xs:List AV} {vs:List V} {zs:List Str},Ax K H xs vs->txts xs=some zs->vs=zs.map V.str
 | [],_,zs,r,e=>by cases r;cases e;rfl
 | x :: xs,_,zs,r,e=>by
  cases r with
  | cons r1 r2 =>
   unfold txts at e
   split at e
   ·rename_i h;cases h
   ·rename_i z xs' h
    cases h
    obtain⟨ys,ey,rfl⟩:=Option.map_eq_some_iff.mp e
    cases RelA.str r1
    rw [Nf r2 ey];rfl
   ·cases e
def Zo:AV->AC:=λx xs μ R=>match x,xs with
 | .D (.str z),[.R p]=>opt (μ p) λm=>match m with
  | .lst ys=>opt (txts ys) λzs=>(zs.map (·.length)).sum+zs.length * z.length<=16777216/\R (.D (.str (Txt.join z zs))) μ
  | _=>False
 | _,_=>False
theorem G6:VMt X "str.join" Zo:=by
 intro pins s σ H x xs v us Q I rx r zz203
 refine Df zz203 λa as μ R ra rs hc h hq=>?_
 unfold Zo at h
 split at h
 ·obtain⟨m,em,h⟩:=Bb h
  split at h
  ·obtain⟨zs,ez,h⟩:=Bb h
   obtain⟨o,ho,ws,rfl,rr⟩:=hc _ _ em
   cases RelA.str ra
   cases rs with
   | cons r1 r2 =>
    cases r2
    cases r1
    rw [Nf rr ez]at ho
    exact Ru pins s σ H _ _ v us Q I rx r ⟨_,_,zs,rfl,rfl,ho,h.1,hq _ _ _ _ Kp.refl hc Fs h.2⟩
  ·exact h.elim
 ·exact h.elim
def Qcj(ta:AE):AE:=fun τ μ R=>ta τ μ λx μ1=>match x with
 | .D (.int n)=>(0<=n/\n<=1000)/\∀p,μ1 p=none->R (.R p) (Ar μ1 p (.lst (D9 0 n.toNat)))
 | _=>False
def Qck(ta tb:AE):AE:=fun τ μ R=>ta τ μ λx μ1=>tb τ μ1 λy μ2=>match x,y with
 | .D (.int m),.D (.int n)=>(-1000<=m/\m<=n/\n<=1000)/\∀p,μ2 p=none->R (.R p) (Ar μ2 p (.lst (D9 m (n - m).toNat)))
 | _,_=>False
theorem Lp{K:PySem.W.Frag}{H:Hp}:∀(n:Nat) (lo:Int),Ax K H (D9 lo n) ((List.range n).map λ(i:Nat)=>V.int (lo+i))
 | 0,lo=>.nil
 | n+1,lo=>by
  rw [List.range_succ_eq_map,List.map_cons,List.map_map]
  refine .cons (by simpa using Di) ?_
  have:=Lp (K:=K) (H:=H) n (lo+1)
  have e:(λ(i:Nat)=>V.int (lo+1+i))=(λ(i:Nat)=>V.int (lo+i)) ∘ Nat.succ:=by
   funext i
   simp only [Function.comp]
   congr 1
   omega
  rw [e]at this
  exact this
theorem U8{acc:Array Value}{n:Nat}{lo:Int}(h:ItemsOf (λi v=>∃t,v=.int (lo+i * 1) t) acc n):Vals ((List.range n).map λ(i:Nat)=>V.int (lo+i)) acc.toList:=by
 obtain⟨h1,h2⟩:=h
 have go:∀(m:Nat) (us:List Value),us.length=m->(∀j v,us[j]?=some v->∃t,v=Value.int (lo+(j:Nat) * 1) t)->Vals ((List.range m).map λ(i:Nat)=>V.int (lo+i)) us:=by
  intro m
  induction m with
  | zero=>intro us hl _;rw [List.eq_nil_of_length_eq_zero hl];exact .nil
  | succ m ih =>
   intro us hl hu
   have hne:us≠[]:=by intro z;rw [z]at hl;cases hl
   rw [<- List.dropLast_concat_getLast hne,List.range_succ,List.map_append]
   have hd:us.dropLast.length=m:=by rw [List.length_dropLast];omega
   refine Paired.snoc (ih us.dropLast hd λj v e=>?_) ?_
   ·have hj:j < us.dropLast.length:=(List.getElem?_eq_some_iff.mp e).1
    rw [List.getElem?_dropLast,if_pos (by omega)]at e
    exact hu j v e
   ·obtain⟨t,e⟩:=hu m (us.getLast hne) (by rw [List.getLast_eq_getElem];simp [hl])
    rw [e]
    exact⟨t,by rw [Int.mul_one]⟩
 exact go n acc.toList (by simpa using h1) λj v e=>h2 j v (by rw [<- Array.getElem?_toList];exact e)
theorem Ng{H1:Hp}{lo hi:Int}{tk:Nat}{t u v:Tok}{Q:VK}{s1:Shared}(hcm:X.calm=true)(I1:Inv X pins σ H1 s1)(hlo:-1000<=lo)(hle:lo<=hi)(hhi:hi<=1000)
  (q:∀l,H1 l=none->Q (.ref l) (upd H1 l (.lst ((List.range (hi - lo).toNat).map λ(i:Nat)=>V.int (lo+i))))) :
  wpAny (model X.prog X.w) X.A (call (.type "list") [.ref s1.heap.objs.size]) (EP X pins σ Q) X.xe { s1 with heap:=s1.heap.push { cls:=.type "range",data:=.fields #[.int lo t,.int hi u,.int 1 v] },toks:=tk }:=by
 have hsize:Builtin.Range.rangeSize lo hi 1=((hi - lo).toNat:Nat):=by rw [rangeSize_one];split <;> omega
 have hn:(hi - lo).toNat<=2000:=by omega
 refine call_list_range (s:={ s1 with heap:=s1.heap.push { cls:=.type "range",data:=.fields #[.int lo t,.int hi u,.int 1 v] },toks:=tk }) (I1.ok.hd hcm) (IsRange.new ..) (small_one (by omega) (by omega) (by omega) (by omega)) hsize (Nat.le_trans hn (by decide)) λh2 t2 acc c k2 e2 ia=>?_
 have hp:s1.heap.objs.size<=(s1.heap.push { cls:=.type "range",data:=.fields #[.int lo t,.int hi u,.int 1 v] }).objs.size:=by rw [Heap.size_push];exact Nat.le_succ _
 have hz:((List.range (hi - lo).toNat).map λ(i:Nat)=>V.int (lo+i)).length<=sizeLine:=by rw [List.length_map,List.length_range];exact Nat.le_trans hn (show 2000<=sizeLine by decide)
 refine⟨.ref _,_,I1.laid (t':=t2) (o:=.lst _) (λb o e=>k2 b o (Heap.get?_push_of_some _ e)) hp ⟨hz,acc.toList,c,U8 ia,by simpa using e2⟩,rfl,q _ (I1.hok.fresh hp)⟩
theorem U9{e1:Expr}{ta:AE}{p p2 pos pos2:Pos}(hc:X.calm=true)(hg:Gl X "list") (hm:X.mg "list" = none) (hg2:Gl X "range") (hm2:X.mg "range" = none) (h1:VE X e1 ta)
  (hs:starEach [.Call (.Name "range" p2) [e1] [] pos2] X.env=[(false,eval (.Call (.Name "range" p2) [e1] [] pos2) X.env)]:=by rfl) (hs2:starEach [e1] X.env=[(false,eval e1 X.env)]:=by rfl) :
  VE X (.Call (.Name "list" p) [.Call (.Name "range" p2) [e1] [] pos2] [] pos) (Qcj ta):=by
 intro pins s σ H Q I zz205
 refine Cd zz205 fun τ μ R hst hcn h hq=>?_
 refine wpAny_Call_Name_kw (Cz I hg hm boot_list (PyProof.Rows.callWith_type1 ?_ hs rfl))
 rw [hs]
 refine Calls.spliced_cons (wpAny_Call_Name_kw (Cz I hg2 hm2 boot_range (PyProof.Rows.callWith_type1 ?_ hs2 rfl)))
 rw [hs2]
 refine Calls.spliced_cons (wpAny_mono (h1.run I hst hcn h) (λu1 s1 ⟨x,v,μ1,H1,I1,rv,S1,c1,rx,q1⟩=>Calls.spliced_nil ?_) λ_ _ e=>e)
 split at q1
 ·rename_i n _
  obtain⟨⟨n0,n1⟩,q1⟩:=q1
  cases RelA.int rx
  obtain⟨t,rfl⟩:=rv
  refine call_range_1 (Calls.spliced_nil (Ng hc I1 (by omega) n0 n1 λl hl=>?_))
  refine hq _ _ _ _ (S1.trans (Kp.new hl _)) (c1.new hl (Da (Lp _ 0))) Dw ?_
  rw [Int.sub_zero]
  exact q1 l (c1.none hl)
 ·exact q1.elim
theorem Va{e1 e2:Expr}{ta tb:AE}{p p2 pos pos2:Pos}(hc:X.calm=true)(hg:Gl X "list") (hm:X.mg "list" = none) (hg2:Gl X "range") (hm2:X.mg "range" = none) (h1:VE X e1 ta) (h2:VE X e2 tb)
  (hs:starEach [.Call (.Name "range" p2) [e1,e2] [] pos2] X.env=[(false,eval (.Call (.Name "range" p2) [e1,e2] [] pos2) X.env)]:=by rfl) (hs2:starEach [e1,e2] X.env=(false,eval e1 X.env) :: starEach [e2] X.env:=by rfl) (hs3:starEach [e2] X.env=[(false,eval e2 X.env)]:=by rfl) (hpl:(backTo pos2 (starEach [e2] X.env)).any (·.1)=false:=by rfl) :
  VE X (.Call (.Name "list" p) [.Call (.Name "range" p2) [e1,e2] [] pos2] [] pos) (Qck ta tb):=by
 intro pins s σ H Q I zz206
 refine Cd zz206 fun τ μ R hst hcn h hq=>?_
 refine wpAny_Call_Name_kw (Cz I hg hm boot_list (PyProof.Rows.callWith_type1 ?_ hs rfl))
 rw [hs]
 refine Calls.spliced_cons (wpAny_Call_Name_kw (Cz I hg2 hm2 boot_range (PyProof.Rows.callWith_type1 ?_ hs2 hpl)))
 rw [hs2]
 refine Calls.spliced_cons (wpAny_mono (h1.run I hst hcn h) (λu1 s1 zu=>?_) λ_ _ e=>e)
 obtain⟨x,v,μ1,H1,I1,rv,S1,c1,rx,q1⟩:=zu
 rw [hs3]
 refine Calls.spliced_cons (wpAny_mono (h2.run I1 (hst.kp S1) c1 q1) (λu2 s2 zu=>Calls.spliced_nil ?_) λ_ _ e=>e)
 obtain⟨y,v2,μ2,H2,I2,rv2,S2,c2,ry,q2⟩:=zu
 split at q2
 ·rename_i m n
  obtain⟨⟨n0,n1,n2⟩,q2⟩:=q2
  cases RelA.int rx
  cases RelA.int ry
  obtain⟨t,rfl⟩:=rv
  obtain⟨t2,rfl⟩:=rv2
  refine call_range_2 (Calls.spliced_nil (Ng hc I2 n0 n1 n2 λl hl=>?_))
  exact hq _ _ _ _ ((S1.trans S2).trans (Kp.new hl _)) (c2.new hl (Da (Lp _ m))) Dw (q2 l (c2.none hl))
 ·exact q2.elim
end
section
variable {prog:Program}{w:World}{A:Around}{E:Value->Shared->Prop}{s:Shared}
end
section
variable {X:Cx}{e st:Expr}{te ts:AE}{p2 pos:Pos}
end
section
variable {X:Cx}{tg:Expr}
end
def lets(z:Str):Prop:=∀c∈z.cps.toList,97<=c/\c<=122
theorem Qq(a b:Str):(a++b).cps.toList=a.cps.toList++b.cps.toList:=by
 show(a.cps++b.cps).toList=_
 simp
theorem Lq(z:Str):z.length=z.cps.toList.length:=by simp [Str.length]
theorem Ji{a b:Str}(ha:lets a)(hb:lets b):lets (a++b):=λc hc=>by
 rw [Qq]at hc
 rcases List.mem_append.mp hc with h | h
 ·exact ha c h
 ·exact hb c h
theorem Qcl:("" : Str).cps.toList=[]:=by decide +kernel
theorem Sb:∀{zs:List Str},(∀z∈zs,lets z)->lets (Txt.join "" zs):=λ{zs} h=>by
 show lets (PySem.Builtin.Str.glued "" zs)
 rw [StrLaws.glued_eq_join]
 induction zs with
 | nil=>exact λc hc=>by simp [Str.join,Str.empty]at hc
 | cons x zs ih =>
  cases zs with
  | nil=>exact h x List.mem_cons_self
  | cons y zs =>
   show lets (x ++ "" ++ Str.join "" (y :: zs))
   exact Ji (Ji (h x List.mem_cons_self) (λc hc=>by rw [Qcl]at hc;simp at hc)) (ih λz hz=>h z (List.mem_cons_of_mem _ hz))
section
variable {core lg:Str}{at' turn:Int}
end
end L2
namespace L2
open PySem PySem.SetTable
theorem Ef{α:Type} [DecidableEq α]:∀{xs ys:List α},xs.Nodup->(∀x∈xs,x∈ys)->xs.length<=ys.length
 | [],_,_,_=>Nat.zero_le _
 | x :: xs,ys,hn,h=>by
  have hn':=List.nodup_cons.mp hn
  have hx:=h x (.head _)
  have:=Ef (ys:=ys.erase x) hn'.2 λz hz=>(List.mem_erase_of_ne (by rintro rfl;exact hn'.1 hz)).mpr (h z (.tail _ hz))
  rw [List.length_erase_of_mem hx]at this
  have:0 < ys.length:=List.length_pos_of_mem hx
  rw [List.length_cons];omega
def advM(mask:Nat)(p:Probe):Probe :=
 if p.more > 0 then { p with j:=p.j+1,more:=p.more - 1 } else
 { p with j:=(leap mask p.i p.perturb).1,more:=runEnd mask (leap mask p.i p.perturb).1 - (leap mask p.i p.perturb).1,i:=(leap mask p.i p.perturb).1,perturb:=(leap mask p.i p.perturb).2 }
theorem Yi(t:SetTable)(p:Probe):t.advance p=advM t.mask p:=rfl
def Sc(mask i perturb l:Nat):Probe:={ j:=i+l,more:=runEnd mask i - i - l,i:=i,perturb:=perturb,dummy:=none }
def Kl(mask:Nat)(h:Int):Nat->Probe
 | 0=>Sc mask (bits h % (mask+1)) (bits h) 0
 | n+1=>advM mask (Kl mask h n)
def sq(mask:Nat)(h:Int)(n:Nat):Nat:=(Kl mask h n).j
def rn(mask:Nat)(h:Int):Nat->Nat×Nat
 | 0=>(bits h % (mask+1),bits h)
 | r+1=>leap mask (rn mask h r).1 (rn mask h r).2
def nr(mask:Nat)(h:Int):Nat->Nat
 | 0=>0
 | r+1=>nr mask h r+(runEnd mask (rn mask h r).1 - (rn mask h r).1)+1
theorem Qcm(mask i:Nat):runEnd mask i - i<=9:=by unfold runEnd;split <;> omega
theorem Vb(mask i:Nat):i<=runEnd mask i:=by unfold runEnd;split <;> omega
theorem Nh{mask i:Nat}(h:i<=mask):runEnd mask i<=mask:=by unfold runEnd;split <;> omega
theorem Zp(mask:Nat)(h:Int):∀r,nr mask h r<=10 * r
 | 0=>Nat.le_refl _
 | r+1=>by
  have:=Zp mask h r
  have:=Qcm mask (rn mask h r).1
  rw [nr];omega
theorem Vc(mask:Nat)(h:Int):∀r,(rn mask h r).1<=mask
 | 0=>by have:=Nat.mod_lt (bits h) (show 0 < mask+1 by omega);rw [rn];dsimp only;omega
 | r+1=>by
  rw [rn,leap]
  have:=Nat.mod_lt ((rn mask h r).1 * 5+1+(rn mask h r).2 / 32) (show 0 < mask+1 by omega)
  dsimp only;omega
theorem O2{mask:Nat}{h:Int}{n i pt:Nat}(e:Kl mask h n=Sc mask i pt 0):∀l,l<=runEnd mask i - i->Kl mask h (n+l)=Sc mask i pt l
 | 0,_=>e
 | l+1,hl=>by
  rw [<- Nat.add_assoc,Kl,O2 e l (by omega)]
  unfold advM
  rw [if_pos (show(Sc mask i pt l).more > 0 by show _ - l > 0;omega)]
  show Probe.mk _ _ _ _ _=Probe.mk _ _ _ _ _
  congr 1
theorem Qr(mask:Nat)(h:Int):∀r,Kl mask h (nr mask h r)=Sc mask (rn mask h r).1 (rn mask h r).2 0
 | 0=>rfl
 | r+1=>by
  rw [nr,Kl,O2 (Qr mask h r) _ (Nat.le_refl _)]
  unfold advM
  rw [if_neg (show ¬(Sc mask (rn mask h r).1 (rn mask h r).2 (runEnd mask (rn mask h r).1 - (rn mask h r).1)).more > 0 by show ¬(_ - _ - _ > 0);omega)]
  rfl
theorem G7{mask:Nat}{h:Int}{r l:Nat}(hl:l<=runEnd mask (rn mask h r).1 - (rn mask h r).1):sq mask h (nr mask h r+l)=(rn mask h r).1+l:=by
 unfold sq
 rw [O2 (Qr mask h r) l hl];rfl
theorem G8(mask:Nat)(h:Int):∀n,(Kl mask h n).dummy=none
 | 0=>rfl
 | n+1=>by
  rw [Kl,advM]
  split
  ·exact G8 mask h n
  ·exact G8 mask h n
theorem Zq(mask:Nat)(h:Int):∀r,(rn mask h r).2=bits h / 32 ^ r
 | 0=>by rw [rn,Nat.pow_zero,Nat.div_one]
 | r+1=>by
  rw [rn,leap]
  dsimp only
  rw [Zq mask h r,Nat.div_div_eq_div_mul,Nat.pow_succ]
theorem Yj(h:Int):bits h < 2 ^ 64:=by
 unfold bits
 have h1:=Int.emod_lt_of_pos h (show(0:Int) < 2 ^ 64 by decide)
 have h2:=Int.emod_nonneg h (show(2 ^ 64:Int)≠0 by decide)
 omega
theorem Yk(mask:Nat)(h:Int)(r:Nat):(rn mask h (13+r+1)).1=((rn mask h (13+r)).1 * 5+1) % (mask+1):=by
 rw [rn,leap]
 dsimp only
 have e:(rn mask h (13+r)).2=0:=by
  rw [Zq]
  refine Nat.div_eq_of_lt (Nat.lt_of_lt_of_le (Yj h) ?_)
  exact Nat.le_trans (show 2 ^ 64<=32 ^ 13 by decide) (Nat.pow_le_pow_right (by decide) (by omega))
 rw [e]
def cyc(mask:Nat)(i:Nat):Nat->Nat
 | 0=>i
 | b+1=>(cyc mask i b * 5+1) % (mask+1)
theorem Vd(mask:Nat)(h:Int):∀b,(rn mask h (13+b)).1=cyc mask (rn mask h 13).1 b
 | 0=>rfl
 | b+1=>by rw [<- Nat.add_assoc,Yk,Vd mask h b];rfl
theorem Go(mask i:Nat)(a:Nat):∀b,cyc mask (cyc mask i a) b=cyc mask i (a+b)
 | 0=>rfl
 | b+1=>by rw [cyc,Go mask i a b];rfl
def Msk(mask:Nat):Prop:=mask=7\/mask=31\/mask=127\/mask=511
def orbit(mask:Nat):Nat->Nat->List Nat
 | 0,_=>[]
 | n+1,i=>i :: orbit mask n ((i * 5+1) % (mask+1))
theorem Km(mask:Nat):∀(n i x:Nat),x∈orbit mask n i->∃b,b < n/\cyc mask i b=x
 | 0,_,_,h=>by cases h
 | n+1,i,x,h=>by
  rcases List.mem_cons.mp h with rfl | h
  ·exact⟨0,by omega,rfl⟩
  ·obtain⟨b,hb,e⟩:=Km mask n _ x h
   refine⟨b+1,by omega,?_⟩
   rw [show b+1=1+b by omega,<- Go]
   exact e
theorem Qjj:((List.range 8).all λx=>(orbit 7 8 0).contains x)=true/\cyc 7 0 8=0:=by decide +kernel
theorem Qfq:((List.range 32).all λx=>(orbit 31 32 0).contains x)=true/\cyc 31 0 32=0:=by decide +kernel
theorem Qcn:((List.range 128).all λx=>(orbit 127 128 0).contains x)=true/\cyc 127 0 128=0:=by decide +kernel
theorem Qco:((List.range 512).all λx=>(orbit 511 512 0).contains x)=true/\cyc 511 0 512=0:=by decide +kernel
theorem orb{mask:Nat}(hm:Msk mask):((List.range (mask+1)).all λx=>(orbit mask (mask+1) 0).contains x)=true/\cyc mask 0 (mask+1)=0:=by
 rcases hm with rfl | rfl | rfl | rfl
 ·exact Qjj
 ·exact Qfq
 ·exact Qcn
 ·exact Qco
theorem Yl{mask:Nat}(hm:Msk mask){i x:Nat}(hi:i<=mask)(hx:x<=mask):∃b,b<=mask+1/\cyc mask i b=x:=by
 obtain⟨h1,h2⟩:=orb hm
 have key:∀y,y<=mask->∃b,b < mask+1/\cyc mask 0 b=y:=λy hy=>Km mask _ 0 y (by
  have:=List.all_eq_true.mp h1 y (List.mem_range.mpr (by omega))
  exact List.contains_iff_mem.mp this)
 obtain⟨a,ha,ea⟩:=key i hi
 obtain⟨c,hc,ec⟩:=key x hx
 rcases Nat.lt_or_ge c a with h | h
 ·refine⟨mask+1 - a+c,by omega,?_⟩
  rw [<- ea,Go,show a+(mask+1 - a+c)=(mask+1)+c by omega,<- Go,h2,ec]
 ·refine⟨c - a,by omega,?_⟩
  rw [<- ea,Go,show a+(c - a)=c by omega,ec]
theorem reach{mask:Nat}(hm:Msk mask)(h:Int){x:Nat}(hx:x<=mask):∃r,r<=mask+14/\(rn mask h r).1=x:=by
 obtain⟨b,hb,e⟩:=Yl hm (Vc mask h 13) hx
 exact⟨13+b,by omega,by rw [Vd,e]⟩
theorem Zr(mask:Nat)(h:Int):∀n,∃r l,l<=runEnd mask (rn mask h r).1 - (rn mask h r).1/\n=nr mask h r+l
 | 0=>⟨0,0,Nat.zero_le _,rfl⟩
 | n+1=>by
  obtain⟨r,l,hl,rfl⟩:=Zr mask h n
  rcases Nat.lt_or_ge l (runEnd mask (rn mask h r).1 - (rn mask h r).1) with c | c
  ·exact⟨r,l+1,c,rfl⟩
  ·exact⟨r+1,0,Nat.zero_le _,by rw [nr];omega⟩
theorem Qs(mask:Nat)(h:Int)(n:Nat):sq mask h n<=mask:=by
 obtain⟨r,l,hl,rfl⟩:=Zr mask h n
 rw [G7 hl]
 have:=Nh (Vc mask h r)
 have:=Vb mask (rn mask h r).1
 omega
theorem O3{mask:Nat}(hm:Msk mask)(h:Int)(occ:Nat->Prop) [DecidablePred occ]{x:Nat}(hx:x<=mask)(hn:¬occ x):∃n,n < 10 * turns mask/\¬occ (sq mask h n)/\∀m,m < n->occ (sq mask h m):=by
 obtain⟨r,hr,e⟩:=reach hm h hx
 have h0:¬occ (sq mask h (nr mask h r)):=by
  rw [show nr mask h r=nr mask h r+0 from rfl,G7 (Nat.zero_le _),e];exact hn
 have h1:nr mask h r < 10 * turns mask:=by have:=Zp mask h r;unfold turns;omega
 generalize nr mask h r=k at h0 h1
 induction k using Nat.strongRecOn with
 | _ k ih =>
  by_cases c:∀m,m < k->occ (sq mask h m)
  ·exact⟨k,h1,h0,c⟩
  ·have⟨m,hm1,hm2⟩:∃m,m < k/\¬occ (sq mask h m):=by
    refine Classical.byContradiction λz=>c λm hm'=>Classical.byContradiction λy=>z ⟨m,hm',y⟩
   exact ih m hm1 hm2 (by omega)
theorem Qt{mask:Nat}(h:Int)(owner:Array (Option Nat))(hs:owner.size=mask+1):∀(fuel r:Nat),(∃k,r<=k/\k < r+fuel/\owner.getD (rn mask h k).1 none=none)->(∀m,m < nr mask h r->(owner.getD (sq mask h m) none).isSome=true) ->
  ∃n,layClean.free mask owner fuel (rn mask h r).1 (rn mask h r).2=some (sq mask h n)/\owner.getD (sq mask h n) none=none/\∀m,m < n->(owner.getD (sq mask h m) none).isSome=true
 | 0,r,⟨k,h1,h2,_⟩,_=>by omega
 | fuel+1,r,hk,ho=>by
  have hd:∀j,j<=mask->owner.getD j (some 0)=owner.getD j none:=λj hj=>by
   simp only [Array.getD,show j < owner.size by omega,dite_true]
  have hrl:=Vc mask h r
  have hre:=Nh hrl
  have hrg:=Vb mask (rn mask h r).1
  rw [layClean.free]
  cases c:(List.range (runEnd mask (rn mask h r).1+1 - (rn mask h r).1)).find? λk=>(owner.getD ((rn mask h r).1+k) (some 0)).isNone with
  | some k =>
   obtain⟨c1,c2,c3⟩:=List.find?_range_eq_some.mp c
   have hk2:=List.mem_range.mp c2
   refine⟨nr mask h r+k,?_,?_,λm hm=>?_⟩
   ·rw [G7 (by omega)]
   ·rw [G7 (by omega),<- hd _ (by omega)]
    exact Option.isNone_iff_eq_none.mp c1
   ·rcases Nat.lt_or_ge m (nr mask h r) with z | z
    ·exact ho m z
    ·have e:m=nr mask h r+(m - nr mask h r):=by omega
     rw [e,G7 (by omega),<- hd _ (by omega)]
     have:=c3 (m - nr mask h r) (by omega)
     cases q:owner.getD ((rn mask h r).1+(m - nr mask h r)) (some 0) with
     | none=>rw [q]at this;cases this
     | some _=>rfl
  | none =>
   have c':=List.find?_range_eq_none.mp c
   have hocc:∀l,l<=runEnd mask (rn mask h r).1 - (rn mask h r).1->(owner.getD ((rn mask h r).1+l) none).isSome=true:=λl hl=>by
    have:=c' l (by omega)
    rw [hd _ (by omega)]at this
    cases q:owner.getD ((rn mask h r).1+l) none with
    | none=>rw [q]at this;cases this
    | some _=>rfl
   refine Qt h owner hs fuel (r+1) ?_ λm hm=>?_
   ·obtain⟨k,h1,h2,h3⟩:=hk
    rcases Nat.eq_or_lt_of_le h1 with rfl | h1
    ·have:=hocc 0 (Nat.zero_le _)
     rw [Nat.add_zero,h3]at this;cases this
    ·exact⟨k,h1,by omega,h3⟩
   ·rcases Nat.lt_or_ge m (nr mask h r) with z | z
    ·exact ho m z
    ·have e:m=nr mask h r+(m - nr mask h r):=by omega
     rw [nr]at hm
     rw [e,G7 (by omega)]
     exact hocc _ (by omega)
structure Own(mask:Nat)(hs:List Int)(owner:Array (Option Nat))(k:Nat):Prop where
 size:owner.size=mask+1
 lt:∀j x,owner.getD j none=some x->x < k
 has:∀x,x < k->∃j,owner.getD j none=some x
 inj:∀j j' x,owner.getD j none=some x->owner.getD j' none=some x->j=j'
 path:∀j x h,owner.getD j none=some x->hs[x]?=some h->∃n,sq mask h n=j/\∀m,m < n->(owner.getD (sq mask h m) none).isSome=true
theorem Ve(o:Array (Option Nat))(j:Nat)(v:Option Nat)(hj:j < o.size)(i:Nat):(o.setIfInBounds j v).getD i none=if i=j then v else o.getD i none:=by
 rw [Array.getD_eq_getD_getElem?,Array.getD_eq_getD_getElem?,Array.getElem?_setIfInBounds]
 by_cases e:i=j
 ·subst e
  rw [if_pos rfl,if_pos hj,if_pos rfl];rfl
 ·rw [if_neg (λz=>e z.symm),if_neg e]
theorem Qu{o:Array (Option Nat)}{j x:Nat}(h:o.getD j none=some x):j < o.size:=by
 rw [Array.getD_eq_getD_getElem?]at h
 cases c:o[j]? with
 | none=>rw [c]at h;cases h
 | some y=>exact(Array.getElem?_eq_some_iff.mp c).1
theorem Vf{mask k:Nat}{hs:List Int}{owner:Array (Option Nat)}(o:Own mask hs owner k)(hk:k<=mask):∃x,x<=mask/\owner.getD x none=none:=by
 refine Classical.byContradiction λz=>?_
 have hall:∀j,j<=mask->∃x,owner.getD j none=some x:=λj hj=>by
  cases c:owner.getD j none with
  | none=>exact absurd ⟨j,hj,c⟩ z
  | some x=>exact⟨x,rfl⟩
 have h1:((List.range (mask+1)).map λj=>(owner.getD j none).getD 0).Nodup:=by
  rw [List.Nodup,List.pairwise_map]
  refine List.Pairwise.imp_of_mem (R:=(· < ·)) (λ{a b} ha hb hab e=>?_) List.pairwise_lt_range
  obtain⟨x,ex⟩:=hall a (by have:=List.mem_range.mp ha;omega)
  obtain⟨y,ey⟩:=hall b (by have:=List.mem_range.mp hb;omega)
  rw [ex,ey]at e
  have e':x=y:=e
  subst e'
  have:=o.inj a b x ex ey
  omega
 have h2:=Ef (ys:=List.range k) h1 λy hy=>by
  obtain⟨j,hj,rfl⟩:=List.mem_map.mp hy
  obtain⟨x,ex⟩:=hall j (by have:=List.mem_range.mp hj;omega)
  rw [ex]
  exact List.mem_range.mpr (o.lt j x ex)
 rw [List.length_map,List.length_range,List.length_range]at h2
 omega
theorem Vg{mask k:Nat}{hs:List Int}{owner:Array (Option Nat)}{h:Int}(hm:Msk mask)(o:Own mask hs owner k)(hk:k<=mask)(hh:hs[k]?=some h):∃j,layClean.free mask owner (turns mask) (bits h % (mask+1)) (bits h)=some j/\Own mask hs (owner.setIfInBounds j (some k)) (k+1):=by
 obtain⟨x,hx,ex⟩:=Vf o hk
 obtain⟨r,hr,er⟩:=reach hm h hx
 obtain⟨n,e1,e2,e3⟩:=Qt h owner o.size (turns mask) 0 ⟨r,Nat.zero_le _,by unfold turns;omega,by rw [er];exact ex⟩ (λm hm'=>absurd hm' (Nat.not_lt_zero _))
 have hj:sq mask h n < owner.size:=by have:=Qs mask h n;rw [o.size];omega
 have hg:=Ve owner (sq mask h n) (some k) hj
 refine⟨_,e1,by rw [Array.size_setIfInBounds];exact o.size,λj y e=>?_,λy hy=>?_,λj j' y a b=>?_,λj y g a b=>?_⟩
 ·rw [hg]at e
  split at e
  ·cases e;omega
  ·have:=o.lt j y e;omega
 ·rcases(show y < k\/y=k by omega) with h' | rfl
  ·obtain⟨j,ej⟩:=o.has y h'
   refine⟨j,?_⟩
   rw [hg,if_neg (by rintro rfl;rw [e2]at ej;cases ej)];exact ej
  ·exact⟨_,by rw [hg,if_pos rfl]⟩
 ·rw [hg]at a b
  split at a
  ·rename_i q1
   split at b
   ·rename_i q2;exact q1.trans q2.symm
   ·cases a;have:=o.lt _ _ b;omega
  ·split at b
   ·cases b;have:=o.lt _ _ a;omega
   ·exact o.inj j j' y a b
 ·have up:∀i,(owner.getD i none).isSome=true->((owner.setIfInBounds (sq mask h n) (some k)).getD i none).isSome=true:=λi hi=>by
   rw [hg]
   split
   ·rfl
   ·exact hi
  rw [hg]at a
  split at a
  ·rename_i q1
   cases a
   rw [hh]at b
   cases b
   exact⟨n,q1.symm,λm hm'=>up _ (e3 m hm')⟩
  ·obtain⟨n',f1,f2⟩:=o.path j y g a b
   exact⟨n',f1,λm hm'=>up _ (f2 m hm')⟩
def Ym(mask:Nat)(acc:Option (Array (Option Nat)×Nat))(h:Int):Option (Array (Option Nat)×Nat):=do
 let(owner,k) <- acc
 let j <- layClean.free mask owner (turns mask) (bits h % (mask+1)) (bits h)
 pure (owner.setIfInBounds j (some k),k+1)
theorem Ni{mask:Nat}(hm:Msk mask){hs:List Int}(hl:hs.length<=mask+1):∀(rest dn:List Int) (owner:Array (Option Nat)),hs=dn++rest->Own mask hs owner dn.length->∃owner',rest.foldl (Ym mask) (some (owner,dn.length))=some (owner',hs.length)/\Own mask hs owner' hs.length
 | [],dn,owner,e,o=>by
  rw [List.append_nil]at e
  subst e
  exact⟨owner,rfl,o⟩
 | h :: rest,dn,owner,e,o=>by
  have hk:dn.length<=mask:=by rw [e,List.length_append,List.length_cons]at hl;omega
  obtain⟨j,e1,o1⟩:=Vg hm o hk (h:=h) (by rw [e];simp)
  have e2:Ym mask (some (owner,dn.length)) h=some (owner.setIfInBounds j (some dn.length),(dn++[h]).length):=by
   unfold Ym
   simp only [Option.bind_eq_bind,Option.bind_some,e1,List.length_append]
   rfl
  rw [List.foldl_cons,e2]
  exact Ni hm hl rest (dn++[h]) _ (by rw [e];simp) (by rw [List.length_append];exact o1)
theorem Qcp{mask:Nat}(hm:Msk mask)(hs:Array Int)(hl:hs.size<=mask+1):∃owner,layClean mask hs=some owner/\Own mask hs.toList owner hs.size:=by
 have o0:Own mask hs.toList (Array.replicate (mask+1) none) 0:=by
  have hg:∀j,(Array.replicate (mask+1) (none:Option Nat)).getD j none=none:=λj=>by
   rw [Array.getD_eq_getD_getElem?,Array.getElem?_replicate]
   split <;> rfl
  exact⟨by simp,λj x e=>(by rw [hg]at e;cases e),λx hx=>absurd hx (Nat.not_lt_zero _),λj j' x e=>(by rw [hg]at e;cases e),λj x h e=>(by rw [hg]at e;cases e)⟩
 obtain⟨owner,e,o⟩:=Ni hm (hs:=hs.toList) (by simpa using hl) hs.toList [] _ rfl o0
 refine⟨owner,?_,by simpa using o⟩
 unfold layClean
 rw [<- Array.foldl_toList]
 have e':List.foldl (Ym mask) (some (Array.replicate (mask+1) none,0)) hs.toList=some (owner,hs.toList.length):=e
 exact(congrArg (Option.map (·.1)) e').trans rfl
structure TabQ(t:SetTable)(hs:List Int):Prop where
 msk:Msk t.mask
 len:t.place.size=hs.length
 le:∀j∈t.place.toList,j<=t.mask
 path:∀z∈t.place.toList.zip hs,∃n,sq t.mask z.2 n=z.1/\∀m,m < n->sq t.mask z.2 m∈t.place.toList
theorem Yn{mask f mv:Nat}{led pl:Bool}(hm:Msk mask)(hs:Array Int)(hl:hs.size<=mask+1):∃t order,laid mask f mv led pl hs=some (t,order)/\t.mask=mask/\order.toList.Perm (List.range hs.size)/\TabQ t (order.toList.map λi=>hs.getD i 0):=by
 obtain⟨owner,e,o⟩:=Qcp hm hs hl
 have hlive:∀j x,(j,x)∈((List.range (mask+1)).filterMap λj=>(owner.getD j none).map (j,·))↔owner.getD j none=some x:=λj x=>by
  rw [List.mem_filterMap]
  constructor
  ·rintro⟨a,ha,q⟩
   obtain⟨y,ey,q2⟩:=Option.map_eq_some_iff.mp q
   cases q2;exact ey
  ·intro q
   refine⟨j,List.mem_range.mpr ?_,by rw [q];rfl⟩
   have:=Qu q;rw [o.size]at this;exact this
 have hnd:((List.range (mask+1)).filterMap λj=>(owner.getD j none).map (j,·)).Pairwise λp q=>p.2≠q.2:=by
  refine List.Pairwise.filterMap _ (R:=(· < ·)) (λa a' haa b hb b' hb'=>?_) List.pairwise_lt_range
  obtain⟨z,hz,rfl⟩:=Option.map_eq_some_iff.mp hb
  obtain⟨z',hz',rfl⟩:=Option.map_eq_some_iff.mp hb'
  intro q
  have q':z=z':=q
  subst q'
  have:=o.inj a a' z hz hz'
  omega
 refine⟨_,_,by unfold laid;rw [e];rfl,rfl,?_,?_⟩
 ·show(List.map (λp:Nat×Nat=>p.2) _).Perm _
  refine(List.perm_ext_iff_of_nodup ?_ List.nodup_range).mpr λx=>?_
  ·rw [List.Nodup,List.pairwise_map];exact hnd
  ·rw [List.mem_map,List.mem_range]
   constructor
   ·rintro⟨⟨j,y⟩,hy,rfl⟩
    exact o.lt j y ((hlive j y).mp hy)
   ·intro hx
    obtain⟨j,ej⟩:=o.has x hx
    exact⟨(j,x),(hlive j x).mpr ej,rfl⟩
 ·refine⟨hm,?_,λj hj=>?_,λz hz=>?_⟩
  ·show(List.map _ _).toArray.size=(List.map _ (List.map _ _)).length
   simp
  ·have hj':j∈List.map (·.1) ((List.range (mask+1)).filterMap λj=>(owner.getD j none).map (j,·)):=hj
   obtain⟨⟨a,b⟩,q,rfl⟩:=List.mem_map.mp hj'
   have:=Qu ((hlive a b).mp q)
   rw [o.size]at this
   show a<=mask
   omega
  ·have hz':z∈List.zip (List.map (·.1) ((List.range (mask+1)).filterMap λj=>(owner.getD j none).map (j,·))) (List.map (λi=>hs.getD i 0) (List.map (·.2) ((List.range (mask+1)).filterMap λj=>(owner.getD j none).map (j,·)))):=hz
   rw [List.map_map,List.zip_map',List.mem_map]at hz'
   obtain⟨⟨a,b⟩,q,rfl⟩:=hz'
   have qa:=(hlive a b).mp q
   have hb:=o.lt a b qa
   obtain⟨n,e1,e2⟩:=o.path a b (hs.getD b 0) qa (by rw [Array.getElem?_toList,Array.getD_eq_getD_getElem?,Array.getElem?_eq_getElem hb];rfl)
   refine⟨n,e1,λm hm'=>?_⟩
   obtain⟨y,ey⟩:=Option.isSome_iff_exists.mp (e2 m hm')
   exact List.mem_map.mpr ⟨(_,y),(hlive _ y).mpr ey,rfl⟩
theorem Cj{xs:Array Nat}(h:Ed xs){j k:Nat}(e:xs[k]?=some j):SetTable.below xs j=k:=by
 obtain⟨hk,ej⟩:=Array.getElem?_eq_some_iff.mp e
 obtain⟨h1,h2,h3⟩:=Ee h j
 have gk:xs.getD k j=j:=by rw [Array.getD_eq_getD_getElem?,e];rfl
 rcases Nat.lt_trichotomy (SetTable.below xs j) k with c | c | c
 ·have:=h.lt (d:=j) c hk
  have:=h3 _ (Nat.le_refl _) (by omega)
  omega
 ·exact c
 ·have:=h2 k c
  omega
theorem Lr{t:SetTable}{led:Bool}(h:TblOk t led){j:Nat}(hj:j∈t.place.toList):∃i,t.slot j=.live i/\t.place[i]?=some j:=by
 obtain⟨i,hi⟩:=List.getElem?_of_mem hj
 rw [Array.getElem?_toList]at hi
 refine⟨i,?_,hi⟩
 unfold SetTable.slot
 dsimp only
 rw [Cj h.rise hi,hi]
 simp
theorem Nj{t:SetTable}{led:Bool}(h:TblOk t led){j:Nat}(hj:j∉t.place.toList):t.slot j=.empty:=by
 unfold SetTable.slot
 dsimp only
 rw [h.dum,M6,if_neg]
 ·rfl
 ·intro c
  have c':t.place[SetTable.below t.place j]?=some j:=by simpa using c
  rw [<- Array.getElem?_toList]at c'
  exact hj (List.mem_of_getElem? c')
theorem Jj{α β:Type}(a:α)(b:β):∀(p:Nat) (xs:List α) (ys:List β),xs.length=ys.length->(xs.take p++a :: xs.drop p).zip (ys.take p++b :: ys.drop p)=(xs.zip ys).take p++(a,b) :: (xs.zip ys).drop p
 | 0,xs,ys,_=>by simp
 | p+1,[],[],_=>by simp
 | p+1,x :: xs,y :: ys,h=>by
  have:=Jj a b p xs ys (by simpa using h)
  simpa using this
 | _+1,[],_ :: _,h=>by simp at h
 | _+1,_ :: _,[],h=>by simp at h
theorem TabQ.put{t:SetTable}{led:Bool}{hs:List Int}{h:Int}{n:Nat}(q:TabQ t hs)(T:TblOk t led)(ho:∀m,m < n->sq t.mask h m∈t.place.toList):TabQ (t.put (sq t.mask h n)).1 (hs.take (SetTable.below t.place (sq t.mask h n))++h :: hs.drop (SetTable.below t.place (sq t.mask h n))):=by
 have hp:SetTable.below t.place (sq t.mask h n)<=t.place.size:=(Ee T.rise _).1
 have e:(t.put (sq t.mask h n)).1.place.toList=t.place.toList.take (SetTable.below t.place (sq t.mask h n))++sq t.mask h n :: t.place.toList.drop (SetTable.below t.place (sq t.mask h n)):=E7 _ _ _ hp
 have hm:(t.put (sq t.mask h n)).1.mask=t.mask:=rfl
 have hlen:=q.len
 have up:∀j,j∈t.place.toList->j∈(t.put (sq t.mask h n)).1.place.toList:=λj hj=>by
  rw [e]
  rw [<- List.take_append_drop (SetTable.below t.place (sq t.mask h n)) t.place.toList]at hj
  rcases List.mem_append.mp hj with hj | hj
  ·exact List.mem_append_left _ hj
  ·exact List.mem_append_right _ (List.mem_cons_of_mem _ hj)
 have dn:∀j,j∈(t.put (sq t.mask h n)).1.place.toList->j=sq t.mask h n\/j∈t.place.toList:=λj hj=>by
  rw [e]at hj
  rcases List.mem_append.mp hj with hj | hj
  ·exact .inr (List.mem_of_mem_take hj)
  ·rcases List.mem_cons.mp hj with hj | hj
   ·exact .inl hj
   ·exact .inr (List.mem_of_mem_drop hj)
 refine⟨q.msk,?_,λj hj=>?_,λz hz=>?_⟩
 ·rw [<- Array.length_toList,e]
  simp only [List.length_append,List.length_cons,List.length_take,List.length_drop,Array.length_toList]
  omega
 ·rcases dn j hj with rfl | hj
  ·exact Qs _ _ _
  ·exact q.le j hj
 ·rw [e,Jj _ _ _ _ _ (by rw [Array.length_toList];exact hlen)]at hz
  rw [hm]
  have old:z∈t.place.toList.zip hs->∃n',sq t.mask z.2 n'=z.1/\∀m,m < n'->sq t.mask z.2 m∈(t.put (sq t.mask h n)).1.place.toList:=λhz=>by
   obtain⟨n',a,b⟩:=q.path z hz
   exact⟨n',a,λm hm'=>up _ (b m hm')⟩
  rcases List.mem_append.mp hz with hz | hz
  ·exact old (List.mem_of_mem_take hz)
  ·rcases List.mem_cons.mp hz with rfl | hz
   ·exact⟨n,rfl,λm hm'=>up _ (ho m hm')⟩
   ·exact old (List.mem_of_mem_drop hz)
theorem Vh{t:SetTable}{led:Bool}{hs:List Int}(q:TabQ t hs)(T:TblOk t led)(hl:hs.length<=t.mask):∃x,x<=t.mask/\x∉t.place.toList:=by
 refine Classical.byContradiction λz=>?_
 have:=Ef (ys:=t.place.toList) (List.nodup_range (n:=t.mask+1)) λx hx=>Classical.byContradiction λy=>z ⟨x,by have:=List.mem_range.mp hx;omega,y⟩
 rw [List.length_range,Array.length_toList,q.len]at this
 omega
theorem probe_ok{t:SetTable}{led:Bool}(T:TblOk t led){hashAt:Nat->Int}{h:Int}{e:Nat}(he:sq t.mask h e∉t.place.toList)(hb:∀m,m < e->sq t.mask h m∈t.place.toList):∀(f n:Nat),n<=e->e < n+f ->
  (SetTable.probe.go t hashAt h f (Kl t.mask h n)=some (.empty (sq t.mask h e) none)/\∀m i,n<=m->m < e->t.place[i]?=some (sq t.mask h m)->hashAt i≠h) \/
  ∃k i,n<=k/\k < e/\t.place[i]?=some (sq t.mask h k)/\hashAt i=h/\SetTable.probe.go t hashAt h f (Kl t.mask h n)=some (.candidate (sq t.mask h k) i (Kl t.mask h (k+1)))/\∀m i,n<=m->m < k->t.place[i]?=some (sq t.mask h m)->hashAt i≠h
 | 0,n,h1,h2=>by omega
 | f+1,n,h1,h2=>by
  rw [SetTable.probe.go]
  have uniq:∀{i i' j:Nat},t.place[i]?=some j->t.place[i']?=some j->i=i':=λa b=>(Cj T.rise a).symm.trans (Cj T.rise b)
  rcases Nat.eq_or_lt_of_le h1 with rfl | h1
  ·rw [show t.slot (Kl t.mask h n).j=.empty from Nj T he]
   dsimp only
   rw [G8]
   exact .inl ⟨rfl,λm i a b=>by omega⟩
  ·obtain⟨i,hi,hp⟩:=Lr T (hb n h1)
   rw [show t.slot (Kl t.mask h n).j=.live i from hi]
   dsimp only
   by_cases c:hashAt i=h
   ·rw [if_pos (by simpa using c)]
    exact .inr ⟨n,i,Nat.le_refl _,h1,hp,c,rfl,λm i a b=>by omega⟩
   ·rw [if_neg (by simpa using c),Yi]
    have hnx:∀i',t.place[i']?=some (sq t.mask h n)->hashAt i'≠h:=λi' hi'=>by rw [uniq hi' hp];exact c
    rcases probe_ok T he hb f (n+1) h1 (by omega) with⟨a,b⟩ | ⟨k,i',a1,a2,a3,a4,a5,a6⟩
    ·refine .inl ⟨a,λm i' m1 m2 m3=>?_⟩
     rcases Nat.eq_or_lt_of_le m1 with rfl | m1
     ·exact hnx i' m3
     ·exact b m i' m1 m2 m3
    ·refine .inr ⟨k,i',by omega,a2,a3,a4,a5,λm i'' m1 m2 m3=>?_⟩
     rcases Nat.eq_or_lt_of_le m1 with rfl | m1
     ·exact hnx i'' m3
     ·exact a6 m i'' m1 m2 m3
end L2
namespace L2
open PySem
section
variable {prog:Program}{w:World}
theorem Vi:∀(n q:Nat) (d:PyData) (u:Value) (as:List Addr) (A:Around) (E:Value->Shared->Prop) (s:Shared) (Q:Bool->Shared->Prop),d.depth<=n->n < q->Cano d=true->Reads s.heap u d as->Q false s->wpAny (model prog w) A (ofAClassStatement q u) Q E s:=by
 intro n
 induction n with
 | zero =>
  intro q d u as A E s Q hd hq hc hr h
  cases hr with
  | int i t=>unfold ofAClassStatement;exact wpAny_pure h
  | str x t=>unfold ofAClassStatement;exact wpAny_pure h
  | tuple a1 a2 a3 a4=>simp [PyData.depth]at hd
  | none=>simp [Cano]at hc
  | bool b=>simp [Cano]at hc
  | list a1 a2 a3 a4=>simp [Cano]at hc
  | dict a1 a2 a3 a4 a5=>simp [Cano]at hc
 | succ n ih =>
  intro q d u as A E s Q hd hq hc hr h
  cases hr with
  | int i t=>unfold ofAClassStatement;exact wpAny_pure h
  | str x t=>unfold ofAClassStatement;exact wpAny_pure h
  | none=>simp [Cano]at hc
  | bool b=>simp [Cano]at hc
  | list a1 a2 a3 a4=>simp [Cano]at hc
  | dict a1 a2 a3 a4 a5=>simp [Cano]at hc
  | @tuple a o items m ds as ho hcl hdt hi =>
   have hT:s.TypeIs (.ref a) "tuple" := ⟨o,ho,hcl⟩
   have hd':PyData.depthAll ds<=n:=by simp only [PyData.depth]at hd;omega
   have hc':Ao ds=true:=hc
   obtain⟨q',rfl⟩:∃q',q=q'+1:=⟨q - 1,by omega⟩
   unfold ofAClassStatement
   refine wpAny_bind (wpAny_typeOf hT ?_)
   dsimp only
   rw [if_pos (by decide:("tuple" == "tuple")=true)]
   refine wpAny_bind (wpAny_pure ?_)
   simp only [Bool.not_true,Bool.false_eq_true,if_false]
   refine wpAny_bind (wpAny_seqItems ho hdt ?_)
   dsimp only
   refine wpAny_bind (show wpAny _ _ (forIn items _ _) _ _ s from ?_)
   rw [<- Array.forIn_toList]
   refine wpAny_forIn_list _ (λrest r s'=>r.1=none/\s'=s/\∃lf bs,ReadsAll s.heap rest lf bs/\Ao lf=true/\PyData.depthAll lf<=n) _ ?_ ?_ _ _ ⟨rfl,rfl,ds,as,hi,hc',hd'⟩
   ·rintro v rest r s' ⟨hr,rfl,lf,bs,hl,hcl,hdl⟩
    cases hl with
    | @cons _ _ d ds' as1 bs1 h1 hl' =>
     simp only [Ao,Bool.and_eq_true]at hcl
     simp only [PyData.depthAll]at hdl
     refine wpAny_bind (ih q' d v as1 A _ s' _ (by omega) (by omega) hcl.1 h1 ?_)
     simp only [Bool.false_eq_true,if_false]
     exact wpAny_pure ⟨rfl,rfl,ds',bs1,hl',hcl.2,by omega⟩
   ·rintro⟨r1,r2⟩ s' ⟨hr,rfl,_⟩
    simp only at hr
    subst hr
    exact wpAny_pure h
theorem Qcq:∀(n q:Nat) (d:PyData) (u:Value) (as:List Addr) (A:Around) (E:Value->Shared->Prop) (s:Shared) (Q:Bool->Shared->Prop),d.depth<=n->Cano d=true->Reads s.heap u d as->(∀b,Q b s)->wpAny (model prog w) A (hashByValue q u) Q E s:=by
 intro n
 induction n with
 | zero =>
  intro q d u as A E s Q hd hc hr h
  cases hr with
  | int i t=>unfold hashByValue;exact wpAny_pure (h _)
  | str x t=>unfold hashByValue;exact wpAny_pure (h _)
  | tuple a1 a2 a3 a4=>simp [PyData.depth]at hd
  | none=>simp [Cano]at hc
  | bool b=>simp [Cano]at hc
  | list a1 a2 a3 a4=>simp [Cano]at hc
  | dict a1 a2 a3 a4 a5=>simp [Cano]at hc
 | succ n ih =>
  intro q d u as A E s Q hd hc hr h
  cases hr with
  | int i t=>unfold hashByValue;exact wpAny_pure (h _)
  | str x t=>unfold hashByValue;exact wpAny_pure (h _)
  | none=>simp [Cano]at hc
  | bool b=>simp [Cano]at hc
  | list a1 a2 a3 a4=>simp [Cano]at hc
  | dict a1 a2 a3 a4 a5=>simp [Cano]at hc
  | @tuple a o items m ds as ho hcl hdt hi =>
   have hT:s.TypeIs (.ref a) "tuple" := ⟨o,ho,hcl⟩
   have hd':PyData.depthAll ds<=n:=by simp only [PyData.depth]at hd;omega
   have hc':Ao ds=true:=hc
   cases q with
   | zero=>unfold hashByValue;exact wpAny_pure (h _)
   | succ q' =>
    unfold hashByValue
    refine wpAny_bind (wpAny_specialOf hT F.slot_tuple_hash.lookup (show wpAny _ _ (seqItems? (.ref a) >>= _) _ _ s from ?_))
    refine wpAny_bind (wpAny_seqItems ho hdt (wpAny_bind (show wpAny _ _ (forIn items _ _) _ _ s from ?_)))
    rw [<- Array.forIn_toList]
    refine wpAny_forIn_list _ (λrest r s'=>r.1=none/\s'=s/\∃lf bs,ReadsAll s.heap rest lf bs/\Ao lf=true/\PyData.depthAll lf<=n) _ ?_ ?_ _ _ ⟨rfl,rfl,ds,as,hi,hc',hd'⟩
    ·rintro v rest r s' ⟨hr,rfl,lf,bs,hl,hcl,hdl⟩
     cases hl with
     | @cons _ _ d ds' as1 bs1 h1 hl' =>
      simp only [Ao,Bool.and_eq_true]at hcl
      simp only [PyData.depthAll]at hdl
      refine wpAny_bind (ih q' d v as1 A _ s' _ (by omega) hcl.1 h1 λb=>?_)
      cases b
      ·exact wpAny_pure (wpAny_pure (h _))
      ·exact wpAny_pure ⟨rfl,rfl,ds',bs1,hl',hcl.2,by omega⟩
    ·rintro⟨r1,r2⟩ s' ⟨hr,rfl,_⟩
     simp only at hr
     subst hr
     exact wpAny_pure (h _)
def Cb(h:Heap)(d:PyData)(b:Addr):Prop:=KeyTree d/\∃as,Reads h (.ref b) d as
variable {A:Around}{E:Value->Shared->Prop}{s:Shared}
theorem Yo{d:PyData}{b:Addr}(hx:Cb s.heap d b):∀{vs:List Value} {Q:Bool->Shared->Prop},(∀v∈vs,∃e c,v=.ref c/\Cb s.heap e c)->Q false s->wpAny (model prog w) A (searchCouldBeSeen (.ref b) vs) Q E s:=by
 intro vs Q hv h
 obtain⟨kx,as,rx⟩:=hx
 unfold searchCouldBeSeen
 refine wpAny_bind (wpAny_forIn_list _ (λrest r s'=>r.1=none/\s'=s/\∀v∈rest,∃e c,v=.ref c/\Cb s.heap e c) _ ?_ ?_ _ _ ⟨rfl,rfl,hv⟩)
 ·rintro v rest ⟨r1,r2⟩ s' ⟨hr,rfl,hv'⟩
  obtain⟨e,c,rfl,ke,bs,re⟩:=hv' v (.head _)
  have hrest:∀v∈rest,∃e c,v=.ref c/\Cb s'.heap e c:=λv h=>hv' v (.tail _ h)
  dsimp only
  split
  ·exact wpAny_pure ⟨rfl,rfl,hrest⟩
  ·refine wpAny_bind (Jg 6 8 _ _ as _ _ _ _ kx.dep (by decide) kx.can rx ?_)
   simp only [Bool.not_true,Bool.false_eq_true,if_false]
   refine wpAny_bind (Jg 6 8 _ _ bs _ _ _ _ ke.dep (by decide) ke.can re ?_)
   simp only [Bool.not_true,Bool.false_eq_true,if_false]
   refine wpAny_bind (Vi 6 8 _ _ as _ _ _ _ kx.dep (by decide) kx.can rx ?_)
   simp only [Bool.false_eq_true,if_false]
   refine wpAny_bind (Vi 6 8 _ _ bs _ _ _ _ ke.dep (by decide) ke.can re ?_)
   simp only [Bool.false_eq_true,if_false]
   exact wpAny_pure ⟨rfl,rfl,hrest⟩
 ·rintro⟨r1,r2⟩ s' ⟨hr,rfl,_⟩
  simp only at hr
  subst hr
  exact wpAny_pure h
def Jv(w:World)(x:PyData×Addr):Int×Value:=(Ba w x.1,.ref x.2)
def Eo(w:World)(h:Heap)(a:Addr)(xs:List (PyData×Addr))(led:Bool):Prop :=
 ∃o es ep t,h.get? a=some o/\o.ExactSet/\o.data=.set es ep t/\es.toList=xs.map (Jv w)/\(∀x∈xs,Cb h x.1 x.2)/\t.fits es.size=true/\TblOk t led/\TabQ t (xs.map λx=>Ba w x.1)/\xs.length * 5 < t.mask * 3
theorem O4{t:SetTable}{f g:Nat->Int}{h:Int}{p:SetTable.Probe}(e:∀i,f i=g i):t.probe f h p=t.probe g h p:=by rw [funext e]
theorem Yp{t:SetTable}{hs:List Int}(q:TabQ t hs):t.gaveWay=false:=by
 unfold SetTable.gaveWay
 rcases q.msk with h | h | h | h <;> rw [h] <;> decide
theorem Sd{a:Addr}{o:Obj}{es:Array (Int×Value)}{ep:Nat}{t:SetTable}{xs:List (PyData×Addr)}{led:Bool}{d:PyData}{b:Addr}{Q:SetFound->Shared->Prop}{fr:Nat}(hu:A.units+6 < cLine)(ho:s.heap.get? a=some o)(hd:o.data=.set es ep t)(hl:es.toList=xs.map (Jv w))(hX:∀x∈xs,Cb s.heap x.1 x.2)(hf:t.fits es.size=true)(hT:TblOk t led)(hQ:TabQ t (xs.map λx=>Ba w x.1))(hx:Cb s.heap d b)
  (he:sq t.mask (Ba w d) fr∉t.place.toList) (hb:∀m,m < fr->sq t.mask (Ba w d) m∈t.place.toList) (hfr:fr < 10 * SetTable.turns t.mask)
  (h1:d∈xs.map (·.1)->Q (.there none) s) (h2:d∉xs.map (·.1)->Q (.free (sq t.mask (Ba w d) fr) false) s) :
  ∀(k n fuel:Nat) (stand:Option SetTable.Probe),n+k=fr->k < fuel->(stand=some (Kl t.mask (Ba w d) n)\/stand=none/\n=0)->(∀(m i:Nat) (x:PyData×Addr),m < n->t.place[i]?=some (sq t.mask (Ba w d) m)->xs[i]?=some x->x.1≠d) ->
   wpAny (model prog w) A (setSearchFrom a (.ref b) (Ba w d) true fuel stand) Q E s:=by
 intro k
 induction k using Nat.strongRecOn with
 | _ k ih =>
 intro n fuel stand hn hfu hst hpass
 obtain⟨fuel,rfl⟩:∃f,fuel=f+1:=⟨fuel - 1,by omega⟩
 have hei:∀{i:Nat} {x:PyData×Addr},xs[i]?=some x->es[i]?=some (Jv w x):=λ{i x} h=>by
  rw [<- Array.getElem?_toList,hl,List.getElem?_map,h];rfl
 have hxi:∀{i j:Nat},t.place[i]?=some j->∃x,xs[i]?=some x:=λ{i j} h=>by
  have hi:=(Array.getElem?_eq_some_iff.mp h).1
  have:=hQ.len
  rw [List.length_map]at this
  exact⟨_,List.getElem?_eq_getElem (by omega)⟩
 unfold setSearchFrom
 refine wpAny_bind (wpAny_setState_of ho hd hf ?_)
 dsimp only
 rw [Yp hQ,if_neg Bool.false_ne_true]
 have hst':stand.getD (t.probeStart (Ba w d))=Kl t.mask (Ba w d) n:=by
  rcases hst with rfl | ⟨rfl,rfl⟩
  ·rfl
  ·rfl
 rw [hst',O4 (g:=λi=>((xs.map λx=>Ba w x.1)[i]?).getD 0) ?_]
 ·have key:=probe_ok (hashAt:=λi=>((xs.map λx=>Ba w x.1)[i]?).getD 0) hT he hb (10 * SetTable.turns t.mask) n (by omega) (by omega)
  rcases key with⟨a1,a2⟩ | ⟨k',i,b1,b2,b3,b4,b5,b6⟩
  ·rw [show t.probe (λi=>((xs.map λx=>Ba w x.1)[i]?).getD 0) (Ba w d) (Kl t.mask (Ba w d) n)=_ from a1]
   dsimp only
   refine wpAny_pure (h2 λhin=>?_)
   obtain⟨x,hxm,rfl⟩:=List.mem_map.mp hin
   obtain⟨i,hi⟩:=List.getElem?_of_mem hxm
   have hil:i < t.place.size:=by
    have:=hQ.len
    have:=(List.getElem?_eq_some_iff.mp hi).1
    rw [List.length_map]at *
    omega
   have hpi:t.place[i]?=some t.place[i]:=Array.getElem?_eq_getElem hil
   obtain⟨n',e1,e2⟩:=hQ.path (t.place[i],Ba w x.1) (List.mem_of_getElem? (i:=i) (by
    rw [List.getElem?_zip_eq_some]
    exact⟨by rw [Array.getElem?_toList];exact hpi,by rw [List.getElem?_map,hi];rfl⟩))
   dsimp only at e1 e2
   have hlt:n' < fr:=by
    rcases Nat.lt_trichotomy n' fr with c | c | c
    ·exact c
    ·subst c
     rw [e1]at he
     exact absurd (by rw [<- Array.getElem?_toList]at hpi;exact List.mem_of_getElem? hpi) he
    ·exact absurd (e2 fr c) he
   rw [<- e1]at hpi
   rcases Nat.lt_or_ge n' n with c | c
   ·exact hpass n' i x c hpi hi rfl
   ·exact a2 n' i c hlt hpi (by rw [List.getElem?_map,hi];rfl)
  ·rw [show t.probe (λi=>((xs.map λx=>Ba w x.1)[i]?).getD 0) (Ba w d) (Kl t.mask (Ba w d) n)=_ from b5]
   obtain⟨x,hi⟩:=hxi b3
   have hxm:=List.mem_of_getElem? hi
   dsimp only
   rw [hei hi]
   dsimp only [Jv]
   split
   ·refine wpAny_bind (Yo hx (λv hv=>?_) ?_)
    ·obtain⟨e,he',rfl⟩:=List.mem_map.mp hv
     have hm:=(Array.mem_filter.mp (Array.mem_toList_iff.mp he')).1
     rw [<- Array.mem_toList_iff,hl]at hm
     obtain⟨y,hy,rfl⟩:=List.mem_map.mp hm
     exact⟨y.1,y.2,rfl,hX y hy⟩
    rw [if_neg Bool.false_ne_true]
    refine wpAny_bind (wpAny_holding ((Jh prog w).eqBool hu (hX x hxm) hx ?_))
    refine wpAny_bind (wpAny_setState_of ho hd hf ?_)
    dsimp only
    by_cases ceq:x.1=d
    ·rw [decide_eq_true ceq,if_pos (by rfl)]
     exact wpAny_pure (h1 (List.mem_map.mpr ⟨x,hxm,ceq⟩))
    ·rw [decide_eq_false ceq,if_neg (by decide),show t.sameMemory t.moves t.mask=some true by unfold SetTable.sameMemory;rw [if_pos (by simp)]]
     dsimp only
     obtain⟨i2,hs2,hp2⟩:=Lr hT (hb k' b2)
     have hi2:i2=i:=(Cj hT.rise hp2).symm.trans (Cj hT.rise b3)
     subst hi2
     rw [if_pos rfl,hs2]
     dsimp only
     rw [hei hi]
     dsimp only [Jv]
     refine wpAny_bind (wpAny_isSame_ref_self (wpAny_bind (wpAny_pure ?_)))
     show wpAny _ _ (if false=true then _ else setSearchFrom a (.ref b) (Ba w d) true fuel (some (Kl t.mask (Ba w d) (k'+1)))) _ _ _
     rw [if_neg Bool.false_ne_true]
     refine ih (fr - (k'+1)) (by omega) (k'+1) fuel _ (by omega) (by omega) (.inl rfl) λm i3 y hm h3 h4=>?_
     rcases Nat.lt_or_ge m n with c | c
     ·exact hpass m i3 y c h3 h4
     ·rcases Nat.lt_or_ge m k' with c2 | c2
      ·intro e5
       refine b6 m i3 c c2 h3 ?_
       rw [List.getElem?_map,h4,<- e5];rfl
      ·have e6:m=k':=by omega
       subst e6
       have e7:i3=i2:=(Cj hT.rise h3).symm.trans (Cj hT.rise b3)
       subst e7
       rw [hi]at h4
       cases h4
       exact ceq
   ·refine wpAny_bind (wpAny_holding ((Jh prog w).eqBool hu (hX x hxm) hx ?_))
    refine wpAny_bind (wpAny_setState_of ho hd hf ?_)
    dsimp only
    by_cases ceq:x.1=d
    ·rw [decide_eq_true ceq,if_pos (by rfl)]
     exact wpAny_pure (h1 (List.mem_map.mpr ⟨x,hxm,ceq⟩))
    ·rw [decide_eq_false ceq,if_neg (by decide),show t.sameMemory t.moves t.mask=some true by unfold SetTable.sameMemory;rw [if_pos (by simp)]]
     dsimp only
     obtain⟨i2,hs2,hp2⟩:=Lr hT (hb k' b2)
     have hi2:i2=i:=(Cj hT.rise hp2).symm.trans (Cj hT.rise b3)
     subst hi2
     rw [if_pos rfl,hs2]
     dsimp only
     rw [hei hi]
     dsimp only [Jv]
     refine wpAny_bind (wpAny_isSame_ref_self (wpAny_bind (wpAny_pure ?_)))
     show wpAny _ _ (if false=true then _ else setSearchFrom a (.ref b) (Ba w d) true fuel (some (Kl t.mask (Ba w d) (k'+1)))) _ _ _
     rw [if_neg Bool.false_ne_true]
     refine ih (fr - (k'+1)) (by omega) (k'+1) fuel _ (by omega) (by omega) (.inl rfl) λm i3 y hm h3 h4=>?_
     rcases Nat.lt_or_ge m n with c | c
     ·exact hpass m i3 y c h3 h4
     ·rcases Nat.lt_or_ge m k' with c2 | c2
      ·intro e5
       refine b6 m i3 c c2 h3 ?_
       rw [List.getElem?_map,h4,<- e5];rfl
      ·have e6:m=k':=by omega
       subst e6
       have e7:i3=i2:=(Cj hT.rise h3).symm.trans (Cj hT.rise b3)
       subst e7
       rw [hi]at h4
       cases h4
       exact ceq
 ·intro i
  show(es[i]?.map (·.1)).getD 0=_
  rw [<- Array.getElem?_toList,hl,List.getElem?_map,List.getElem?_map]
  cases xs[i]? <;> rfl
theorem Cb.but{h h':Heap}{p:Addr}{d:PyData}{b:Addr}(x:Cb h d b)(hk:∀c o,c≠p->h.get? c=some o->h'.get? c=some o)(hp:∀o vs n,h.get? p=some o->o.data≠.seq vs n):Cb h' d b:=let⟨k,as,r⟩:=x;⟨k,as,G5 hk hp r k.can⟩
theorem Jk{a:Addr}{led:Bool}{h:Heap}{o:Obj}{es:Array (Int×Value)}{ep:Nat}{t:SetTable}(ho:h.get? a=some o)(hex:o.ExactSet)(hd:o.data=.set es ep t){es':Array (Int×Value)}{t':SetTable}{xs':List (PyData×Addr)}(hl:es'.toList=xs'.map (Jv w))(hX:∀x∈xs',Cb h x.1 x.2)(hf:t'.fits es'.size=true)(hT:TblOk t' led)(hQ:TabQ t' (xs'.map λx=>Ba w x.1)) :
  (h.update a (Obj.putSet es' t')).get? a=some { o with data:=.set es' (ep+1) t' }/\(∀x∈xs',Cb (h.update a (Obj.putSet es' t')) x.1 x.2)/\(xs'.length * 5 < t'.mask * 3->Eo w (h.update a (Obj.putSet es' t')) a xs' led):=by
 have e:=Heap.get?_update_self (Obj.putSet es' t') ho (by rw [putSet_of es' t' hd];rfl)
 rw [putSet_of es' t' hd]at e
 have hX':∀x∈xs',Cb (h.update a (Obj.putSet es' t')) x.1 x.2:=λx hx=>(hX x hx).but (p:=a) (λc o hc e=>((Heap.SameBut.update h a (Obj.putSet es' t')).2 c hc).trans e) (λo' vs n e' q=>by rw [ho]at e';cases e';rw [hd]at q;cases q)
 exact⟨e,hX',λhB=>⟨_,es',ep+1,t',e,hex,rfl,hl,hX',hf,hT,hQ,hB⟩⟩
theorem Jl{α:Type}:∀(ys pre:List α),(List.range' pre.length ys.length).filterMap (λi=>(pre++ys)[i]?)=ys
 | [],pre=>rfl
 | y :: ys,pre=>by
  have:=Jl ys (pre++[y])
  rw [List.length_append,List.append_assoc]at this
  rw [List.length_cons,List.range'_succ,List.filterMap_cons,List.getElem?_append_right (Nat.le_refl _),Nat.sub_self]
  show y :: _=_
  exact congrArg (y :: ·) this
theorem O5{α:Type}{xs:List α}{l:List Nat}(hp:l.Perm (List.range xs.length)):(l.filterMap λi=>xs[i]?).Perm xs:=by
 have h1:=hp.filterMap λi=>xs[i]?
 have h2:=Jl xs []
 rw [List.nil_append,List.length_nil,<- List.range_eq_range']at h2
 rwa [h2]at h1
theorem Kn{xs:List (PyData×Addr)}{hs:Array Int}(hh:hs.toList=xs.map λx=>Ba w x.1):∀(l:List Nat),(∀i∈l,i < xs.length)->(l.map λi=>hs.getD i 0)=(l.filterMap λi=>xs[i]?).map λx=>Ba w x.1
 | [],_=>rfl
 | i :: l,hl=>by
  have hi:=hl i (.head _)
  have e:xs[i]?=some xs[i]:=List.getElem?_eq_getElem hi
  rw [List.map_cons,List.filterMap_cons,e,List.map_cons,Kn hh l λj hj=>hl j (.tail _ hj)]
  rw [Array.getD_eq_getD_getElem?,<- Array.getElem?_toList,hh,List.getElem?_map,e];rfl
theorem Vj{a:Addr}{led:Bool}{o:Obj}{es:Array (Int×Value)}{ep:Nat}{t:SetTable}{xs:List (PyData×Addr)}{wanted:Nat}{Q:Unit->Shared->Prop}(ho:s.heap.get? a=some o)(hex:o.ExactSet)(hd:o.data=.set es ep t)(hl:es.toList=xs.map (Jv w))(hX:∀x∈xs,Cb s.heap x.1 x.2)(hf:t.fits es.size=true)(hT:TblOk t led)
  (hm:Msk (SetTable.sizeAbove wanted - 1)) (hz:SetTable.sizeAbove wanted<=sizeLine) (hn:xs.length * 5 < (SetTable.sizeAbove wanted - 1) * 3)
  (h:∀h' xs',Heap.SameBut a s.heap h'->Eo w h' a xs' led->xs'.Perm xs->Q () { s with heap:=h' }):wpAny (model prog w) A (setRelay a wanted) Q E s:=by
 have hes:es.size=xs.length:=by rw [<- Array.length_toList,hl,List.length_map]
 have hhs:(es.map (·.1)).toList=xs.map λx=>Ba w x.1:=by rw [Array.toList_map,hl,List.map_map];rfl
 obtain⟨t',order,e1,e2,e3,e4⟩:=Yn (f:=t.finger) (mv:=t.movedTo (SetTable.sizeAbove wanted - 1)) (led:=t.led) (pl:=t.plain) hm (es.map (·.1)) (by rw [Array.size_map,hes];omega)
 rw [Array.size_map,hes]at e3
 have hT':TblOk t' led:=by have:=TblOk.laid e1;rw [hT.led]at this;exact this
 have hlt:∀i∈order.toList,i < xs.length:=λi hi=>List.mem_range.mp (e3.mem_iff.mp hi)
 rw [Kn hhs order.toList hlt]at e4
 have hxp:=O5 e3
 have hes':(order.filterMap λi=>es[i]?).toList=(order.toList.filterMap λi=>xs[i]?).map (Jv w):=by
  rw [Array.toList_filterMap,List.map_filterMap]
  congr 1
  funext i
  rw [<- Array.getElem?_toList,hl,List.getElem?_map]
 have hsz':(order.filterMap λi=>es[i]?).size=es.size:=by rw [<- Array.length_toList,hes',List.length_map,hxp.length_eq,hes]
 unfold setRelay
 refine wpAny_bind (wpAny_setState_of ho hd hf (show wpAny _ _ _ _ _ _ from ?_))
 dsimp only
 rw [if_neg (Nat.not_lt.mpr hz),show t.relaid (es.map (·.1)) wanted=some (t',order) from e1]
 refine wpAny_bind (show wpAny _ _ (if((order.filterMap λi=>es[i]?).size != es.size)=true then _ else pure (order.filterMap λi=>es[i]?,t')) _ _ _ from ?_)
 rw [if_neg (by rw [hsz'];simp)]
 refine wpAny_pure (show wpAny _ _ (storeSet a (order.filterMap λi=>es[i]?) t') _ _ _ from ?_)
 generalize (order.filterMap λi=>es[i]?)=es2 at hes' hsz'
 generalize (order.toList.filterMap λi=>xs[i]?)=xs2 at hes' hxp e4
 have hl2:=hxp.length_eq
 have hf2:t'.fits es2.size=true:=by
  have:=e4.len
  rw [List.length_map]at this
  simp only [SetTable.fits,SetTable.fill,hT'.dum,Bool.and_eq_true,beq_iff_eq,decide_eq_true_eq]
  rw [e2,hsz']
  refine⟨by omega,?_⟩
  show t'.place.size+0<=_
  omega
 obtain⟨g1,g2,g3⟩:=Jk (led:=led) ho hex hd hes' (λx hx=>hX x (hxp.mem_iff.mp hx)) hf2 hT' e4
 exact wpAny_storeSet_of ho hd (h _ _ (Heap.SameBut.update _ _ _) (g3 (by rw [e2];omega)) hxp) (by rw [hsz',hes];have:sizeLine=16777216:=rfl;omega)
theorem TabQ.pln{t:SetTable}{hs:List Int}(q:TabQ t hs)(b:Bool):TabQ { t with plain:=b } hs:=⟨q.msk,q.len,q.le,q.path⟩
theorem Vk{a:Addr}{led:Bool}{xs:List (PyData×Addr)}{d:PyData}{b:Addr}{Q:Bool->Shared->Prop}(hu:A.units+6 < cLine)(hx:Cb s.heap d b)(hS:Eo w s.heap a xs led)(hn:xs.length < 305)
  (h1:d∈xs.map (·.1)->Q false s) (h2:d∉xs.map (·.1)->∀h' xs',Heap.SameBut a s.heap h'->Eo w h' a xs' led->xs'.Perm ((d,b) :: xs)->Q true { s with heap:=h' }) :
  wpAny (model prog w) A (setAddHashed a (.ref b) (Ba w d)) Q E s:=by
 obtain⟨o,es,ep,t,ho,hex,hd,hl,hX,hf,hT,hQ,hB⟩:=hS
 have hes:es.size=xs.length:=by rw [<- Array.length_toList,hl,List.length_map]
 have hpl:t.place.size=xs.length:=by have:=hQ.len;rwa [List.length_map]at this
 obtain⟨x0,hx1,hx2⟩:=Vh hQ hT (by rw [List.length_map];omega)
 obtain⟨fr,f1,f2,f3⟩:=O3 hQ.msk (Ba w d) (λj=>j∈t.place.toList) hx1 hx2
 unfold setAddHashed setAddHashedIn
 refine wpAny_holding (wpAny_bind (wpAny_setState_of ho hd hf (show wpAny _ _ _ _ _ _ from ?_)))
 dsimp only
 rw [show byScan (.ref b) es=false from rfl,if_neg Bool.false_ne_true]
 unfold setSearch
 refine wpAny_bind (Sd hu ho hd hl hX hf hT hQ hx f2 f3 f1 (λhin=>?_) (λhni=>?_) fr 0 100000 none (by omega) ?_ (.inr ⟨rfl,rfl⟩) (λm i x hm=>absurd hm (Nat.not_lt_zero _)))
 ·exact wpAny_pure (h1 hin)
 ·dsimp only
  refine wpAny_bind (wpAny_setState_of ho hd hf ?_)
  dsimp only
  have hp:SetTable.below t.place (sq t.mask (Ba w d) fr)<=t.place.size:=(Ee hT.rise _).1
  have hQ1:=hQ.put (h:=Ba w d) (n:=fr) hT f3
  have hT1:=hT.put (Ow hT (Nj hT f2))
  have e2:(t.put (sq t.mask (Ba w d) fr)).2=SetTable.below t.place (sq t.mask (Ba w d) fr):=rfl
  have e3:(t.put (sq t.mask (Ba w d) fr)).1.mask=t.mask:=rfl
  rw [e2]
  have hsz:(t.put (sq t.mask (Ba w d) fr)).1.place.size=xs.length+1:=by
   have:=hQ1.len
   rw [this]
   simp only [List.length_append,List.length_cons,List.length_take,List.length_drop,List.length_map]
   omega
  generalize hpp:SetTable.below t.place (sq t.mask (Ba w d) fr)=p at hp hQ1 ⊢
  generalize (t.put (sq t.mask (Ba w d) fr)).1=t1 at hQ1 hT1 e3 hsz ⊢
  have hl1:(SetTable.insertAt es p (Ba w d,.ref b)).toList=(xs.take p++(d,b) :: xs.drop p).map (Jv w):=by
   rw [E7 _ _ _ (by omega),hl,List.map_append,List.map_cons,List.map_take,List.map_drop];rfl
  have hQ2:TabQ t1 ((xs.take p++(d,b) :: xs.drop p).map λx=>Ba w x.1):=by
   rw [List.map_append,List.map_cons,List.map_take,List.map_drop];exact hQ1
  have hperm:(xs.take p++(d,b) :: xs.drop p).Perm ((d,b) :: xs):=by
   refine List.perm_middle.trans ?_
   rw [List.take_append_drop]
  have hlen:=hperm.length_eq
  rw [List.length_cons]at hlen
  have hX1:∀x∈xs.take p++(d,b) :: xs.drop p,Cb s.heap x.1 x.2:=λx hx'=>by
   rcases List.mem_cons.mp (hperm.mem_iff.mp hx') with rfl | hx'
   ·exact hx
   ·exact hX x hx'
  have hsz1:(SetTable.insertAt es p (Ba w d,.ref b)).size=xs.length+1:=by rw [<- Array.length_toList,hl1,List.length_map,hlen]
  generalize SetTable.insertAt es p (Ba w d,.ref b)=es1 at hl1 hsz1 ⊢
  generalize xs.take p++(d,b) :: xs.drop p=xs1 at hl1 hQ2 hperm hlen hX1
  clear hpp hp hQ1 e2
  have hsl:sizeLine=16777216:=rfl
  have fin:∀t2:SetTable,t2.mask=t.mask->t2.place.size=xs.length+1->TblOk t2 led->TabQ t2 (xs1.map λx=>Ba w x.1)->wpAny (model prog w) A (do
    storeSet a es1 t2
    if(!false && t2.tooFull)=true then do
     setRelay a (SetTable.grown (es.size+1))
     pure true
    else pure true) Q E s:=λt2 g1 g2 g3 g4=>by
   have hf2:t2.fits es1.size=true:=by
    simp only [SetTable.fits,SetTable.fill,g3.dum,Bool.and_eq_true,beq_iff_eq,decide_eq_true_eq]
    refine⟨by omega,?_⟩
    show t2.place.size+0<=_
    rcases hQ.msk with c | c | c | c <;> omega
   obtain⟨k1,k2,k3⟩:=Jk (led:=led) ho hex hd hl1 hX1 hf2 g3 g4
   have b1:=Heap.SameBut.update s.heap a (Obj.putSet es1 t2)
   refine wpAny_bind (wpAny_storeSet_of ho hd ?_ (by omega))
   have hfull:t2.tooFull=decide ((xs.length+1) * 5>=t.mask * 3):=by
    unfold SetTable.tooFull SetTable.fill
    rw [g1,g2,g3.dum];rfl
   by_cases c:(xs.length+1) * 5>=t.mask * 3
   ·rw [if_pos (by rw [hfull,decide_eq_true c];rfl)]
    have hcase:(t.mask=7/\es.size+1=5)\/(t.mask=31/\es.size+1=19)\/(t.mask=127/\es.size+1=77):=by
     rcases hQ.msk with q | q | q | q
     ·exact .inl ⟨q,by omega⟩
     ·exact .inr (.inl ⟨q,by omega⟩)
     ·exact .inr (.inr ⟨q,by omega⟩)
     ·omega
    have hw:Msk (SetTable.sizeAbove (SetTable.grown (es.size+1)) - 1)/\SetTable.sizeAbove (SetTable.grown (es.size+1))<=sizeLine/\xs1.length * 5 < (SetTable.sizeAbove (SetTable.grown (es.size+1)) - 1) * 3:=by
     rcases hcase with⟨_,q⟩ | ⟨_,q⟩ | ⟨_,q⟩
     ·rw [q,show SetTable.sizeAbove (SetTable.grown 5)=32 by decide +kernel]
      exact⟨.inr (.inl rfl),by omega,by omega⟩
     ·rw [q,show SetTable.sizeAbove (SetTable.grown 19)=128 by decide +kernel]
      exact⟨.inr (.inr (.inl rfl)),by omega,by omega⟩
     ·rw [q,show SetTable.sizeAbove (SetTable.grown 77)=512 by decide +kernel]
      exact⟨.inr (.inr (.inr rfl)),by omega,by omega⟩
    refine wpAny_bind (Vj (s:={ s with heap:=s.heap.update a (Obj.putSet es1 t2) }) (o:={ o with data:=.set es1 (ep+1) t2 }) k1 hex rfl hl1 k2 hf2 g3 hw.1 hw.2.1 hw.2.2 λh' xs' c1 c2 c3=>wpAny_pure ?_)
    exact h2 hni h' xs' (b1.trans c1) c2 (c3.trans hperm)
   ·rw [if_neg (by rw [hfull,decide_eq_false c];decide)]
    exact wpAny_pure (h2 hni _ _ b1 (k3 (by rw [g1];omega)) hperm)
  split
  ·obtain⟨kx,as,rx⟩:=hx
   refine wpAny_bind (Qcq 6 8 _ _ as _ _ _ _ kx.dep kx.can rx λbv=>?_)
   cases bv
   ·exact fin _ e3 hsz (hT1.plain false) (hQ2.pln false)
   ·exact fin _ e3 hsz hT1 hQ2
  ·exact wpAny_bind (wpAny_pure (fin _ e3 hsz hT1 hQ2))
 ·have:SetTable.turns t.mask<=600:=by unfold SetTable.turns;rcases hQ.msk with c | c | c | c <;> omega
  omega
end
end L2
namespace L2
open PySem PySem.Spec PyProof.Rows
section
variable {prog:Program}{w:World}{A:Around}{R:Result->Shared->Prop}{sa it t:Addr}{led:Bool}
structure StepIt(prog:Program)(w:World)(it t:Addr)(items:Array Value)(St:Nat->Heap->Prop):Prop where
 item:∀{A:Around} {E:Value->Shared->Prop} {s:Shared} {i:Nat} {x:Value} {Q:Option Value->Shared->Prop},St i s.heap->items[i]?=some x->(∀h',St (i+1) h'->Heap.SameBut it s.heap h'->Q (some x) { s with heap:=h' })->wpAny (model prog w) A (pyNext (.ref it)) Q E s
 fin:∀{A:Around} {E:Value->Shared->Prop} {s:Shared} {i:Nat} {Q:Option Value->Shared->Prop},A.handled=none->St i s.heap->items[i]?=none->(∀h',Heap.ExtBut it s.heap h'->Q none { s with heap:=h' })->wpAny (model prog w) A (pyNext (.ref it)) Q E s
 keep:∀{i:Nat} {h h':Heap} {p:Addr},it≠p->t≠p->St i h->Heap.SameBut p h h'->St i h'
 noseq:∀{i:Nat} {h:Heap} {o:Obj} {vs:Array Value} {n:Nat},St i h->h.get? it=some o->o.data≠.seq vs n
theorem Se{items:Array Value}(hit:t≠it):StepIt prog w it t items λi h=>h.IsListIter it t i/\h.IsList t items where
 item:=λst hx q=>wpAny_pyNext_list_item st.1 st.2 hx λh' s1 sb=>q h' ⟨s1,let⟨o,e,r⟩:=st.2;⟨o,(sb.2 t hit).trans e,r⟩⟩ sb
 fin:=λhh st hx q=>wpAny_pyNext_list_end hh st.1 st.2 hx q
 keep:=λh1 h2 st sb=>⟨st.1.at λo e=>(sb.2 it h1).trans e,let⟨o,e,r⟩:=st.2;⟨o,(sb.2 t h2).trans e,r⟩⟩
 noseq:=λst e q=>by
  obtain⟨⟨o,e',c,d⟩,_⟩:=st
  rw [e]at e';cases e'
  rw [d]at q;cases q
theorem O6{items:Array Value}(hit:t≠it):StepIt prog w it t items λi h=>h.IsTupleIter it t i/\h.IsTuple t items where
 item:=λst hx q=>wpAny_pyNext_tuple_item st.1 st.2 hx λh' s1 sb=>q h' ⟨s1,st.2.at λo e=>(sb.2 t hit).trans e⟩ sb
 fin:=λhh st hx q=>wpAny_pyNext_tuple_end hh st.1 st.2 hx q
 keep:=λh1 h2 st sb=>⟨st.1.at λo e=>(sb.2 it h1).trans e,st.2.at λo e=>(sb.2 t h2).trans e⟩
 noseq:=λst e q=>by
  obtain⟨⟨o,e',c,d⟩,_⟩:=st
  rw [e]at e';cases e'
  rw [d]at q;cases q
theorem Eo.at{h h':Heap}{xs:List (PyData×Addr)}(x:Eo w h sa xs led)(hs:∀o,h.get? sa=some o->h'.get? sa=some o)(hX:∀x∈xs,Cb h x.1 x.2->Cb h' x.1 x.2):Eo w h' sa xs led:=by
 obtain⟨o,es,ep,tt,e,a1,a2,a3,a4,r⟩:=x
 exact⟨o,es,ep,tt,hs o e,a1,a2,a3,λx hx=>hX x hx (a4 x hx),r⟩
theorem Eo.noseq{h:Heap}{xs:List (PyData×Addr)}(x:Eo w h sa xs led){o:Obj}{vs:Array Value}{n:Nat}(e:h.get? sa=some o):o.data≠.seq vs n:=λq=>by
 obtain⟨o',es,ep,tt,e',_,a2,_⟩:=x
 rw [e]at e';cases e'
 rw [a2]at q;cases q
theorem Ko{St:Nat->Heap->Prop}{items:Array Value}(S:StepIt prog w it t items St)(hh:A.handled=none)(hu:A.units+20 < cLine)(hne:sa≠it)(hst:sa≠t){ks:List (PyData×Addr)}(hks:items.toList=ks.map λx=>.ref x.2)(hsz:items.size < 304) :
  ∀(m i:Nat) (s:Shared) (xs:List (PyData×Addr)),m+i=items.size->St i s.heap->Eo w s.heap sa xs led->(∀x∈ks,Cb s.heap x.1 x.2)->(xs.map (·.1)).Nodup->(∀d,d∈xs.map (·.1)↔d∈(ks.take i).map (·.1))->(∀x∈xs,x∈ks)->xs.length<=i ->
   (∀h' tk xs',(∀b o,b≠sa->b≠it->s.heap.get? b=some o->h'.get? b=some o)->Eo w h' sa xs' led->(xs'.map (·.1)).Nodup->(∀d,d∈xs'.map (·.1)↔d∈ks.map (·.1))->(∀x∈xs',x∈ks)->xs'.length<=items.size->R (.ok (.ret .none)) { s with heap:=h',toks:=tk }) ->
   codeAny (model prog w) A (.builtin "set.update.loop" ⟨[.ref sa,.ref it],[]⟩) R s:=by
 have hkl:ks.length=items.size:=by rw [<- Array.length_toList,hks,List.length_map]
 intro m
 induction m with
 | zero =>
  intro i s xs hm hI hS hX hN hd hin hl q
  refine codeAny_builtin M7 ?_
  rw [Around.under_plainId Gj _]
  refine(show wpAny _ A.in1 (pyNext (.ref it) >>= _) _ _ s from wpAny_bind (S.fin (show A.in1.handled=none from hh) hI (by rw [Array.getElem?_eq_none (by omega)]) λh' hx=>?_))
  refine wpAny_pure (q h' s.toks xs (λb o h1 h2 e=>hx b o h2 e) ?_ hN (λd=>?_) hin (by omega))
  ·exact hS.at (λo e=>hx sa o hne e) λx _ tr=>tr.but (p:=it) (λc o hc e=>hx c o hc e) λo vs n e=>S.noseq hI e
  ·rw [hd d,List.take_of_length_le (by omega)]
 | succ m ih =>
  intro i s xs hm hI hS hX hN hd hin hl q
  have hi:i < items.size:=by omega
  have hki:i < ks.length:=by omega
  have hx:items[i]?=some (.ref ks[i].2):=by
   rw [<- Array.getElem?_toList,hks,List.getElem?_map,List.getElem?_eq_getElem hki];rfl
  have htk:∀d,d∈(ks.take (i+1)).map (·.1)↔d=ks[i].1\/d∈(ks.take i).map (·.1):=λd=>by
   rw [List.take_succ,List.getElem?_eq_getElem hki,List.map_append,List.mem_append]
   simp only [Option.toList_some,List.map_cons,List.map_nil,List.mem_singleton]
   exact Or.comm
  have hkm:=List.getElem_mem hki
  generalize ks[i]=kx at hx htk hkm
  obtain⟨d0,b0⟩:=kx
  refine codeAny_builtin M7 ?_
  rw [Around.under_plainId Gj _]
  refine(show wpAny _ A.in1 (pyNext (.ref it) >>= _) _ _ s from wpAny_bind (S.item hI hx λh1 st1 sb1=>?_))
  have tr1:∀{d:PyData} {b:Addr},Cb s.heap d b->Cb h1 d b:=λtr=>tr.but (p:=it) (λc o hc e=>(sb1.2 c hc).trans e) λo vs n e=>S.noseq hI e
  have hS1:Eo w h1 sa xs led:=hS.at (λo e=>(sb1.2 sa hne).trans e) λx _ tr=>tr1 tr
  have hT0:Cb h1 d0 b0:=tr1 (hX _ hkm)
  refine(show wpAny _ A.in1 (holding [.ref b0] (setAdd sa (.ref b0)) >>= _) _ _ _ from wpAny_bind (wpAny_holding ?_))
  unfold setAdd
  have hu1:A.in1.units+6 < cLine:=by show A.units+1+6 < cLine;omega
  refine wpAny_holding (wpAny_bind ((Jh prog w).pyHash (s:={ s with heap:=h1 }) hu1 hT0 ?_))
  refine Vk (s:={ s with heap:=h1,toks:=s.toks+G4 d0 }) hu1 hT0 hS1 (by omega) (λhex=>?_) (λhno h2 xs' sb2 hS2 hp=>?_)
  ·refine wpAny_pure ⟨plainId_quiet Gj _,ih (i+1) _ xs (by omega) st1 hS1 (λx hx'=>tr1 (hX x hx')) hN (λd=>?_) hin (by omega) λh' tk xs'' hkeep a1 a2 a3 a4 a5=>?_⟩
   ·rw [htk d,<- hd d]
    exact⟨.inr,λh=>h.elim (λe=>by rw [e];exact hex) id⟩
   ·exact q h' tk xs'' (λb o b1 b2 e=>hkeep b o b1 b2 ((sb1.2 b b2).trans e)) a1 a2 a3 a4 a5
  ·have hlen:xs'.length=xs.length+1:=hp.length_eq
   have tr2:∀{d:PyData} {b:Addr},Cb h1 d b->Cb h2 d b:=λtr=>tr.but (p:=sa) (λc o hc e=>(sb2.2 c hc).trans e) λo vs n e=>hS1.noseq e
   have hpm:=hp.map (·.1)
   refine wpAny_pure ⟨plainId_quiet Gj _,ih (i+1) _ xs' (by omega) (S.keep hne.symm hst.symm st1 sb2) hS2 (λx hx'=>tr2 (tr1 (hX x hx'))) (hpm.nodup_iff.mpr (List.nodup_cons.mpr ⟨hno,hN⟩)) (λd=>?_) (λx hx'=>?_) (by omega) λh' tk xs'' hkeep a1 a2 a3 a4 a5=>?_⟩
   ·rw [hpm.mem_iff,htk d,<- hd d]
    exact List.mem_cons
   ·rcases List.mem_cons.mp (hp.mem_iff.mp hx') with rfl | hx'
    ·exact hkm
    ·exact hin x hx'
   ·exact q h' tk xs'' (λb o b1 b2 e=>hkeep b o b1 b2 ((sb2.2 b b1).trans ((sb1.2 b b2).trans e))) a1 a2 a3 a4 a5
theorem Nk:isSubtype (.type "list") (.type "set")=pure false:=by rw [isSubtype_type];kernel_rfl
theorem Nl:isSubtype (.type "list") (.type "frozenset")=pure false:=by rw [isSubtype_type];kernel_rfl
theorem Nm{h:Heap}:Eo w (h.push (B9 w)) h.objs.size [] (Fo w) :=
 ⟨_,#[],0,_,Heap.get?_push_size _ rfl,⟨rfl,rfl,rfl⟩,rfl,rfl,(λ_ z=>nomatch z),rfl,TblOk.fresh _,⟨.inl rfl,rfl,(λ_ z=>nomatch z),(λ_ z=>nomatch z)⟩,(show 0 * 5 < 7 * 3 by decide)⟩
theorem Vl{E:Value->Shared->Prop}{s:Shared}{id:String}{items:Array Value}{ks:List (PyData×Addr)}{Q:Unit->Shared->Prop}(hh:A.handled=none)(hu:A.units+20 < cLine)(ht:s.heap.IsList t items)(hks:items.toList=ks.map λx=>.ref x.2)(hX:∀x∈ks,Cb s.heap x.1 x.2)(hsz:items.size < 304)
  (hS:Eo w s.heap sa [] led) (hst:sa≠t)
  (h:∀h' tk xs',(∀b o,b≠sa->s.heap.get? b=some o->h'.get? b=some o)->Eo w h' sa xs' led->(xs'.map (·.1)).Nodup->(∀d,d∈xs'.map (·.1)↔d∈ks.map (·.1))->(∀x∈xs',x∈ks)->xs'.length<=items.size->Q () { s with heap:=h',toks:=tk }) :
  wpAny (model prog w) A (Builtin.Frozenset.updateFrom id sa (.ref t)) Q E s:=by
 have T:s.TypeIs (.ref t) "list" := ht.typeIs
 have k1:=Nk
 have k2:=Nl
 have k3:(Value.type "list" == Value.type "dict")=false:=by decide
 unfold Builtin.Frozenset.updateFrom
 generalize hPI:pyIter=PI
 wp_walk
 subst hPI
 refine wpAny_pyIter_list ht (show wpAny _ _ _ _ _ _ from wpAny_bind (wpAny_runValue ?_))
 have lt1:t < s.heap.objs.size:=by obtain⟨o,e,_⟩:=ht;exact Heap.lt_size e
 have lt2:sa < s.heap.objs.size:=by obtain⟨o,_,_,_,e,_⟩:=hS;exact Heap.lt_size e
 have up:∀{d:PyData} {b:Addr},Cb s.heap d b->Cb (s.heap.push { cls:=.type "list_iterator",data:=.fields #[.ref t,.int 0 0] }) d b:=λ⟨k,as,r⟩=>⟨k,as,PyProof.Rows.Reads.keeps (λb o e=>Heap.get?_push_of_some _ e) r⟩
 refine Ko (led:=led) (Se (items:=items) (Nat.ne_of_lt lt1)) hh hu (Nat.ne_of_lt lt2) hst hks hsz items.size 0 _ [] (by omega) ⟨⟨_,Heap.get?_push_size _ rfl,rfl,rfl⟩,let⟨o,e,r⟩:=ht;⟨o,Heap.get?_push_of_some _ e,r⟩⟩ (hS.at (λo e=>Heap.get?_push_of_some _ e) λ_ _ tr=>up tr) (λx hx=>up (hX x hx)) List.nodup_nil (λd=>by simp) (λ_ z=>nomatch z) (Nat.zero_le _) λh' tk xs' a1 a2 a3 a4 a5 a6=>?_
 exact wpAny_pure (h h' tk xs' (λb o n e=>a1 b o n (Nat.ne_of_lt (Heap.lt_size e)) (Heap.get?_push_of_some _ e)) a2 a3 a4 a5 a6)
theorem Sf{E:Value->Shared->Prop}{s:Shared}{id:String}{items:Array Value}{ks:List (PyData×Addr)}{Q:Unit->Shared->Prop}(hh:A.handled=none)(hu:A.units+20 < cLine)(ht:s.heap.IsTuple t items)(hks:items.toList=ks.map λx=>.ref x.2)(hX:∀x∈ks,Cb s.heap x.1 x.2)(hsz:items.size < 304)
  (hS:Eo w s.heap sa [] led) (hst:sa≠t)
  (h:∀h' tk xs',(∀b o,b≠sa->s.heap.get? b=some o->h'.get? b=some o)->Eo w h' sa xs' led->(xs'.map (·.1)).Nodup->(∀d,d∈xs'.map (·.1)↔d∈ks.map (·.1))->(∀x∈xs',x∈ks)->xs'.length<=items.size->Q () { s with heap:=h',toks:=tk }) :
  wpAny (model prog w) A (Builtin.Frozenset.updateFrom id sa (.ref t)) Q E s:=by
 have T:s.TypeIs (.ref t) "tuple" := ht.typeIs
 have k1:=M8
 have k2:=M9
 have k3:(Value.type "tuple" == Value.type "dict")=false:=by decide
 unfold Builtin.Frozenset.updateFrom
 generalize hPI:pyIter=PI
 wp_walk
 subst hPI
 refine wpAny_pyIter_tuple ht (show wpAny _ _ _ _ _ _ from wpAny_bind (wpAny_runValue ?_))
 have lt1:t < s.heap.objs.size:=by obtain⟨o,e,_⟩:=ht;exact Heap.lt_size e
 have lt2:sa < s.heap.objs.size:=by obtain⟨o,_,_,_,e,_⟩:=hS;exact Heap.lt_size e
 have up:∀{u:Obj} {d:PyData} {b:Addr},Cb s.heap d b->Cb (s.heap.push u) d b:=λ⟨k,as,r⟩=>⟨k,as,PyProof.Rows.Reads.keeps (λb o e=>Heap.get?_push_of_some _ e) r⟩
 refine Ko (led:=led) (O6 (items:=items) (Nat.ne_of_lt lt1)) hh hu (Nat.ne_of_lt lt2) hst hks hsz items.size 0 _ [] (by omega) ⟨⟨_,Heap.get?_push_size _ rfl,rfl,rfl⟩,ht.push _⟩ (hS.at (λo e=>Heap.get?_push_of_some _ e) λ_ _ tr=>up tr) (λx hx=>up (hX x hx)) List.nodup_nil (λd=>by simp) (λ_ z=>nomatch z) (Nat.zero_le _) λh' tk xs' a1 a2 a3 a4 a5 a6=>?_
 exact wpAny_pure (h h' tk xs' (λb o n e=>a1 b o n (Nat.ne_of_lt (Heap.lt_size e)) (Heap.get?_push_of_some _ e)) a2 a3 a4 a5 a6)
theorem Cb.keeps{h h':Heap}{d:PyData}{b:Addr}(x:Cb h d b)(hk:∀b o,h.get? b=some o->h'.get? b=some o):Cb h' d b:=let⟨k,as,r⟩:=x;⟨k,as,PyProof.Rows.Reads.keeps hk r⟩
theorem Ls{α β:Type}{f:α->β}{l m:List β}(h:l.Perm m):∀xs:List α,m=xs.map f->∃ys:List α,l=ys.map f/\ys.Perm xs:=by
 induction h with
 | nil =>
  intro xs e
  have:xs=[]:=by simpa using e.symm
  subst this
  exact⟨[],rfl,.nil⟩
 | cons a h ih =>
  intro xs e
  cases xs with
  | nil=>cases e
  | cons x xs =>
   injection e with e1 e2
   obtain⟨ys,rfl,p⟩:=ih xs e2
   exact⟨x :: ys,by rw [e1];rfl,p.cons x⟩
 | swap a b l =>
  intro xs e
  match xs,e with
  | x :: y :: xs,e =>
   injection e with e1 e2
   injection e2 with e2 e3
   exact⟨y :: x :: xs,by rw [e1,e2,e3];rfl,.swap x y xs⟩
 | trans h1 h2 ih1 ih2 =>
  intro xs e
  obtain⟨ys,e1,p1⟩:=ih2 xs e
  obtain⟨zs,e2,p2⟩:=ih1 ys e1
  exact⟨zs,e2,p2.trans p1⟩
theorem Hq{h:Heap}:∀{zs:List (PyData×Addr)},(∀x∈zs,Cb h x.1 x.2)->∃as,ReadsAll h (zs.map λx=>.ref x.2) (zs.map (·.1)) as
 | [],_=>⟨_,.nil⟩
 | z :: zs,hx=>by
  obtain⟨as,r⟩:=Hq λx hx'=>hx x (.tail _ hx')
  obtain⟨_,bs,r1⟩:=hx z (.head _)
  exact⟨_,.cons r1 r⟩
theorem Nn{E:Value->Shared->Prop}{s:Shared}{a:Addr}{xs:List (PyData×Addr)}{Q:Value->Shared->Prop}(hh:A.handled=none)(hu:A.units+100 < cLine)(hS:Eo w s.heap a xs (Fo w))(hok:∀ys:List (PyData×Addr),ys.Perm xs->SortOk (ys.map (·.1)))
  (h:∀(h':Heap) (d':Drawn) (tk p c:Nat) (zs:List (PyData×Addr)),(∀b o,s.heap.get? b=some o->h'.get? b=some o)->s.heap.objs.size<=p->h'.get? p=some (seqObj "list" (zs.map λx=>Value.ref x.2).toArray c)->zs.Perm xs->(zs.map (·.1)).Pairwise (λa b=>Fj a b=true)->Q (.ref p) { s with heap:=h',drawn:=d',toks:=tk }) :
  wpAny (model prog w) A (call (.builtin "sorted") [.ref a]) Q E s:=by
 obtain⟨o,es,ep,t,ho,hex,hd,hl,hX,hf,hT,hQ,hB⟩:=hS
 have hes:es.size=xs.length:=by rw [<- Array.length_toList,hl,List.length_map]
 have hx64:xs.length < 1000:=by have:=(hok xs (.refl _)).len;rwa [List.length_map]at this
 refine Nd (Nc (show A.in1.handled=none from hh) ⟨o,ho,hex.1,hd,hf⟩ hT (by omega) λh1 d1 t1 ord k1 z1 hp=>?_)
 rw [hl,List.map_map]at hp
 obtain⟨ys,rfl,py⟩:=Ls hp xs (f:=λx=>Value.ref x.2) rfl
 have ok:=hok ys py
 have hly:ys.length < 1000:=by rw [py.length_eq];exact hx64
 have l1:(ys.map λx=>Value.ref x.2).length=(ys.map (·.1)).length:=by rw [List.length_map,List.length_map]
 have hXy:∀x∈ys,Cb h1 x.1 x.2:=λx hx=>(hX x (py.mem_iff.mp hx)).keeps k1
 refine⟨ltI (ys.map (·.1)),by rw [List.length_map];exact hly,by rw [l1];exact ok.ord,λh2 h' kp=>?_,λp h' l c pm up hlb kp e=>?_⟩
 ·obtain⟨bs,rd'⟩:=Hq (h:=h') λx hx=>(hXy x hx).keeps kp
  obtain⟨fs,kt,kl,kz⟩:=M4 rd' (ok.fst (by rw [<- l1];exact h2))
  refine⟨tuples' true,λQ q=>?_,λi j C hi hj q=>?_⟩
  ·refine PySem.W.kat_kind (T:=.type "int") kt (by omega) (λv hv=>?_) rfl q
   obtain⟨i,t,rfl⟩:=kz v hv
   exact PySem.W.Looks.of_pure rfl
  ·rw [l1]at hi hj
   obtain⟨b1,q1⟩:=Qch rd' hi
   obtain⟨b2,q2⟩:=Qch rd' hj
   have m1:=C9 (d:=PyData.none) hi
   have m2:=C9 (d:=PyData.none) hj
   obtain⟨x1,r1,e1⟩:=ok.fst (by rw [<- l1];exact h2) _ m1
   obtain⟨x2,r2,e2⟩:=ok.fst (by rw [<- l1];exact h2) _ m2
   have c1:=Fx ok.can _ m1
   have c2:=Fx ok.can _ m2
   have d1:=Nat.le_trans (Ki _ m1) ok.dp
   have cm:=ok.cmp _ m1 _ m2
   have q':C (Fj ((ys.map (·.1)).getD i .none) ((ys.map (·.1)).getD j .none)) _:=q
   rw [e1]at q1 c1 d1 cm q'
   rw [e2]at q2 c2 cm q'
   unfold PySem.W.kas_ask
   generalize (ys.map λx=>Value.ref x.2).getD i Value.none=u1 at q1 ⊢
   generalize (ys.map λx=>Value.ref x.2).getD j Value.none=u2 at q2 ⊢
   cases q1 with
   | tuple a1 a2 a3 a4 =>
    cases q2 with
    | tuple b1 b2 b3 b4 =>
     exact Qcg (.tuple a1 a2 a3 a4) (.tuple b1 b2 b3 b4) c1 c2 cm (by show A.units+1+1+64 < _;omega) d1 q'
 ·have hp1:∀i∈p.toList,i < ys.length:=λi hi=>by
   have:=pm.perm.mem_iff.mp hi
   rw [List.length_map]at this
   exact List.mem_range.mp this
  have ev:(p.toList.map λi=>(ys.map λx=>Value.ref x.2).getD i Value.none)=(p.toList.map λi=>ys.getD i (.none,0)).map λx=>Value.ref x.2:=by
   rw [List.map_map]
   refine List.map_congr_left λi hi=>?_
   have:=hp1 i hi
   simp [List.getD_eq_getElem?_getD,this]
  rw [ev]at e
  have e2:(p.toList.map λi=>ys.getD i (.none,0)).Perm ys:=by
   have e1:p.toList.Perm (List.range ys.length):=by have:=pm.perm;rwa [List.length_map]at this
   have e2:=e1.map λi=>ys.getD i (PyData.none,0)
   rwa [Ja]at e2
  refine h h' d1 t1 l c _ (λb o q=>kp b o (k1 b o q)) (Nat.le_trans z1 hlb) e (e2.trans py) ?_
  rw [List.map_map,List.pairwise_map]
  refine List.pairwise_iff_getElem.mpr λi j hi hj hij=>?_
  have hj':j < (ys.map λx=>Value.ref x.2).length:=by rw [<- pm.size];simpa using hj
  have:=up i j hij hj'
  have gi:p.getD i 0=p.toList[i]:=by simp [Array.getD,show i < p.size by simpa using hi]
  have gj:p.getD j 0=p.toList[j]:=by simp [Array.getD,show j < p.size by simpa using hj]
  rw [gi,gj]at this
  have a1:=hp1 _ (List.getElem_mem hi)
  have a2:=hp1 _ (List.getElem_mem hj)
  unfold ltI at this
  simp only [List.getD_eq_getElem?_getD,List.getElem?_map,List.getElem?_eq_getElem a1,List.getElem?_eq_getElem a2]at this
  simp only [Function.comp,List.getD_eq_getElem?_getD,List.getElem?_eq_getElem a1,List.getElem?_eq_getElem a2]
  exact this
end
section
variable {X:Cx}{pins:List (Addr×Obj)}{σ:St}{H:Hp}{s:Shared}{k:Nat}
structure TOk(ds:List PyData):Prop where
 len:ds.length < 300
 key:∀d∈ds,KeyTree d
 fst:∀d∈ds,∃i r,d=.tuple (.int i :: r)
 cmp:∀d∈ds,∀e∈ds,cmpb d e=true
theorem Qv:∀{ds:List PyData},(∀d∈ds,KeyTree d)->PyData.canLayAll0 ds=true/\PyData.depthAll ds<=6/\Ao ds=true
 | [],_=>⟨rfl,Nat.zero_le _,rfl⟩
 | d :: ds,h=>by
  obtain⟨a,b,c⟩:=Qv λe he=>h e (.tail _ he)
  have k:=h d (.head _)
  refine⟨?_,?_,?_⟩
  ·simp only [PyData.canLayAll0,k.lay,a];rfl
  ·simp only [PyData.depthAll];have:=k.dep;omega
  ·simp only [Ao,k.can,c];rfl
theorem TOk.sort{ds es:List PyData}(h:TOk ds)(hs:∀d∈es,d∈ds)(hn:es.Nodup):SortOk es:=by
 obtain⟨a,b,c⟩:=Qv λd hd=>h.key d (hs d hd)
 have:=Ef hn hs
 have:=h.len
 exact⟨by omega,a,by omega,c,hn,λ_ d hd=>h.fst d (hs d hd),λd hd e he=>h.cmp d (hs d hd) e (hs e he)⟩
theorem Vm(I:Inv X pins σ H s):∀(ds:List PyData) (ws:List V) (its:List Value),Am X.K H ds ws->Vals ws its->(∀d∈ds,KeyTree d)->(∀d∈ds,∃i r,d=.tuple (.int i :: r))->∃ks:List (PyData×Addr),ks.map (·.1)=ds/\its=ks.map (λx=>.ref x.2)/\∀x∈ks,Cb s.heap x.1 x.2/\Dk X.K H x.1 (.ref x.2)
 | [],ws,its,h,r,_,_=>by
  have e:=h.nil
  subst e
  cases r
  exact⟨[],rfl,rfl,λ_ z=>nomatch z⟩
 | d :: ds,ws,its,h,r,hk,hf=>by
  obtain⟨x,rw',rfl,h1,h2⟩:=Am.cons (K:=X.K) (H:=H) h
  cases r with
  | @cons _ _ u us r1 r2 =>
   obtain⟨ks,e1,e2,e3⟩:=Vm I ds rw' us h2 r2 (λd hd=>hk d (.tail _ hd)) (λd hd=>hf d (.tail _ hd))
   obtain⟨i,tl,rfl⟩:=hf d (.head _)
   obtain⟨a,xs,rfl,ha,hd⟩:=Dk.tup (K:=X.K) (H:=H) h1
   cases r1
   refine⟨(.tuple (.int i :: tl),a) :: ks,by rw [List.map_cons,e1],by rw [List.map_cons,<- e2],λy hy=>?_⟩
   rcases List.mem_cons.mp hy with rfl | hy
   ·exact⟨⟨hk _ (.head _),Dk.reads I _ _ _ h1 rfl⟩,h1⟩
   ·exact e3 y hy
theorem Vn{K:PySem.W.Frag}:∀{zs:List (PyData×Addr)},(∀x∈zs,Dk K H x.1 (.ref x.2))->Am K H (zs.map (·.1)) (zs.map λx=>.ref x.2)
 | [],_=>Dc
 | z :: zs,h=>Cg (h z (.head _)) (Vn λx hx=>h x (.tail _ hx))
theorem Qw:∀(zs:List (PyData×Addr)),Vals (zs.map λx=>V.ref x.2) (zs.map λx=>Value.ref x.2)
 | []=>.nil
 | z :: zs=>.cons rfl (Qw zs)
def Qfr(te:AE):AE:=fun τ μ R=>te τ μ λx μ1=>opt (items μ1 x) λys=>opt (dats ys) λds=>TOk ds/\∀(es:List PyData) (p:Addr),es.Nodup->(∀d,d∈es↔d∈ds)->es.Pairwise (λa b=>Fj a b=true)->μ1 p=none->R (.R p) (Ar μ1 p (.lst (es.map .D)))
theorem Yq{e:Expr}{te:AE}{p p2 pos pos2:Pos}(hr:Room k X.A)(hg:Gl X "sorted") (hm:X.mg "sorted" = none) (hg2:Gl X "set") (hm2:X.mg "set" = none) (he:VE X e te)
  (hs:starEach [.Call (.Name "set" p2) [e] [] pos2] X.env=[(false,eval (.Call (.Name "set" p2) [e] [] pos2) X.env)]:=by rfl) (hs2:starEach [e] X.env=[(false,eval e X.env)]:=by rfl) :
  VE X (.Call (.Name "sorted" p) [.Call (.Name "set" p2) [e] [] pos2] [] pos) (Qfr te):=by
 intro pins s σ H Q I zz129
 refine Cd zz129 fun τ μ R hst hcn h hq=>?_
 refine wpAny_Call_Name_kw (Cz I hg hm boot_sorted (PyProof.Rows.callWith_builtin1 ?_ hs rfl))
 rw [hs]
 refine Calls.spliced_cons (wpAny_Call_Name_kw (Cz I hg2 hm2 boot_set (PyProof.Rows.callWith_type1 ?_ hs2 rfl)))
 rw [hs2]
 refine Calls.spliced_cons (wpAny_mono (he.run I hst hcn h) (λu s1 zz130=>Qad zz130 λx v μ1 H1 I1 rv S1 c1 rx h1=>Calls.spliced_nil ?_) λ_ _ e=>e)
 obtain⟨ys,ey,h1⟩:=Bb h1
 obtain⟨ds,ed,ok,h1⟩:=Bb h1
 obtain⟨p0,ws,rfl,hk,rs⟩:=Bp c1 rx ey
 cases rv
 have dk:=rs.dats ed
 have hd:X.A.handled=none:=hr.hd
 have hun:=hr.un
 have l2:=dk.length
 have hlen:=ok.len
 have fin:∀(ks:List (PyData×Addr)),ks.map (·.1)=ds->(∀x∈ks,Cb s1.heap x.1 x.2/\Dk X.K H1 x.1 (.ref x.2))->∀(h1:Heap) (tk:Nat) (xs:List (PyData×Addr)),(∀b o,s1.heap.get? b=some o->h1.get? b=some o)->Eo X.w h1 s1.heap.objs.size xs (Fo X.w)->(xs.map (·.1)).Nodup->(∀d,d∈xs.map (·.1)↔d∈ks.map (·.1))->(∀x∈xs,x∈ks) ->
   wpAny (model X.prog X.w) X.A (call (.builtin "sorted") [.ref s1.heap.objs.size]) (EP X pins σ Q) X.xe { s1 with heap:=h1,toks:=tk }:=λks e1 hks h2 tk xs k1 S2 N2 M2 hin=>by
  rw [e1]at M2
  refine Nn (s:={ s1 with heap:=h2,toks:=tk }) hd (by omega) S2 (λys py=>ok.sort (λd hd=>(M2 d).mp ((py.map (·.1)).mem_iff.mp hd)) ((py.map (·.1)).nodup_iff.mpr N2)) λh3 d3 t3 q c zs k2 hp e3 pz hup=>?_
  have lS:s1.heap.objs.size < h2.objs.size:=by obtain⟨o,_,_,_,e,_⟩:=S2;exact Heap.lt_size e
  have hp':s1.heap.objs.size<=q:=Nat.le_trans (Nat.le_of_lt lS) hp
  have hzl:zs.length < 1000:=by
   have:=(ok.sort (es:=zs.map (·.1)) (λd hd=>(M2 d).mp ((pz.map (·.1)).mem_iff.mp hd)) ((pz.map (·.1)).nodup_iff.mpr N2)).len
   rwa [List.length_map]at this
  have hz:(zs.map λx=>V.ref x.2).length<=sizeLine:=by rw [List.length_map];exact Nat.le_trans (Nat.le_of_lt hzl) (by decide)
  have hn:=I1.hok.fresh hp'
  refine⟨.ref q,_,(Inv.drw I1 d3).laid (t':=t3) (λb o e=>k2 b o (k1 b o e)) hp' (show B5 X.prog X.w _ h3 _ (.lst (zs.map λx=>V.ref x.2)) from⟨hz,_,c,Qw zs,e3⟩),rfl,?_⟩
  refine hq _ _ _ _ (S1.trans (Kp.new hn _)) (c1.new hn (Da ?_)) Dw (h1 (zs.map (·.1)) q ((pz.map (·.1)).nodup_iff.mpr N2) (λd=>((pz.map (·.1)).mem_iff).trans (M2 d)) hup (c1.none hn))
  exact(Vn λx hx=>(hks x (hin x (pz.mem_iff.mp hx))).2).rel
 refine Ox (s:=s1) ?_
 rcases hk with⟨_,hk⟩ | ⟨_,hk⟩
 ·obtain⟨its,r',pl,hz⟩:=I1.list hk
  obtain⟨ks,e1,e2,e3⟩:=Vm I1 ds ws its dk r' ok.key ok.fst
  have la:p0 < s1.heap.objs.size:=by obtain⟨o,e,_⟩:=pl.isList;exact Heap.lt_size e
  have hsz:its.toArray.size < 304:=by have:=r'.length;simp only [List.size_toArray];omega
  refine Vl (s:={ s1 with heap:=s1.heap.push (B9 X.w) }) (show X.A.in1.in1.handled=none from hd) (show X.A.units+1+1+20 < cLine by omega) (let⟨o,e,r⟩:=pl.isList;⟨o,Heap.get?_push_of_some _ e,r⟩) (ks:=ks) (by simpa using e2) (λx hx=>(e3 x hx).1.keeps λb o e=>Heap.get?_push_of_some _ e) hsz Nm (Ne.symm (Nat.ne_of_lt la)) λh2 tk xs k1 S2 N2 M2 hin L2=>Calls.spliced_nil ?_
  exact fin ks e1 e3 h2 tk xs (λb o e=>k1 b o (Nat.ne_of_lt (Heap.lt_size e)) (Heap.get?_push_of_some _ e)) S2 N2 M2 hin
 ·obtain⟨its,r',pl,hz⟩:=I1.tuple hk
  obtain⟨ks,e1,e2,e3⟩:=Vm I1 ds ws its dk r' ok.key ok.fst
  have la:p0 < s1.heap.objs.size:=by obtain⟨o,e,_⟩:=pl;exact Heap.lt_size e
  have hsz:its.toArray.size < 304:=by have:=r'.length;simp only [List.size_toArray];omega
  refine Sf (s:={ s1 with heap:=s1.heap.push (B9 X.w) }) (show X.A.in1.in1.handled=none from hd) (show X.A.units+1+1+20 < cLine by omega) (Heap.IsTuple.push pl _) (ks:=ks) (by simpa using e2) (λx hx=>(e3 x hx).1.keeps λb o e=>Heap.get?_push_of_some _ e) hsz Nm (Ne.symm (Nat.ne_of_lt la)) λh2 tk xs k1 S2 N2 M2 hin L2=>Calls.spliced_nil ?_
  exact fin ks e1 e3 h2 tk xs (λb o e=>k1 b o (Nat.ne_of_lt (Heap.lt_size e)) (Heap.get?_push_of_some _ e)) S2 N2 M2 hin
end
section
variable {X:Cx}{tg:Expr}
def chA(c:Nat):AV:=.D (.str ⟨#[c]⟩)
theorem Vo{K:PySem.W.Frag}{H0:Hp}{z:Str}:ItOk K H0 (Its z) (z.cps.toList.map chA) (λ_=>True):=by
 refine⟨λi H μ S c k hi=>?_,λi H μ v H' x S c k e y=>?_,λH μ S c k=>?_⟩
 ·rw [List.length_map,Array.length_toList]at hi
  exact hi
 ·obtain⟨rfl,d,e1,rfl⟩:=y
  rw [List.getElem?_map,Array.getElem?_toList,e1]at e
  cases e
  exact⟨Kp.refl,c,Oh Of⟩
 ·show(List.map chA z.cps.toList).length=z.cps.size
  rw [List.length_map,Array.length_toList]
def Qfs(tl:AE):AI:=fun τ μ R=>tl τ μ λx μ1=>match x with
 | .D (.str z)=>R (z.cps.toList.map chA) (λ_=>True) μ1
 | _=>False
theorem Qcr{l:Expr}{tl:AE}(hl:VE X l tl):VI X tg l (Qfs tl) :=
 (Qbq hl).imp fun σ H Q zz111=>Cd zz111 fun τ μ R hs hc h hq=>⟨τ,μ,_,hs,hc,h,λx μ1 v H1 S1 c1 rx hx=>by
  split at hx
  ·cases RelA.str rx
   exact⟨_,rfl,hq _ _ _ _ _ S1 c1 Vo hx⟩
  ·exact hx.elim⟩
end
section
variable {prog:Program}{w:World}{A:Around}{E:Value->Shared->Prop}
theorem Kq{it t:Addr}{items:Array Value}(hne:t≠it):∀(n i:Nat) (s:Shared) (Q:List Value->Shared->Prop),s.heap.IsListIter it t i->s.heap.IsList t items->i+n<=items.size ->
  (∀h',h'.IsListIter it t (i+n)->Heap.SameBut it s.heap h'->Q ((items.toList.drop i).take n) { s with heap:=h' })->wpAny (model prog w) A (draw (.ref it) n) Q E s
 | 0,i,s,Q,hit,_,_,hQ=>by
  unfold draw
  exact wpAny_pure (by have:=hQ s.heap hit (Heap.SameBut.refl _ _);simpa using this)
 | n+1,i,s,Q,hit,ht,hle,hQ=>by
  have hlt:i < items.size:=by omega
  have hx:items[i]?=some items[i]:=Array.getElem?_eq_getElem hlt
  unfold draw
  refine wpAny_bind (wpAny_pyNext_list_item hit ht hx λh₁ hit₁ hs₁=>?_)
  refine wpAny_bind (wpAny_holding (Kq hne n (i+1) _ _ hit₁ (let⟨o,e,r⟩:=ht;⟨o,(hs₁.2 t hne).trans e,r⟩) (by omega) λh₂ hit₂ hs₂=>wpAny_pure ?_))
  have hd:items.toList.drop i=items[i] :: items.toList.drop (i+1):=by simp [List.drop_eq_getElem_cons,hlt]
  have:=hQ h₂ (by rw [show i+(n+1)=i+1+n by omega];exact hit₂) (hs₁.trans hs₂)
  rw [hd,List.take_succ_cons]at this
  exact this
theorem G9{s:Shared}{t:Addr}{items:Array Value}{Q:List Value->Shared->Prop}(hh:A.handled=none)(ht:s.heap.IsList t items)
  (hQ:∀h',Heap.ExtBut s.heap.objs.size s.heap h'->Q items.toList { s with heap:=h' }):wpAny (model prog w) A (unpackItems (.ref t) items.size none) Q E s:=by
 have hlt:t≠s.heap.objs.size:=by obtain⟨o,ho,_⟩:=ht;exact Nat.ne_of_lt (Heap.lt_size ho)
 have hpush:∀u:Obj,(s.heap.push u).IsList t items:=λu=>let⟨o,e,r⟩:=ht;⟨o,Heap.get?_push_of_some _ e,r⟩
 unfold unpackItems
 refine wpAny_bind ?_
 ·unfold notIterableAtAll
  refine wpAny_bind (wpAny_specialOf ht.typeIs slot_list_iter.lookup ?_)
  refine wpAny_pure ?_
  simp only [Bool.false_eq_true,if_false]
  refine wpAny_bind (wpAny_holding (wpAny_pyIter_list ht ?_))
  refine wpAny_bind (wpAny_holding (Kq hlt items.size 0 _ _ ⟨_,Heap.get?_push_size _ rfl,rfl,rfl⟩ (hpush _) (by omega) λh₁ hit₁ hs₁=>?_))
  have hall:List.take items.size (List.drop 0 items.toList)=items.toList:=by
   rw [List.drop_zero];exact List.take_of_length_le (by simp)
  rw [hall]
  rw [if_neg (by simp)]
  have ht₁:h₁.IsList t items:=let⟨o,e,r⟩:=hpush _;⟨o,(hs₁.2 t hlt).trans e,r⟩
  refine wpAny_bind (wpAny_holding (wpAny_pyNext_list_end hh hit₁ ht₁ (by simp) λh₂ he₂=>?_))
  simp only [Option.isSome_none,Bool.false_eq_true,if_false]
  refine wpAny_pure (hQ h₂ λb o hb e=>he₂ b o hb (hs₁.extBut b o hb (Heap.get?_push_of_some _ e)))
theorem Gp{s:Shared}{env:Env}{elts:List Expr}{x1}{pos:Pos}{t:Addr}{items:Array Value}{Q:Unit->Shared->Prop}(hh:A.handled=none)(ht:s.heap.IsList t items)
  (hn:(assignEach elts env).length=items.size) (hstar:(assignEach elts env).findIdx? (·.1)=none)
  (h:∀h',Heap.ExtBut s.heap.objs.size s.heap h'->wpAny (model prog w) A (assignInOrder ((assignEach elts env).map (·.2)) items.toList) Q E { s with heap:=h' }) :
  wpAny (model prog w) A (assign (.Tuple elts x1 pos) env (.ref t)) Q E s:=by
 rw [arm_assign_Tuple]
 refine wpAny_bind (wpAny_standAt ?_)
 unfold unpack
 rw [hn,hstar]
 exact wpAny_bind (wpAny_holding (G9 hh ht h))
end
section
variable {X:Cx}{pos:Pos}
def Qft(K:PySem.W.Frag)(n:Nat)(t:TGs):TG:=λv σ H Q=>∃a xs,v=.ref a/\D5 K H a xs/\xs.length=n/\t xs σ H Q
theorem Yr{es:List Expr}{k:Nat}{t:TGs}{n:Nat}(hc:X.calm=true)(h:PGs X es t)
  (hn:(assignEach es X.env).length=n:=by rfl) (hst:(assignEach es X.env).findIdx? (·.1)=none:=by rfl):PG X (.Tuple es k pos) (Qft X.K n t):=by
 intro pins s σ H v u Q I r hw
 obtain⟨a,xs,e1,hq,hl,hw⟩:=hw
 subst e1
 cases r
 obtain⟨its,rv,ht,hz⟩:=I.list hq
 refine Gp (I.ok.hd hc) ht.isList (by simp [hn,<- hl,rv.length]) hst λh' hx=>?_
 have I1:Inv X pins σ H { s with heap:=h' }:=I.kept (t':=s.toks) λb o e=>hx b o (Nat.ne_of_lt (Heap.lt_size e)) e
 exact h pins _ σ H xs _ Q I1 (by simpa using rv) hw
def Zs(n:Nat)(t:AGs):AG:=λv τ μ R=>match v with
 | .R a=>opt (μ a) λm=>match m with
  | .lst xs=>xs.length=n/\t xs τ μ R
  | _=>False
 | _=>False
theorem Ys{es:List Expr}{k:Nat}{t:AGs}{n:Nat}(hcm:X.calm=true)(h:VGs X es t)
  (hn:(assignEach es X.env).length=n:=by rfl) (hst:(assignEach es X.env).findIdx? (·.1)=none:=by rfl):VG X (.Tuple es k pos) (Zs n t):=(Yr hcm h hn hst).imp λv σ H Q zz112=>Df zz112 λx τ μ R rx hs hc h hq=>by
 unfold Zs at h
 split at h
 ·obtain⟨m,em,h⟩:=Bb h
  split at h
  ·cases rx
   obtain⟨o,ho,ws,rfl,rs⟩:=hc _ _ em
   exact⟨_,ws,rfl,D5.of ho,by rw [<- rs.length];exact h.1,_,τ,μ,R,rs,hs,hc,h.2,hq⟩
  ·exact h.elim
 ·exact h.elim
end
section
variable {prog:Program}{w:World}{Kt:Type} [DecidableEq Kt]{knd:KeyKind prog w Kt}{A:Around}{R:Result->Shared->Prop}{sa it t:Addr}{led:Bool}
variable {E:Value->Shared->Prop}{s:Shared}
end
section
variable {X:Cx}{pins:List (Addr×Obj)}{σ:St}{H:Hp}{s:Shared}{k:Nat}
end
section
variable {X:Cx}{k:Nat}
end
end L2
namespace L2
open PySem PySem.Spec PySem.Calls PyProof.Rows
section
variable {prog:Program}{w:World}{A:Around}{E:Value->Shared->Prop}{s:Shared}{K:PySem.W.Frag}{env:Env}
end
section
variable {M:Model}{A A1:Around}{E E1:Value->Shared->Prop}{s:Shared}{base:Heap}{env:Env}{outer:List Env}{L e:Addr}{cls:Value}{d:Option Addr}{vs:Array Value}
end
section
variable {X:Cx}{y:Str}{p pos pos':Pos}{C:Addr}{EX:AX}
end
section
variable {P:Program}{w:World}{K:PySem.W.Frag}{mg:Str->Option Value}{base:Heap}
end
section
variable {X:Cx}{k:Nat}
end
def Qjk:A2:=λx y μ R=>match x,y with
 | .D (.str i),.D (.str j)=>R (.D (.bool (decide (i=j)))) μ
 | _,_=>False
theorem Qfu{X:Cx}:VOp X (compareOp .Eq) Qjk:=by
 intro pins s σ H x y v u Q I rx ry zz115
 refine Df zz115 λa b μ R ra rb hc h hq=>?_
 cases a with
 | D d =>
  cases d with
  | str i =>
   cases b with
   | D e =>
    cases e with
    | str j =>
     cases RelA.str ra
     cases RelA.str rb
     obtain⟨t,rfl⟩:=rx
     obtain⟨t',rfl⟩:=ry
     exact eq_str (K5 I (hq _ _ _ _ Kp.refl hc Cs h) (by rw [Bool.eq_iff_iff];simp))
    | _=>exact False.elim h
   | _=>exact False.elim h
  | _=>exact False.elim h
 | _=>exact False.elim h
section
variable {X:Cx}{x:Str}{p pos:Pos}{e:Expr}{es:List Expr}{t:AA}{k:Nat}{ps:List Str}{sp:ASp}
end
section
variable {X:Cx}{k:Nat}
def Qjl:A2:=λx y μ R=>match x,y with
 | .D (.str i),.D (.str j)=>R (.D (.bool (!decide (i=j)))) μ
 | _,_=>False
theorem Qx:VOp X (compareOp .NotEq) Qjl:=by
 intro pins s σ H x y v u Q I rx ry zq
 refine Df zq λa b μ R ra rb hc h hq=>?_
 cases a with
 | D d =>
  cases d with
  | str i =>
   cases b with
   | D e =>
    cases e with
    | str j =>
     cases RelA.str ra
     cases RelA.str rb
     obtain⟨t,rfl⟩:=rx
     obtain⟨t',rfl⟩:=ry
     exact ne_str (K5 I (hq _ _ _ _ Kp.refl hc Cs h) (by rw [Bool.eq_iff_iff];simp))
    | _=>exact False.elim h
   | _=>exact False.elim h
  | _=>exact False.elim h
 | _=>exact False.elim h
end
def Qfv:AC:=λxs μ R=>match xs with
 | [.D (.int i)]=>i.natAbs.log2 < 1920/\R (.D (.str (Str.ofString (toString i)))) μ
 | _=>False
theorem No{X:Cx}:VCall X (.type "str") Qfv:=by
 intro pins s σ H xs us Q I r zz
 refine Cd zz λas μ R ra hc h hq=>?_
 unfold Qfv at h
 split at h
 ·cases ra with
  | cons r1 r2 =>
   cases r2
   cases RelA.int r1
   obtain⟨u,rfl,t,rfl⟩:=Fz r
   exact P.str_of_int h.1 ⟨.str _,H,I.tok _,⟨_,rfl⟩,hq _ _ _ _ Kp.refl hc Fs h.2⟩
 ·exact h.elim
end L2
namespace L2
open PySem PySem.Spec PySem.Calls PyProof.Rows PySem.W
section
variable {prog:Program}{w:World}{A:Around}{E:Value->Shared->Prop}{s:Shared}
end
end L2
namespace L2
open PySem PySem.Spec PySem.Calls PyProof.Rows
section
variable {X:Cx}{k:Nat}
theorem Qz{K:PySem.W.Frag}{H:Hp}:∀(zs:List Str),Ax K H (zs.map λz=>AV.D (.str z)) (zs.map V.str)
 | []=>.nil
 | _ :: zs=>.cons Fs (Qz zs)
def Vp:AV->AC:=λx xs μ R=>match x,xs with
 | .D (.str z),[.D (.str y)]=>(y.length==0)=false/\z.length<=1000000/\∀p,μ p=none->R (.R p) (Ar μ p (.lst ((Txt.split z y).map λw=>.D (.str w))))
 | _,_=>False
theorem Q0:VMt X "str.split" Vp:=by
 intro pins s σ H x xs v us Q I rx r zz
 refine Df zz λa as μ R ra rs hc h hq=>?_
 unfold Vp at h
 split at h
 ·cases RelA.str ra
  cases rs with
  | cons r1 r2 =>
   cases r2
   cases RelA.str r1
   exact T1 pins s σ H _ _ v us Q I rx r ⟨_,_,rfl,rfl,h.1,h.2.1,λl hl=>hq _ _ _ _ (Kp.new hl _) (hc.new hl (Da (Qz _))) Dw (h.2.2 l (hc.none hl))⟩
 ·exact h.elim
def Qfw:A2:=λx y μ R=>match x,y with
 | .D (.tuple d),.D (.tuple e)=>B3 (.tuple d)/\B3 (.tuple e)/\cmpb (.tuple d) (.tuple e)=true/\R (.D (.bool (Fj (.tuple d) (.tuple e)))) μ
 | _,_=>False
theorem Qfx(hr:Room k X.A):VOp X (compareOp .Lt) Qfw:=by
 intro pins s σ H x y v u Q I rx ry zz
 refine Df zz λa b μ R ra rb hc h hq=>?_
 unfold Qfw at h
 split at h
 ·obtain⟨h1,h2,h3,h⟩:=h
  obtain⟨as,r1⟩:=Ct I hc ra rx rfl
  obtain⟨bs,r2⟩:=Ct I hc rb ry rfl
  have hu:=hr.un
  have:=h1.2
  exact Iy _ _ X.A s _ _ as bs r1 r2 h1.1 h2.1 h3 (by omega) X.prog X.w X.xe _ ⟨.bl _,H,I,rfl,hq _ _ _ _ Kp.refl hc Cs h⟩
 ·exact h.elim
def Qfy:A2:=λx y μ R=>match x,y with
 | .D (.str i),.D (.str j)=>R (.D (.bool (decide (i=j)))) μ
 | .D (.int i),.D (.int j)=>R (.D (.bool (decide (i=j)))) μ
 | _,_=>False
theorem Zt(hr:Room k X.A):VOp X (compareOp .Eq) Qfy:=by
 intro pins s σ H x y v u Q I rx ry zz
 refine Df zz λa b μ R ra rb hc h hq=>?_
 unfold Qfy at h
 split at h
 ·exact Qfu pins s σ H x y v u Q I rx ry ⟨_,_,μ,R,ra,rb,hc,h,hq⟩
 ·exact Hs hr pins s σ H x y v u Q I rx ry ⟨_,_,μ,R,ra,rb,hc,⟨C8 _,C8 _,by rw [Hv];exact h⟩,hq⟩
 ·exact h.elim
end
end L2
namespace L2
open PySem PySem.Spec PyProof.Rows
abbrev Src(prog:Program)(w:World)(i l:Addr)(xs:Array Value)(St:Nat->Heap->Prop):Prop:=∀A:Around,A.handled=none->Draws prog w A i [i,l] xs.size (λk v=>xs[k]?=some v) St
theorem Src.keep{prog:Program}{w:World}{i l:Addr}{xs:Array Value}{St:Nat->Heap->Prop}(S:Src prog w i l xs St){k:Nat}{h h':Heap}(st:St k h)(h1:∀o,h.get? i=some o->h'.get? i=some o)(h2:∀o,h.get? l=some o->h'.get? l=some o):St k h' :=
 (S {} rfl).frame k h h' st λb hb o e=>by
  rcases List.mem_cons.mp hb with rfl | hb
  ·exact h1 o e
  ·rw [List.mem_singleton.mp hb]at e ⊢;exact h2 o e
theorem Src.live{prog:Program}{w:World}{i l:Addr}{xs:Array Value}{St:Nat->Heap->Prop}(S:Src prog w i l xs St){k:Nat}{h:Heap}(st:St k h):∃o,h.get? i=some o:=(S {} rfl).live k h st
section
variable {prog:Program}{w:World}{A:Around}{E:Value->Shared->Prop}{s:Shared}{z TI TO i1 i2 l1 l2:Addr}{xs ys:Array Value}{St1 St2:Nat->Heap->Prop}{k:Nat}
theorem Vq{a b:Value}{Q:Value->Shared->Prop}(hh:A.handled=none)(D:ZipApart z TI TO i1 i2 l1 l2)(S1:Src prog w i1 l1 xs St1)(S2:Src prog w i2 l2 ys St2)(hz:IsZip s.heap z TI TO .none)(hTI:IsPair s.heap TI (.ref i1) (.ref i2))(hTO:IsPair s.heap TO a b)
  (h1:St1 k s.heap) (h2:St2 k s.heap) (hx:k < xs.size) (hy:k < ys.size)
  (hQ:∀h' tk x y,xs[k]?=some x->ys[k]?=some y->IsZip h' z TI TO (rawInt s.heap.objs.size)->IsPair h' TO x y->St1 (k+1) h'->St2 (k+1) h'->IsPair h' s.heap.objs.size x y->(∀c o,c≠z->c≠TO->c≠i1->c≠i2->s.heap.get? c=some o->h'.get? c=some o)->Q (.ref s.heap.objs.size) { s with heap:=h',toks:=tk }) :
  wpAny (model prog w) A (Builtin.«zip.__next__» ⟨[.ref z],[]⟩) (λfin s'=>∃v,fin=.done (.ret v)/\Q v s') E s:=by
 refine(show wpAny _ _ (field (.ref z) 2 >>= _) _ _ _ from wpAny_bind (wpAny_field hz rfl (x:=.bool false) rfl (show wpAny _ _ (field (.ref z) 3 >>= _) _ _ _ from wpAny_bind (wpAny_field hz rfl (x:=.ref TI) rfl (wpAny_bind (wpAny_seqItems hTI rfl (show wpAny _ _ (Builtin.SmallTypes.ownedTupleIsFree (.ref z) >>= _) _ _ _ from wpAny_bind ?_)))))))
 unfold Builtin.SmallTypes.ownedTupleIsFree
 refine wpAny_bind (wpAny_field hz rfl (x:=.none) rfl (wpAny_pure ?_))
 rw [if_pos rfl]
 refine wpAny_bind (wpAny_rule (wpAny_bind (wpAny_field hz rfl (x:=.ref TO) rfl (wpAny_bind (wpAny_setField_rec hz (by simp) λg1 e1 k1=>wpAny_bind ?_)))))
 have z1:IsZip g1 z TI TO .ellipsis:=e1
 have a1:St1 k g1:=S1.keep h1 (λo e=>k1.extBut _ _ D.i1z e) (λo e=>k1.extBut _ _ D.l1z e)
 simp only [List.zipIdx_cons,List.zipIdx_nil,List.forIn_cons,List.forIn_nil]
 refine wpAny_bind (wpAny_bind (wpAny_onRaise (show wpAny _ _ (Builtin.SmallTypes.nextOf (.ref i1) >>= _) _ _ _ from wpAny_bind ((S1 A hh).item k _ _ _ hx a1 λx g2 tk2 ex b2 k2=>wpAny_pure ?_))))
 have o2:IsPair g2 TO a b:=k2.extBut _ _ D.TOi1 (k1.extBut _ _ D.TOz hTO)
 refine wpAny_bind (wpAny_seqItems o2 rfl (wpAny_bind (wpAny_updateSeq_pair o2 λg3 e3 k3=>wpAny_bind (wpAny_letGo (wpAny_pure ?_)))))
 have o3:IsPair g3 TO x b:=e3
 have a3:St2 k g3:=S2.keep h2 (λo e=>k3.extBut _ _ D.TOi2.symm (k2.extBut _ _ D.i12.symm (k1.extBut _ _ D.i2z e))) (λo e=>k3.extBut _ _ D.l2TO (k2.extBut _ _ D.l2i1 (k1.extBut _ _ D.l2z e)))
 refine wpAny_bind (wpAny_bind (wpAny_onRaise (show wpAny _ _ (Builtin.SmallTypes.nextOf (.ref i2) >>= _) _ _ _ from wpAny_bind ((S2 A hh).item k _ _ _ hy a3 λy g4 tk4 ey b4 k4=>wpAny_pure ?_))))
 have o4:IsPair g4 TO x b:=k4.extBut _ _ D.TOi2 o3
 refine wpAny_bind (wpAny_seqItems o4 rfl (wpAny_bind (wpAny_updateSeq_pair o4 λg5 e5 k5=>wpAny_bind (wpAny_letGo (wpAny_pure (wpAny_pure ?_))))))
 have o5:IsPair g5 TO x y:=e5
 refine wpAny_bind (wpAny_seqItems o5 rfl (wpAny_bind (wpAny_newTuple ?_)))
 have sz:g5.objs.size=s.heap.objs.size:=by rw [k5.1,k4.1,k3.1,k2.1,k1.1]
 have z5:IsZip g5 z TI TO .ellipsis:=k5.extBut _ _ D.TOz.symm (k4.extBut _ _ D.i2z.symm (k3.extBut _ _ D.TOz.symm (k2.extBut _ _ D.i1z.symm z1)))
 have up5:∀c o,c≠z->c≠TO->c≠i1->c≠i2->s.heap.get? c=some o->g5.get? c=some o:=λc o c1 c2 c3 c4 e=>k5.extBut _ _ c2 (k4.extBut _ _ c4 (k3.extBut _ _ c2 (k2.extBut _ _ c3 (k1.extBut _ _ c1 e))))
 have lz:z < g5.objs.size:=Heap.lt_size z5
 refine(show wpAny _ _ (Builtin.SmallTypes.ownedTupleHandOut (.ref z) (.ref g5.objs.size) >>= _) _ _ _ from wpAny_bind ?_)
 unfold Builtin.SmallTypes.ownedTupleHandOut
 have z6:IsZip (g5.push { cls:=.type "tuple",data:=.seq #[x,y] }) z TI TO .ellipsis:=Heap.get?_push_of_some _ z5
 refine wpAny_bind (wpAny_setField_rec z6 (by simp) λg7 e7 k7=>wpAny_setField_rec (show IsZip g7 z TI TO (rawInt g5.objs.size) from e7) (by simp) λg8 e8 k8=>wpAny_pure ⟨_,rfl,?_⟩)
 have up8:∀c o,c≠z->g5.get? c=some o->g8.get? c=some o:=λc o c1 e=>k8.extBut _ _ c1 (k7.extBut _ _ c1 (Heap.get?_push_of_some _ e))
 have t8:IsPair g8 g5.objs.size x y:=k8.extBut _ _ (Nat.ne_of_gt lz) (k7.extBut _ _ (Nat.ne_of_gt lz) (Heap.get?_push_size _ rfl))
 have z8:IsZip g8 z TI TO (rawInt g5.objs.size):=e8
 have b5:St1 (k+1) g5:=S1.keep b2 (λo e=>k5.extBut _ _ D.TOi1.symm (k4.extBut _ _ D.i12 (k3.extBut _ _ D.TOi1.symm e))) (λo e=>k5.extBut _ _ D.l1TO (k4.extBut _ _ D.l1i2 (k3.extBut _ _ D.l1TO e)))
 have c5:St2 (k+1) g5:=S2.keep b4 (λo e=>k5.extBut _ _ D.TOi2.symm e) (λo e=>k5.extBut _ _ D.l2TO e)
 show Q (.ref g5.objs.size) _
 rw [sz]at z8 t8 ⊢
 exact hQ g8 _ x y ex ey z8 (up8 _ _ D.TOz o5) (S1.keep b5 (λo e=>up8 _ o D.i1z e) (λo e=>up8 _ o D.l1z e)) (S2.keep c5 (λo e=>up8 _ o D.i2z e) (λo e=>up8 _ o D.l2z e)) t8 λc o c1 c2 c3 c4 e=>up8 c o c1 (up5 c o c1 c2 c3 c4 e)
theorem Qcs{a b:Value}{Q:PySem.Fin->Shared->Prop}(hh:A.handled=none)(D:ZipApart z TI TO i1 i2 l1 l2)(S1:Src prog w i1 l1 xs St1)(S2:Src prog w i2 l2 ys St2)(hz:IsZip s.heap z TI TO .none)(hTI:IsPair s.heap TI (.ref i1) (.ref i2))(hTO:IsPair s.heap TO a b)
  (h1:St1 k s.heap) (h2:St2 k s.heap) (hend:k=xs.size\/k < xs.size/\k=ys.size)
  (hE:∀h' tk e,(∀c o,c≠z->c≠TO->c≠i1->c≠i2->s.heap.get? c=some o->h'.get? c=some o)->(∃o,h'.get? e=some o/\o.cls=.type "StopIteration")->E (.ref e) { s with heap:=h',toks:=tk }) :
  wpAny (model prog w) A (Builtin.«zip.__next__» ⟨[.ref z],[]⟩) Q E s:=by
 refine(show wpAny _ _ (field (.ref z) 2 >>= _) _ _ _ from wpAny_bind (wpAny_field hz rfl (x:=.bool false) rfl (show wpAny _ _ (field (.ref z) 3 >>= _) _ _ _ from wpAny_bind (wpAny_field hz rfl (x:=.ref TI) rfl (wpAny_bind (wpAny_seqItems hTI rfl (show wpAny _ _ (Builtin.SmallTypes.ownedTupleIsFree (.ref z) >>= _) _ _ _ from wpAny_bind ?_)))))))
 unfold Builtin.SmallTypes.ownedTupleIsFree
 refine wpAny_bind (wpAny_field hz rfl (x:=.none) rfl (wpAny_pure ?_))
 rw [if_pos rfl]
 refine wpAny_bind (wpAny_rule (wpAny_bind (wpAny_field hz rfl (x:=.ref TO) rfl (wpAny_bind (wpAny_setField_rec hz (by simp) λg1 e1 k1=>wpAny_bind ?_)))))
 have z1:IsZip g1 z TI TO .ellipsis:=e1
 have a1:St1 k g1:=S1.keep h1 (λo e=>k1.extBut _ _ D.i1z e) (λo e=>k1.extBut _ _ D.l1z e)
 simp only [List.zipIdx_cons,List.zipIdx_nil,List.forIn_cons,List.forIn_nil]
 rcases hend with he | ⟨hx,he⟩
 ·rw [he]at a1
  refine wpAny_bind (wpAny_bind (wpAny_onRaise (show wpAny _ _ (Builtin.SmallTypes.nextOf (.ref i1) >>= _) _ _ _ from wpAny_bind ((S1 A hh).done _ _ _ a1 λg2 e k2 hS=>?_))))
  obtain⟨oe,hoe,hce⟩:=hS
  have z2:IsZip g2 z TI TO .ellipsis:=k2 _ _ D.i1z.symm z1
  have ne:e≠z:=λq=>by subst q;rw [z2]at hoe;cases hoe;simp at hce
  exact wpAny_setField_rec z2 (by simp) λg3 _ k3=>hE g3 _ e (λc o c1 _ c3 _ q=>k3.extBut _ _ c1 (k2 _ _ c3 (k1.extBut _ _ c1 q))) ⟨oe,k3.extBut _ _ ne hoe,hce⟩
 ·refine wpAny_bind (wpAny_bind (wpAny_onRaise (show wpAny _ _ (Builtin.SmallTypes.nextOf (.ref i1) >>= _) _ _ _ from wpAny_bind ((S1 A hh).item k _ _ _ hx a1 λx g2 tk2 ex b2 k2=>wpAny_pure ?_))))
  have o2:IsPair g2 TO a b:=k2.extBut _ _ D.TOi1 (k1.extBut _ _ D.TOz hTO)
  refine wpAny_bind (wpAny_seqItems o2 rfl (wpAny_bind (wpAny_updateSeq_pair o2 λg3 e3 k3=>wpAny_bind (wpAny_letGo (wpAny_pure ?_)))))
  have a3:St2 k g3:=S2.keep h2 (λo e=>k3.extBut _ _ D.TOi2.symm (k2.extBut _ _ D.i12.symm (k1.extBut _ _ D.i2z e))) (λo e=>k3.extBut _ _ D.l2TO (k2.extBut _ _ D.l2i1 (k1.extBut _ _ D.l2z e)))
  rw [he]at a3
  refine wpAny_bind (wpAny_bind (wpAny_onRaise (show wpAny _ _ (Builtin.SmallTypes.nextOf (.ref i2) >>= _) _ _ _ from wpAny_bind ((S2 A hh).done _ _ _ a3 λg4 e k4 hS=>?_))))
  obtain⟨oe,hoe,hce⟩:=hS
  have z4:IsZip g4 z TI TO .ellipsis:=k4 _ _ D.i2z.symm (k3.extBut _ _ D.TOz.symm (k2.extBut _ _ D.i1z.symm z1))
  have ne:e≠z:=λq=>by subst q;rw [z4]at hoe;cases hoe;simp at hce
  exact wpAny_setField_rec z4 (by simp) λg5 _ k5=>hE g5 _ e (λc o c1 c2 c3 c4 q=>k5.extBut _ _ c1 (k4 _ _ c4 (k3.extBut _ _ c2 (k2.extBut _ _ c3 (k1.extBut _ _ c1 q))))) ⟨oe,k5.extBut _ _ ne hoe,hce⟩
end
def Sx:Bool->Heap->Addr->Array Value->Prop
 | false,h,l,xs=>h.IsList l xs
 | true,h,l,xs=>h.IsTuple l xs
def Zu:Bool->Heap->Addr->Addr->Nat->Prop
 | false,h,i,l,k=>h.IsListIter i l k
 | true,h,i,l,k=>h.IsTupleIter i l k
abbrev Qjm:Bool->String
 | false => "list_iterator"
 | true => "tuple_iterator"
theorem Sx.at{b:Bool}{h h':Heap}{l:Addr}{xs:Array Value}(x:Sx b h l xs)(k:∀o,h.get? l=some o->h'.get? l=some o):Sx b h' l xs:=by
 cases b with
 | false=>exact Heap.IsList.at x λo e=>k o e
 | true=>exact Heap.IsTuple.at x λo e=>k o e
theorem Sg{prog:Program}{w:World}(b:Bool)(i l:Addr)(hne:l≠i)(xs:Array Value):Src prog w i l xs (λk h=>Zu b h i l k/\Sx b h l xs):=λA hh=>by
 cases b with
 | false=>exact Draws.list hh i l hne xs
 | true=>exact Dg hh i l hne xs
abbrev Si(b:Bool)(h:Heap)(l:Addr):Heap:=h.push { cls:=.type (Qjm b),data:=.fields #[.ref l,.int 0 0] }
abbrev zh3(b c:Bool)(h:Heap)(l m:Addr):Heap:=(Si c (Si b h l) m).push { cls:=.type "tuple",data:=.seq #[.ref h.objs.size,.ref (Si b h l).objs.size] }
abbrev Zv(b c:Bool)(h:Heap)(l m:Addr):Heap:=((zh3 b c h l m).push { cls:=.type "tuple",data:=.seq #[.none,.none] }).push { cls:=.type "zip",data:=.fields #[.none,.bool false,.bool false,.ref (Si c (Si b h l) m).objs.size,.ref (zh3 b c h l m).objs.size] }
section
variable {prog:Program}{w:World}{A:Around}{E:Value->Shared->Prop}{s:Shared}
theorem Zw{b:Bool}{l:Addr}{xs:Array Value}{Q:Value->Shared->Prop}(h:Sx b s.heap l xs)(hQ:Q (.ref s.heap.objs.size) { s with heap:=Si b s.heap l }):wpAny (model prog w) A (pyIter (.ref l)) Q E s:=by
 cases b with
 | false=>exact wpAny_pyIter_list h hQ
 | true=>exact wpAny_pyIter_tuple h hQ
theorem Yt(b c:Bool)(l m:Addr)(xs ys:Array Value):Meets (Builtin.«zip.__new__» ⟨[.type "zip",.ref l,.ref m],[]⟩) (λ_ R s=>Sx b s.heap l xs/\Sx c s.heap m ys/\R (.ok (.ret (.ref (((zh3 b c s.heap l m).push { cls:=.type "tuple",data:=.seq #[.none,.none] }).objs.size)))) { s with heap:=Zv b c s.heap l m }) :=
 .of_wp λprog w A R s h=>by
  obtain⟨hp,g,d,tk,os⟩:=s
  obtain⟨a1,a2,q⟩:=h
  have hsub:=sub_zip
  have b1:Sx b (Shared.heap ⟨hp,g,d,tk,os⟩) l xs:=a1
  have b2:Sx c (Shared.heap ⟨Si b hp l,g,d,tk,os⟩) m ys:=a2.at λo e=>Heap.get?_push_of_some _ e
  wp_walk using Zw b1,Zw b2
  exact⟨_,rfl,q⟩
theorem Vr{b c:Bool}{l m:Addr}{xs ys:Array Value}{Q:Value->Shared->Prop}(h1:Sx b s.heap l xs)(h2:Sx c s.heap m ys)
  (h:∀h',IsZip h' (s.heap.objs.size+4) (s.heap.objs.size+2) (s.heap.objs.size+3) .none->IsPair h' (s.heap.objs.size+2) (.ref s.heap.objs.size) (.ref (s.heap.objs.size+1))->IsPair h' (s.heap.objs.size+3) .none .none->Zu b h' s.heap.objs.size l 0->Zu c h' (s.heap.objs.size+1) m 0->h'.objs.size=s.heap.objs.size+5 ->
   (∀d o,s.heap.get? d=some o->h'.get? d=some o)->Q (.ref (s.heap.objs.size+4)) { s with heap:=h' }):wpAny (model prog w) A (call (.type "zip") [.ref l,.ref m]) Q E s:=by
 refine callType_new F.called_zip (by decide) (F.typeCall_zip_2 _ _) (F.newCall_zip_2 _ _) (λobj=>F.args_object_init_3 obj _ _) F.entry_zip_new (Yt b c l m xs ys) ⟨h1,h2,?_⟩
 have e1:(Si b s.heap l).objs.size=s.heap.objs.size+1:=Heap.size_push ..
 have e2:(Si c (Si b s.heap l) m).objs.size=s.heap.objs.size+2:=by rw [Heap.size_push,e1]
 have e3:(zh3 b c s.heap l m).objs.size=s.heap.objs.size+3:=by rw [Heap.size_push,e2]
 have e4:((zh3 b c s.heap l m).push { cls:=.type "tuple",data:=.seq #[.none,.none] }).objs.size=s.heap.objs.size+4:=by rw [Heap.size_push,e3]
 have e5:(Zv b c s.heap l m).objs.size=s.heap.objs.size+5:=by rw [Heap.size_push,e4]
 have p5:(Zv b c s.heap l m).get? ((zh3 b c s.heap l m).push { cls:=.type "tuple",data:=.seq #[.none,.none] }).objs.size=some _:=Heap.get?_push_size _ rfl
 have p4:(Zv b c s.heap l m).get? (zh3 b c s.heap l m).objs.size=some _:=Heap.get?_push_of_some _ (Heap.get?_push_size _ rfl)
 have p3:(Zv b c s.heap l m).get? (Si c (Si b s.heap l) m).objs.size=some _:=Heap.get?_push_of_some _ (Heap.get?_push_of_some _ (Heap.get?_push_size _ rfl))
 have p2:(Zv b c s.heap l m).get? (Si b s.heap l).objs.size=some _:=Heap.get?_push_of_some _ (Heap.get?_push_of_some _ (Heap.get?_push_of_some _ (Heap.get?_push_size _ rfl)))
 have p1:(Zv b c s.heap l m).get? s.heap.objs.size=some _:=Heap.get?_push_of_some _ (Heap.get?_push_of_some _ (Heap.get?_push_of_some _ (Heap.get?_push_of_some _ (Heap.get?_push_size _ rfl))))
 have pk:∀d o,s.heap.get? d=some o->(Zv b c s.heap l m).get? d=some o:=λd o x=>Heap.get?_push_of_some _ (Heap.get?_push_of_some _ (Heap.get?_push_of_some _ (Heap.get?_push_of_some _ (Heap.get?_push_of_some _ x))))
 show _/\_
 rw [e2,e3,e4]at p5
 rw [e1,e2]at p3
 rw [e3]at p4
 rw [e1]at p2
 rw [e4]
 refine⟨⟨_,p5,rfl⟩,h _ p5 p3 p4 ?_ ?_ e5 pk⟩
 ·cases b with
  | false=>exact⟨_,p1,rfl,rfl⟩
  | true=>exact⟨_,p1,rfl,rfl⟩
 ·cases c with
  | false=>exact⟨_,p2,rfl,rfl⟩
  | true=>exact⟨_,p2,rfl,rfl⟩
theorem Zx{z TI TO i1 i2 l1 l2:Addr}{xs ys:Array Value}{St1 St2:Nat->Heap->Prop}(hh:A.handled=none)(D:ZipApart z TI TO i1 i2 l1 l2)(S1:Src prog w i1 l1 xs St1)(S2:Src prog w i2 l2 ys St2) :
  WalksT prog w A z [z,TI,TO,i1,i2,l1,l2] [z,TO,i1,i2] (min xs.size ys.size) (λi vals=>∃x y,xs[i]?=some x/\ys[i]?=some y/\vals=#[x,y])
   (λi h=>IsZip h z TI TO .none/\IsPair h TI (.ref i1) (.ref i2)/\(∃a b,IsPair h TO a b)/\St1 i h/\St2 i h)
   (λi T h=>IsZip h z TI TO (rawInt T)/\IsPair h TI (.ref i1) (.ref i2)/\(∃a b,IsPair h TO a b)/\St1 (i+1) h/\St2 (i+1) h/\T≠z/\T≠TO/\T≠i1/\T≠i2) where
 sub:=λc hc=>by simp at hc ⊢;rcases hc with rfl | rfl | rfl | rfl <;> simp
 frame:=λi h h' st hk=>by
  obtain⟨a1,a2,⟨a,b,a3⟩,a4,a5⟩:=st
  exact⟨hk z (by simp) _ a1,hk TI (by simp) _ a2,⟨a,b,hk TO (by simp) _ a3⟩,S1.keep a4 (λo e=>hk i1 (by simp) o e) (λo e=>hk l1 (by simp) o e),S2.keep a5 (λo e=>hk i2 (by simp) o e) (λo e=>hk l2 (by simp) o e)⟩
 item:=λi s Q E hi st hQ=>by
  obtain⟨a1,a2,⟨a,b,a3⟩,a4,a5⟩:=st
  have ix:i < xs.size:=Nat.lt_of_lt_of_le hi (Nat.min_le_left ..)
  have iy:i < ys.size:=Nat.lt_of_lt_of_le hi (Nat.min_le_right ..)
  have hT:s.TypeIs (.ref z) "zip" := ⟨_,a1,rfl⟩
  have lt:∀{c o},s.heap.get? c=some o->s.heap.objs.size≠c:=λe=>Nat.ne_of_gt (Heap.lt_size e)
  unfold pyNext
  refine wpAny_bind (wpAny_attempt (wpAny_callSpecial?_slot (name:=Str.ofString "__next__") hT F.slot_zip_next (wpAny_call_entry F.slot_zip_next hT F.entry_zip_next (Vq (show A.in1.handled=none from hh) D S1 S2 a1 a2 a3 a4 a5 ix iy λh' tk x y ex ey b1 b2 b3 b4 b5 hk=>wpAny_pure ?_) (F.args_zip_next_1 _))))
  refine hQ s.heap.objs.size #[x,y] h' tk ⟨x,y,ex,ey,rfl⟩ (Nat.le_refl _) ⟨_,b5,rfl,_,rfl⟩ ⟨b1,hk _ _ D.TIz D.TITO D.TIi1 D.TIi2 a2,⟨_,_,b2⟩,b3,b4,lt a1,lt a3,?_,?_⟩ λc o hc e=>hk c o (λq=>hc (by simp [q])) (λq=>hc (by simp [q])) (λq=>hc (by simp [q])) (λq=>hc (by simp [q])) e
  ·obtain⟨o,e⟩:=S1.live a4;exact lt e
  ·obtain⟨o,e⟩:=S2.live a5;exact lt e
 go:=λelts k pos i T s Q E hm hQ=>by
  obtain⟨a1,a2,⟨a,b,a3⟩,a4,a5,_⟩:=hm
  exact wpAny_letOwnedTupleGo_zip a1 λh' b1 k1=>hQ h' ⟨b1,k1.extBut _ _ D.TIz a2,⟨a,b,k1.extBut _ _ D.TOz a3⟩,S1.keep a4 (λo e=>k1.extBut _ _ D.i1z e) (λo e=>k1.extBut _ _ D.l1z e),S2.keep a5 (λo e=>k1.extBut _ _ D.i2z e) (λo e=>k1.extBut _ _ D.l2z e)⟩ λc o hc e=>k1.extBut _ _ (λq=>hc (by simp [q])) e
 apart:=λi T h hm hT=>by
  obtain⟨_,_,_,_,_,t1,t2,t3,t4⟩:=hm
  simp at hT
  rcases hT with rfl | rfl | rfl | rfl
  ·exact t1 rfl
  ·exact t2 rfl
  ·exact t3 rfl
  ·exact t4 rfl
 done:=λs Q E st hQ=>by
  obtain⟨a1,a2,⟨a,b,a3⟩,a4,a5⟩:=st
  have hT:s.TypeIs (.ref z) "zip" := ⟨_,a1,rfl⟩
  have hend:min xs.size ys.size=xs.size\/min xs.size ys.size < xs.size/\min xs.size ys.size=ys.size:=by omega
  unfold pyNext
  refine wpAny_bind (wpAny_attempt (wpAny_callSpecial?_slot (name:=Str.ofString "__next__") hT F.slot_zip_next (wpAny_call_entry F.slot_zip_next hT F.entry_zip_next (Qcs (show A.in1.handled=none from hh) D S1 S2 a1 a2 a3 a4 a5 hend λh' tk e hk he=>?_) (F.args_zip_next_1 _))))
  obtain⟨o,ho,hc⟩:=he
  refine wpAny_bind (wpAny_isInstance (T := "StopIteration") (b:=true) ⟨o,ho,hc⟩ isSubtype_stop (wpAny_pure (hQ h' tk λc o hc e=>?_)))
  exact hk c o (λq=>hc (by simp [q])) (λq=>hc (by simp [q])) (λq=>hc (by simp [q])) (λq=>hc (by simp [q])) e
 self:=λi s Q E st h=>wpAny_pyIter_zip st.1 h
end
def Sj(K:PySem.W.Frag):Bool->Hp->Addr->List V->Prop
 | false,H,a,xs=>D5 K H a xs
 | true,H,a,xs=>Hg K H a xs
section
variable {X:Cx}{pins:List (Addr×Obj)}{σ:St}{H:Hp}{s:Shared}{b:Bool}{a c:Addr}{xs ys:List V}
theorem Inv.seqB(I:Inv X pins σ H s)(h:Sj X.K b H a xs):∃its:List Value,Vals xs its/\Sx b s.heap a its.toArray:=by
 cases b with
 | false=>obtain⟨its,r,p,_⟩:=I.list h;exact⟨its,r,p.isList⟩
 | true=>obtain⟨its,r,p,_⟩:=I.tuple h;exact⟨its,r,p⟩
theorem Inv.seqB_inj(I:Inv X pins σ H s)(h:Sj X.K b H a xs)(h':Sj X.K b H a ys):xs=ys:=by
 cases b with
 | false=>exact I.list_inj h h'
 | true=>exact I.tuple_inj h h'
theorem Inv.seqB_ne(I:Inv X pins σ H s)(h:Sj X.K b H a xs)(f:Ep X pins H c):a≠c:=by
 rintro rfl
 obtain⟨f0,_,_,f3,_⟩:=f
 have rd:∀{o:HO},Rd H a o->False:=λr=>by
  rcases r with r | ⟨_,r⟩
  ·rw [f0]at r;cases r
  ·rw [f0]at r;cases r
 have kk:∀{o:Obj},X.K.lookup a=some o->False:=λ{o} e=>by
  have eb:=I.ok.mod.kin a o e
  rcases f3 with f3 | f3
  ·exact I.ok.noex a o eb f3
  ·exact Nat.lt_irrefl _ (Nat.lt_of_lt_of_le (Heap.lt_size (I.ok.bs a o eb).1) f3)
 cases b with
 | false=>rcases h with h | ⟨o,_,_,e,_⟩;exact rd h;exact kk e
 | true=>rcases h with h | ⟨o,_,_,e,_⟩;exact rd h;exact kk e
end
def Izp(K:PySem.W.Frag)(p q:Bool)(a b:Addr):It :=
 ⟨λi H => ∃ xs ys x y, Sj K p H a xs /\ Sj K q H b ys /\ xs[i]? = some x /\ ys[i]? = some y,
  λi H v H' => ∃ T x y, H T = none /\ v = .ref T /\ H' = upd H T (.tup [x, y]) /\ (∀ xs, Sj K p H a xs -> xs[i]? = some x) /\ ∀ ys, Sj K q H b ys -> ys[i]? = some y,
  λi H => ∃ xs ys, Sj K p H a xs /\ Sj K q H b ys /\ i = min xs.length ys.length⟩
theorem Vs{P:Program}{w:World}{K:PySem.W.Frag}{elts:List Expr}{k:Nat}{pos:Pos}(p q:Bool)(a b z TI TO i1 i2:Addr)(d1:TI≠z)(d2:TO≠z)(d3:i1≠z)(d4:i2≠z)(d5:TI≠TO)(d6:TI≠i1)(d7:TI≠i2)(d8:TO≠i1)(d9:TO≠i2)(d10:i1≠i2) :
  Turn P w K (.Tuple elts k pos) (Izp K p q a b) [z,TI,TO,i1,i2] z (λi h=>IsZip h z TI TO .none/\IsPair h TI (.ref i1) (.ref i2)/\(∃u v,IsPair h TO u v)/\Zu p h i1 a i/\Zu q h i2 b i) where
 mem:=by simp
 obj:=λi h st c hc=>by
  obtain⟨a1,a2,⟨u,v,a3⟩,a4,a5⟩:=st
  have it:∀{r:Bool} {j l:Addr} {n:Nat},Zu r h j l n->∃o,h.get? j=some o/\∀v,o.data≠.cell v:=λ{r j l n} x=>by
   cases r with
   | false=>obtain⟨o,e,_,d⟩:=(show h.IsListIter j l n from x);exact⟨o,e,λv y=>by rw [d]at y;cases y⟩
   | true=>obtain⟨o,e,_,d⟩:=(show h.IsTupleIter j l n from x);exact⟨o,e,λv y=>by rw [d]at y;cases y⟩
  simp only [List.mem_cons,List.not_mem_nil,or_false]at hc
  rcases hc with rfl | rfl | rfl | rfl | rfl
  ·exact⟨_,a1,λv y=>nomatch y⟩
  ·exact⟨_,a2,λv y=>nomatch y⟩
  ·exact⟨_,a3,λv y=>nomatch y⟩
  ·exact it a4
  ·exact it a5
 keep:=λi h h' st k=>by
  obtain⟨a1,a2,⟨u,v,a3⟩,a4,a5⟩:=st
  have it:∀{r:Bool} {j l:Addr} {n:Nat},Zu r h j l n->(∀o,h.get? j=some o->h'.get? j=some o)->Zu r h' j l n:=λ{r j l n} x kk=>by
   cases r with
   | false=>exact Heap.IsListIter.at x λo e=>kk o e
   | true=>exact Heap.IsTupleIter.at x λo e=>kk o e
  exact⟨k z (by simp) _ a1,k TI (by simp) _ a2,⟨u,v,k TO (by simp) _ a3⟩,it a4 λo e=>k i1 (by simp) o e,it a5 λo e=>k i2 (by simp) o e⟩
 item:=by
  intro X hP hw hK hc i pins s σ H E I hf st hg
  subst hP hw hK
  obtain⟨xs,ys,x,y,sx,sy,ex,ey⟩:=hg
  obtain⟨its,rv,px⟩:=I.seqB sx
  obtain⟨jts,rw',py⟩:=I.seqB sy
  obtain⟨u,hu,ru⟩:=rv.get ex
  obtain⟨v,hv,rv2⟩:=rw'.get ey
  have na:∀c∈[z,TI,TO,i1,i2],a≠c:=λc hc=>I.seqB_ne sx (hf c hc)
  have nb:∀c∈[z,TI,TO,i1,i2],b≠c:=λc hc=>I.seqB_ne sy (hf c hc)
  have D:ZipApart z TI TO i1 i2 a b:=⟨d1,d2,d3,d4,d5,d6,d7,d8,d9,d10,na z (by simp),na TO (by simp),na i1 (by simp),na i2 (by simp),nb z (by simp),nb TO (by simp),nb i1 (by simp),nb i2 (by simp)⟩
  obtain⟨a1,a2,a3,a4,a5⟩:=id st
  have W:=Zx (prog:=X.prog) (w:=X.w) (A:=X.A) (I.ok.hd hc) D (Sg p i1 a D.l1i1 its.toArray) (Sg q i2 b D.l2i2 jts.toArray)
  refine W.item i s _ _ ?_ ⟨a1,a2,a3,⟨a4,px⟩,⟨a5,py⟩⟩ λT vals h' tk hvl hT ht hm kk=>?_
  ·have n1:=(List.getElem?_eq_some_iff.mp hu).1
   have n2:=(List.getElem?_eq_some_iff.mp hv).1
   simp only [List.size_toArray];omega
  have apart:=W.apart i T h' hm
  have hf':∀c∈[z,TO,i1,i2],Ep X pins H c:=λc hc=>hf c (by simp only [List.mem_cons,List.not_mem_nil,or_false]at hc ⊢;rcases hc with rfl | rfl | rfl | rfl <;> simp)
  refine⟨_,rfl,W.go elts k pos i T _ _ _ hm λh'' st'' kk''=>?_⟩
  obtain⟨x',y',hx',hy',rfl⟩:=hvl
  have hxu:x'=u:=by
   have:its[i]?=some x':=by simpa using hx'
   rw [hu]at this;exact(Option.some.inj this).symm
  have hyv:y'=v:=by
   have:jts[i]?=some y':=by simpa using hy'
   rw [hv]at this;exact(Option.some.inj this).symm
  subst hxu hyv
  have I1:Inv X pins σ H { s with heap:=h',toks:=tk }:=I.turnedL kk hf'
  have I2:Inv X pins σ H { s with heap:=h'',toks:=tk }:=I1.turnedL (s:={ s with heap:=h',toks:=tk }) (t':=tk) kk'' hf'
  have fT:Ep X pins H T:=I.fpOk hT (I.hok.fresh hT)
  have ht'':IsTup h'' T #[x',y']:=let⟨o,ho,r⟩:=ht;⟨o,kk'' T o apart ho,r⟩
  refine⟨.ref T,upd H T (.tup [x,y]),I2.track fT ⟨by show 2<=sizeLine;decide,[x',y'],.cons ru (.cons rv2 .nil),ht''⟩,rfl,⟨T,x,y,fT.1,rfl,rfl,λzs hz=>by rw [I.seqB_inj hz sx];exact ex,λzs hz=>by rw [I.seqB_inj hz sy];exact ey⟩,⟨st''.1,st''.2.1,st''.2.2.1,st''.2.2.2.1.1,st''.2.2.2.2.1⟩,λc hc=>?_⟩
  have hlt:∀{e:Addr} {o:Obj},s.heap.get? e=some o->e≠T:=λq=>Nat.ne_of_lt (Nat.lt_of_lt_of_le (Heap.lt_size q) hT)
  have hcT:c≠T:=by
   obtain⟨u3,v3,a3⟩:=a3
   have S1:=Sg (prog:=X.prog) (w:=X.w) p i1 a D.l1i1 its.toArray
   have S2:=Sg (prog:=X.prog) (w:=X.w) q i2 b D.l2i2 jts.toArray
   simp only [List.mem_cons,List.not_mem_nil,or_false]at hc
   rcases hc with rfl | rfl | rfl | rfl | rfl
   ·exact hlt a1
   ·exact hlt a2
   ·exact hlt a3
   ·obtain⟨o,e⟩:=S1.live (k:=i) ⟨a4,px⟩;exact hlt e
   ·obtain⟨o,e⟩:=S2.live (k:=i) ⟨a5,py⟩;exact hlt e
  rw [Bd hcT]
  exact(hf c hc).1
 done:=by
  intro X hP hw hK hc i pins s σ H E I hf st hg
  subst hP hw hK
  obtain⟨xs,ys,sx,sy,hn⟩:=hg
  obtain⟨its,rv,px⟩:=I.seqB sx
  obtain⟨jts,rw',py⟩:=I.seqB sy
  have na:∀c∈[z,TI,TO,i1,i2],a≠c:=λc hc=>I.seqB_ne sx (hf c hc)
  have nb:∀c∈[z,TI,TO,i1,i2],b≠c:=λc hc=>I.seqB_ne sy (hf c hc)
  have D:ZipApart z TI TO i1 i2 a b:=⟨d1,d2,d3,d4,d5,d6,d7,d8,d9,d10,na z (by simp),na TO (by simp),na i1 (by simp),na i2 (by simp),nb z (by simp),nb TO (by simp),nb i1 (by simp),nb i2 (by simp)⟩
  obtain⟨a1,a2,a3,a4,a5⟩:=id st
  have W:=Zx (prog:=X.prog) (w:=X.w) (A:=X.A) (I.ok.hd hc) D (Sg p i1 a D.l1i1 its.toArray) (Sg q i2 b D.l2i2 jts.toArray)
  have hf':∀c∈[z,TO,i1,i2],Ep X pins H c:=λc hc=>hf c (by simp only [List.mem_cons,List.not_mem_nil,or_false]at hc ⊢;rcases hc with rfl | rfl | rfl | rfl <;> simp)
  have hi:min its.toArray.size jts.toArray.size=i:=by rw [List.size_toArray,List.size_toArray,<- rv.length,<- rw'.length];exact hn.symm
  subst hi
  exact W.done s _ _ ⟨a1,a2,a3,⟨a4,px⟩,⟨a5,py⟩⟩ λh' tk kk=>⟨rfl,I.turnedL kk hf'⟩
 self:=λA i s Q E st h=>wpAny_pyIter_zip st.1 h
def O7(ds es:List PyData):List AV:=List.zipWith (λd e=>AV.D (.tuple [d,e])) ds es
theorem Ds(ds es:List PyData):(O7 ds es).length=min ds.length es.length:=List.length_zipWith
theorem Jm{ds es:List PyData}{i:Nat}{x:AV}(h:(O7 ds es)[i]?=some x):∃d e,ds[i]?=some d/\es[i]?=some e/\x=.D (.tuple [d,e]):=by
 unfold O7 at h
 rw [List.getElem?_zipWith]at h
 split at h
 ·rename_i d e hd he
  cases h
  exact⟨d,e,hd,he,rfl⟩
 ·cases h
theorem Vt{K:PySem.W.Frag}{H0:Hp}{p q:Bool}{a b:Addr}{us vs:List AV}{ds es:List PyData}{kp:M->Prop}(hd:dats us=some ds)(he:dats vs=some es)
  (h:∀H μ,Kp H0 H->Cn K μ H->kp μ->∃xs ys,Sj K p H a xs/\Ax K H us xs/\Sj K q H b ys/\Ax K H vs ys):ItOk K H0 (Izp K p q a b) (O7 ds es) kp:=by
 have hn:ds.length=us.length:=by rw [Fc hd,List.length_map]
 have hm:es.length=vs.length:=by rw [Fc he,List.length_map]
 refine⟨λi H μ S c k hi=>?_,λi H μ v H' x S c k e y=>?_,λH μ S c k=>?_⟩
 ·obtain⟨xs,ys,s1,r1,s2,r2⟩:=h H μ S c k
  rw [Ds,hn,hm,r1.length,r2.length]at hi
  exact⟨xs,ys,xs[i]'(by omega),ys[i]'(by omega),s1,s2,List.getElem?_eq_getElem _,List.getElem?_eq_getElem _⟩
 ·obtain⟨xs,ys,s1,r1,s2,r2⟩:=h H μ S c k
  obtain⟨T,x',y',hT,rfl,rfl,q1,q2⟩:=y
  obtain⟨d,e',e1,e2,rfl⟩:=Jm e
  obtain⟨u,eu,ru⟩:=(r1.dats hd).get e1
  obtain⟨v,ev,rv⟩:=(r2.dats he).get e2
  rw [q1 xs s1]at eu
  rw [q2 ys s2]at ev
  cases eu
  cases ev
  exact⟨Kp.new hT _,c.over hT,Ip B7 (Cg (Dk.kp (Kp.new hT _) _ _ ru) (Cg (Dk.kp (Kp.new hT _) _ _ rv) Dc))⟩
 ·obtain⟨xs,ys,s1,r1,s2,r2⟩:=h H μ S c k
  exact⟨xs,ys,s1,s2,by rw [Ds,hn,hm,r1.length,r2.length]⟩
def Qjn(ta tb:AE):AI:=fun τ μ R=>ta τ μ λx μ1=>tb τ μ1 λy μ2=>opt (items μ2 x) λus=>opt (items μ2 y) λvs=>opt (dats us) λds=>opt (dats vs) λes=>R (O7 ds es) (fun μ=>items μ x=some us/\items μ y=some vs) μ2
section
variable {X:Cx}{e1 e2:Expr}{ta tb:AE}{pos p:Pos}
theorem Vu{elts:List Expr}{k:Nat}{tpos:Pos}(hg:Gl X "zip") (hm:X.mg "zip" = none) (h1:VE X e1 ta) (h2:VE X e2 tb) (hs:starEach [e1,e2] X.env=(false,eval e1 X.env) :: starEach [e2] X.env:=by rfl) (hs2:starEach [e2] X.env=[(false,eval e2 X.env)]:=by rfl) (hpl:(backTo pos (starEach [e2] X.env)).any (·.1)=false:=by rfl) :
  VI X (.Tuple elts k tpos) (.Call (.Name "zip" p) [e1,e2] [] pos) (Qjn ta tb):=by
 intro pins s σ H R I zz119
 refine Cd zz119 fun τ μ R' hst hc h hq=>?_
 refine wpAny_Call_Name_kw (Cz I hg hm boot_zip (PyProof.Rows.callWith_type1 ?_ hs hpl))
 rw [hs]
 refine Calls.spliced_cons (wpAny_mono (h1.run I hst hc h) (λu1 s1 zz120=>Qad zz120 λx v μ1 H1 I1 rv S1 c1 rx q1=>?_) λ_ _ e=>e)
 rw [hs2]
 refine Calls.spliced_cons (wpAny_mono (h2.run I1 (hst.kp S1) c1 q1) (λu2 s2 zz121=>Qad zz121 λy v2 μ2 H2 I2 rv2 S2 c2 ry q2=>Calls.spliced_nil ?_) λ_ _ e=>e)
 obtain⟨us,eu,q2⟩:=Bb q2
 obtain⟨vs,ev,q2⟩:=Bb q2
 obtain⟨ds,ed,q2⟩:=Bb q2
 obtain⟨es,ee,q2⟩:=Bb q2
 have rx2:=rx.kp S2
 obtain⟨a,xs,rfl,ka,ra⟩:=Bp c2 rx2 eu
 obtain⟨b,ys,rfl,kb,rb⟩:=Bp c2 ry ev
 have sqOf:∀{H:Hp} {z:AV} {c:Addr} {ws:List V},(Rv z=false/\D5 X.K H c ws)\/(Rv z=true/\Hg X.K H c ws)->Sj X.K (Rv z) H c ws:=λ{H z c ws} h=>by
  rcases h with⟨t,h⟩ | ⟨t,h⟩
  ·rw [t];exact h
  ·rw [t];exact h
 cases rv
 cases rv2
 obtain⟨its,r1,p1⟩:=I2.seqB (sqOf ka)
 obtain⟨jts,r2,p2⟩:=I2.seqB (sqOf kb)
 refine Vr p1 p2 λh' z1 z2 z3 z4 z5 z6 kz=>wpAny_pyIter_zip z1 ?_
 generalize hB:s2.heap.objs.size=B at z1 z2 z3 z4 z5 z6
 have f:∀(i j:Nat),i≠j->(B+i:Nat)≠B+j:=λi j h=>by omega
 refine⟨B+4,[B+4,B+2,B+3,B,B+1],_,_,H2,rfl,I2.kept (t':=s2.toks) kz,Vs (Rv x) (Rv y) a b (B+4) (B+2) (B+3) B (B+1) (f 2 4 (by decide)) (f 3 4 (by decide)) (f 0 4 (by decide)) (f 1 4 (by decide)) (f 2 3 (by decide)) (f 2 0 (by decide)) (f 2 1 (by decide)) (f 3 0 (by decide)) (f 3 1 (by decide)) (f 0 1 (by decide)),⟨z1,z2,⟨_,_,z3⟩,z4,z5⟩,λc hc'=>?_,hq _ _ _ _ _ (S1.trans S2) c2 (Vt (p:=Rv x) (q:=Rv y) (a:=a) (b:=b) ed ee λH3 μ3 S3 c3 k3=>?_) q2⟩
 ·have hge:s2.heap.objs.size<=c:=by
   rw [hB]
   simp only [List.mem_cons,List.not_mem_nil,or_false]at hc'
   rcases hc' with rfl | rfl | rfl | rfl | rfl
   ·exact Nat.le_add_right _ _
   ·exact Nat.le_add_right _ _
   ·exact Nat.le_add_right _ _
   ·exact Nat.le_refl _
   ·exact Nat.le_add_right _ _
  exact I2.fpOk hge (I2.hok.fresh hge)
 ·obtain⟨a',xs',ea,ka',ra'⟩:=Bp c3 (rx2.kp S3) k3.1
  obtain⟨b',ys',eb,kb',rb'⟩:=Bp c3 (ry.kp S3) k3.2
  cases ea
  cases eb
  exact⟨xs',ys',sqOf ka',ra',sqOf kb',rb'⟩
end
end L2
namespace K19
open PySem L2
def top(i:Nat):Stmt:=PySem.Challenge.pw_pileduel_k19_sayings_as_texts.main.body.getD i (.Pass ⟨0,0,0,0⟩)
abbrev sNn:Stmt:=top 4
abbrev sIt:Stmt:=top 6
abbrev sMb:Stmt:=top 10
abbrev sAe:Stmt:=top 11
abbrev Zy:Stmt:=top 12
abbrev Yu:Stmt:=top 14
abbrev Zz:Stmt:=top 15
abbrev sRs:Stmt:=top 16
abbrev sRo:Stmt:=top 17
abbrev sRa:Stmt:=top 18
abbrev sRr:Stmt:=top 19
abbrev sRe:Stmt:=top 20
abbrev Z0:Stmt:=top 21
abbrev sDr:Stmt:=top 23
abbrev Z1:Stmt:=top 24
abbrev Vv:Stmt:=top 25
abbrev sSo:Stmt:=top 26
abbrev sSa:Stmt:=top 27
abbrev sLs:Stmt:=top 28
abbrev Z5:Stmt:=top 29
abbrev Z6:Stmt:=top 30
abbrev sRi:Stmt:=top 31
abbrev Ha:Stmt:=top 32
section
variable {P:Program}{w:World}{K:PySem.W.Frag}{mg:Str->Option Value}{base:Heap}{f:Addr}{fd:FuncData}
def Sk(i:Int):AV:=.D (.int i)
def stM(l:Addr)(s1:Int)(s2 s3:Nat):MO:=.lst [.R l,.D (.int s1),.D (.int (s2:Nat)),.D (.int (s3:Nat))]
structure PotAt(μ:M)(a l:Addr)(s1:Int)(s2 s3:Nat)(ns:List Int):Prop where
 ha:μ a=some (stM l s1 s2 s3)
 hl:μ l=some (.lst (ns.map Sk))
 n0:0<=s1
 ne:a≠l
def Pot(μ:M)(a l:Addr):Prop:=∃s1 s2 s3 ns,PotAt μ a l s1 s2 s3 ns
def Bl(a l:Addr)(μ μ':M):Prop:=∀b m,b≠a->b≠l->μ b=some m->μ' b=some m
theorem Bl.refl{a l:Addr}{μ:M}:Bl a l μ μ:=λ_ _ _ _ h=>h
theorem Bl.trans{a l:Addr}{μ ν ρ:M}(h:Bl a l μ ν)(k:Bl a l ν ρ):Bl a l μ ρ:=λb m h1 h2 e=>k b m h1 h2 (h b m h1 h2 e)
theorem Bl.new{a l p:Addr}{μ ν:M}{o:MO}(h:Bl a l μ ν)(e:ν p=none):Bl a l μ (Ar ν p o):=λb m h1 h2 q=>by
 have:=h b m h1 h2 q
 rw [Ad (by intro z;subst z;rw [e]at this;cases this)];exact this
theorem Bl.put{a l p:Addr}{μ ν:M}{o:MO}(h:Bl a l μ ν)(e:μ p=none):Bl a l μ (Ar ν p o):=λb m h1 h2 q=>by
 rw [Ad (by intro z;subst z;rw [e]at q;cases q)];exact h b m h1 h2 q
theorem Bl.a{a l:Addr}{μ ν:M}{o:MO}(h:Bl a l μ ν):Bl a l μ (Ar ν a o):=λb m h1 h2 q=>by rw [Ad h1];exact h b m h1 h2 q
theorem Bl.none{a l p:Addr}{μ ν:M}(h:Bl a l μ ν)(h1:a≠p)(h2:l≠p)(e:ν p=none):μ p=none:=by
 cases q:μ p with
 | none=>rfl
 | some m=>rw [h p m h1.symm h2.symm q]at e;cases e
theorem PotAt.other{μ:M}{a l p:Addr}{s1:Int}{s2 s3:Nat}{ns:List Int}{o:MO}(h:PotAt μ a l s1 s2 s3 ns)(h1:a≠p)(h2:l≠p):PotAt (Ar μ p o) a l s1 s2 s3 ns :=
 ⟨by rw [Ad h1];exact h.ha,by rw [Ad h2];exact h.hl,h.n0,h.ne⟩
theorem PotAt.to{μ:M}{a l:Addr}{s1 t1:Int}{s2 s3 t2 t3:Nat}{ns:List Int}(h:PotAt μ a l s1 s2 s3 ns)(h0:0<=t1):PotAt (Ar μ a (stM l t1 t2 t3)) a l t1 t2 t3 ns:=⟨Ac,by rw [Ad h.ne.symm];exact h.hl,h0,h.ne⟩
theorem Pot.other{μ:M}{a l p:Addr}{o:MO}(h:Pot μ a l)(h1:a≠p)(h2:l≠p):Pot (Ar μ p o) a l:=let⟨s1,s2,s3,ns,h⟩:=h;⟨s1,s2,s3,ns,h.other h1 h2⟩
theorem Pot.ne{μ:M}{a l p:Addr}(h:Pot μ a l)(e:μ p=none):a≠p/\l≠p:=by
 obtain⟨_,_,_,_,h⟩:=h
 exact⟨λz=>by(subst z;rw [h.ha]at e;cases e),λz=>by(subst z;rw [h.hl]at e;cases e)⟩
theorem Pot.new{μ:M}{a l p:Addr}{o:MO}(h:Pot μ a l)(e:μ p=none):Pot (Ar μ p o) a l:=h.other (h.ne e).1 (h.ne e).2
def Hb(ns:List Int):PyData:=.list (ns.map .int)
theorem Sl(μ:M)(ns:List Int):items μ (.D (Hb ns))=some (ns.map Sk):=by
 show some ((ns.map PyData.int).map AV.D)=_
 rw [List.map_map];rfl
abbrev nDr:List Str:=["_law_state","_law_many","_law_found","_law_cell","_law_number"]
theorem Np:FnScope nDr ["_law_state","_law_many"] (Ah sDr):=⟨rfl,rfl,rfl,by decide +kernel,rfl,by decide +kernel,by decide +kernel⟩
def O8:ASp:=λxs μ R=>∃(a l:Addr) (many:Nat),xs=[.R a,.D (.int many)]/\Pot μ a l/\0 < many/\many < 1000000/\∀(v:Nat) (μ':M),v < many->Pot μ' a l->Bl a l μ μ'->R (.D (.int v)) μ'
theorem Qcw{v:Int}{many:Nat}(h0:0<=v)(h1:v < many):∃n:Nat,v=n/\n < many:=⟨v.toNat,by omega,by omega⟩
theorem Vw(x:Int){m:Int}(h:0 < m):0<=x % m:=Int.emod_nonneg x (by omega)
theorem Vx(x:Int){m:Int}(h:0 < m)(h2:m<=2147483648):x % m < 2147483648:=Int.lt_of_lt_of_le (Int.emod_lt_of_pos x h) h2
theorem Q3{x:Int}{many:Nat}{Q:Int->Prop}(h0:0 < many)(h:∀v:Nat,v < many->Q v):Q (x % many):=by
 obtain⟨v,ev,hv⟩:=Qcw (Int.emod_nonneg x (show(many:Int)≠0 by omega)) (Int.emod_lt_of_pos x (show 0 < (many:Int) by omega))
 rw [ev];exact h v hv
theorem Qfz{n:Nat}(F:Fun K "_law_draw" "_law_draw" sDr f fd) (m_len:mg "len" = none):FnOk P w K mg base Fb (n+1) f fd ["_law_state","_law_many"] (Hm K 2 O8):=by
 refine F.vok Np λcdv A outer s H E hr=>⟨_,(Ag (Gz (A0 Br (An Az (vv 0) Af) Af) (Lh (vv 0) Af))
   (Ag (B1 (Bg Qe8 (An Az (vv 0) Af) Af (nomark _)) (Ag (Au (i:=2) Np.nd rfl (Or.inl rfl) (A0 Gd (An Az (vv 0) Af) (vv 1)))
   (Ag (Gz (A0 Uf (An Az (vv 0) Af) (vv 1)) (Lh (vv 0) Af))
   (Ai (A8 (vv 2))))) Be)
   (Ag (Au (i:=3) Np.nd rfl (Or.inl rfl) Af)
   (Ag (B1 (Bg Mm (An Az (vv 0) Af) (Aw Cc rfl m_len PySem.boot_len (Aa (An Az (vv 0) Af) Ae)) (nomark _)) (Ag (Au (i:=3) Np.nd rfl (Or.inl rfl) (An Az (An Az (vv 0) Af) (An Az (vv 0) Af)))
   (Ag (Gz (A0 Br (An Az (vv 0) Af) Af) (Lh (vv 0) Af))
   (Ai (B1 (Bg Qi3 (vv 3) (A0 Qe6 Af Af) (nomark _)) (Ag (Gz (A0 Uf (vv 3) (vv 1)) (Lh (vv 0) Af))
   (Ai (A8 (A0 Gd (vv 3) (vv 1))))) Be)))) (Ai (B1 (Bg Qe8 (Aw Cc rfl m_len PySem.boot_len (Aa (An Az (vv 0) Af) Ae)) Af (nomark _)) (Ai (Au (i:=3) Np.nd rfl (Or.inl rfl) (An Az (An Az (vv 0) Af) (A0 Gd (An Az (vv 0) Af) (Aw Cc rfl m_len PySem.boot_len (Aa (An Az (vv 0) Af) Ae)))))) Be)))
   (Ag (Au (i:=4) Np.nd rfl (Or.inl rfl) (A0 Gd (A0 Br (A0 Br (A0 J9 (A0 Gd (vv 3) Af) Af) (A0 J9 Af (An Az (vv 0) Af))) Af) Af))
   (Ag (Au (i:=4) Np.nd rfl (Or.inl rfl) (A0 Gd (A0 Br (A0 J9 (vv 4) (vv 4)) (A0 J9 Af (An Az (vv 0) Af))) Af))
   (Ag (Au (i:=4) Np.nd rfl (Or.inl rfl) (A0 Gd (A0 Br (A0 J9 (vv 4) Af) Af) Af))
   (Ai (A8 (A0 Gd (A0 Gd (A0 J9 (vv 4) (vv 4)) Af) (vv 1))))))))))),?_⟩
 rintro xs μ R _ ⟨a,l,many,rfl,⟨s1,s2,s3,ns,D0⟩,h0,h1,q⟩
 refine Av (fun τ μ'=>τ=[some (.R a),some (.D (.int many)),none,none,none]/\PotAt μ' a l s1 (s2+1) s3 ns/\Bl a l μ μ') (λZ hZ=>?_) ?_
 ·exact Ab D0.ha (Ab rfl (Ab D0.ha (Ab rfl (hZ _ _ ⟨rfl,D0.to D0.n0,Bl.refl.a⟩))))
 rintro τ μ1 ⟨rfl,D1,S1⟩
 have n0:=D1.n0
 refine Av (fun τ μ'=>τ=[some (.R a),some (.D (.int many)),none,none,none]/\μ1=μ') (λZ hZ=>?_) ?_
 ·refine Ab D1.ha (Ab rfl (dif (λc=>?_) (λc=>hZ _ _ ⟨rfl,rfl⟩)))
  refine Ab D1.ha (Ab rfl ⟨(by show(0:Int) < _;omega),Ab D1.ha (Ab rfl ⟨⟨by omega,by omega⟩,Ab D1.ha (Ab rfl ⟨_,Sub.refl,?_⟩)⟩)⟩)
  refine Q3 (Q:=λi=>R (.D (.int i)) _) h0 λv hv=>?_
  exact q v _ hv ⟨s1 / many,s2+1,s3,ns,D1.to (Int.ediv_nonneg n0 (by omega))⟩ S1.a
 rintro τ _ ⟨rfl,rfl⟩
 refine Hn ?_
 refine Av (fun τ μ'=>∃(cell:Int) (s3:Nat),τ=[some (.R a),some (.D (.int many)),none,some (.D (.int cell)),none]/\PotAt μ' a l s1 (s2+1) s3 ns/\Bl a l μ μ') (λZ hZ=>?_) ?_
 ·refine Ab D1.ha (Ab rfl (Ab D1.ha (Ab rfl (Ab D1.hl (dif (λc=>?_) (λc=>?_))))))
  ·have hs3:s3 < ns.length:=by rw [List.length_map]at c;omega
   have hx:(ns.map Sk)[s3]?=some (Sk ns[s3]):=by rw [List.getElem?_map,List.getElem?_eq_getElem hs3];rfl
   refine Ab D1.ha (Ab rfl (Ab D1.ha (Ab rfl (Ab D1.hl (Ab (Al hx) (Ab D1.ha (Ab rfl (Ab D1.ha (Ab rfl ?_)))))))))
   have D2:PotAt (Ar μ1 a (stM l s1 (s2+1) (s3+1))) a l s1 (s2+1) (s3+1) ns:=D1.to n0
   refine⟨⟨by decide,by decide,by decide⟩,dif (λc2=>?_) (λc2=>hZ _ _ ⟨_,s3+1,rfl,D2,S1.a⟩)⟩
   refine⟨⟨by omega,by omega⟩,Ab D2.ha (Ab rfl ⟨(by show(0:Int) < _;omega),_,Sub.refl,?_⟩)⟩
   have hc2:0<=ns[s3]:=by
    have h18:(0:Int)<=10 ^ (18:Int).toNat:=by decide
    exact Int.le_trans h18 c2
   refine Q3 (Q:=λi=>R (.D (.int i)) _) h0 λv hv=>?_
   exact q v _ hv ⟨ns[s3] / many,s2+1,s3+1,ns,D2.to (Int.ediv_nonneg hc2 (by omega))⟩ S1.a.a
  ·refine Ab D1.ha (Ab rfl (Ab D1.hl (dif (λc2=>?_) (λc2=>hZ _ _ ⟨7,s3,rfl,D1,S1⟩))))
   refine Ab D1.ha (Ab rfl (Ab D1.ha (Ab rfl (Ab D1.ha (Ab rfl (Ab D1.hl ⟨c2,?_⟩))))))
   have hlen:0 < (ns.map Sk).length:=by omega
   refine Q3 (x:=((s2+1:Nat):Int)) (Q:=λi=>opt (μ1 l) λm=>match m with
    | .lst xs=>opt (atI xs i) λv=>Z [some (.R a),some (.D (.int many)),none,some v,none] μ1
    | _=>False) hlen λv hv=>?_
   rw [List.length_map]at hv
   refine Ab D1.hl (Ab (Al (v:=Sk ns[v]) (by rw [List.getElem?_map,List.getElem?_eq_getElem hv];rfl)) (hZ _ _ ⟨ns[v],s3,rfl,D1,S1⟩))
 rintro τ μ2 ⟨cell,s3',rfl,D2,S2⟩
 refine Av (fun τ μ'=>∃one:Int,τ=[some (.R a),some (.D (.int many)),none,some (.D (.int cell)),some (.D (.int one))]/\μ2=μ'/\0<=one/\one < 2147483648) (λZ hZ=>?_) ?_
 ·exact⟨(by show(0:Int) < _;decide),.inr ⟨by decide,by decide⟩,Ab D2.ha (Ab rfl ⟨.inl ⟨by decide,by decide⟩,(by show(0:Int) < _;decide),hZ _ _ ⟨_,rfl,rfl,Vw _ (by decide),Vx _ (by decide) (by decide)⟩⟩)⟩
 rintro τ _ ⟨one,rfl,rfl,o0,o1⟩
 refine Av (fun τ μ'=>∃one:Int,τ=[some (.R a),some (.D (.int many)),none,some (.D (.int cell)),some (.D (.int one))]/\μ2=μ'/\0<=one/\one < 2147483648) (λZ hZ=>?_) ?_
 ·exact⟨.inl ⟨by omega,by omega⟩,Ab D2.ha (Ab rfl ⟨.inl ⟨by decide,by decide⟩,(by show(0:Int) < _;decide),hZ _ _ ⟨_,rfl,rfl,Vw _ (by decide),Vx _ (by decide) (by decide)⟩⟩)⟩
 rintro τ _ ⟨two,rfl,rfl,t0,t1⟩
 refine Av (fun τ μ'=>∃one:Int,τ=[some (.R a),some (.D (.int many)),none,some (.D (.int cell)),some (.D (.int one))]/\μ2=μ'/\0<=one/\one < 2147483648) (λZ hZ=>?_) ?_
 ·exact⟨.inr ⟨by decide,by decide⟩,(by show(0:Int) < _;decide),hZ _ _ ⟨_,rfl,rfl,Vw _ (by decide),Vx _ (by decide) (by decide)⟩⟩
 rintro τ _ ⟨three,rfl,rfl,r0,r1⟩
 refine⟨.inl ⟨by omega,by omega⟩,(by show(0:Int) < _;decide),(by show(0:Int) < _;omega),_,Sub.refl,?_⟩
 exact Q3 (Q:=λi=>R (.D (.int i)) _) h0 λv hv=>q v _ hv ⟨s1,s2+1,s3',ns,D2⟩ S2
end
section
variable {P:Program}{w:World}{K:PySem.W.Frag}{mg:Str->Option Value}{base:Heap}{f:Addr}{fd:FuncData}
def B0(ns:List Nat):PyData:=.tuple (ns.map λ(n:Nat)=>.int n)
theorem Vy{κ:Type} [DecidableEq κ](k k':κ)(v:AV):∀(kvs:List (κ×AV)),Dd (Li kvs k v) k'=if k'=k then some v else Dd kvs k':=by
 intro kvs
 unfold Li
 split
 ·rename_i h
  induction kvs with
  | nil=>simp at h
  | cons kv kvs ih =>
   rw [List.map_cons]
   by_cases e:kv.1=k
   ·rw [if_pos e]
    by_cases e2:k'=k
    ·rw [if_pos e2,e2,e];exact Fd
    ·rw [if_neg e2]
     obtain⟨a,b⟩:=kv
     have e':a=k:=e
     subst e'
     rw [Em (Ne.symm e2),Em (Ne.symm e2)]
     by_cases h2:(kvs.any λkv=>decide (kv.1=a))=true
     ·rw [ih h2,if_neg e2]
     ·congr 1
      refine(List.map_congr_left λz hz=>?_).trans (List.map_id kvs)
      rw [if_neg]
      ·rfl
      ·intro z2
       exact h2 (List.any_eq_true.mpr ⟨z,hz,decide_eq_true z2⟩)
   ·rw [if_neg e]
    obtain⟨a,b⟩:=kv
    have h2:(kvs.any λkv=>decide (kv.1=k))=true:=by
     rw [List.any_cons,decide_eq_false e,Bool.false_or]at h;exact h
    by_cases e3:a=k'
    ·subst e3
     rw [Fd,if_neg e];exact Fd.symm
    ·rw [Em e3,Em e3,ih h2]
 ·rename_i h
  induction kvs with
  | nil =>
   by_cases e2:k'=k
   ·rw [if_pos e2,e2];exact Fd
   ·rw [if_neg e2]
    show Dd ((k,v) :: []) k'=_
    rw [Em (Ne.symm e2)]
  | cons kv kvs ih =>
   obtain⟨a,b⟩:=kv
   have h1:a≠k:=by
    intro z;apply h;rw [List.any_cons,decide_eq_true z];rfl
   have h2:¬(kvs.any λkv=>decide (kv.1=k))=true:=by
    intro z;apply h;rw [List.any_cons,z,Bool.or_true]
   show Dd ((a,b) :: (kvs++[(k,v)])) k'=_
   by_cases e3:a=k'
   ·subst e3
    rw [Fd,if_neg h1];exact Fd.symm
   ·rw [Em e3,ih h2,Em e3]
theorem Bs{μ:M}(ns:List Nat):items μ (.D (B0 ns))=some (ns.map λ(n:Nat)=>.D (.int n)):=by
 show some ((ns.map λ(n:Nat)=>PyData.int n).map AV.D)=_
 rw [List.map_map];rfl
theorem Hx{ns:List Nat}:PyData.canLayAll0 (ns.map λ(n:Nat)=>.int n)=true/\PyData.depthAll (ns.map λ(n:Nat)=>.int n)<=1:=by
 induction ns with
 | nil=>exact⟨rfl,by simp [PyData.depthAll]⟩
 | cons n ns ih =>
  simp only [List.map_cons,PyData.canLayAll0,PyData.depthAll,ih.1,Bool.and_true]
  refine⟨rfl,?_⟩
  have:=ih.2
  simp only [PyData.depth];omega
theorem Kr{ns:List Nat}:B3 (B0 ns):=⟨by simp only [B0,PyData.canLay0];exact Hx.1,by have:=(Hx (ns:=ns)).2;simp only [B0,PyData.depth];omega⟩
theorem Vz{κ:Type} [DecidableEq κ](kvs:List (κ×AV))(k:κ)(v:AV):(Li kvs k v).length<=kvs.length+1:=by
 unfold Li
 split
 ·rw [List.length_map];omega
 ·rw [List.length_append];exact Nat.le_refl _
def E9(n:Nat):AV:=.D (.int n)
theorem Gq(ns:List Nat):dats (ns.map E9)=some (ns.map λ(n:Nat)=>.int n):=by
 rw [show ns.map E9=(ns.map λ(n:Nat)=>PyData.int n).map .D by rw [List.map_map];rfl];exact B8 _
theorem Hc:∀(ns:List Nat),Ao (ns.map λ(n:Nat)=>.int n)=true
 | []=>rfl
 | n :: ns=>by simp only [List.map_cons,Ao,Cano,Hc ns,Bool.and_self]
theorem Nq:∀(ms ns:List Nat),cmpbs (ms.map λ(n:Nat)=>.int n) (ns.map λ(n:Nat)=>.int n)=true
 | [],_=>by simp only [List.map_nil,cmpbs]
 | _ :: _,[]=>by simp only [List.map_nil,List.map_cons,cmpbs]
 | m :: ms,n :: ns=>by
  simp only [List.map_cons,cmpbs,cmpb,Nq ms ns,ite_self]
end
section
variable {P:Program}{w:World}{K:PySem.W.Frag}{mg:Str->Option Value}{base:Heap}{f:Addr}{fd:FuncData}
def Aj(z:Str):AV:=.D (.str z)
theorem Q4{z:Str}(h:lets z):PyData.canLay0 (.str z)=true:=by
 show PyData.strOk z=true
 unfold PyData.strOk
 rw [Array.all_eq_true]
 intro i hi
 have:=h z.cps[i] (by simp)
 simp
 omega
theorem Hd{z:Str}(h:lets z):B3 (.str z):=Mp (Q4 h)
theorem Cw(zs:List Str):dats (zs.map Aj)=some (zs.map PyData.str):=by
 rw [show zs.map Aj=(zs.map PyData.str).map .D by rw [List.map_map];rfl];exact B8 _
theorem Dn:∀(zs:List Str),txts (zs.map Aj)=some zs
 | []=>rfl
 | z :: zs=>by simp only [List.map_cons,Aj,txts,Option.map_eq_some_iff];exact⟨zs,Dn zs,rfl⟩
theorem Yv:∀i:Fin 26,∃c,("abcdefghijklmnopqrstuvwxyz" : Str).cps.toList[i.val]?=some c/\97<=c/\c<=122:=by decide +kernel
theorem V0{v:Nat}(h:v < 26):∃c,atI ("abcdefghijklmnopqrstuvwxyz" : Str).cps.toList (v:Int)=some c/\97<=c/\c<=122:=by
 obtain⟨c,e,h1⟩:=Yv ⟨v,h⟩
 exact⟨c,Al e,h1⟩
theorem Nr{c:Nat}(h:97<=c/\c<=122):lets ⟨#[c]⟩:=λd hd=>by
 have:d=c:=by simpa using hd
 rw [this];exact h
theorem V1:("abcdefghijklmnopqrstuvwxyz" : Str).length<=sizeLine:=by decide +kernel
theorem V2:("" : Str).length=0:=by decide +kernel
theorem Lu(x y:Str):(x++y).length=x.length+y.length:=by rw [Lq,Lq,Lq,Qq,List.length_append]
theorem Nt:∀{zs:List Str},(∀z∈zs,z.length=1)->(zs.map (·.length)).sum=zs.length
 | [],_=>rfl
 | z :: zs,h=>by
  simp only [List.map_cons,List.sum_cons,List.length_cons]
  rw [h z List.mem_cons_self,Nt λy hy=>h y (List.mem_cons_of_mem _ hy)];omega
theorem Sm(zs:List Str):(Txt.join "" zs).length=(zs.map (·.length)).sum:=by
 show(PySem.Builtin.Str.glued "" zs).length=_
 rw [StrLaws.glued_eq_join]
 induction zs with
 | nil=>rfl
 | cons x zs ih =>
  cases zs with
  | nil=>simp [Str.join]
  | cons y zs =>
   have e:Str.join "" (x :: y :: zs)=x ++ "" ++ Str.join "" (y :: zs):=rfl
   rw [e,Lu,Lu,V2,ih]
   simp
abbrev Co:List Str:=["place","letter","rule","own","arrow","ends","one","other"]
theorem Sn:B3 (.tuple (Co.map PyData.str)):=⟨by decide +kernel,by decide +kernel⟩
theorem Qjp{x:AV}{i:Nat}{u:AS}{k:ASt->M->Prop}{r:AV->M->Prop}{b c:ASt->M->Prop}{τ:ASt}{μ:M}(h:u k r b c (τ.set i (some x)) μ):Xr (Rx (vC x) (Dq i)) u k r b c τ μ:=h
theorem Ks{zs:List Str}(h:∀z∈zs,lets z):B3 (.tuple (zs.map PyData.str)):=by
 have h2:PyData.canLayAll0 (zs.map PyData.str)=true/\PyData.depthAll (zs.map PyData.str)=0:=by
  induction zs with
  | nil=>exact⟨rfl,rfl⟩
  | cons z zs ih =>
   obtain⟨a,b⟩:=ih λy hy=>h y (.tail _ hy)
   have:=Q4 (h z (.head _))
   simp only [List.map_cons,PyData.canLayAll0,PyData.depthAll,PyData.depth,a,b,this]
   exact⟨rfl,rfl⟩
 exact⟨by simp only [PyData.canLay0];exact h2.1,by simp only [PyData.depth,h2.2];decide⟩
theorem Lv(zs:List Str)(z:Str):((zs.map PyData.str).any λe=>PyData.eqv e (.str z))=decide (z∈zs):=by
 rw [Bool.eq_iff_iff,List.any_eq_true,decide_eq_true_iff]
 constructor
 ·rintro⟨e,he,h⟩
  obtain⟨y,hy,rfl⟩:=List.mem_map.mp he
  rw [Gn rfl rfl,decide_eq_true_iff]at h
  cases h;exact hy
 ·intro h
  exact⟨.str z,List.mem_map.mpr ⟨z,h,rfl⟩,by rw [Gn rfl rfl];exact decide_eq_true rfl⟩
def Nu(z:Str):Bool:=z.cps.toList.all λc=>decide (97<=c) && decide (c<=122)
theorem Hy{z:Str}(h:Nu z=true):lets z:=λc hc=>by
 have:=List.all_eq_true.mp h c hc
 simpa using this
structure KW(z:Str):Prop where
 l:lets z
 n:z.length<=6
 l1:lets (Txt.slice z (some 1) none)
 n1:(Txt.slice z (some 1) none).length<=5
 l2:lets (Txt.slice z none (some (-1)))
 n2:(Txt.slice z none (some (-1))).length<=5
theorem Qcx:(Co.all λz=>Nu z && decide (z.length<=6) && Nu (Txt.slice z (some 1) none) && decide ((Txt.slice z (some 1) none).length<=5) && Nu (Txt.slice z none (some (-1))) && decide ((Txt.slice z none (some (-1))).length<=5))=true:=by decide +kernel
theorem Qf0{v:Nat}(h:v < 8):∃z,(Co.map Aj)[v]?=some (Aj z)/\KW z:=by
 have hv:v < Co.length:=h
 refine⟨Co[v],by rw [List.getElem?_map,List.getElem?_eq_getElem hv];rfl,?_⟩
 have:=List.all_eq_true.mp Qcx Co[v] (List.getElem_mem hv)
 simp only [Bool.and_eq_true,decide_eq_true_iff]at this
 obtain⟨⟨⟨⟨⟨a,b⟩,c⟩,d⟩,e⟩,f⟩:=this
 exact⟨Hy a,b,Hy c,d,Hy e,f⟩
def spq(c:Nat):Str:=(⟨#[c]⟩:Str) ++ "q"
theorem Qcy:(("abcdefghijklmnopqrstuvwxyz" : Str).cps.toList.map spq).Nodup:=by decide +kernel
theorem Qcz:(("abcdefghijklmnopqrstuvwxyz" : Str).cps.toList.all λc=>Nu (spq c) && decide ((spq c).length<=6) && decide (spq c∉Co))=true:=by decide +kernel
theorem V3:("abcdefghijklmnopqrstuvwxyz" : Str).cps.toList.length=26:=by decide +kernel
structure Nms(zs:List Str):Prop where
 l:∀z∈zs,lets z
 n:∀z∈zs,z.length<=6
 k:∀z∈zs,z∉Co
 nd:zs.Nodup
theorem Nms.add{zs:List Str}{z:Str}(h:Nms zs)(h1:lets z)(h2:z.length<=6)(h3:z∉Co)(h4:z∉zs):Nms (zs++[z]):=by
 refine⟨λy hy=>?_,λy hy=>?_,λy hy=>?_,?_⟩
 ·rcases List.mem_append.mp hy with hy | hy
  ·exact h.l y hy
  ·rw [List.mem_singleton.mp hy];exact h1
 ·rcases List.mem_append.mp hy with hy | hy
  ·exact h.n y hy
  ·rw [List.mem_singleton.mp hy];exact h2
 ·rcases List.mem_append.mp hy with hy | hy
  ·exact h.k y hy
  ·rw [List.mem_singleton.mp hy];exact h3
 ·refine List.nodup_append.mpr ⟨h.nd,List.nodup_cons.mpr ⟨by simp,List.nodup_nil⟩,λa ha b hb=>?_⟩
  rw [List.mem_singleton.mp hb]
  rintro rfl;exact h4 ha
abbrev nNa:List Str:=["_law_state","_law_many","_law_letters","_law_kept","_law_found","_law_k","_law_word","_law_form","_law_name"]
theorem Jn:FnScope nNa ["_law_state","_law_many"] (Ah Z1):=⟨rfl,rfl,rfl,by decide +kernel,rfl,by decide +kernel,by decide +kernel⟩
theorem Qf1:(["_law_j","_law_letters","_law_state"]:List Str).Nodup:=by decide +kernel
theorem Qf2:(["_law_letter","_law_found"]:List Str).Nodup:=by decide +kernel
def Yw:ASp:=λxs μ R=>∃(a l:Addr) (many:Nat),xs=[.R a,.D (.int many)]/\many<=8/\Pot μ a l/\∀(zs:List Str) (p:Addr) μ',zs.length=many->Nms zs->μ p=none->μ' p=some (.lst (zs.map Aj))->Pot μ' a l->Bl a l μ μ'->R (.R p) μ'
theorem Qf3{n:Nat}(F:Fun K "_law_names" "_law_names" Z1 f fd) (cDr:VCal P w K mg base n "_law_draw" ["_law_state","_law_many"] O8) (m_range:mg "range" = none) (m_len:mg "len" = none):FnOk P w K mg base Fb (n+1) f fd ["_law_state","_law_many"] (Hm K 2 Yw):=by
 refine F.vok Jn λcdv A outer s H E hr=>⟨_,(Ag (Au (i:=2) Jn.nd rfl (Or.inr rfl) Bh)
   (Ag (Au (i:=3) Jn.nd rfl (Or.inl rfl) (Ca (Aa Bh (Aa Bh (Aa Bh (Aa Bh (Aa Bh (Aa Bh (Aa Bh (Aa Bh Ae))))))))))
   (Ag (Au (i:=4) Jn.nd rfl (Or.inr rfl) (Ca Ae))
   (Ag (El PassesOwn.never rfl (Cu rfl m_range (Aa (vv 1) Ae)) (Ap (i:=5) Jn.nd rfl (Or.inl rfl)) (Ag (Au (i:=6) Jn.nd rfl (Or.inl rfl) (An Az (vv 3) (Ak cDr hr rfl (Aa (vv 0) (Aa Af Ae)))))
   (Ag (Au (i:=7) Jn.nd rfl (Or.inl rfl) (Ak cDr hr rfl (Aa (vv 0) (Aa Af Ae))))
   (Ag (Au (i:=8) Jn.nd rfl (Or.inl rfl) (Hl PySem.F.slot_str_join PySem.F.type_str_join G6 Bh (Aa (Bn (N':=["_law_j","_law_letters","_law_state"]) (mp:=[none,some 2,some 0]) rfl (Cu rfl m_range (Aa (A0 Br Af (Ak cDr hr rfl (Aa (vv 0) (Aa Af Ae)))) Ae)) (λ_ _ _ _=>(Ap (i:=0) Qf1 rfl (Or.inl rfl) (Or.inr rfl))) (λ_ _ _ _=>Bk) (λ_ _ _ _=>(An Az (vv 1) (Ak cDr hr rfl (Aa (vv 2) (Aa Af Ae))))) (Ay (N:=nNa) (pn:=(Ah Z1).names) (by decide +kernel))) Ae)))
   (Ag (B1 (VW.pt (Ub (Bg (Hs hr) (vv 7) Af (nomark _)) (Ps (Bg Mm (Aw Cc rfl m_len PySem.boot_len (Aa (vv 6) Ae)) Af (nomark _))))) (Ai (Au (i:=8) Jn.nd rfl (Or.inl rfl) (A0 Br (vv 6) (An Az (vv 2) (Ak cDr hr rfl (Aa (vv 0) (Aa Af Ae))))))) Be)
   (Ag (B1 (Bg (Hs hr) (vv 7) Af (nomark _)) (Ai (Au (i:=8) Jn.nd rfl (Or.inl rfl) (An Az (Ca (Aa (Ch (vv 6) (Cp Af) C5) (Aa (Ch (vv 6) C5 (Cp (Um Af))) Ae))) (Ak cDr hr rfl (Aa (vv 0) (Aa Af Ae)))))) Be)
   (Ag (B1 (VW.pt (Ey (Bg (Qe2 hr) (vv 8) (vv 3) (by with_unfolding_all rfl)) (Ex (Bg (Qe2 hr) (vv 8) (vv 4) (by with_unfolding_all rfl))))) (Ai (Au (i:=8) Jn.nd rfl (Or.inl rfl) (An Az (Bn (N':=["_law_letter","_law_found"]) (mp:=[none,some 4]) rfl (Qcr (vv 2)) (λ_ _ _ _=>(Ap (i:=0) Qf2 rfl (Or.inl rfl) (Or.inr rfl))) (λ_ _ _ _=>(E5 (Bg (Pu hr) (A0 Br (vv 0) Bh) (vv 1) (by with_unfolding_all rfl)))) (λ_ _ _ _=>(A0 Br (vv 0) Bh)) (Ay (N:=nNa) (pn:=(Ah Z1).names) (by decide +kernel))) Af))) Be)
   (Ai (Dp (Hk PySem.F.slot_list_append PySem.F.type_list_append C7 (vv 4) (Aa (vv 8) Ae)))))))))))
   (Ai (A8 (vv 4))))))),?_⟩
 rintro xs μ R _ ⟨a,l,many,rfl,hm,hP,q⟩
 refine Qjp (Av (fun τ μ'=>∃pk,τ=[some (.R a),some (.D (.int many)),some (Aj "abcdefghijklmnopqrstuvwxyz"),some (.R pk),none,none,none,none,none]/\μ pk=none/\μ' pk=some (.lst (Co.map Aj))/\Pot μ' a l/\Bl a l μ μ') (λZ hZ=>λpk hpk=>hZ _ _ ⟨pk,rfl,hpk,Ac,hP.new hpk,Bl.refl.new hpk⟩) ?_)
 rintro τ μ1 ⟨pk,rfl,hpk,e1,P1,S1⟩
 intro pf hpf
 have hnk:=hP.ne hpk
 have hne:=P1.ne hpf
 have hpf0:μ pf=none:=S1.none hne.1 hne.2 hpf
 have hkf:pk≠pf:=by rintro rfl;rw [e1]at hpf;cases hpf
 refine Av (fun τ μ'=>∃o5 o6 o7 o8 zs,τ=[some (.R a),some (.D (.int many)),some (Aj "abcdefghijklmnopqrstuvwxyz"),some (.R pk),some (.R pf),o5,o6,o7,o8]/\zs.length=many/\Nms zs/\μ' pf=some (.lst (zs.map Aj))/\Pot μ' a l/\Bl a l μ μ') (λZ hZ=>?_) ?_
 ·refine⟨by omega,by omega,?_⟩
  have hlen:(D9 0 (many:Int).toNat).length=many:=by rw [Bx];omega
  refine Gf (λi τ μ'=>∃o5 o6 o7 o8 zs,τ=[some (.R a),some (.D (.int many)),some (Aj "abcdefghijklmnopqrstuvwxyz"),some (.R pk),some (.R pf),o5,o6,o7,o8]/\zs.length=i/\Nms zs/\μ' pf=some (.lst (zs.map Aj))/\μ' pk=some (.lst (Co.map Aj))/\Pot μ' a l/\Bl a l μ μ') ⟨none,none,none,none,[],rfl,rfl,⟨(λ_ z=>nomatch z),(λ_ z=>nomatch z),(λ_ z=>nomatch z),List.nodup_nil⟩,Ac,by rw [Ad hkf];exact e1,P1.new hpf,S1.new hpf⟩ (λ_ _ _ _=>trivial) ?_ ?_
  ·rintro i y τ μ2 Z2 hy ⟨o5,o6,o7,o8,zs,rfl,hn,hz,e2,k2,P2,S2⟩ hZ2
   have hi:i < many:=by rw [<- hlen];exact(List.getElem?_eq_some_iff.mp hy).1
   have ey:=Ez _ _ _ hy
   subst ey
   refine Av (fun τ μ'=>∃wd,τ=[some (.R a),some (.D (.int many)),some (Aj "abcdefghijklmnopqrstuvwxyz"),some (.R pk),some (.R pf),some (.D (.int (0+(i:Int)))),some (Aj wd),o7,o8]/\KW wd/\μ' pf=some (.lst (zs.map Aj))/\μ' pk=some (.lst (Co.map Aj))/\Pot μ' a l/\Bl a l μ μ') (λZ3 hZ3=>?_) ?_
   ·refine⟨a,l,8,rfl,P2,by decide,by decide,λv μ3 hv P3 S3=>?_⟩
    obtain⟨z,ez,kz⟩:=Qf0 hv
    have k3:=S3 pk _ hnk.1.symm hnk.2.symm k2
    exact Ab k3 (Ab (Al ez) (hZ3 _ _ ⟨z,rfl,kz,S3 pf _ hne.1.symm hne.2.symm e2,k3,P3,S2.trans S3⟩))
   rintro τ μ3 ⟨wd,rfl,kw,e3,k3,P3,S3⟩
   have hwl:wd.length<=sizeLine:=Nat.le_trans kw.n (by decide)
   refine Av (fun τ μ'=>∃fm:Nat,τ=[some (.R a),some (.D (.int many)),some (Aj "abcdefghijklmnopqrstuvwxyz"),some (.R pk),some (.R pf),some (.D (.int (0+(i:Int)))),some (Aj wd),some (.D (.int fm)),o8]/\μ' pf=some (.lst (zs.map Aj))/\μ' pk=some (.lst (Co.map Aj))/\Pot μ' a l/\Bl a l μ μ') (λZ3 hZ3=>?_) ?_
   ·exact⟨a,l,6,rfl,P3,by decide,by decide,λv μ4 hv P4 S4=>hZ3 _ _ ⟨v,rfl,S4 pf _ hne.1.symm hne.2.symm e3,S4 pk _ hnk.1.symm hnk.2.symm k3,P4,S3.trans S4⟩⟩
   rintro τ μ4 ⟨fm,rfl,e4,k4,P4,S4⟩
   refine Av (fun τ μ'=>∃nm:Str,τ=[some (.R a),some (.D (.int many)),some (Aj "abcdefghijklmnopqrstuvwxyz"),some (.R pk),some (.R pf),some (.D (.int (0+(i:Int)))),some (Aj wd),some (.D (.int fm)),some (Aj nm)]/\lets nm/\nm.length<=6/\μ' pf=some (.lst (zs.map Aj))/\μ' pk=some (.lst (Co.map Aj))/\Pot μ' a l/\Bl a l μ μ') (λZ3 hZ3=>?_) ?_
   ·refine⟨trivial,a,l,6,rfl,P4,by decide,by decide,λc μ5 hc P5 S5=>⟨by omega,by omega,λpl hpl=>?_⟩⟩
    have hnl:=P5.ne hpl
    have e5:=S5 pf _ hne.1.symm hne.2.symm e4
    have k5:=S5 pk _ hnk.1.symm hnk.2.symm k4
    have hlf:pf≠pl:=by rintro rfl;rw [e5]at hpl;cases hpl
    have hlk:pk≠pl:=by rintro rfl;rw [k5]at hpl;cases hpl
    have hlen5:(D9 0 (1+(c:Int)).toNat).length=1+c:=by rw [Bx];omega
    refine C0 (λj acc τ μ'=>∃(o:Option AV) (ys:List Str),τ=[o,some (Aj "abcdefghijklmnopqrstuvwxyz"),some (.R a)]/\acc=ys.map Aj/\ys.length=j/\(∀z∈ys,lets z/\z.length=1)/\μ' pl=some (.lst acc)/\μ' pf=some (.lst (zs.map Aj))/\μ' pk=some (.lst (Co.map Aj))/\Pot μ' a l/\Bl a l μ5 μ') ⟨none,[],rfl,rfl,rfl,(λ_ z=>nomatch z),Ac,by rw [Ad hlf];exact e5,by rw [Ad hlk];exact k5,P5.new hpl,Bl.refl.new hpl⟩ (λ_ _ _ _ _=>trivial) ?_ ?_
    ·rintro j x acc τ μ6 Z4 hx ⟨o,ys,rfl,rfl,hyl,hb,l6,e6,k6,P6,S6⟩ hZ4
     refine Gs rfl ⟨a,l,26,rfl,P6,by decide,by decide,λv μ7 hv P7 S7=>?_⟩
     have l7:=S7 pl _ hnl.1.symm hnl.2.symm l6
     obtain⟨ch,ec,hch⟩:=V0 hv
     have hj:j < 1+c:=by rw [<- hlen5];exact(List.getElem?_eq_some_iff.mp hx).1
     refine⟨V1,Ab ec ⟨l7,A5 (by rw [List.length_map];omega),hZ4 _ _ _ ⟨_,ys++[⟨#[ch]⟩],rfl,by rw [List.map_append];rfl,by rw [List.length_append,hyl];rfl,λz hz'=>?_,Ac,by rw [Ad hlf];exact S7 pf _ hne.1.symm hne.2.symm e6,by rw [Ad hlk];exact S7 pk _ hnk.1.symm hnk.2.symm k6,P7.other hnl.1 hnl.2,(S6.trans S7).put hpl⟩⟩⟩
     rcases List.mem_append.mp hz' with h | h
     ·exact hb z h
     ·rw [List.mem_singleton.mp h];exact⟨Nr hch,rfl⟩
    ·rintro acc τ μ6 ⟨o,ys,rfl,rfl,hyl,hb,l6,e6,k6,P6,S6⟩
     rw [hlen5]at hyl
     have hsum:=Nt λz hz'=>(hb z hz').2
     refine Ab l6 (Ab (Dn ys) ⟨?_,hZ3 _ _ ⟨Txt.join "" ys,rfl,Sb λz hz'=>(hb z hz').1,?_,e6,k6,P6,S4.trans (S5.trans S6)⟩⟩)
     ·rw [hsum,V2];omega
     ·rw [Sm,hsum];omega
   rintro τ μ5 ⟨nm0,rfl,ln0,hn0,e5,k5,P5,S5⟩
   refine Av (fun τ μ'=>∃nm:Str,τ=[some (.R a),some (.D (.int many)),some (Aj "abcdefghijklmnopqrstuvwxyz"),some (.R pk),some (.R pf),some (.D (.int (0+(i:Int)))),some (Aj wd),some (.D (.int fm)),some (Aj nm)]/\lets nm/\nm.length<=6/\μ' pf=some (.lst (zs.map Aj))/\μ' pk=some (.lst (Co.map Aj))/\Pot μ' a l/\Bl a l μ μ') (λZ3 hZ3=>?_) ?_
   ·refine ieq (λc=>⟨hwl,dif (λc2=>?_) (λc2=>hZ3 _ _ ⟨nm0,rfl,ln0,hn0,e5,k5,P5,S5⟩)⟩) (λc=>Hj rfl (hZ3 _ _ ⟨nm0,rfl,ln0,hn0,e5,k5,P5,S5⟩))
    refine⟨a,l,26,rfl,P5,by decide,by decide,λv μ6 hv P6 S6=>?_⟩
    obtain⟨ch,ec,hch⟩:=V0 hv
    have l1:(wd++(⟨#[ch]⟩:Str)).length=wd.length+1:=by rw [Lu];rfl
    refine⟨V1,Ab ec ⟨?_,hZ3 _ _ ⟨_,rfl,Ji kw.l (Nr hch),by rw [l1];omega,S6 pf _ hne.1.symm hne.2.symm e5,S6 pk _ hnk.1.symm hnk.2.symm k5,P6,S5.trans S6⟩⟩⟩
    show wd.length+1<=sizeLine
    exact Nat.le_trans (show _<=10 by have:=kw.n;omega) (by decide)
   rintro τ μ6 ⟨nm1,rfl,ln1,hn1,e6,k6,P6,S6⟩
   refine Av (fun τ μ'=>∃nm:Str,τ=[some (.R a),some (.D (.int many)),some (Aj "abcdefghijklmnopqrstuvwxyz"),some (.R pk),some (.R pf),some (.D (.int (0+(i:Int)))),some (Aj wd),some (.D (.int fm)),some (Aj nm)]/\lets nm/\nm.length<=6/\μ' pf=some (.lst (zs.map Aj))/\μ' pk=some (.lst (Co.map Aj))/\Pot μ' a l/\Bl a l μ μ') (λZ3 hZ3=>?_) ?_
   ·refine ieq (λc=>?_) (λc=>hZ3 _ _ ⟨nm1,rfl,ln1,hn1,e6,k6,P6,S6⟩)
    refine⟨hwl,hwl,λp2 hp2=>⟨a,l,2,rfl,P6.new hp2,by decide,by decide,λv μ7 hv P7 S7=>?_⟩⟩
    have h2f:pf≠p2:=by rintro rfl;rw [e6]at hp2;cases hp2
    have h2k:pk≠p2:=by rintro rfl;rw [k6]at hp2;cases hp2
    have hn2:=P6.ne hp2
    refine Ab (S7 p2 _ hn2.1.symm hn2.2.symm Ac) ?_
    have e7:=S7 pf _ hne.1.symm hne.2.symm (show Ar μ6 p2 _ pf=_ by rw [Ad h2f];exact e6)
    have k7:=S7 pk _ hnk.1.symm hnk.2.symm (show Ar μ6 p2 _ pk=_ by rw [Ad h2k];exact k6)
    have S8:=(S6.new hp2).trans S7
    rcases(show v=0\/v=1 by omega) with rfl | rfl
    ·exact Ab (Al (j:=0) rfl) (hZ3 _ _ ⟨_,rfl,kw.l1,Nat.le_succ_of_le kw.n1,e7,k7,P7,S8⟩)
    ·exact Ab (Al (j:=1) rfl) (hZ3 _ _ ⟨_,rfl,kw.l2,Nat.le_succ_of_le kw.n2,e7,k7,P7,S8⟩)
   rintro τ μ7 ⟨nm,rfl,ln,hnl,e7,k7,P7,S7⟩
   refine Av (fun τ μ'=>∃nm:Str,τ=[some (.R a),some (.D (.int many)),some (Aj "abcdefghijklmnopqrstuvwxyz"),some (.R pk),some (.R pf),some (.D (.int (0+(i:Int)))),some (Aj wd),some (.D (.int fm)),some (Aj nm)]/\lets nm/\nm.length<=6/\nm∉Co/\nm∉zs/\μ' pf=some (.lst (zs.map Aj))/\μ' pk=some (.lst (Co.map Aj))/\Pot μ' a l/\Bl a l μ μ') (λZ3 hZ3=>?_) ?_
   ·have hspq:∀c∈("abcdefghijklmnopqrstuvwxyz" : Str).cps.toList,lets (spq c)/\(spq c).length<=6/\spq c∉Co:=λc hc=>by
     have:=List.all_eq_true.mp Qcz c hc
     simp only [Bool.and_eq_true,decide_eq_true_iff]at this
     exact⟨Hy this.1.1,this.1.2,this.2⟩
    have spare:Rx (Xl aIx (Px [none,some 4] (Qfs (Oi 2)) (Dq 0) (Mi (Xl (aIn λb=>!b) (Xl Qbw (Oi 0) (vC (.D (.str "q")))) (Oi 1))) (Xl Qbw (Oi 0) (vC (.D (.str "q"))))) (vC (.D (.int 0)))) (Dq 8) Z3 (aRt R) Z Z2 [some (.R a),some (.D (.int many)),some (Aj "abcdefghijklmnopqrstuvwxyz"),some (.R pk),some (.R pf),some (.D (.int (0+(i:Int)))),some (Aj wd),some (.D (.int fm)),some (Aj nm)] μ7:=by
     intro pq hpq
     have hqf:pf≠pq:=by rintro rfl;rw [e7]at hpq;cases hpq
     have hqk:pk≠pq:=by rintro rfl;rw [k7]at hpq;cases hpq
     have hb2:∀c:Nat,(⟨#[c]⟩:Str).length+("q" : Str).length<=sizeLine:=λc=>Nat.le_trans (show 1+1<=2 from Nat.le_refl _) (by decide)
     refine cmapf ("abcdefghijklmnopqrstuvwxyz" : Str).cps.toList chA (λc=>!decide (spq c∈zs)) (λc=>Aj (spq c)) (fun τ=>∃o,τ=[o,some (.R pf)]) ⟨none,rfl⟩ Ac (by rw [V3];decide) (λ_=>trivial) ?_ ?_
     ·rintro k c τ' acc W W2 hk ⟨o,rfl⟩ w1 w2
      have hs:=hspq c (List.mem_of_getElem? hk)
      refine⟨hb2 c,Ab rfl (Ab (Aq (by rw [Ad hqf,Ad hqf];exact e7)) (Ab (Cw zs) ⟨Hd hs.1,Ks hz.l,?_⟩))⟩
      rw [Lv]
      exact br (λc1=>⟨hb2 c,w1 c1 _ ⟨_,rfl⟩⟩) (λc1=>w2 c1 _ ⟨_,rfl⟩)
     ·cases hf:("abcdefghijklmnopqrstuvwxyz" : Str).cps.toList.filter (λc=>!decide (spq c∈zs)) with
      | nil =>
       have hall:=List.filter_eq_nil_iff.mp hf
       have:=Ef Qcy λz hz'=>by
        obtain⟨c,hc,rfl⟩:=List.mem_map.mp hz'
        have:=hall c hc
        simpa using this
       rw [List.length_map,V3]at this
       omega
      | cons c0 rest =>
       have hc0:c0∈("abcdefghijklmnopqrstuvwxyz" : Str).cps.toList.filter (λc=>!decide (spq c∈zs)):=by rw [hf];exact .head _
       obtain⟨hm0,hn0'⟩:=List.mem_filter.mp hc0
       obtain⟨q1,q2,q3⟩:=hspq c0 hm0
       refine Ab Ac (Ab (Al (j:=0) rfl) (hZ3 _ _ ⟨spq c0,rfl,q1,q2,q3,by simpa using hn0',by rw [Ad hqf,Ad hqf];exact e7,by rw [Ad hqk,Ad hqk];exact k7,(P7.new hpq).other (P7.ne hpq).1 (P7.ne hpq).2,(S7.new hpq).put (S7.none (P7.ne hpq).1 (P7.ne hpq).2 hpq)⟩))
    refine Ab rfl (Ab (Aq k7) (Ab (Cw Co) ⟨Hd ln,Sn,?_⟩))
    rw [Lv]
    refine br (λc=>Gs rfl spare) (λc=>?_)
    refine Ab rfl (Ab (Aq e7) (Ab (Cw zs) ⟨Hd ln,Ks hz.l,?_⟩))
    rw [Lv]
    exact br (λc2=>spare) (λc2=>hZ3 _ _ ⟨nm,rfl,ln,hnl,of_decide_eq_false c,of_decide_eq_false c2,e7,k7,P7,S7⟩)
   rintro τ μ8 ⟨nm',rfl,ln',hnl',hk',hz',e8,k8,P8,S8⟩
   exact⟨Ab e8 trivial,Ab e8 ⟨A5 (by rw [List.length_map];omega),hZ2 _ _ ⟨_,_,_,_,zs++[nm'],rfl,by rw [List.length_append,hn];rfl,hz.add ln' hnl' hk' hz',by rw [Ac,List.map_append];rfl,by rw [Ad hkf];exact k8,P8.other hne.1 hne.2,S8.put hpf0⟩⟩⟩
  ·rintro τ μ2 ⟨o5,o6,o7,o8,zs,rfl,hn,hz,e2,k2,P2,S2⟩
   rw [hlen]at hn
   exact hZ _ _ ⟨_,_,_,_,zs,rfl,hn,hz,e2,P2,S2⟩
 ·rintro τ μ2 ⟨o5,o6,o7,o8,zs,rfl,hn,hz,e2,P2,S2⟩
  exact⟨_,Sub.refl,q zs pf _ hn hz hpf0 e2 P2 S2⟩
end
section
variable {P:Program}{w:World}{K:PySem.W.Frag}{mg:Str->Option Value}{base:Heap}{f:Addr}{fd:FuncData}
structure Rul where
 p:Nat
 x:Nat
 q:Nat
 w:List Nat
def Fy(r:Rul):PyData:=.tuple [.int r.p,.int r.x,.int r.q,B0 r.w]
def C3(r:Rul):AV:=.D (Fy r)
structure RulOk(pl le:Nat)(r:Rul):Prop where
 p:r.p < pl
 x:r.x < le
 q:r.q < pl
 w:∀z∈r.w,z < le
 n:r.w.length<=2
theorem Nv:∀(ns:List Nat),PyData.depthAll (ns.map λ(n:Nat)=>.int n)<=0
 | []=>Nat.le_refl _
 | n :: ns=>by
  have:=Nv ns
  simp only [List.map_cons,PyData.depthAll,PyData.depth];omega
theorem O9(r:Rul):(Fy r).canLay0=true/\(Fy r).depth<=2/\Cano (Fy r)=true:=by
 have h1:=Hx (ns:=r.w)
 have h2:=Hc r.w
 refine⟨?_,?_,?_⟩
 ·simp only [Fy,B0,PyData.canLay0,PyData.canLayAll0,h1.1,Bool.and_true]
 ·have:=h1.2
  simp only [Fy,B0,PyData.depth,PyData.depthAll]
  have e:PyData.depthAll (r.w.map λ(n:Nat)=>.int n)<=0:=Nv r.w
  omega
 ·simp only [Fy,B0,Cano,Ao,h2,Bool.and_true,Bool.true_and]
theorem Lw:∀(B:List Rul),PyData.canLayAll0 (B.map Fy)=true/\PyData.depthAll (B.map Fy)<=2/\Ao (B.map Fy)=true
 | []=>⟨rfl,by simp [PyData.depthAll],rfl⟩
 | a :: B=>by
  obtain⟨h1,h2,h3⟩:=O9 a
  obtain⟨k1,k2,k3⟩:=Lw B
  simp only [List.map_cons,PyData.canLayAll0,PyData.depthAll,Ao,h1,h3,k1,k3,Bool.and_self,true_and,and_true]
  omega
theorem V4(a:Rul):B3 (Fy a):=⟨(O9 a).1,Nat.le_trans (O9 a).2.1 (by decide)⟩
theorem So(B:List Rul):B3 (.tuple (B.map Fy)):=⟨by simp only [PyData.canLay0];exact(Lw B).1,by have:=(Lw B).2.1;simp only [PyData.depth];omega⟩
theorem Nw(B:List Rul):dats (B.map C3)=some (B.map Fy):=by
 rw [show(B.map C3)=(B.map Fy).map .D by rw [List.map_map];rfl];exact B8 _
structure Gam where
 pl:List (Str×Nat)
 le:List Str
 rs:List Rul
def Ff(p:Str×Nat):PyData:=.tuple [.str p.1,.int p.2]
def Bq(g:Gam):PyData:=.tuple [.tuple (g.pl.map Ff),.tuple (g.le.map PyData.str),.tuple (g.rs.map Fy)]
structure GamOk(g:Gam)(nr:Nat):Prop where
 p0:0 < g.pl.length
 p1:g.pl.length<=3
 l0:0 < g.le.length
 l1:g.le.length<=3
 r1:g.rs.length<=nr
 hd:∀p∈g.pl,p.2 < 2
 pn:Nms (g.pl.map (·.1))
 ln:Nms g.le
 ru:∀r∈g.rs,RulOk g.pl.length g.le.length r
theorem fives:∀v:Fin 5,∃w,([0,0,1,1,2]:List Nat)[v.val]?=some w/\w<=2:=by decide +kernel
abbrev nGa:List Str:=["_law_state","_law_most","_law_places","_law_letters","_law_rules","_law_k","_law_p","_law_x","_law_q","_law_size","_law_rule","_law_alike_here"]
theorem Ht:FnScope nGa ["_law_state","_law_most"] (Ah Vv):=⟨rfl,rfl,rfl,by decide +kernel,rfl,by decide +kernel,by decide +kernel⟩
theorem Qf4:(["_law_name","_law_state"]:List Str).Nodup:=by decide +kernel
theorem Qf5:(["_law_some_here","_law_state"]:List Str).Nodup:=by decide +kernel
theorem Qf6:(["_law_rule"]:List Str).Nodup:=by decide +kernel
theorem Qf7:(["_law_j","_law_state","_law_letters"]:List Str).Nodup:=by decide +kernel
theorem Qf8:(["_law_one","_law_p","_law_x"]:List Str).Nodup:=by decide +kernel
def plA(z:Str×Nat):AV:=.D (Ff z)
theorem Lx(L:List (Str×Nat)):dats (L.map plA)=some (L.map Ff):=by
 rw [show(L.map plA)=(L.map Ff).map .D by rw [List.map_map];rfl];exact B8 _
def Qc1:ASp:=λxs μ R=>∃(a l:Addr) (nr:Nat),xs=[.R a,.D (.int nr)]/\nr<=10/\Pot μ a l/\∀(g:Gam) μ',GamOk g nr->Pot μ' a l->Bl a l μ μ'->R (.D (Bq g)) μ'
theorem Qf9{n:Nat}(F:Fun K "_law_game" "_law_game" Vv f fd) (cDr:VCal P w K mg base n "_law_draw" ["_law_state","_law_many"] O8) (cNa:VCal P w K mg base n "_law_names" ["_law_state","_law_many"] Yw) (m_tuple:mg "tuple" = none) (m_range:mg "range" = none) (m_len:mg "len" = none) (m_min:mg "min" = none):FnOk P w K mg base Fb (n+1) f fd ["_law_state","_law_most"] (Hm K 2 Qc1):=by
 refine F.vok Ht λcdv A outer s H E hr=>⟨_,(Ag (Au (i:=2) Ht.nd rfl (Or.inl rfl) (Bi Cv rfl m_tuple PyProof.Rows.boot_tuple (Aa (Bn (N':=["_law_name","_law_state"]) (mp:=[none,some 0]) rfl (B2 (Ak cNa hr rfl (Aa (vv 0) (Aa (A0 Br Af (Ak cDr hr rfl (Aa (vv 0) (Aa Af Ae)))) Ae)))) (λ_ _ _ _=>(Ap (i:=0) Qf4 rfl (Or.inl rfl) (Or.inr rfl))) (λ_ _ _ _=>Bk) (λ_ _ _ _=>(Cr (Aa (vv 0) (Aa (Ak cDr hr rfl (Aa (vv 1) (Aa Af Ae))) Ae)))) (Ay (N:=nGa) (pn:=(Ah Vv).names) (by decide +kernel))) Ae)))
   (Ag (Au (i:=3) Ht.nd rfl (Or.inr rfl) (Bi Cv rfl m_tuple PyProof.Rows.boot_tuple (Aa (Ak cNa hr rfl (Aa (vv 0) (Aa (A0 Br Af (Ak cDr hr rfl (Aa (vv 0) (Aa Af Ae)))) Ae))) Ae)))
   (Ag (Au (i:=4) Ht.nd rfl (Or.inl rfl) (Ca Ae))
   (Ag (El PassesOwn.never rfl (Cu rfl m_range (Aa (Ak cDr hr rfl (Aa (vv 0) (Aa (A0 Br (vv 1) Af) Ae))) Ae)) (Ap (i:=5) Ht.nd rfl (Or.inl rfl)) (Ag (Gz (Bn (N':=["_law_some_here","_law_state"]) (mp:=[none,some 0]) rfl (B2 (Cr (Aa (vv 2) (Aa (vv 3) (Aa (vv 2) Ae))))) (λ_ _ _ _=>(Ap (i:=0) Qf5 rfl (Or.inl rfl) (Or.inr rfl))) (λ_ _ _ _=>Bk) (λ_ _ _ _=>(Ak cDr hr rfl (Aa (vv 1) (Aa (Aw Cc rfl m_len PySem.boot_len (Aa (vv 0) Ae)) Ae)))) (Ay (N:=nGa) (pn:=(Ah Vv).names) (by decide +kernel))) (Ys (n:=3) rfl (Bf (Ap (i:=6) Ht.nd rfl (Or.inr rfl)) (Bf (Ap (i:=7) Ht.nd rfl (Or.inr rfl)) (Bf (Ap (i:=8) Ht.nd rfl (Or.inl rfl)) C6)))))
   (Ag (Au (i:=9) Ht.nd rfl (Or.inl rfl) (An Az (Ca (Aa Af (Aa Af (Aa Af (Aa Af (Aa Af Ae)))))) (Ak cDr hr rfl (Aa (vv 0) (Aa Af Ae)))))
   (Ag (B1 (Bg (Hs hr) (Aw Cc rfl m_len PySem.boot_len (Aa (Bn (N':=["_law_rule"]) (mp:=[none]) rfl (B2 (vv 4)) (λ_ _ _ _=>(Ap (i:=0) Qf6 rfl (Or.inl rfl) (Or.inr rfl))) (λ_ _ _ _=>(E5 (Bg (Hs hr) (Aw Cc rfl m_len PySem.boot_len (Aa (An Az (vv 0) Af) Ae)) Af (nomark _)))) (λ_ _ _ _=>(vv 0)) (Ay (N:=nGa) (pn:=(Ah Vv).names) (by decide +kernel))) Ae)) Af (nomark _)) (Ai (Au (i:=9) Ht.nd rfl (Or.inl rfl) (Aw (Qbz rfl) rfl m_min PyProof.Rows.boot_min (Aa (vv 9) (Aa Af Ae))))) Be)
   (Ag (Au (i:=10) Ht.nd rfl (Or.inl rfl) (Cr (Aa (vv 6) (Aa (vv 7) (Aa (vv 8) (Aa (Bi Cv rfl m_tuple PyProof.Rows.boot_tuple (Aa (Bn (N':=["_law_j","_law_state","_law_letters"]) (mp:=[none,some 0,some 3]) rfl (Cu rfl m_range (Aa (vv 9) Ae)) (λ_ _ _ _=>(Ap (i:=0) Qf7 rfl (Or.inl rfl) (Or.inr rfl))) (λ_ _ _ _=>Bk) (λ_ _ _ _=>(Ak cDr hr rfl (Aa (vv 1) (Aa (Aw Cc rfl m_len PySem.boot_len (Aa (vv 2) Ae)) Ae)))) (Ay (N:=nGa) (pn:=(Ah Vv).names) (by decide +kernel))) Ae)) Ae))))))
   (Ag (Py (i:=11) (N':=["_law_one","_law_p","_law_x"]) (mp:=[none,some 6,some 7]) rfl Ht.nd rfl rfl (B2 (vv 4)) (λ_ _ _ _=>(Ap (i:=0) Qf8 rfl (Or.inl rfl) (Or.inr rfl))) (λ_ _ _ _=>(E5 (Bg (Hs hr) (Ch (vv 0) C5 (Cp Af)) (Cr (Aa (vv 1) (Aa (vv 2) Ae))) (nomark _)))) (λ_ _ _ _=>(vv 0)) (Ay (N:=nGa) (pn:=(Ah Vv).names) (by decide +kernel)))
   (Ai (B1 (VW.pt (Ub (Bg (Pu hr) (vv 10) (vv 4) (by with_unfolding_all rfl)) (Ps (VW.pt (Ey (Bg (Hs hr) (An Az (An Az (vv 2) (vv 6)) Af) Af (nomark _)) (Ex (Bg Mm (Aw Cc rfl m_len PySem.boot_len (Aa (vv 11) Ae)) Af (nomark _)))))))) (Ai (Dp (Hk PySem.F.slot_list_append PySem.F.type_list_append C7 (vv 4) (Aa (vv 10) Ae)))) Be))))))))
   (Ai (A8 (Cr (Aa (vv 2) (Aa (vv 3) (Aa (Bi Cv rfl m_tuple PyProof.Rows.boot_tuple (Aa (vv 4) Ae)) Ae)))))))))),?_⟩
 rintro xs μ R _ ⟨a,l,nr,rfl,hnr,hP,q⟩
 refine Av (fun τ μ'=>∃(L:List (Str×Nat)),τ=[some (.R a),some (.D (.int nr)),some (.D (.tuple (L.map Ff))),none,none,none,none,none,none,none,none,none]/\0 < L.length/\L.length<=3/\(∀z∈L,z.2 < 2)/\Nms (L.map (·.1))/\Pot μ' a l/\Bl a l μ μ') (λZ hZ=>?_) ?_
 ·refine⟨a,l,3,rfl,hP,by decide,by decide,λv μ1 hv P1 S1=>⟨a,l,1+v,rfl,by omega,P1,λzs pz μ2 hzl hN hpz e2 P2 S2=>Ab (Aq e2) λpc hpc=>?_⟩⟩
  have hnz:=P1.ne hpz
  have hne:=P2.ne hpc
  have hzc:pz≠pc:=by rintro rfl;rw [e2]at hpc;cases hpc
  refine C0 (λj acc τ μ'=>∃(o:Option AV) (L:List (Str×Nat)),τ=[o,some (.R a)]/\acc=L.map plA/\L.map (·.1)=zs.take j/\(∀z∈L,z.2 < 2)/\μ' pc=some (.lst acc)/\μ' pz=some (.lst (zs.map Aj))/\Pot μ' a l/\Bl a l μ2 μ') ⟨none,[],rfl,rfl,rfl,(λ_ z=>nomatch z),Ac,by rw [Ad hzc];exact e2,P2.new hpc,Bl.refl.new hpc⟩ (λ_ _ _ _ ⟨_,_,_,_,_,_,_,e,_⟩=>Aq e) ?_ ?_
  ·rintro j y acc τ μ3 Z2 hy ⟨o,L,rfl,rfl,hL,hb,e3,z3,P3,S3⟩ hZ2
   rw [List.getElem?_map]at hy
   obtain⟨z,hz,rfl⟩:=Option.map_eq_some_iff.mp hy
   have hj:j < zs.length:=(List.getElem?_eq_some_iff.mp hz).1
   have hLl:L.length<=3:=by have:=congrArg List.length hL;rw [List.length_map,List.length_take]at this;omega
   refine Gs rfl ⟨a,l,2,rfl,P3,by decide,by decide,λh μ4 hh P4 S4=>?_⟩
   refine⟨S4 pc _ hne.1.symm hne.2.symm e3,A5 (by rw [List.length_map];omega),hZ2 _ _ _ ⟨_,L++[(z,h)],rfl,by rw [List.map_append];rfl,by rw [List.map_append,hL,List.take_succ,hz];rfl,λy hy=>?_,Ac,by rw [Ad hzc];exact S4 pz _ hnz.1.symm hnz.2.symm z3,P4.other hne.1 hne.2,(S3.trans S4).put hpc⟩⟩
   rcases List.mem_append.mp hy with hy | hy
   ·exact hb y hy
   ·rw [List.mem_singleton.mp hy];exact hh
  ·rintro acc τ μ3 ⟨o,L,rfl,rfl,hL,hb,e3,z3,P3,S3⟩
   rw [List.length_map,List.take_length]at hL
   have hLl:L.length=1+v:=by have:=congrArg List.length hL;rw [List.length_map]at this;omega
   exact Ab (Aq e3) (Ab (Lx L) (hZ _ _ ⟨L,rfl,by omega,by omega,hb,by rw [hL];exact hN,P3,(S1.trans S2).trans S3⟩))
 rintro τ μ1 ⟨L,rfl,hL0,hL3,hLh,hLn,P1,S1⟩
 refine Av (fun τ μ'=>∃(zs:List Str),τ=[some (.R a),some (.D (.int nr)),some (.D (.tuple (L.map Ff))),some (.D (.tuple (zs.map PyData.str))),none,none,none,none,none,none,none,none]/\0 < zs.length/\zs.length<=3/\Nms zs/\Pot μ' a l/\Bl a l μ μ') (λZ hZ=>?_) ?_
 ·exact⟨a,l,3,rfl,P1,by decide,by decide,λv μ2 hv P2 S2=>⟨a,l,1+v,rfl,by omega,P2,λzs pz μ3 hzl hN hpz e3 P3 S3=>Ab (Aq e3) (Ab (Cw zs) (hZ _ _ ⟨zs,rfl,by omega,by omega,hN,P3,(S1.trans S2).trans S3⟩))⟩⟩
 rintro τ μ2 ⟨zs,rfl,hz0,hz3,hzn,P2,S2⟩
 intro pf hpf
 have hne:=P2.ne hpf
 have hpf0:=S2.none hne.1 hne.2 hpf
 refine Av (fun τ μ'=>∃o5 o6 o7 o8 o9 o10 o11,∃B:List Rul,τ=[some (.R a),some (.D (.int nr)),some (.D (.tuple (L.map Ff))),some (.D (.tuple (zs.map PyData.str))),some (.R pf),o5,o6,o7,o8,o9,o10,o11]/\μ' pf=some (.lst (B.map C3))/\B.length<=nr/\(∀r∈B,RulOk L.length zs.length r)/\Pot μ' a l/\Bl a l μ μ') (λZ hZ=>?_) ?_
 ·refine⟨a,l,nr+1,rfl,P2.new hpf,by omega,by omega,λmany μ3 hmany P3 S3=>⟨by omega,by omega,?_⟩⟩
  have e3:=S3 pf _ hne.1.symm hne.2.symm Ac
  have hlen:(D9 0 (many:Int).toNat).length=many:=by rw [Bx];omega
  refine Gf (λi τ μ'=>∃o5 o6 o7 o8 o9 o10 o11,∃B:List Rul,τ=[some (.R a),some (.D (.int nr)),some (.D (.tuple (L.map Ff))),some (.D (.tuple (zs.map PyData.str))),some (.R pf),o5,o6,o7,o8,o9,o10,o11]/\μ' pf=some (.lst (B.map C3))/\B.length<=i/\(∀r∈B,RulOk L.length zs.length r)/\Pot μ' a l/\Bl a l μ μ') ⟨none,none,none,none,none,none,none,[],rfl,e3,Nat.le_refl _,(λ_ z=>nomatch z),P3,(S2.new hpf).trans S3⟩ (λ_ _ _ _=>trivial) ?_ ?_
  ·rintro i y τ μ4 Z2 hy ⟨o5,o6,o7,o8,o9,o10,o11,B,rfl,e4,hB,kB,P4,S4⟩ hZ2
   have hi:i < many:=by rw [<- hlen];exact(List.getElem?_eq_some_iff.mp hy).1
   refine Av (fun τ μ'=>∃p x t:Nat,τ=[some (.R a),some (.D (.int nr)),some (.D (.tuple (L.map Ff))),some (.D (.tuple (zs.map PyData.str))),some (.R pf),some y,some (.D (.int p)),some (.D (.int x)),some (.D (.int t)),o9,o10,o11]/\p < L.length/\x < zs.length/\t < L.length/\μ' pf=some (.lst (B.map C3))/\Pot μ' a l/\Bl a l μ μ') (λZ3 hZ3=>?_) ?_
   ·refine Ab (x:=[.D (.tuple (L.map Ff)),.D (.tuple (zs.map PyData.str)),.D (.tuple (L.map Ff))]) rfl λpc hpc=>?_
    have hnc:=P4.ne hpc
    have hcf:pf≠pc:=by rintro rfl;rw [e4]at hpc;cases hpc
    refine C0 (λj acc τ μ'=>∃(o:Option AV) (vs:List Nat),τ=[o,some (.R a)]/\acc=vs.map E9/\vs.length=j/\(∀k v,vs[k]?=some v->v < [L.length,zs.length,L.length].getD k 0)/\μ' pc=some (.lst acc)/\μ' pf=some (.lst (B.map C3))/\Pot μ' a l/\Bl a l μ μ') ⟨none,[],rfl,rfl,rfl,(λk v z=>by simp at z),Ac,by rw [Ad hcf];exact e4,P4.new hpc,S4.new hpc⟩ (λ_ _ _ _ _=>rfl) ?_ ?_
    ·rintro j z acc τ μ5 Z4 hz ⟨o,vs,rfl,rfl,hvl,hvs,c5,e5,P5,S5⟩ hZ4
     obtain⟨ds,rfl,hds,hd0,hd3⟩:∃ds:List PyData,z=.D (.tuple ds)/\ds.length=[L.length,zs.length,L.length].getD j 0/\0 < ds.length/\ds.length<=3:=by
      match j,hz with
      | 0,hz=>cases hz;exact⟨_,rfl,by rw [List.length_map];rfl,by rw [List.length_map];omega,by rw [List.length_map];omega⟩
      | 1,hz=>cases hz;exact⟨_,rfl,by rw [List.length_map];rfl,by rw [List.length_map];omega,by rw [List.length_map];omega⟩
      | 2,hz=>cases hz;exact⟨_,rfl,by rw [List.length_map];rfl,by rw [List.length_map];omega,by rw [List.length_map];omega⟩
      | k+3,hz=>simp at hz
     have hj:j < 3:=(List.getElem?_eq_some_iff.mp hz).1
     refine Gs rfl ⟨a,l,ds.length,rfl,P5,hd0,by omega,λv μ6 hv P6 S6=>?_⟩
     refine⟨S6 pc _ hnc.1.symm hnc.2.symm c5,A5 (by rw [List.length_map];omega),hZ4 _ _ _ ⟨_,vs++[v],rfl,by rw [List.map_append];rfl,by rw [List.length_append,hvl];rfl,λk u hu=>?_,Ac,by rw [Ad hcf];exact S6 pf _ hne.1.symm hne.2.symm e5,P6.other hnc.1 hnc.2,(S5.trans S6).put (S4.none hnc.1 hnc.2 hpc)⟩⟩
     rcases Nat.lt_or_ge k vs.length with c | c
     ·rw [List.getElem?_append_left c]at hu;exact hvs k u hu
     ·rw [List.getElem?_append_right c]at hu
      have hk:k=j:=by
       rcases Nat.eq_zero_or_pos (k - vs.length) with z0 | z0
       ·omega
       ·rw [List.getElem?_eq_none (show [v].length<=k - vs.length from z0)]at hu;cases hu
      subst hk
      rw [hvl,Nat.sub_self]at hu
      cases hu
      rw [<- hds];exact hv
    ·rintro acc τ μ5 ⟨o,vs,rfl,rfl,hvl,hvs,c5,e5,P5,S5⟩
     match vs,hvl with
     | [p,x,t],_ =>
      exact Ab c5 ⟨rfl,hZ3 _ _ ⟨p,x,t,rfl,hvs 0 p rfl,hvs 1 x rfl,hvs 2 t rfl,e5,P5,S5⟩⟩
   rintro τ μ5 ⟨p,x,t,rfl,hp,hx,ht,e5,P5,S5⟩
   refine Av (fun τ μ'=>∃sz:Nat,τ=[some (.R a),some (.D (.int nr)),some (.D (.tuple (L.map Ff))),some (.D (.tuple (zs.map PyData.str))),some (.R pf),some y,some (.D (.int p)),some (.D (.int x)),some (.D (.int t)),some (.D (.int sz)),o10,o11]/\sz<=2/\μ' pf=some (.lst (B.map C3))/\Pot μ' a l/\Bl a l μ μ') (λZ3 hZ3=>?_) ?_
   ·intro p8 hp8
    have hn8:=P5.ne hp8
    refine⟨a,l,5,rfl,P5.new hp8,by decide,by decide,λv μ6 hv P6 S6=>?_⟩
    obtain⟨wd,ew,hw⟩:=fives ⟨v,hv⟩
    have e8:=S6 p8 _ hn8.1.symm hn8.2.symm Ac
    have eB1:=S6 pf _ hne.1.symm hne.2.symm (by rw [Ad (by rintro rfl;rw [e5]at hp8;cases hp8)];exact e5)
    exact Ab e8 (Ab (Al (j:=v) (xs:=[0,0,1,1,2].map E9) (by rw [List.getElem?_map,ew];rfl)) (hZ3 _ _ ⟨wd,rfl,hw,eB1,P6,(S5.new hp8).trans S6⟩))
   rintro τ μ6 ⟨sz0,rfl,hsz0,e6,P6,S6⟩
   refine Av (fun τ μ'=>∃sz:Nat,τ=[some (.R a),some (.D (.int nr)),some (.D (.tuple (L.map Ff))),some (.D (.tuple (zs.map PyData.str))),some (.R pf),some y,some (.D (.int p)),some (.D (.int x)),some (.D (.int t)),some (.D (.int sz)),o10,o11]/\sz<=2/\μ' pf=some (.lst (B.map C3))/\Pot μ' a l/\Bl a l μ μ') (λZ3 hZ3=>?_) ?_
   ·refine Ab (Aq e6) λpc hpc=>?_
    have hnc:=P6.ne hpc
    have hcf:pf≠pc:=by rintro rfl;rw [e6]at hpc;cases hpc
    refine cmapf B C3 (λr=>decide (r.w.length=2)) C3 (fun τ=>∃o,τ=[o]) ⟨none,rfl⟩ Ac (seven (by omega)) (λacc=>Aq (by rw [Ad hcf,Ad hcf];exact e6)) ?_ ?_
    ·rintro k r τ' acc W W2 hk ⟨o,rfl⟩ h1 h2
     exact Ab (Al (j:=3) rfl) (ieq (λc1=>h1 (decide_eq_true (by rw [List.length_map]at c1;omega)) _ ⟨_,rfl⟩) (λc1=>h2 (decide_eq_false λz=>c1 (by rw [List.length_map,z];rfl)) _ ⟨_,rfl⟩))
    ·have e7:Ar (Ar μ6 pc (.lst [])) pc (.lst ((B.filter λr=>decide (r.w.length=2)).map C3)) pf=some (.lst (B.map C3)):=by rw [Ad hcf,Ad hcf];exact e6
     have P7:=(P6.new hpc (o:=.lst [])).other (o:=.lst ((B.filter λr=>decide (r.w.length=2)).map C3)) hnc.1 hnc.2
     have S7:=(S6.new hpc (o:=.lst [])).put (o:=.lst ((B.filter λr=>decide (r.w.length=2)).map C3)) (S6.none hnc.1 hnc.2 hpc)
     refine Ab Ac (ieq (λ_=>?_) (λ_=>hZ3 _ _ ⟨sz0,rfl,hsz0,e7,P7,S7⟩))
     refine hZ3 _ _ ⟨if(1:Int) < sz0 then 1 else sz0,?_,by split <;> omega,e7,P7,S7⟩
     split <;> rfl
   rintro τ μ7 ⟨sz,rfl,hsz,e7,P7,S7⟩
   refine Av (fun τ μ'=>∃r:Rul,τ=[some (.R a),some (.D (.int nr)),some (.D (.tuple (L.map Ff))),some (.D (.tuple (zs.map PyData.str))),some (.R pf),some y,some (.D (.int p)),some (.D (.int x)),some (.D (.int t)),some (.D (.int sz)),some (C3 r),o11]/\r.p=p/\RulOk L.length zs.length r/\μ' pf=some (.lst (B.map C3))/\Pot μ' a l/\Bl a l μ μ') (λZ3 hZ3=>?_) ?_
   ·refine⟨by omega,by omega,λpc hpc=>?_⟩
    have hnc:=P7.ne hpc
    have hcf:pf≠pc:=by rintro rfl;rw [e7]at hpc;cases hpc
    have hlen2:(D9 0 (sz:Int).toNat).length=sz:=by rw [Bx];omega
    refine C0 (λj acc τ μ'=>∃(o:Option AV) (ns:List Nat),τ=[o,some (.R a),some (.D (.tuple (zs.map PyData.str)))]/\acc=ns.map E9/\ns.length=j/\(∀n∈ns,n < zs.length)/\μ' pc=some (.lst acc)/\μ' pf=some (.lst (B.map C3))/\Pot μ' a l/\Bl a l μ7 μ') ⟨none,[],rfl,rfl,rfl,(λ_ z=>nomatch z),Ac,by rw [Ad hcf];exact e7,P7.new hpc,Bl.refl.new hpc⟩ (λ_ _ _ _ _=>trivial) ?_ ?_
    ·rintro j z acc τ μ8 Z4 hz ⟨o,ns,rfl,rfl,hn,hb,c8,e8,P8,S8⟩ hZ4
     have hj:j < sz:=by rw [<- hlen2];exact(List.getElem?_eq_some_iff.mp hz).1
     refine Gs rfl ⟨a,l,(zs.map PyData.str).length,rfl,P8,by rw [List.length_map];omega,by rw [List.length_map];omega,λv μ9 hv P9 S9=>?_⟩
     rw [List.length_map]at hv
     refine⟨S9 pc _ hnc.1.symm hnc.2.symm c8,A5 (by rw [List.length_map];omega),hZ4 _ _ _ ⟨_,ns++[v],rfl,by rw [List.map_append];rfl,by rw [List.length_append,hn];rfl,λn hn'=>?_,Ac,by rw [Ad hcf];exact S9 pf _ hne.1.symm hne.2.symm e8,P9.other hnc.1 hnc.2,(S8.trans S9).put hpc⟩⟩
     rcases List.mem_append.mp hn' with h | h
     ·exact hb n h
     ·rw [List.mem_singleton.mp h];exact hv
    ·rintro acc τ μ8 ⟨o,ns,rfl,rfl,hn,hb,c8,e8,P8,S8⟩
     rw [hlen2]at hn
     exact Ab (Aq c8) (Ab (Gq ns) (hZ3 _ _ ⟨⟨p,x,t,ns⟩,rfl,rfl,⟨hp,hx,ht,hb,(show ns.length<=2 by omega)⟩,e8,P8,S7.trans S8⟩))
   rintro τ μ8 ⟨r,rfl,hrp,hr,e8,P8,S8⟩
   refine Av (fun τ μ'=>∃pa ys,τ=[some (.R a),some (.D (.int nr)),some (.D (.tuple (L.map Ff))),some (.D (.tuple (zs.map PyData.str))),some (.R pf),some y,some (.D (.int p)),some (.D (.int x)),some (.D (.int t)),some (.D (.int sz)),some (C3 r),some (.R pa)]/\μ' pa=some (.lst ys)/\μ' pf=some (.lst (B.map C3))/\Pot μ' a l/\Bl a l μ μ') (λZ3 hZ3=>?_) ?_
   ·refine Ab (Aq e8) λpc hpc=>?_
    have hnc:=P8.ne hpc
    have hcf:pf≠pc:=by rintro rfl;rw [e8]at hpc;cases hpc
    refine cmapf B C3 (λr=>PyData.eqv (B0 [r.p,r.x]) (B0 [p,x])) C3 (fun τ=>∃o,τ=[o,some (.D (.int p)),some (.D (.int x))]) ⟨none,rfl⟩ Ac (seven (by omega)) (λacc=>Aq (by rw [Ad hcf,Ad hcf];exact e8)) ?_ ?_
    ·rintro j r' τ' acc W W2 hj ⟨o,rfl⟩ h1 h2
     exact⟨Kr (ns:=[r'.p,r'.x]),Kr (ns:=[p,x]),br (λc=>h1 c _ ⟨_,rfl⟩) (λc=>h2 c _ ⟨_,rfl⟩)⟩
    ·exact hZ3 _ _ ⟨pc,_,rfl,Ac,by rw [Ad hcf,Ad hcf];exact e8,(P8.new hpc).other hnc.1 hnc.2,(S8.new hpc).put (S8.none hnc.1 hnc.2 hpc)⟩
   rintro τ μ9 ⟨pa,ys,rfl,a9,e9,P9,S9⟩
   have yes:Z2 [some (.R a),some (.D (.int nr)),some (.D (.tuple (L.map Ff))),some (.D (.tuple (zs.map PyData.str))),some (.R pf),some y,some (.D (.int p)),some (.D (.int x)),some (.D (.int t)),some (.D (.int sz)),some (C3 r),some (.R pa)] (Ar μ9 pf (.lst (B.map C3++[C3 r]))):=by
    refine hZ2 _ _ ⟨_,_,_,_,_,_,_,B++[r],rfl,by rw [Ac,List.map_append];rfl,by rw [List.length_append];show B.length+1<=_;omega,λr2 hr'=>?_,P9.other hne.1 hne.2,S9.put hpf0⟩
    rcases List.mem_append.mp hr' with h | h
    ·exact kB r2 h
    ·rw [List.mem_singleton.mp h];exact hr
   have no:Z2 [some (.R a),some (.D (.int nr)),some (.D (.tuple (L.map Ff))),some (.D (.tuple (zs.map PyData.str))),some (.R pf),some y,some (.D (.int p)),some (.D (.int x)),some (.D (.int t)),some (.D (.int sz)),some (C3 r),some (.R pa)] μ9:=hZ2 _ _ ⟨_,_,_,_,_,_,_,B,rfl,e9,by omega,kB,P9,S9⟩
   have put:Mo μ9 (.R pf)/\Lg (.R pf) [C3 r] μ9 λ_ μ1=>Z2 [some (.R a),some (.D (.int nr)),some (.D (.tuple (L.map Ff))),some (.D (.tuple (zs.map PyData.str))),some (.R pf),some y,some (.D (.int p)),some (.D (.int x)),some (.D (.int t)),some (.D (.int sz)),some (C3 r),some (.R pa)] μ1:=⟨Ab e9 trivial,Ab e9 ⟨A5 (by rw [List.length_map];omega),yes⟩⟩
   refine Ab rfl (Ab (Aq e9) (Ab (Nw B) ⟨V4 r,So B,br (λ_=>?_) (λ_=>Hj rfl no)⟩))
   have hpl:(L.map Ff)[p]?=some (Ff L[p]):=by rw [List.getElem?_map,List.getElem?_eq_getElem hp];rfl
   refine Ab (Al hpl) (Ab (Al (j:=1) rfl) (ieq (λ_=>Gs rfl put) (λ_=>Ab a9 (dif (λ_=>put) (λ_=>no)))))
  ·rintro τ μ4 ⟨o5,o6,o7,o8,o9,o10,o11,B,rfl,e4,hB,kB,P4,S4⟩
   rw [hlen]at hB
   exact hZ _ _ ⟨_,_,_,_,_,_,_,B,rfl,e4,by omega,kB,P4,S4⟩
 rintro τ μ3 ⟨o5,o6,o7,o8,o9,o10,o11,B,rfl,e3,hB,kB,P3,S3⟩
 exact Ab (Aq e3) (Ab (Nw B) ⟨_,Sub.refl,q ⟨L,zs,B⟩ _ ⟨hL0,hL3,hz0,hz3,hB,hLh,hLn,hzn,kB⟩ P3 S3⟩)
end
section
variable {P:Program}{w:World}{K:PySem.W.Frag}{mg:Str->Option Value}{base:Heap}{f:Addr}{fd:FuncData}
structure Arw where
 p:Nat
 x:Nat
 ts:List Nat
 c:Option Nat
def Pa(a:Arw):List PyData:=.int a.p :: .int a.x :: B0 a.ts :: (match a.c with | none=>[] | some c=>[.int c])
def Bm(a:Arw):PyData:=.tuple (Pa a)
theorem Fg{μ:M}(A:List Arw):items μ (.D (.tuple (A.map Bm)))=some (A.map λa=>.D (Bm a)):=by
 show some ((A.map Bm).map AV.D)=_
 rw [List.map_map];rfl
theorem V5{a:Arw}:atI (Pa a) 2=some (B0 a.ts):=Al (j:=2) rfl
theorem Pb(a:Arw):(Bm a).canLay0=true/\(Bm a).depth<=3/\Cano (Bm a)=true:=by
 obtain⟨p,x,ts,c⟩:=a
 have h1:=Hx (ns:=ts)
 have h2:=Hc ts
 cases c with
 | none =>
  simp only [Bm,Pa,B0,PyData.canLay0,PyData.canLayAll0,PyData.depth,PyData.depthAll,Cano,Ao,h1.1,h2,Bool.and_true,Bool.true_and,true_and,and_true]
  have:=h1.2
  omega
 | some c =>
  simp only [Bm,Pa,B0,PyData.canLay0,PyData.canLayAll0,PyData.depth,PyData.depthAll,Cano,Ao,h1.1,h2,Bool.and_true,Bool.true_and,true_and,and_true]
  have:=h1.2
  omega
theorem Q5{a b:Arw}(h:a.c.isSome=b.c.isSome):cmpb (Bm a) (Bm b)=true:=by
 obtain⟨p,x,ts,c⟩:=a
 obtain⟨p',x',ts',c'⟩:=b
 cases c <;> cases c' <;> simp at h <;> simp only [Bm,Pa,B0,cmpb,cmpbs,Nq,ite_self]
theorem Nx(B:List Arw):dats (B.map λa=>.D (Bm a))=some (B.map Bm):=by
 rw [show(B.map λa=>AV.D (Bm a))=(B.map Bm).map .D by rw [List.map_map];rfl];exact B8 _
theorem Ny(a:Arw):B3 (Bm a):=⟨(Pb a).1,Nat.le_trans (Pb a).2.1 (by decide)⟩
end
section
variable {P:Program}{w:World}{K:PySem.W.Frag}{mg:Str->Option Value}{base:Heap}{f:Addr}{fd:FuncData}
theorem Qdu{α:Type}(g:α->PyData)(xs:List α)(n:Nat):Fr (xs.map g) none (some (n:Int))=(xs.take n).map g:=by
 unfold Fr
 rw [HT.sIx_none,HT.sIx_nat,List.drop_zero,Nat.sub_zero,<- List.map_take,List.length_map]
 by_cases h:n<=xs.length
 ·rw [Nat.min_eq_left h]
 ·rw [Nat.min_eq_right (by omega),List.take_length,List.take_of_length_le (by omega)]
theorem Ku{α:Type}(g:α->PyData)(xs:List α)(n:Nat):Fr (xs.map g) (some (n:Int)) none=(xs.drop n).map g:=by
 unfold Fr
 rw [HT.sIx_none,HT.sIx_nat,<- List.map_drop,List.length_map]
 by_cases h:n<=xs.length
 ·rw [Nat.min_eq_left h,List.take_of_length_le (by rw [List.length_map,List.length_drop];exact Nat.le_refl _)]
 ·rw [Nat.min_eq_right (by omega),List.drop_length,List.drop_of_length_le (by omega)];simp
theorem Kv{α:Type}(g:α->AV)(xs:List α)(n:Nat):D8 (xs.map g) none (some (n:Int))=(xs.take n).map g:=by
 unfold D8
 rw [HT.sIx_none,HT.sIx_nat,List.drop_zero,Nat.sub_zero,<- List.map_take,List.length_map]
 by_cases h:n<=xs.length
 ·rw [Nat.min_eq_left h]
 ·rw [Nat.min_eq_right (by omega),List.take_length,List.take_of_length_le (by omega)]
theorem Kw{α:Type}(g:α->AV)(xs:List α)(n:Nat):D8 (xs.map g) (some (n:Int)) none=(xs.drop n).map g:=by
 unfold D8
 rw [HT.sIx_none,HT.sIx_nat,<- List.map_drop,List.length_map]
 by_cases h:n<=xs.length
 ·rw [Nat.min_eq_left h,List.take_of_length_le (by rw [List.length_map,List.length_drop];exact Nat.le_refl _)]
 ·rw [Nat.min_eq_right (by omega),List.drop_length,List.drop_of_length_le (by omega)];simp
theorem Ly:∀(n k:Nat),D9 (k:Int) n=(List.range' k n).map E9
 | 0,k=>rfl
 | n+1,k=>by
  rw [List.range'_succ,List.map_cons,<- Ly n (k+1)]
  rfl
theorem V6(n:Nat):D9 0 n=(List.range n).map E9:=by
 rw [List.range_eq_range'];exact Ly n 0
abbrev nSo:List Str:=["_law_state","_law_things"]
theorem Qjr:FnScope nSo ["_law_state","_law_things"] (Ah sSo):=⟨rfl,rfl,rfl,by decide +kernel,rfl,by decide +kernel,by decide +kernel⟩
theorem Qga:(["_law_thing","_law_state"]:List Str).Nodup:=by decide +kernel
def Qgb:ASp:=λxs μ R=>∃(a l ps:Addr) (ss:List Nat),xs=[.R a,.R ps]/\ss.length<=20/\ps≠a/\ps≠l/\μ ps=some (.lst (ss.map E9))/\Pot μ a l/\∀(ns:List Nat) μ',ns.Sublist ss->Pot μ' a l->Bl a l μ μ'->R (.D (B0 ns)) μ'
theorem Qgc{n:Nat}(F:Fun K "_law_some" "_law_some" sSo f fd) (cDr:VCal P w K mg base n "_law_draw" ["_law_state","_law_many"] O8) (m_tuple:mg "tuple" = none):FnOk P w K mg base Fb (n+1) f fd ["_law_state","_law_things"] (Hm K 2 Qgb):=by
 refine F.vok Qjr λcdv A outer s H E hr=>⟨_,(Ai (A8 (Bi Cv rfl m_tuple PyProof.Rows.boot_tuple (Aa (Bn (N':=["_law_thing","_law_state"]) (mp:=[none,some 0]) rfl (B2 (vv 1)) (λ_ _ _ _=>(Ap (i:=0) Qga rfl (Or.inl rfl) (Or.inr rfl))) (λ_ _ _ _=>(E5 (Bg (Hs hr) (Ak cDr hr rfl (Aa (vv 1) (Aa Af Ae))) Af (nomark _)))) (λ_ _ _ _=>(vv 0)) (Ay (N:=nSo) (pn:=(Ah sSo).names) (by decide +kernel))) Ae)))),?_⟩
 rintro xs μ R _ ⟨a,l,ps,ss,rfl,hs,na,nl,eS,hP,q⟩
 refine Ab (Aq eS) λpc hpc=>?_
 have hne:=hP.ne hpc
 have hps:ps≠pc:=by rintro rfl;rw [eS]at hpc;cases hpc
 refine C0 (λj acc τ μ'=>∃(o:Option AV) (ns:List Nat),τ=[o,some (.R a)]/\acc=ns.map E9/\ns.Sublist (ss.take j)/\μ' pc=some (.lst acc)/\μ' ps=some (.lst (ss.map E9))/\Pot μ' a l/\Bl a l μ μ') ⟨none,[],rfl,rfl,by simp,Ac,by rw [Ad hps];exact eS,hP.new hpc,Bl.refl.new hpc⟩ (λ_ _ _ _ ⟨_,_,_,_,_,_,e,_⟩=>Aq e) ?_ ?_
 ·rintro j y acc τ μ2 Z2 hy ⟨o,ns,rfl,rfl,hsub,e2,s2,P2,S2⟩ hZ2
  rw [List.getElem?_map]at hy
  obtain⟨x,hx,rfl⟩:=Option.map_eq_some_iff.mp hy
  have hj:j < ss.length:=(List.getElem?_eq_some_iff.mp hx).1
  have htk:ss.take (j+1)=ss.take j++[x]:=by rw [List.take_succ,hx];rfl
  refine⟨a,l,2,rfl,P2,by decide,by decide,λv μ3 hv P3 S3=>?_⟩
  have e3:=S3 pc _ hne.1.symm hne.2.symm e2
  have s3:=S3 ps _ na nl s2
  have hl:=hsub.length_le
  rw [List.length_take]at hl
  refine ieq (λc=>⟨e3,A5 (by rw [List.length_map];omega),hZ2 _ _ _ ⟨_,ns++[x],rfl,by rw [List.map_append];rfl,by rw [htk];exact hsub.append (List.Sublist.refl _),Ac,by rw [Ad hps];exact s3,P3.other hne.1 hne.2,(S2.trans S3).put hpc⟩⟩) (λc=>hZ2 _ _ _ ⟨_,ns,rfl,rfl,by rw [htk];exact hsub.trans (List.sublist_append_left _ _),e3,s3,P3,S2.trans S3⟩)
 ·rintro acc τ μ2 ⟨o,ns,rfl,rfl,hsub,e2,s2,P2,S2⟩
  rw [List.length_map,List.take_length]at hsub
  exact Ab (Aq e2) (Ab (Gq ns) ⟨_,Sub.refl,q ns _ hsub P2 S2⟩)
structure Say where
 own:Nat
 as:List Arw
 es:List Nat
def Eg(s:Say):PyData:=.tuple [.int s.own,.tuple (s.as.map Bm),B0 s.es]
structure AwOk(st le lo:Nat)(c:Bool)(a:Arw):Prop where
 c:a.c.isSome=c
 p:a.p < st
 x:a.x < le
 t:∀t∈a.ts,lo<=t/\t < st
 tn:a.ts.length<=st
theorem Yx{B:List Arw}{k:Bool}(hl:B.length<=20)(hc:∀a∈B,a.c.isSome=k):TOk (B.map Bm):=by
 refine⟨by rw [List.length_map];omega,λd hd=>?_,λd hd=>?_,λd hd e he=>?_⟩
 ·obtain⟨a,ha,rfl⟩:=List.mem_map.mp hd
  obtain⟨h1,h2,h3⟩:=Pb a
  exact⟨h3,h1,by omega⟩
 ·obtain⟨a,ha,rfl⟩:=List.mem_map.mp hd
  exact⟨a.p,_,rfl⟩
 ·obtain⟨a,ha,rfl⟩:=List.mem_map.mp hd
  obtain⟨b,hb,rfl⟩:=List.mem_map.mp he
  exact Q5 ((hc a ha).trans (hc b hb).symm)
theorem Nz{α β:Type}{f:α->β}{B:List α}:∀{es:List β},(∀e∈es,e∈B.map f)->∃C:List α,es=C.map f/\∀c∈C,c∈B
 | [],_=>⟨[],rfl,λ_ z=>nomatch z⟩
 | e :: es,h=>by
  obtain⟨b,hb,rfl⟩:=List.mem_map.mp (h e (.head _))
  obtain⟨C,rfl,hC⟩:=Nz λe' he'=>h e' (.tail _ he')
  exact⟨b :: C,rfl,λc hc=>by
   rcases List.mem_cons.mp hc with rfl | hc
   ·exact hb
   ·exact hC c hc⟩
theorem Yy{B:List Arw}{k:Bool}{es:List PyData}(hl:B.length<=20)(hn:es.Nodup)(hm:∀d,d∈es↔d∈B.map Bm):∃C:List Arw,es=C.map Bm/\(∀c∈C,c∈B)/\(∀d,d∈C.map Bm↔d∈B.map Bm)/\C.length<=B.length:=by
 obtain⟨C,rfl,hC⟩:=Nz (f:=Bm) (B:=B) λe he=>(hm e).mp he
 have:=Ef hn λd hd=>(hm d).mp hd
 rw [List.length_map,List.length_map]at this
 exact⟨C,rfl,hC,hm,this⟩
structure SayOk(g:Gam)(s:Say)(most:Nat):Prop where
 o:s.own<=2
 n:s.as.length<=most
 a:∀a∈s.as,AwOk (g.pl.length+s.own) g.le.length g.pl.length false a
 e:s.es.Sublist (List.range (g.pl.length+s.own))
 d:(s.as.map Bm).Nodup
 su:∀a∈s.as,a.ts.Sublist (List.range' g.pl.length s.own)
 so:(s.as.map Bm).Pairwise λa b=>Fj a b=true
abbrev nSa:List Str:=["_law_state","_law_game_here","_law_most","_law_many","_law_places","_law_arrows","_law_k","_law_stand_here","_law_letter"]
theorem Pc:FnScope nSa ["_law_state","_law_game_here","_law_most"] (Ah sSa):=⟨rfl,rfl,rfl,by decide +kernel,rfl,by decide +kernel,by decide +kernel⟩
def Qc2:ASp:=λxs μ R=>∃(a l:Addr) (g:Gam) (most:Nat),xs=[.R a,.D (Bq g),.D (.int most)]/\0 < g.pl.length/\g.pl.length<=3/\0 < g.le.length/\g.le.length<=3/\most<=20/\Pot μ a l/\∀(s:Say) μ',SayOk g s most->Pot μ' a l->Bl a l μ μ'->R (.D (Eg s)) μ'
theorem Qgd{n:Nat}(F:Fun K "_law_saying" "_law_saying" sSa f fd) (cDr:VCal P w K mg base n "_law_draw" ["_law_state","_law_many"] O8) (cSo:VCal P w K mg base n "_law_some" ["_law_state","_law_things"] Qgb) (m_len:mg "len" = none) (m_range:mg "range" = none) (m_list:mg "list" = none) (m_tuple:mg "tuple" = none) (m_sorted:mg "sorted" = none) (m_set:mg "set" = none):FnOk P w K mg base Fb (n+1) f fd ["_law_state","_law_game_here","_law_most"] (Hm K 3 Qc2):=by
 refine F.vok Pc λcdv A outer s H E hr=>⟨_,(Ag (Au (i:=3) Pc.nd rfl (Or.inl rfl) (Ak cDr hr rfl (Aa (vv 0) (Aa Af Ae))))
   (Ag (Au (i:=4) Pc.nd rfl (Or.inl rfl) (Aw Cc rfl m_len PySem.boot_len (Aa (An Az (vv 1) Af) Ae)))
   (Ag (Au (i:=5) Pc.nd rfl (Or.inl rfl) (Ca Ae))
   (Ag (El PassesOwn.never rfl (Cu rfl m_range (Aa (Ak cDr hr rfl (Aa (vv 0) (Aa (A0 Br (vv 2) Af) Ae))) Ae)) (Ap (i:=6) Pc.nd rfl (Or.inl rfl)) (Ag (Au (i:=7) Pc.nd rfl (Or.inl rfl) (Ak cDr hr rfl (Aa (vv 0) (Aa (A0 Br (vv 4) (vv 3)) Ae))))
   (Ag (Au (i:=8) Pc.nd rfl (Or.inl rfl) (Ak cDr hr rfl (Aa (vv 0) (Aa (Aw Cc rfl m_len PySem.boot_len (Aa (An Az (vv 1) Af) Ae)) Ae))))
   (Ai (Dp (Hk PySem.F.slot_list_append PySem.F.type_list_append C7 (vv 5) (Aa (Cr (Aa (vv 7) (Aa (vv 8) (Aa (Ak cSo hr rfl (Aa (vv 0) (Aa (Va rfl rfl m_list rfl m_range (vv 4) (A0 Br (vv 4) (vv 3))) Ae))) Ae)))) Ae)))))))
   (Ai (A8 (Cr (Aa (vv 3) (Aa (Bi Cv rfl m_tuple PyProof.Rows.boot_tuple (Aa (Yq hr rfl m_sorted rfl m_set (vv 5)) Ae)) (Aa (Ak cSo hr rfl (Aa (vv 0) (Aa (U9 rfl rfl m_list rfl m_range (A0 Br (vv 4) (vv 3))) Ae))) Ae)))))))))),?_⟩
 rintro xs μ R _ ⟨a,l,g,most,rfl,hp0,hp3,hl0,hl3,hm,hP,q⟩
 refine Av (fun τ μ'=>∃ow:Nat,τ=[some (.R a),some (.D (Bq g)),some (.D (.int most)),some (.D (.int ow)),none,none,none,none,none]/\ow<=2/\Pot μ' a l/\Bl a l μ μ') (λZ hZ=>⟨a,l,3,rfl,hP,by decide,by decide,λv μ1 hv P1 S1=>hZ _ _ ⟨v,rfl,by omega,P1,S1⟩⟩) ?_
 rintro τ μ1 ⟨ow,rfl,how,P1,S1⟩
 refine Av (fun τ μ'=>τ=[some (.R a),some (.D (Bq g)),some (.D (.int most)),some (.D (.int ow)),some (.D (.int g.pl.length)),none,none,none,none]/\μ1=μ') (λZ hZ=>Ab (Al (j:=0) rfl) (by rw [<- List.length_map (f:=Ff)]at hZ;exact hZ _ _ ⟨rfl,rfl⟩)) ?_
 rintro τ _ ⟨rfl,rfl⟩
 intro pf hpf
 have hne:=P1.ne hpf
 have hpf0:μ pf=none:=S1.none hne.1 hne.2 hpf
 refine Av (fun τ μ'=>∃o6 o7 o8,∃B:List Arw,τ=[some (.R a),some (.D (Bq g)),some (.D (.int most)),some (.D (.int ow)),some (.D (.int g.pl.length)),some (.R pf),o6,o7,o8]/\μ' pf=some (.lst (B.map λb=>.D (Bm b)))/\B.length<=most/\(∀b∈B,AwOk (g.pl.length+ow) g.le.length g.pl.length false b/\b.ts.Sublist (List.range' g.pl.length ow))/\Pot μ' a l/\Bl a l μ μ') (λZ hZ=>?_) ?_
 ·refine⟨a,l,most+1,rfl,P1.new hpf,by omega,by omega,λc μ2 hc P2 S2=>⟨by omega,by omega,?_⟩⟩
  have hlen:(D9 0 (c:Int).toNat).length=c:=by rw [Bx];omega
  refine Gf (λi τ μ'=>∃o6 o7 o8,∃B:List Arw,τ=[some (.R a),some (.D (Bq g)),some (.D (.int most)),some (.D (.int ow)),some (.D (.int g.pl.length)),some (.R pf),o6,o7,o8]/\μ' pf=some (.lst (B.map λb=>.D (Bm b)))/\B.length<=i/\(∀b∈B,AwOk (g.pl.length+ow) g.le.length g.pl.length false b/\b.ts.Sublist (List.range' g.pl.length ow))/\Pot μ' a l/\Bl a l μ μ') ⟨none,none,none,[],rfl,S2 pf _ hne.1.symm hne.2.symm Ac,Nat.le_refl _,(λ_ z=>nomatch z),P2,(S1.new hpf).trans S2⟩ (λ_ _ _ _=>trivial) ?_ ?_
  ·rintro i y τ μ3 Z2 hy ⟨o6,o7,o8,B,rfl,e3,hB,kB,P3,S3⟩ hZ2
   have hi:i < c:=by rw [<- hlen];exact(List.getElem?_eq_some_iff.mp hy).1
   refine Av (fun τ μ'=>∃p:Nat,τ=[some (.R a),some (.D (Bq g)),some (.D (.int most)),some (.D (.int ow)),some (.D (.int g.pl.length)),some (.R pf),some y,some (.D (.int p)),o8]/\p < g.pl.length+ow/\μ' pf=some (.lst (B.map λb=>.D (Bm b)))/\Pot μ' a l/\Bl a l μ μ') (λZ3 hZ3=>⟨a,l,g.pl.length+ow,rfl,P3,by omega,by omega,λp μ4 hp P4 S4=>hZ3 _ _ ⟨p,rfl,hp,S4 pf _ hne.1.symm hne.2.symm e3,P4,S3.trans S4⟩⟩) ?_
   rintro τ μ4 ⟨p,rfl,hp,e4,P4,S4⟩
   refine Av (fun τ μ'=>∃x:Nat,τ=[some (.R a),some (.D (Bq g)),some (.D (.int most)),some (.D (.int ow)),some (.D (.int g.pl.length)),some (.R pf),some y,some (.D (.int p)),some (.D (.int x))]/\x < g.le.length/\μ' pf=some (.lst (B.map λb=>.D (Bm b)))/\Pot μ' a l/\Bl a l μ μ') (λZ3 hZ3=>Ab (Al (j:=1) rfl) ⟨a,l,g.le.length,by rw [List.length_map],P4,hl0,by omega,λx μ5 hx P5 S5=>hZ3 _ _ ⟨x,rfl,hx,S5 pf _ hne.1.symm hne.2.symm e4,P5,S4.trans S5⟩⟩) ?_
   rintro τ μ5 ⟨x,rfl,hx,e5,P5,S5⟩
   refine⟨Ab e5 trivial,⟨by omega,by omega,by omega⟩,λps hps=>?_⟩
   have hns:=P5.ne hps
   have hsf:pf≠ps:=by rintro rfl;rw [e5]at hps;cases hps
   refine⟨a,l,ps,List.range' g.pl.length ow,rfl,by rw [List.length_range'];omega,hns.1.symm,hns.2.symm,by rw [Ac,show((g.pl.length:Int)+(ow:Int) - (g.pl.length:Int)).toNat=ow by omega,Ly],P5.new hps,λts μ6 hsub P6 S6=>?_⟩
   have e6:=S6 pf _ hne.1.symm hne.2.symm (show Ar μ5 ps _ pf=_ by rw [Ad hsf];exact e5)
   refine Ab e6 ⟨A5 (by rw [List.length_map];omega),hZ2 _ _ ⟨_,_,_,B++[⟨p,x,ts,none⟩],rfl,by rw [Ac,List.map_append];rfl,by rw [List.length_append];show B.length+1<=_;omega,λb hb=>?_,P6.other hne.1 hne.2,((S5.new hps).trans S6).put hpf0⟩⟩
   rcases List.mem_append.mp hb with hb | hb
   ·exact kB b hb
   ·rw [List.mem_singleton.mp hb]
    have hl:=hsub.length_le
    rw [List.length_range']at hl
    refine⟨⟨rfl,hp,hx,λt ht=>?_,(show ts.length<=_ by omega)⟩,hsub⟩
    have:=List.mem_range'_1.mp (hsub.subset ht)
    omega
  ·rintro τ μ3 ⟨o6,o7,o8,B,rfl,e3,hB,kB,P3,S3⟩
   rw [hlen]at hB
   exact hZ _ _ ⟨_,_,_,B,rfl,e3,by omega,kB,P3,S3⟩
 rintro τ μ2 ⟨o6,o7,o8,B,rfl,e2,hB,kB,P2,S2⟩
 refine Ab (Aq e2) (Ab (Nx B) ⟨Yx (by omega) λb hb=>(kB b hb).1.c,λes p hnd hmem hup hp=>?_⟩)
 obtain⟨C,rfl,hC,hCm,hCl⟩:=Yy (k:=false) (by omega) hnd hmem
 refine Ab (Aq Ac) (Ab (B8 _) ⟨⟨by omega,by omega⟩,λps hps=>?_⟩)
 have hnp:=P2.ne hp
 have P3:=P2.new hp (o:=.lst ((C.map Bm).map .D))
 have hns:=P3.ne hps
 refine⟨a,l,ps,List.range (g.pl.length+ow),rfl,by rw [List.length_range];omega,hns.1.symm,hns.2.symm,by rw [Ac,show((g.pl.length:Int)+(ow:Int)).toNat=g.pl.length+ow by omega,V6],P3.new hps,λns μ3 hsub P4 S4=>⟨_,Sub.refl,q ⟨ow,C,ns⟩ _ ⟨how,(show C.length<=most by omega),λb hb=>(kB b (hC b hb)).1,hsub,hnd,λb hb=>(kB b (hC b hb)).2,hup⟩ P4 (((S2.new hp).new hps).trans S4)⟩⟩
end
section
variable {P:Program}{w:World}{K:PySem.W.Frag}{mg:Str->Option Value}{base:Heap}{f:Addr}{fd:FuncData}
theorem Qjs{a b c:PyData}{i j k:Nat}{τ:ASt}{μ:M}{R:ASt->M->Prop}(h:R (((τ.set i (some (.D a))).set j (some (.D b))).set k (some (.D c))) μ):Fn (Dq i) (Fn (Dq j) (Fn (Dq k) Ui)) (List.map AV.D [a,b,c]) τ μ R:=h
def V7:Nat->PyData->Prop
 | _,.int _=>True
 | _,.str _=>True
 | d+1,.tuple ds=>ds.length<=900/\∀x∈ds,V7 d x
 | _,_=>False
theorem Qjt:kit "tuple" "tuple" = true:=by decide
theorem Qju:(!kit "tuple" "tuple")=false:=by decide
theorem Qjv:kit "str" "tuple" = false:=by decide
theorem Qge:kit "str" "str" = true:=by decide
theorem Qjw:kit "int" "tuple" = false:=by decide
theorem Qjx:kit "int" "str" = false:=by decide
theorem Qjy:kit "int" "int" = true:=by decide
theorem Qgf:(!kit "int" "bool")=true:=by decide
abbrev nAl:List Str:=["_law_found","_law_due"]
theorem Qgg:FnScope nAl ["_law_found","_law_due"] (Ah Z6):=⟨rfl,rfl,rfl,by decide +kernel,rfl,by decide +kernel,by decide +kernel⟩
theorem Z7:(["_law_one","_law_other"]:List Str).Nodup:=by decide +kernel
def V8(d:Nat):ASp:=λxs μ R=>∃a,xs=[.D a,.D a]/\V7 d a/\∀ μ',Sub μ μ'->R (.D (.bool true)) μ'
theorem Q6{n:Nat}(F:Fun K "_law_alike" "_law_alike" Z6 f fd) (d:Nat) (sp':ASp) (hsp:∀d',d=d'+1->sp'=V8 d') (cAl:VCal P w K mg base n "_law_alike" ["_law_found","_law_due"] sp') (m_isinstance:mg "isinstance" = none) (m_tuple:mg "tuple" = none) (m_len:mg "len" = none) (m_all:mg "all" = none) (m_zip:mg "zip" = none) (m_str:mg "str" = none) (m_bool:mg "bool" = none) (m_int:mg "int" = none) :
  FnOk P w K mg base Fb (n+1) f fd ["_law_found","_law_due"] (Hm K 2 (V8 d)):=by
 refine F.vok Qgg λcdv A outer s H E hr=>⟨_,(Ag (B1 (Dj (Fv rfl m_isinstance rfl m_tuple PyProof.Rows.boot_tuple Iw (vv 1))) (Ag (B1 (VW.pt (Ey (Ej (Dj (Fv rfl m_isinstance rfl m_tuple PyProof.Rows.boot_tuple Iw (vv 0)))) (Ex (Bg (Qiy hr) (Aw Cc rfl m_len PySem.boot_len (Aa (vv 0) Ae)) (Aw Cc rfl m_len PySem.boot_len (Aa (vv 1) Ae)) (nomark _))))) (Ai (A8 Mh)) Be)
   (Ai (A8 (Aw (Mn rfl) rfl m_all PyProof.Rows.boot_all (Aa (Bn (N':=["_law_one","_law_other"]) (mp:=[none,none]) rfl (Vu rfl m_zip (vv 0) (vv 1)) (λ_ _ _ _=>(Ek (n:=2) rfl (Bf (Ap (i:=0) Z7 rfl (Or.inl rfl) (Or.inr rfl)) (Bf (Ap (i:=1) Z7 rfl (Or.inl rfl) (Or.inr rfl)) C6)))) (λ_ _ _ _=>Bk) (λ_ _ _ _=>(Ak cAl hr rfl (Aa (vv 0) (Aa (vv 1) Ae)))) (Ay (N:=nAl) (pn:=(Ah Z6).names) (by decide +kernel))) Ae))))) Be)
   (Ag (B1 (Dj (Fv rfl m_isinstance rfl m_str PyProof.Rows.boot_str Ms (vv 1))) (Ai (A8 (Fu (Fv rfl m_isinstance rfl m_str PyProof.Rows.boot_str Ms (vv 0)) (Ft (Gw (Zt hr) (vv 0) (vv 1) (nomark _)))))) Be)
   (Ai (A8 (Fu (Fv rfl m_isinstance rfl m_int PyProof.Rows.boot_int Us (vv 0)) (Fu (Uc (Fv rfl m_isinstance rfl m_bool PyProof.Rows.boot_bool Ke (vv 0))) (Ft (Gw (Zt hr) (vv 0) (vv 1) (nomark _))))))))),?_⟩
 rintro xs μ R _ ⟨a,rfl,ha,q⟩
 cases a with
 | int i =>
  refine Ab (x := "int") rfl (Hj Qjw (Ab (x := "int") rfl (Hj Qjx (Ab (x := "int") rfl (Gs Qjy (Ab (x := "int") rfl (Gs Qgf ⟨μ,Sub.refl,?_⟩)))))))
  rw [decide_eq_true rfl]
  exact q _ Sub.refl
 | str z =>
  refine Ab (x := "str") rfl (Hj Qjv (Ab (x := "str") rfl (Gs Qge (Ab (x := "str") rfl (Gs Qge ⟨μ,Sub.refl,?_⟩)))))
  rw [decide_eq_true rfl]
  exact q _ Sub.refl
 | tuple ds =>
  cases d with
  | zero=>exact ha.elim
  | succ d =>
   obtain rfl:=hsp d rfl
   have hl:ds.length<=900:=ha.1
   have hm:∀x∈ds,V7 d x:=ha.2
   refine Ab (x := "tuple") rfl (Gs Qjt (Ab (x := "tuple") rfl (Hj Qju ⟨C8 _,C8 _,Hj (by rw [Hv,decide_eq_true rfl];rfl) ?_⟩)))
   refine Ab (x:=ds.map .D) rfl (Ab (x:=ds.map .D) rfl (Ab (B8 ds) (Ab (B8 ds) λp hp=>?_)))
   have hz:(O7 ds ds).length=ds.length:=by rw [Ds];omega
   refine C0 (λi acc τ μ'=>∃o1 o2,τ=[o1,o2]/\acc=(ds.take i).map (λ_=>.D (.bool true))/\μ' p=some (.lst acc)/\Sub μ μ') ⟨none,none,rfl,rfl,Ac,Sub.refl.new hp⟩ (λ_ _ _ _ _=>⟨rfl,rfl⟩) ?_ ?_
   ·rintro i x acc τ μ1 W hx ⟨o1,o2,rfl,rfl,e1,S1⟩ hW
    obtain⟨d1,d2,h1,h2,rfl⟩:=Jm hx
    rw [h1]at h2
    cases h2
    have hi:i < ds.length:=(List.getElem?_eq_some_iff.mp h1).1
    refine⟨rfl,Gs rfl ⟨d1,rfl,hm d1 (List.mem_of_getElem? h1),fun μ2 S2=>⟨S2 _ _ e1,A5 (by rw [List.length_map,List.length_take];omega),hW _ _ _ ⟨_,_,rfl,?_,Ac,?_⟩⟩⟩⟩
    ·rw [List.take_succ,h1,List.map_append];rfl
    ·exact Sub.new (λb m h=>S2 b m (S1 b m h)) hp
   ·rintro acc τ μ1 ⟨o1,o2,rfl,rfl,e1,S1⟩
    rw [hz,List.take_length]at e1
    refine Mr (g:=λ_=>true) e1 ⟨_,Sub.refl,?_⟩
    rw [show(ds.all λ_=>true)=true by simp]
    exact q _ S1
 | _=>cases d <;> exact ha.elim
theorem Qgh(F:Fun K "_law_alike" "_law_alike" Z6 f fd) (hbd:Binds K fd ["_law_found","_law_due"] []) (hkp:PySem.W.keepIn K (.ref f)=true) (hmg:mg "_law_alike" = some (.ref f)) (m_isinstance:mg "isinstance" = none) (m_tuple:mg "tuple" = none) (m_len:mg "len" = none) (m_all:mg "all" = none) (m_zip:mg "zip" = none) (m_str:mg "str" = none) (m_bool:mg "bool" = none) (m_int:mg "int" = none) :
  ∀d:Nat,FnOk P w K mg base Fb (d+1+1) f fd ["_law_found","_law_due"] (Hm K 2 (V8 d)):=by
 intro d
 induction d with
 | zero =>
  refine Q6 F 0 (λ_ _ _=>False) (by intro d' h;cases h) ⟨f,fd,F.ok Qgg (λvs H Q E h=>?_) (λcdv A outer s H vs Q E hr h=>?_),hbd,hkp,hmg⟩ m_isinstance m_tuple m_len m_all m_zip m_str m_bool m_int
  ·obtain⟨_,_,_,_,_,_,h,_⟩:=h
   exact h.elim
  ·obtain⟨_,_,_,_,_,_,h,_⟩:=h
   exact h.elim
 | succ d ih=>exact Q6 F (d+1) (V8 d) (by rintro d' h;cases h;rfl) ⟨f,fd,ih,hbd,hkp,hmg⟩ m_isinstance m_tuple m_len m_all m_zip m_str m_bool m_int
theorem Q7{d:Nat}{ns:List Nat}(hl:ns.length<=900):V7 (d+1) (B0 ns):=by
 refine⟨by rw [List.length_map];exact hl,λx hx=>?_⟩
 obtain⟨n,_,rfl⟩:=List.mem_map.mp hx
 cases d <;> exact trivial
theorem Qc3{s:Say}(h1:s.as.length<=900)(h2:∀a∈s.as,a.ts.length<=900/\a.c=none)(h3:s.es.length<=900):V7 4 (Eg s):=by
 refine⟨(by decide:3<=900),λx hx=>?_⟩
 simp only [List.mem_cons,List.not_mem_nil,or_false]at hx
 rcases hx with rfl | rfl | rfl
 ·exact trivial
 ·refine⟨by rw [List.length_map];exact h1,λy hy=>?_⟩
  obtain⟨a,ha,rfl⟩:=List.mem_map.mp hy
  obtain⟨p,x,ts,c⟩:=a
  have:=(h2 _ ha).2
  dsimp only at this
  subst this
  refine⟨(by decide:3<=900),λz hz=>?_⟩
  simp only [Pa,List.mem_cons,List.not_mem_nil,or_false]at hz
  rcases hz with rfl | rfl | rfl
  ·exact trivial
  ·exact trivial
  ·exact Q7 (h2 _ ha).1
 ·exact Q7 h3
def toS(i:Int):Str:=Str.ofString (toString i)
theorem Yz:∀i:Fin 12,(toS (i.val:Int)).length<=6:=by decide +kernel
theorem Pd{n:Nat}(h:n < 12):(toS (n:Int)).length<=6:=Yz ⟨n,h⟩
def Db(g:Gam)(k:Nat):Str:=match g.pl[k]? with
 | some p=>p.1
 | none=>toS (((k+1 - g.pl.length:Nat)):Int)
def Jq(g:Gam)(m:Nat):List Str:=g.pl.map (·.1)++(List.range m).map λk=>toS ((k+1:Nat):Int)
theorem Lz{g:Gam}{m k:Nat}(h:k < g.pl.length+m):(Jq g m)[k]?=some (Db g k):=by
 unfold Jq Db
 by_cases h1:k < g.pl.length
 ·rw [List.getElem?_append_left (by rw [List.length_map];exact h1),List.getElem?_map,List.getElem?_eq_getElem h1];rfl
 ·rw [List.getElem?_append_right (by rw [List.length_map];omega),List.length_map,List.getElem?_map,List.getElem?_range (by omega),List.getElem?_eq_none (by omega)]
  show some (toS ((k - g.pl.length+1:Nat):Int))=some (toS ((k+1 - g.pl.length:Nat):Int))
  rw [show k - g.pl.length+1=k+1 - g.pl.length by omega]
theorem lg{i:Int}(h:i.natAbs<=100):i.natAbs.log2 < 1920:=Nat.lt_of_le_of_lt (Nat.log2_le_self _) (by omega)
structure ShIn(g:Gam)(s:Say):Prop where
 pl:g.pl.length<=3
 pn:∀p∈g.pl,p.1.length<=6
 ln:∀z∈g.le,z.length<=6
 o:s.own<=8
 n:s.as.length<=300
 p:∀a∈s.as,a.p < g.pl.length+s.own
 x:∀a∈s.as,a.x < g.le.length
 t:∀a∈s.as,∀t∈a.ts,t < g.pl.length+s.own
 tn:∀a∈s.as,a.ts.length<=10
 c:∀a∈s.as,a.c=none
 e:∀e∈s.es,e < g.pl.length+s.own
 en:s.es.length<=30
theorem ShIn.st{g:Gam}{s:Say}(h:ShIn g s){k:Nat}(hk:k < g.pl.length+s.own):(Db g k).length<=6:=by
 unfold Db
 by_cases h1:k < g.pl.length
 ·rw [List.getElem?_eq_getElem h1];exact h.pn _ (List.getElem_mem h1)
 ·rw [List.getElem?_eq_none (by omega)]
  have:=h.o
  exact Pd (by omega)
theorem Gr(f:Nat->Str)(ns:List Nat):(ns.map λn=>Aj (f n))=(ns.map f).map Aj:=by rw [List.map_map];rfl
abbrev nSd:List Str:=["game","many"]
theorem Qj0:FnScope nSd ["game","many"] (Ah Zz):=⟨rfl,rfl,rfl,by decide +kernel,rfl,by decide +kernel,by decide +kernel⟩
theorem Z8:(["name","hand"]:List Str).Nodup:=by decide +kernel
theorem Qgi:(["number"]:List Str).Nodup:=by decide +kernel
def Y0:ASp:=λxs μ R=>∃(g:Gam) (m:Nat),xs=[.D (Bq g),.D (.int m)]/\g.pl.length<=3/\m<=8/\∀p μ',μ p=none->μ' p=some (.lst ((Jq g m).map Aj))->Sub μ μ'->R (.R p) μ'
theorem Qgj{n:Nat}(F:Fun K "stand_words" "stand_words" Zz f fd) (m_range:mg "range" = none) (m_str:mg "str" = none):FnOk P w K mg base Fb (n+1) f fd ["game","many"] (Hm K 2 Y0):=by
 refine F.vok Qj0 λcdv A outer s H E hr=>⟨_,(Ai (A8 (A0 Br (Bn (N':=["name","hand"]) (mp:=[none,none]) rfl (B2 (An Az (vv 0) Af)) (λ_ _ _ _=>(Ek (n:=2) rfl (Bf (Ap (i:=0) Z8 rfl (Or.inl rfl) (Or.inr rfl)) (Bf (Ap (i:=1) Z8 rfl (Or.inl rfl) (Or.inr rfl)) C6)))) (λ_ _ _ _=>Bk) (λ_ _ _ _=>(vv 0)) (Ay (N:=nSd) (pn:=(Ah Zz).names) (by decide +kernel))) (Bn (N':=["number"]) (mp:=[none]) rfl (Cu rfl m_range (Aa (vv 1) Ae)) (λ_ _ _ _=>(Ap (i:=0) Qgi rfl (Or.inl rfl) (Or.inr rfl))) (λ_ _ _ _=>Bk) (λ_ _ _ _=>(Bi No rfl m_str PyProof.Rows.boot_str (Aa (A0 Br (vv 0) Af) Ae))) (Ay (N:=nSd) (pn:=(Ah Zz).names) (by decide +kernel)))))),?_⟩
 rintro xs μ R _ ⟨g,m,rfl,hp,hm,q⟩
 have hit:∀ μ:M,items μ (.D (.tuple (g.pl.map Ff)))=some (g.pl.map plA):=fun μ=>by
  show some ((g.pl.map Ff).map AV.D)=_
  rw [List.map_map];rfl
 refine Ab (Al (j:=0) rfl) (Ab (hit _) λp1 hp1=>?_)
 refine cmap g.pl plA (λp=>Aj p.1) (fun τ=>∃o1 o2,τ=[o1,o2]) ⟨none,none,rfl⟩ Ac (seven (by omega)) (λ_=>hit _) ?_ ?_
 ·rintro i x τ' acc W hi ⟨o1,o2,rfl⟩ hW
  exact⟨rfl,hW _ ⟨_,_,rfl⟩⟩
 ·have S1:Sub μ (Ar (Ar μ p1 (.lst [])) p1 (.lst (g.pl.map λp=>Aj p.1))):=(Sub.refl.new hp1).new hp1
  have e1:Ar (Ar μ p1 (.lst [])) p1 (.lst (g.pl.map λp=>Aj p.1)) p1=some (.lst (g.pl.map λp=>Aj p.1)):=Ac
  generalize Ar (Ar μ p1 (.lst [])) p1 (.lst (g.pl.map λp=>Aj p.1))=μ1 at S1 e1
  refine⟨by omega,by omega,λp2 hp2=>?_⟩
  have n1:p1≠p2:=by rintro rfl;rw [e1]at hp2;cases hp2
  have hlen:(D9 0 (m:Int).toNat).length=m:=by rw [Bx];omega
  refine C0 (λi acc τ μ'=>∃o,τ=[o]/\acc=((List.range i).map λk=>toS ((k+1:Nat):Int)).map Aj/\μ'=Ar μ1 p2 (.lst acc)) ⟨none,rfl,rfl,rfl⟩ (λ_ _ _ _ _=>trivial) ?_ ?_
  ·rintro i x acc τ μ' W hx ⟨o,rfl,rfl,rfl⟩ hW
   have hi:i < m:=by rw [<- hlen];exact(List.getElem?_eq_some_iff.mp hx).1
   have ex:=Ez _ _ _ hx
   rw [Int.zero_add]at ex
   subst ex
   refine Gs rfl ⟨lg (by omega),Ac,A5 (by rw [List.length_map,List.length_map,List.length_range];omega),hW _ _ _ ⟨_,rfl,?_,De⟩⟩
   rw [List.range_succ,List.map_append,List.map_append];rfl
  ·rintro acc τ μ' ⟨o,rfl,rfl,rfl⟩
   rw [hlen]
   refine Ab (x:=MO.lst (g.pl.map λp=>Aj p.1)) (by rw [Ad n1];exact e1) (Ab Ac ⟨by rw [List.length_map,List.length_map,List.length_map,List.length_range];exact seven (by omega),λp3 hp3=>⟨_,Sub.refl,?_⟩⟩)
   have S2:=S1.new (m:=.lst (((List.range m).map λk=>toS ((k+1:Nat):Int)).map Aj)) (S1.none hp2)
   refine q p3 _ (S2.none hp3) ?_ (S2.new (S2.none hp3))
   rw [Ac]
   unfold Jq
   rw [List.map_append,show(g.pl.map (·.1)).map Aj=g.pl.map (λp=>Aj p.1) by rw [List.map_map];rfl]
abbrev nLs:List Str:=["_law_game_here","_law_stand_here"]
theorem Qj1:FnScope nLs ["_law_game_here","_law_stand_here"] (Ah sLs):=⟨rfl,rfl,rfl,by decide +kernel,rfl,by decide +kernel,by decide +kernel⟩
def Qgk:ASp:=λxs μ R=>∃(g:Gam) (k:Nat),xs=[.D (Bq g),.D (.int k)]/\k<=20/\R (Aj (Db g k)) μ
theorem Qgl{n:Nat}(F:Fun K "_law_stand" "_law_stand" sLs f fd) (m_len:mg "len" = none) (m_str:mg "str" = none):FnOk P w K mg base Fb (n+1) f fd ["_law_game_here","_law_stand_here"] (Hm K 2 Qgk):=by
 refine F.vok Qj1 λcdv A outer s H E hr=>⟨_,(Ag (B1 (Bg Mm (vv 1) (Aw Cc rfl m_len PySem.boot_len (Aa (An Az (vv 0) Af) Ae)) (nomark _)) (Ai (A8 (An Az (An Az (An Az (vv 0) Af) (vv 1)) Af))) Be)
   (Ai (A8 (Bi No rfl m_str PyProof.Rows.boot_str (Aa (A0 Qe5 (A0 Br Af (vv 1)) (Aw Cc rfl m_len PySem.boot_len (Aa (An Az (vv 0) Af) Ae))) Ae))))),?_⟩
 rintro xs μ R _ ⟨g,k,rfl,hk,q⟩
 unfold Db at q
 refine Ab (Al (j:=0) rfl) (dif (λc=>?_) (λc=>?_))
 ·rw [List.length_map]at c
  have hk2:k < g.pl.length:=by omega
  rw [List.getElem?_eq_getElem hk2]at q
  have e:(g.pl.map Ff)[k]?=some (Ff g.pl[k]):=by rw [List.getElem?_map,List.getElem?_eq_getElem hk2];rfl
  exact Ab (Al (j:=0) rfl) (Ab (Al e) (Ab (Al (j:=0) rfl) ⟨μ,Sub.refl,q⟩))
 ·rw [List.length_map]at c
  rw [List.getElem?_eq_none (by omega)]at q
  have e:(1:Int)+k - ((g.pl.map Ff).length:Nat)=((k+1 - g.pl.length:Nat):Int):=by rw [List.length_map];omega
  refine Ab (Al (j:=0) rfl) ⟨?_,μ,Sub.refl,?_⟩
  ·rw [e];exact lg (by omega)
  ·rw [e];exact q
end
section
variable {P:Program}{w:World}{K:PySem.W.Frag}{mg:Str->Option Value}{base:Heap}{f:Addr}{fd:FuncData}
def V9(g:Gam)(x:Nat):Str:=g.le.getD x Str.empty
def Sy(g:Gam)(a:Arw):List Str:=["arrow",Db g a.p,V9 g a.x,":"]
abbrev N5:List Str:=["ends"]
def C4(g:Gam)(a:Arw):List Str:=Sy g a++a.ts.map (Db g)
def Bo(g:Gam)(s:Say):List (List Str):=["own",toS (s.own:Int)] :: (s.as.map (C4 g)++[N5++s.es.map (Db g)])
structure RowsAt(μ:M)(pr:Addr)(qs:List Addr)(rws:List (List Str)):Prop where
 n:qs.length=rws.length
 a:∀(j:Nat) (q:Addr) (ws:List Str),qs[j]?=some q->rws[j]?=some ws->μ q=some (.lst (ws.map Aj))
 ne:pr∉qs
theorem RowsAt.sub{μ μ':M}{pr:Addr}{qs:List Addr}{rws:List (List Str)}(h:RowsAt μ pr qs rws)(S:∀q∈qs,∀m,μ q=some m->μ' q=some m):RowsAt μ' pr qs rws :=
 ⟨h.n,λj q ws e1 e2=>S q (List.mem_of_getElem? e1) _ (h.a j q ws e1 e2),h.ne⟩
theorem RowsAt.add{μ:M}{pr q:Addr}{qs:List Addr}{rws:List (List Str)}{ws:List Str}(h:RowsAt μ pr qs rws)(e:μ q=some (.lst (ws.map Aj)))(hn:pr≠q):RowsAt μ pr (qs++[q]) (rws++[ws]):=by
 refine⟨by rw [List.length_append,List.length_append,h.n];rfl,λj q' ws' e1 e2=>?_,λhm=>?_⟩
 ·by_cases hj:j < qs.length
  ·rw [List.getElem?_append_left hj]at e1
   rw [List.getElem?_append_left (by rw [<- h.n];exact hj)]at e2
   exact h.a j q' ws' e1 e2
  ·rw [List.getElem?_append_right (by omega)]at e1
   rw [List.getElem?_append_right (by rw [<- h.n];omega),<- h.n]at e2
   have hk:j - qs.length=0:=by
    have:=(List.getElem?_eq_some_iff.mp e1).1
    simp at this;omega
   rw [hk]at e1 e2
   cases e1;cases e2;exact e
 ·rcases List.mem_append.mp hm with hm | hm
  ·exact h.ne hm
  ·exact hn (by simpa using hm)
theorem Z9{g:Gam}{x:Nat}(h:x < g.le.length):atI (g.le.map PyData.str) (x:Int)=some (.str (V9 g x)):=by
 refine Al ?_
 rw [List.getElem?_map,List.getElem?_eq_getElem h]
 unfold V9
 rw [List.getD_eq_getElem?_getD,List.getElem?_eq_getElem h];rfl
theorem Qc4{g:Gam}{x:Nat}(h:x < g.le.length)(hl:∀z∈g.le,z.length<=6):(V9 g x).length<=6:=by
 unfold V9
 rw [List.getD_eq_getElem?_getD,List.getElem?_eq_getElem h]
 exact hl _ (List.getElem_mem h)
theorem Qgm:("arrow" : Str).length<=6/\(":" : Str).length<=6/\("ends" : Str).length<=6/\("own" : Str).length<=6:=by decide +kernel
theorem Pe:(" " : Str).length=1/\("\n" : Str).length=1:=by decide +kernel
theorem Jo{g:Gam}{s:Say}(h:ShIn g s):∀ws∈Bo g s,ws.length<=40/\∀z∈ws,z.length<=6:=by
 obtain⟨w1,w2,w3,w4⟩:=Qgm
 intro ws hws
 rcases List.mem_cons.mp hws with rfl | hws
 ·refine⟨(by decide:2<=40),λz hz=>?_⟩
  simp only [List.mem_cons,List.not_mem_nil,or_false]at hz
  rcases hz with rfl | rfl
  ·exact w4
  ·have:=h.o
   exact Pd (by omega)
 rcases List.mem_append.mp hws with hws | hws
 ·obtain⟨a,ha,rfl⟩:=List.mem_map.mp hws
  have hn:=h.tn a ha
  refine⟨?_,λz hz=>?_⟩
  ·unfold C4
   rw [List.length_append,List.length_map]
   show 4+_<=_
   omega
  ·rcases List.mem_append.mp hz with hz | hz
   ·unfold Sy at hz
    simp only [List.mem_cons,List.not_mem_nil,or_false]at hz
    rcases hz with rfl | rfl | rfl | rfl
    ·exact w1
    ·exact h.st (h.p a ha)
    ·exact Qc4 (h.x a ha) h.ln
    ·exact w2
   ·obtain⟨t,ht,rfl⟩:=List.mem_map.mp hz
    exact h.st (h.t a ha t ht)
 ·rw [List.mem_singleton.mp hws]
  have hn:=h.en
  refine⟨?_,λz hz=>?_⟩
  ·rw [List.length_append,List.length_map]
   show 1+_<=_
   omega
  ·rcases List.mem_append.mp hz with hz | hz
   ·rw [List.mem_singleton.mp hz];exact w3
   ·obtain⟨t,ht,rfl⟩:=List.mem_map.mp hz
    exact h.st (h.e t ht)
theorem Hz{ws:List Str}(h:ws.length<=40/\∀z∈ws,z.length<=6):(ws.map (·.length)).sum+ws.length * (" " : Str).length<=280:=by
 have b:=StrLaws.sumLen_le ws h.2
 rw [Pe.1]
 have:=h.1
 omega
theorem L0{ws:List Str}(h:ws.length<=40/\∀z∈ws,z.length<=6):(Txt.join " " ws).length<=280:=by
 have a:=StrLaws.join_length_le " " ws
 have:=Hz h
 show(PySem.Builtin.Str.glued " " ws).length<=_
 rw [StrLaws.glued_eq_join]
 omega
theorem L1{g:Gam}{s:Say}:(Bo g s).length=s.as.length+2:=by
 unfold Bo
 rw [List.length_cons,List.length_append,List.length_map];rfl
theorem N0{g:Gam}{s:Say}(h:ShIn g s):(((Bo g s).map (Txt.join " ")).map (·.length)).sum+((Bo g s).map (Txt.join " ")).length * ("\n" : Str).length<=16777216:=by
 have b:=StrLaws.sumLen_le (B:=280) ((Bo g s).map (Txt.join " ")) λz hz=>by
  obtain⟨ws,hws,rfl⟩:=List.mem_map.mp hz
  exact L0 (Jo h ws hws)
 rw [Pe.2]
 rw [List.length_map,L1]at b ⊢
 have:=h.n
 omega
abbrev nSh:List Str:=["game","saying","stands","rows","arrow","words"]
theorem Wa:FnScope nSh ["game","saying"] (Ah Yu):=⟨rfl,rfl,rfl,by decide +kernel,rfl,by decide +kernel,by decide +kernel⟩
theorem Qgn:(["target","stands"]:List Str).Nodup:=by decide +kernel
theorem Qgo:(["end","stands"]:List Str).Nodup:=by decide +kernel
theorem Qgp:(["words"]:List Str).Nodup:=by decide +kernel
def Qgq:ASp:=λxs μ R=>∃(g:Gam) (s:Say),xs=[.D (Bq g),.D (Eg s)]/\ShIn g s/\∀ μ',Sub μ μ'->R (.D (.str (Txt.join "\n" ((Bo g s).map (Txt.join " "))))) μ'
theorem Qgr{n:Nat}(F:Fun K "show_saying" "show_saying" Yu f fd) (cSd:VCal P w K mg base n "stand_words" ["game","many"] Y0) (m_str:mg "str" = none):FnOk P w K mg base Fb (n+1) f fd ["game","saying"] (Hm K 2 Qgq):=by
 refine F.vok Wa λcdv A outer s H E hr=>⟨_,(Ag (Au (i:=2) Wa.nd rfl (Or.inr rfl) (Ak cSd hr rfl (Aa (vv 0) (Aa (An Az (vv 1) Af) Ae))))
   (Ag (Au (i:=3) Wa.nd rfl (Or.inl rfl) (Ca (Aa (Ca (Aa Bh (Aa (Bi No rfl m_str PyProof.Rows.boot_str (Aa (An Az (vv 1) Af) Ae)) Ae))) Ae)))
   (Ag (El PassesOwn.never rfl (B2 (An Az (vv 1) Af)) (Ap (i:=4) Wa.nd rfl (Or.inl rfl)) (Ag (Au (i:=5) Wa.nd rfl (Or.inl rfl) (Ca (Aa Bh (Aa (An Az (vv 2) (An Az (vv 4) Af)) (Aa (An Az (An Az (vv 0) Af) (An Az (vv 4) Af)) (Aa Bh Ae))))))
   (Ai (Dp (Hk PySem.F.slot_list_append PySem.F.type_list_append C7 (vv 3) (Aa (A0 Br (vv 5) (Bn (N':=["target","stands"]) (mp:=[none,some 2]) rfl (B2 (An Az (vv 4) Af)) (λ_ _ _ _=>(Ap (i:=0) Qgn rfl (Or.inl rfl) (Or.inr rfl))) (λ_ _ _ _=>Bk) (λ_ _ _ _=>(An Az (vv 1) (vv 0))) (Ay (N:=nSh) (pn:=(Ah Yu).names) (by decide +kernel)))) Ae))))))
   (Ag (Dp (Hk PySem.F.slot_list_append PySem.F.type_list_append C7 (vv 3) (Aa (A0 Br (Ca (Aa Bh Ae)) (Bn (N':=["end","stands"]) (mp:=[none,some 2]) rfl (B2 (An Az (vv 1) Af)) (λ_ _ _ _=>(Ap (i:=0) Qgo rfl (Or.inl rfl) (Or.inr rfl))) (λ_ _ _ _=>Bk) (λ_ _ _ _=>(An Az (vv 1) (vv 0))) (Ay (N:=nSh) (pn:=(Ah Yu).names) (by decide +kernel)))) Ae)))
   (Ai (A8 (Hl PySem.F.slot_str_join PySem.F.type_str_join G6 Bh (Aa (Bn (N':=["words"]) (mp:=[none]) rfl (B2 (vv 3)) (λ_ _ _ _=>(Ap (i:=0) Qgp rfl (Or.inl rfl) (Or.inr rfl))) (λ_ _ _ _=>Bk) (λ_ _ _ _=>(Hl PySem.F.slot_str_join PySem.F.type_str_join G6 Bh (Aa (vv 0) Ae))) (Ay (N:=nSh) (pn:=(Ah Yu).names) (by decide +kernel))) Ae)))))))),?_⟩
 rintro xs μ R _ ⟨g,S,rfl,h,q⟩
 have ho:=h.o
 have hsn:=h.n
 have hen:=h.en
 refine Hn (Ab (Al (j:=0) rfl) ⟨g,S.own,rfl,h.pl,h.o,λpw μ1 _ e1 S1=>?_⟩)
 have hst:∀{k:Nat},k < g.pl.length+S.own->atI ((Jq g S.own).map Aj) (k:Int)=some (Aj (Db g k)):=λ{k} hk=>Al (by rw [List.getElem?_map,Lz hk];rfl)
 refine Av (fun τ μ'=>∃pr q0,τ=[some (.D (Bq g)),some (.D (Eg S)),some (.R pw),some (.R pr),none,none]/\μ' pr=some (.lst [.R q0])/\μ pr=none/\RowsAt μ' pr [q0] [["own",toS (S.own:Int)]]/\μ' pw=some (.lst ((Jq g S.own).map Aj))/\Sub μ μ') (λZ hZ=>?_) ?_
 ·refine Ab (Al (j:=0) rfl) ⟨lg (by omega),λq0 hq0=>λpr hpr=>?_⟩
  have n1:q0≠pr:=by rintro rfl;rw [Ac]at hpr;cases hpr
  have n2:pw≠q0:=by rintro rfl;rw [e1]at hq0;cases hq0
  have n3:pw≠pr:=by rintro rfl;rw [Ad n2,e1]at hpr;cases hpr
  have S2:=S1.new (m:=.lst [.D (.str "own"),.D (.str (Str.ofString (toString (S.own:Int))))]) (S1.none hq0)
  refine hZ _ _ ⟨pr,q0,rfl,Ac,S2.none hpr,⟨rfl,λj q' ws e2 e3=>?_,by simpa using n1.symm⟩,by rw [Ad n3,Ad n2];exact e1,S2.new (S2.none hpr)⟩
  cases j with
  | zero=>cases e2;cases e3;rw [Ad n1,Ac];rfl
  | succ j=>cases e2
 rintro τ μ2 ⟨pr,q0,rfl,r2,hpr,A2,e2,S2⟩
 have npw:pw≠pr:=by rintro rfl;rw [r2]at e2;cases e3:Jq g S.own <;> rw [e3]at e2 <;> cases e2
 refine Av (fun τ μ'=>∃(o4 o5:Option AV) (qs:List Addr),τ=[some (.D (Bq g)),some (.D (Eg S)),some (.R pw),some (.R pr),o4,o5]/\μ' pr=some (.lst (qs.map .R))/\RowsAt μ' pr qs (["own",toS (S.own:Int)] :: S.as.map (C4 g))/\μ' pw=some (.lst ((Jq g S.own).map Aj))/\Sub μ μ') (λZ hZ=>?_) ?_
 ·refine Ab (Al (j:=1) rfl) (Ab (Fg S.as) ?_)
  refine Gf (λi τ μ'=>∃(o4 o5:Option AV) (qs:List Addr),τ=[some (.D (Bq g)),some (.D (Eg S)),some (.R pw),some (.R pr),o4,o5]/\μ' pr=some (.lst (qs.map .R))/\RowsAt μ' pr qs (["own",toS (S.own:Int)] :: (S.as.take i).map (C4 g))/\μ' pw=some (.lst ((Jq g S.own).map Aj))/\Sub μ μ') ⟨none,none,[q0],rfl,r2,A2,e2,S2⟩ (λ_ _ _ _=>Fg S.as) ?_ ?_
  ·rintro i y τ μ3 Z2 hy ⟨o4,o5,qs,rfl,r3,A3,e3,S3⟩ hZ2
   rw [List.getElem?_map]at hy
   obtain⟨a,ha,rfl⟩:=Option.map_eq_some_iff.mp hy
   have hi:i < S.as.length:=(List.getElem?_eq_some_iff.mp ha).1
   have hm:=List.mem_of_getElem? ha
   have htk:S.as.take (i+1)=S.as.take i++[a]:=by rw [List.take_succ,ha];rfl
   have hat:=h.tn a hm
   have hql:qs.length<=400:=by
    rw [A3.n,List.length_cons,List.length_map,List.length_take];omega
   refine Av (fun τ μ'=>∃qw,τ=[some (.D (Bq g)),some (.D (Eg S)),some (.R pw),some (.R pr),some (.D (Bm a)),some (.R qw)]/\μ' qw=some (.lst ((Sy g a).map Aj))/\μ' pr=some (.lst (qs.map .R))/\RowsAt μ' pr qs (["own",toS (S.own:Int)] :: (S.as.take i).map (C4 g))/\μ' pw=some (.lst ((Jq g S.own).map Aj))/\Sub μ μ') (λZ3 hZ3=>?_) ?_
   ·refine Ab (Al (j:=0) rfl) (Ab e3 (Ab (hst (h.p a hm)) (Ab (Al (j:=1) rfl) (Ab (Al (j:=1) rfl) (Ab (Z9 (h.x a hm)) λqw hqw=>?_)))))
    have n1:pr≠qw:=by rintro rfl;rw [r3]at hqw;cases hqw
    have n2:pw≠qw:=by rintro rfl;rw [e3]at hqw;cases hqw
    refine hZ3 _ _ ⟨qw,rfl,Ac,by rw [Ad n1];exact r3,A3.sub λq' hq' m hm'=>?_,by rw [Ad n2];exact e3,S3.new (S3.none hqw)⟩
    rw [Ad (by rintro rfl;rw [hm']at hqw;cases hqw)];exact hm'
   rintro τ μ4 ⟨qw,rfl,w4,r4,A4,e4,S4⟩
   refine⟨Ab r4 trivial,Ab (V5 (a:=a)) (Ab (Bs a.ts) λpc hpc=>?_)⟩
   have n1:pr≠pc:=by rintro rfl;rw [r4]at hpc;cases hpc
   have n2:pw≠pc:=by rintro rfl;rw [e4]at hpc;cases hpc
   have n3:qw≠pc:=by rintro rfl;rw [w4]at hpc;cases hpc
   refine cmap a.ts E9 (λt=>Aj (Db g t)) (fun τ=>∃o,τ=[o,some (.R pw)]) ⟨none,rfl⟩ Ac (seven (by omega)) (λ_=>Bs a.ts) ?_ ?_
   ·rintro j t τ' acc W hj ⟨o,rfl⟩ hW
    have htm:=h.t a hm t (List.mem_of_getElem? hj)
    exact Ab (x:=MO.lst ((Jq g S.own).map Aj)) (by rw [Ad n2,Ad n2];exact e4) (Ab (hst htm) (hW _ ⟨_,rfl⟩))
   ·rw [Gr]
    have S5:Sub μ (Ar (Ar μ4 pc (.lst [])) pc (.lst ((a.ts.map (Db g)).map Aj))):=(S4.new (S4.none hpc)).new (S4.none hpc)
    refine Ab (x:=MO.lst ((Sy g a).map Aj)) (by rw [Ad n3,Ad n3];exact w4) (Ab Ac ⟨by rw [List.length_map,List.length_map,List.length_map];exact seven (show 4+a.ts.length<=1000 by omega),λpd hpd=>?_⟩)
    have m1:pr≠pd:=by rintro rfl;rw [Ad n1,Ad n1,r4]at hpd;cases hpd
    have m2:pw≠pd:=by rintro rfl;rw [Ad n2,Ad n2,e4]at hpd;cases hpd
    have S6:=S5.new (m:=.lst ((Sy g a).map Aj++(a.ts.map (Db g)).map Aj)) (S5.none hpd)
    have A6:RowsAt (Ar (Ar (Ar μ4 pc (.lst [])) pc (.lst ((a.ts.map (Db g)).map Aj))) pd (.lst ((Sy g a).map Aj++(a.ts.map (Db g)).map Aj))) pr qs (["own",toS (S.own:Int)] :: (S.as.take i).map (C4 g)):=A4.sub λq' hq' m hm'=>by
     have k1:q'≠pc:=by rintro rfl;rw [hm']at hpc;cases hpc
     have k2:q'≠pd:=by rintro rfl;rw [Ad k1,Ad k1,hm']at hpd;cases hpd
     rw [Ad k2,Ad k1,Ad k1];exact hm'
    have A7:=A6.add (q:=pd) (ws:=C4 g a) (by rw [Ac];unfold C4;rw [List.map_append]) m1
    refine Ab (x:=MO.lst (qs.map .R)) (by rw [Ad m1,Ad n1,Ad n1];exact r4) ⟨A5 (by rw [List.length_map];omega),hZ2 _ _ ⟨_,_,qs++[pd],rfl,by rw [Ac,List.map_append];rfl,?_,by rw [Ad npw,Ad m2,Ad n2,Ad n2];exact e4,S6.new hpr⟩⟩
    rw [htk,List.map_append]
    refine RowsAt.sub A7 λq' hq' m hm'=>?_
    have hne:q'≠pr:=λz=>A7.ne (z ▸ hq')
    rw [Ad hne];exact hm'
  ·rintro τ μ3 ⟨o4,o5,qs,rfl,r3,A3,e3,S3⟩
   rw [List.length_map,List.take_length]at A3
   exact hZ _ _ ⟨_,_,qs,rfl,r3,A3,e3,S3⟩
 rintro τ μ3 ⟨o4,o5,qs,rfl,r3,A3,e3,S3⟩
 have hql:qs.length<=400:=by
  rw [A3.n,List.length_cons,List.length_map];omega
 refine Av (fun τ μ'=>∃(qs:List Addr),τ=[some (.D (Bq g)),some (.D (Eg S)),some (.R pw),some (.R pr),o4,o5]/\μ' pr=some (.lst (qs.map .R))/\RowsAt μ' pr qs (Bo g S)/\Sub μ μ') (λZ hZ=>?_) ?_
 ·refine⟨Ab r3 trivial,λq1 hq1=>?_⟩
  have l1:pr≠q1:=by rintro rfl;rw [r3]at hq1;cases hq1
  have l2:pw≠q1:=by rintro rfl;rw [e3]at hq1;cases hq1
  refine Ab (Al (j:=2) rfl) (Ab (Bs S.es) λpc hpc=>?_)
  have n0:q1≠pc:=by rintro rfl;rw [Ac]at hpc;cases hpc
  have n1:pr≠pc:=by rintro rfl;rw [Ad l1,r3]at hpc;cases hpc
  have n2:pw≠pc:=by rintro rfl;rw [Ad l2,e3]at hpc;cases hpc
  refine cmap S.es E9 (λt=>Aj (Db g t)) (fun τ=>∃o,τ=[o,some (.R pw)]) ⟨none,rfl⟩ Ac (seven (by omega)) (λ_=>Bs S.es) ?_ ?_
  ·rintro j t τ' acc W hj ⟨o,rfl⟩ hW
   have htm:=h.e t (List.mem_of_getElem? hj)
   exact Ab (x:=MO.lst ((Jq g S.own).map Aj)) (by rw [Ad n2,Ad n2,Ad l2];exact e3) (Ab (hst htm) (hW _ ⟨_,rfl⟩))
  ·rw [Gr]
   have S4:=S3.new (m:=.lst [.D (.str "ends")]) (S3.none hq1)
   have S5:Sub μ (Ar (Ar (Ar μ3 q1 (.lst [.D (.str "ends")])) pc (.lst [])) pc (.lst ((S.es.map (Db g)).map Aj))):=(S4.new (S4.none hpc)).new (S4.none hpc)
   refine Ab (x:=MO.lst [.D (.str "ends")]) (by rw [Ad n0,Ad n0];exact Ac) (Ab Ac ⟨by rw [List.length_map,List.length_map];exact seven (show 1+S.es.length<=1000 by omega),λpd hpd=>?_⟩)
   have m1:pr≠pd:=by rintro rfl;rw [Ad n1,Ad n1,Ad l1,r3]at hpd;cases hpd
   have S6:=S5.new (m:=.lst ([.D (.str "ends")]++(S.es.map (Db g)).map Aj)) (S5.none hpd)
   have A6:RowsAt (Ar (Ar (Ar (Ar μ3 q1 (.lst [.D (.str "ends")])) pc (.lst [])) pc (.lst ((S.es.map (Db g)).map Aj))) pd (.lst ([.D (.str "ends")]++(S.es.map (Db g)).map Aj))) pr qs (["own",toS (S.own:Int)] :: S.as.map (C4 g)):=A3.sub λq' hq' m hm'=>by
    have k0:q'≠q1:=by rintro rfl;rw [hm']at hq1;cases hq1
    have k1:q'≠pc:=by rintro rfl;rw [Ad k0,hm']at hpc;cases hpc
    have k2:q'≠pd:=by rintro rfl;rw [Ad k1,Ad k1,Ad k0,hm']at hpd;cases hpd
    rw [Ad k2,Ad k1,Ad k1,Ad k0];exact hm'
   have A7:=A6.add (q:=pd) (ws:=N5++S.es.map (Db g)) (by rw [Ac,List.map_append];rfl) m1
   refine Ab (x:=MO.lst (qs.map .R)) (by rw [Ad m1,Ad n1,Ad n1,Ad l1];exact r3) ⟨A5 (by rw [List.length_map];omega),hZ _ _ ⟨qs++[pd],rfl,by rw [Ac,List.map_append];rfl,?_,S6.new hpr⟩⟩
   refine RowsAt.sub A7 λq' hq' m hm'=>?_
   have hne:q'≠pr:=λz=>A7.ne (z ▸ hq')
   rw [Ad hne];exact hm'
 rintro τ μ4 ⟨qs4,rfl,r4,A4,S4⟩
 have hql4:qs4.length<=400:=by
  rw [A4.n,L1];omega
 refine⟨trivial,Ab (Aq r4) λpc hpc=>?_⟩
 have n1:pr≠pc:=by rintro rfl;rw [r4]at hpc;cases hpc
 refine C0 (λi acc τ μ'=>∃o,τ=[o]/\acc=(((Bo g S).take i).map (Txt.join " ")).map Aj/\μ'=Ar μ4 pc (.lst acc)) ⟨none,rfl,rfl,rfl⟩ ?_ ?_ ?_
 ·rintro i acc τ μ' ⟨o,rfl,rfl,rfl⟩
  exact Aq (by rw [Ad n1];exact r4)
 ·rintro i y acc τ μ' W hy ⟨o,rfl,rfl,rfl⟩ hW
  rw [List.getElem?_map]at hy
  obtain⟨q',hq',rfl⟩:=Option.map_eq_some_iff.mp hy
  have hi:i < qs4.length:=(List.getElem?_eq_some_iff.mp hq').1
  have hi2:i < (Bo g S).length:=by rw [<- A4.n];exact hi
  have ew:=List.getElem?_eq_getElem hi2
  have e5:=A4.a i q' _ hq' ew
  have k1:q'≠pc:=by rintro rfl;rw [e5]at hpc;cases hpc
  have hfit:=Hz (Jo h _ (List.getElem_mem hi2))
  refine Gs rfl ⟨trivial,Ab (x:=MO.lst ((Bo g S)[i].map Aj)) (by rw [Ad k1];exact e5) (Ab (Dn _) ⟨by omega,Ac,A5 (by rw [List.length_map,List.length_map,List.length_take];omega),hW _ _ _ ⟨_,rfl,?_,De⟩⟩)⟩
  rw [List.take_succ,ew,List.map_append,List.map_append];rfl
 ·rintro acc τ μ' ⟨o,rfl,rfl,rfl⟩
  rw [List.length_map,A4.n,List.take_length]
  exact Ab Ac (Ab (Dn _) ⟨N0 h,_,Sub.refl,q _ (S4.new (S4.none hpc))⟩)
end
section
variable {P:Program}{w:World}{K:PySem.W.Frag}{mg:Str->Option Value}{base:Heap}{f:Addr}{fd:FuncData}
theorem Y1(x:Str):("own " : Str)++x=Txt.join " " ["own",x]:=by
 show _=PySem.Builtin.Str.glued " " ["own",x]
 rw [StrLaws.glued_eq_join]
 have e:Str.join " " ["own",x] = "own" ++ " " ++ Str.join " " [x]:=rfl
 have e2:Str.join " " [x]=x:=by simp [Str.join]
 rw [e,e2,show("own" : Str)++(" " : Str) = "own " by decide +kernel]
abbrev nRw:List Str:=["_law_game_here","_law_saying_here","_law_rows_here","_law_stand_here","_law_letter","_law_targets","_law_words"]
theorem Sq:FnScope nRw ["_law_game_here","_law_saying_here"] (Ah Z5):=⟨rfl,rfl,rfl,by decide +kernel,rfl,by decide +kernel,by decide +kernel⟩
theorem Qgs:(["_law_one","_law_game_here"]:List Str).Nodup:=by decide +kernel
theorem Qgt:(["_law_stand_here","_law_game_here"]:List Str).Nodup:=by decide +kernel
def Qgu:ASp:=λxs μ R=>∃(g:Gam) (s:Say),xs=[.D (Bq g),.D (Eg s)]/\ShIn g s/\∀p μ',μ' p=some (.lst (((Bo g s).map (Txt.join " ")).map Aj))->Sub μ μ'->R (.R p) μ'
theorem Qgv{n:Nat}(F:Fun K "_law_rows" "_law_rows" Z5 f fd) (cLs:VCal P w K mg base n "_law_stand" ["_law_game_here","_law_stand_here"] Qgk) (m_str:mg "str" = none):FnOk P w K mg base Fb (n+1) f fd ["_law_game_here","_law_saying_here"] (Hm K 2 Qgu):=by
 refine F.vok Sq λcdv A outer s H E hr=>⟨_,(Ag (Au (i:=2) Sq.nd rfl (Or.inl rfl) (Ca (Aa (A0 Br Bh (Bi No rfl m_str PyProof.Rows.boot_str (Aa (An Az (vv 1) Af) Ae))) Ae)))
   (Ag (El PassesOwn.never rfl (B2 (An Az (vv 1) Af)) (Ek (n:=3) rfl (Bf (Ap (i:=3) Sq.nd rfl (Or.inl rfl)) (Bf (Ap (i:=4) Sq.nd rfl (Or.inl rfl)) (Bf (Ap (i:=5) Sq.nd rfl (Or.inl rfl)) C6)))) (Ag (Au (i:=6) Sq.nd rfl (Or.inl rfl) (Ca (Aa Bh (Aa (Ak cLs hr rfl (Aa (vv 0) (Aa (vv 3) Ae))) (Aa (An Az (An Az (vv 0) Af) (vv 4)) (Aa Bh Ae))))))
   (Ai (Dp (Hk PySem.F.slot_list_append PySem.F.type_list_append C7 (vv 2) (Aa (Hl PySem.F.slot_str_join PySem.F.type_str_join G6 Bh (Aa (A0 Br (vv 6) (Bn (N':=["_law_one","_law_game_here"]) (mp:=[none,some 0]) rfl (B2 (vv 5)) (λ_ _ _ _=>(Ap (i:=0) Qgs rfl (Or.inl rfl) (Or.inr rfl))) (λ_ _ _ _=>Bk) (λ_ _ _ _=>(Ak cLs hr rfl (Aa (vv 1) (Aa (vv 0) Ae)))) (Ay (N:=nRw) (pn:=(Ah Z5).names) (by decide +kernel)))) Ae)) Ae))))))
   (Ai (A8 (A0 Br (vv 2) (Ca (Aa (Hl PySem.F.slot_str_join PySem.F.type_str_join G6 Bh (Aa (A0 Br (Ca (Aa Bh Ae)) (Bn (N':=["_law_stand_here","_law_game_here"]) (mp:=[none,some 0]) rfl (B2 (An Az (vv 1) Af)) (λ_ _ _ _=>(Ap (i:=0) Qgt rfl (Or.inl rfl) (Or.inr rfl))) (λ_ _ _ _=>Bk) (λ_ _ _ _=>(Ak cLs hr rfl (Aa (vv 1) (Aa (vv 0) Ae)))) (Ay (N:=nRw) (pn:=(Ah Z5).names) (by decide +kernel)))) Ae)) Ae))))))),?_⟩
 rintro xs μ R _ ⟨g,S,rfl,h,q⟩
 have ho:=h.o
 have hsn:=h.n
 have hen:=h.en
 have hpl:=h.pl
 have hrw:=Jo h
 have hol:("own " : Str).length+(toS (S.own:Int)).length<=sizeLine:=by
  have:=Pd (n:=S.own) (by omega)
  have e:("own " : Str).length=4:=by decide +kernel
  exact seven (by omega)
 refine Av (fun τ μ'=>∃pr,τ=[some (.D (Bq g)),some (.D (Eg S)),some (.R pr),none,none,none,none]/\μ' pr=some (.lst ([Txt.join " " ["own",toS (S.own:Int)]].map Aj))/\μ pr=none/\Sub μ μ') (λZ hZ=>?_) ?_
 ·refine Ab (Al (j:=0) rfl) ⟨lg (by omega),hol,λpr hpr=>hZ _ _ ⟨pr,rfl,?_,hpr,Sub.refl.new hpr⟩⟩
  rw [Ac,<- Y1];rfl
 rintro τ μ1 ⟨pr,rfl,r1,hpr,S1⟩
 refine Av (fun τ μ'=>∃o3 o4 o5 o6,τ=[some (.D (Bq g)),some (.D (Eg S)),some (.R pr),o3,o4,o5,o6]/\μ' pr=some (.lst ((Txt.join " " ["own",toS (S.own:Int)] :: (S.as.map (C4 g)).map (Txt.join " ")).map Aj))/\Sub μ μ') (λZ hZ=>?_) ?_
 ·refine Ab (Al (j:=1) rfl) (Ab (Fg S.as) ?_)
  refine Gf (λi τ μ'=>∃o3 o4 o5 o6,τ=[some (.D (Bq g)),some (.D (Eg S)),some (.R pr),o3,o4,o5,o6]/\μ' pr=some (.lst ((Txt.join " " ["own",toS (S.own:Int)] :: ((S.as.take i).map (C4 g)).map (Txt.join " ")).map Aj))/\Sub μ μ') ⟨none,none,none,none,rfl,r1,S1⟩ (λ_ _ _ _=>Fg S.as) ?_ ?_
  ·rintro i y τ μ3 Z2 hy ⟨o3,o4,o5,o6,rfl,r3,S3⟩ hZ2
   rw [List.getElem?_map]at hy
   obtain⟨a,ha,rfl⟩:=Option.map_eq_some_iff.mp hy
   have hi:i < S.as.length:=(List.getElem?_eq_some_iff.mp ha).1
   have hm:=List.mem_of_getElem? ha
   have htk:S.as.take (i+1)=S.as.take i++[a]:=by rw [List.take_succ,ha];rfl
   have hat:=h.tn a hm
   have hap:=h.p a hm
   have hax:=h.x a hm
   have hts:=h.t a hm
   have hac:=h.c a hm
   have hfit:=Hz (hrw (C4 g a) (List.mem_cons_of_mem _ (List.mem_append_left _ (List.mem_map.mpr ⟨a,hm,rfl⟩))))
   obtain⟨p,x,ts,c⟩:=a
   dsimp only at hat hap hax hts hac
   subst hac
   refine⟨rfl,Qjs ?_⟩
   dsimp only [List.set]
   refine Av (fun τ μ'=>∃qw,τ=[some (.D (Bq g)),some (.D (Eg S)),some (.R pr),some (.D (.int p)),some (.D (.int x)),some (.D (B0 ts)),some (.R qw)]/\μ' qw=some (.lst ((Sy g ⟨p,x,ts,none⟩).map Aj))/\μ' pr=some (.lst ((Txt.join " " ["own",toS (S.own:Int)] :: ((S.as.take i).map (C4 g)).map (Txt.join " ")).map Aj))/\Sub μ μ') (λZ3 hZ3=>?_) ?_
   ·refine⟨g,p,rfl,by omega,Ab (Al (j:=1) rfl) (Ab (Z9 hax) λqw hqw=>?_)⟩
    have n1:pr≠qw:=by rintro rfl;rw [r3]at hqw;cases hqw
    exact hZ3 _ _ ⟨qw,rfl,Ac,by rw [Ad n1];exact r3,S3.new (S3.none hqw)⟩
   rintro τ μ4 ⟨qw,rfl,w4,r4,S4⟩
   refine⟨Ab r4 trivial,trivial,Ab (Bs ts) λpc hpc=>?_⟩
   have n1:pr≠pc:=by rintro rfl;rw [r4]at hpc;cases hpc
   have n3:qw≠pc:=by rintro rfl;rw [w4]at hpc;cases hpc
   refine cmap ts E9 (λt=>Aj (Db g t)) (fun τ=>∃o,τ=[o,some (.D (Bq g))]) ⟨none,rfl⟩ Ac (seven (by omega)) (λ_=>Bs ts) ?_ ?_
   ·rintro j t τ' acc W hj ⟨o,rfl⟩ hW
    have htm:=hts t (List.mem_of_getElem? hj)
    exact⟨g,t,rfl,by omega,hW _ ⟨_,rfl⟩⟩
   ·rw [Gr]
    have S5:Sub μ (Ar (Ar μ4 pc (.lst [])) pc (.lst ((ts.map (Db g)).map Aj))):=(S4.new (S4.none hpc)).new (S4.none hpc)
    refine Ab (x:=MO.lst ((Sy g ⟨p,x,ts,none⟩).map Aj)) (by rw [Ad n3,Ad n3];exact w4) (Ab Ac ⟨by rw [List.length_map,List.length_map,List.length_map];exact seven (show 4+ts.length<=1000 by omega),λpd hpd=>?_⟩)
    have m1:pr≠pd:=by rintro rfl;rw [Ad n1,Ad n1,r4]at hpd;cases hpd
    have S6:=S5.new (m:=.lst ((Sy g ⟨p,x,ts,none⟩).map Aj++(ts.map (Db g)).map Aj)) (S5.none hpd)
    rw [<- List.map_append]
    refine Ab Ac (Ab (Dn _) ⟨Nat.le_trans hfit (by decide),Ab (x:=MO.lst ((Txt.join " " ["own",toS (S.own:Int)] :: ((S.as.take i).map (C4 g)).map (Txt.join " ")).map Aj)) (by rw [Ad m1,Ad n1,Ad n1];exact r4) ⟨A5 (by simp only [List.length_map,List.length_cons,List.length_take];omega),hZ2 _ _ ⟨_,_,_,_,rfl,?_,?_⟩⟩⟩)
    ·rw [Ac,htk]
     simp only [List.map_append,List.map_cons,List.map_nil,List.cons_append]
     rfl
    ·rw [List.map_append];exact S6.new hpr
  ·rintro τ μ3 ⟨o3,o4,o5,o6,rfl,r3,S3⟩
   rw [List.length_map,List.take_length]at r3
   exact hZ _ _ ⟨_,_,_,_,rfl,r3,S3⟩
 rintro τ μ3 ⟨o3,o4,o5,o6,rfl,r3,S3⟩
 have hfit:=Hz (hrw (N5++S.es.map (Db g)) (List.mem_cons_of_mem _ (List.mem_append_right _ (by simp))))
 refine⟨trivial,λq1 hq1=>?_⟩
 have l1:pr≠q1:=by rintro rfl;rw [r3]at hq1;cases hq1
 refine Ab (Al (j:=2) rfl) (Ab (Bs S.es) λpc hpc=>?_)
 have n0:q1≠pc:=by rintro rfl;rw [Ac]at hpc;cases hpc
 have n1:pr≠pc:=by rintro rfl;rw [Ad l1,r3]at hpc;cases hpc
 refine cmap S.es E9 (λt=>Aj (Db g t)) (fun τ=>∃o,τ=[o,some (.D (Bq g))]) ⟨none,rfl⟩ Ac (seven (by omega)) (λ_=>Bs S.es) ?_ ?_
 ·rintro j t τ' acc W hj ⟨o,rfl⟩ hW
  have htm:=h.e t (List.mem_of_getElem? hj)
  exact⟨g,t,rfl,by omega,hW _ ⟨_,rfl⟩⟩
 ·rw [Gr]
  have S4:=S3.new (m:=.lst (N5.map Aj)) (S3.none hq1)
  have S5:Sub μ (Ar (Ar (Ar μ3 q1 (.lst (N5.map Aj))) pc (.lst [])) pc (.lst ((S.es.map (Db g)).map Aj))):=(S4.new (S4.none hpc)).new (S4.none hpc)
  refine Ab (x:=MO.lst (N5.map Aj)) (by rw [Ad n0,Ad n0];exact Ac) (Ab Ac ⟨by rw [List.length_map,List.length_map,List.length_map];exact seven (show 1+S.es.length<=1000 by omega),λpd hpd=>?_⟩)
  have m1:pr≠pd:=by rintro rfl;rw [Ad n1,Ad n1,Ad l1,r3]at hpd;cases hpd
  have S6:=S5.new (m:=.lst ((N5++S.es.map (Db g)).map Aj)) (S5.none hpd)
  rw [<- List.map_append]
  refine Ab Ac (Ab (Dn _) ⟨Nat.le_trans hfit (by decide),λpe hpe=>?_⟩)
  have m2:pr≠pe:=by rintro rfl;rw [Ad m1,Ad n1,Ad n1,Ad l1,r3]at hpe;cases hpe
  have S7:=S6.new (m:=.lst [Aj (Txt.join " " (N5++S.es.map (Db g)))]) (S6.none hpe)
  refine Ab (x:=MO.lst ((Txt.join " " ["own",toS (S.own:Int)] :: (S.as.map (C4 g)).map (Txt.join " ")).map Aj)) (by rw [Ad m2,Ad m1,Ad n1,Ad n1,Ad l1];exact r3) (Ab Ac ⟨by simp only [List.length_map,List.length_cons,List.length_nil];exact seven (by omega),λp hp=>⟨_,Sub.refl,q p _ ?_ (S7.new (S7.none hp))⟩⟩)
  rw [Ac]
  unfold Bo
  simp only [List.map_append,List.map_cons,List.map_nil,List.cons_append]
  rfl
end
section
variable {P:Program}{w:World}{K:PySem.W.Frag}{mg:Str->Option Value}{base:Heap}{f:Addr}{fd:FuncData}
def thr(z n:Int):Bool:=decide (0<=z/\z < n)
abbrev nIt:List Str:=["number","many"]
theorem Qj3:FnScope nIt ["number","many"] (Ah sIt):=⟨rfl,rfl,rfl,by decide +kernel,rfl,by decide +kernel,by decide +kernel⟩
def Qc5:ASp:=λxs μ R=>∃(n m:Int),xs=[.D (.int n),.D (.int m)]/\R (.D (.bool (thr n m))) μ
theorem Qgw{n:Nat}(F:Fun K "is_there" "is_there" sIt f fd) (m_isinstance:mg "isinstance" = none) (m_bool:mg "bool" = none):FnOk P w K mg base Fb (n+1) f fd ["number","many"] (Hm K 2 Qc5):=by
 refine F.vok Qj3 λcdv A outer s H E hr=>⟨_,(Ai (A8 (Fu (Uc (Fv rfl m_isinstance rfl m_bool PyProof.Rows.boot_bool Ke (vv 0))) (Ft (Ua Qe7 Mm Af (vv 0) (vv 1)))))),?_⟩
 rintro xs μ R _ ⟨i,m,rfl,q⟩
 unfold thr at q
 refine Ab rfl (Gs Qgf (dif (λc=>⟨μ,Sub.refl,?_⟩) (λc=>⟨μ,Sub.refl,?_⟩)))
 ·have e:decide (0<=i/\i < m)=decide (i < m):=by simp [c]
  rw [e]at q;exact q
 ·have e:decide (0<=i/\i < m)=false:=by simp [c]
  rw [e]at q;exact q
theorem Kx{μ μ':M}{x:AV}{us:List AV}(h:items μ x=some us)(S:Sub μ μ'):items μ' x=some us:=by
 cases x with
 | R a =>
  have h:(match μ a with | some (.lst xs)=>some xs | _=>none)=some us:=h
  cases e:μ a with
  | none=>rw [e]at h;cases h
  | some m =>
   rw [e]at h
   cases m with
   | lst xs=>cases h;exact Aq (S a _ e)
   | _=>cases h
 | D d=>cases d <;> exact h
 | _=>exact h
theorem Ky{c d:Nat}(hcd:c≠d):∀{ws:List Str},(∀z∈ws,c∉z.cps.toList)->c∉(Str.join ⟨#[d]⟩ ws).cps.toList
 | [],_=>by simp [Str.join,Str.empty]
 | [x],h=>h x List.mem_cons_self
 | x :: y :: r,h=>by
  rw [Gc]
  intro hm
  rcases List.mem_append.mp hm with hm | hm
  ·exact h x List.mem_cons_self hm
  ·rcases List.mem_cons.mp hm with hm | hm
   ·exact hcd hm
   ·exact Ky hcd (λz hz=>h z (List.mem_cons_of_mem _ hz)) hm
theorem Qc6{zs:List Str}{i:Nat}{x:AV}(h:(Eb 0 (zs.map PyData.str))[i]?=some x):∃z,zs[i]?=some z/\x=.D (.tuple [.int i,.str z]):=by
 obtain⟨d,hd,rfl⟩:=Ec h
 rw [List.getElem?_map]at hd
 obtain⟨z,hz,rfl⟩:=Option.map_eq_some_iff.mp hd
 exact⟨z,hz,by simp⟩
theorem Qj4{a b:PyData}{i j:Nat}{τ:ASt}{μ:M}{R:ASt->M->Prop}(h:R ((τ.set i (some (.D a))).set j (some (.D b))) μ):Fn (Dq i) (Fn (Dq j) Ui) (List.map AV.D [a,b]) τ μ R:=h
def He(μ:M)(d:Addr)(zs:List Str):Prop:=∃kvs,μ d=some (.dk kvs)/\∀(k:Nat) (z:Str),zs[k]?=some z->Dd kvs (.inr z)=some (.D (.int (k:Nat)))
theorem He.sub{μ μ':M}{d:Addr}{zs:List Str}(h:He μ d zs)(S:Sub μ μ'):He μ' d zs:=let⟨kvs,e,k⟩:=h;⟨kvs,S _ _ e,k⟩
abbrev nNn:List Str:=["names","numbers","number","name"]
theorem Y2:FnScope nNn ["names"] (Ah sNn):=⟨rfl,rfl,rfl,by decide +kernel,rfl,by decide +kernel,by decide +kernel⟩
def Qc7:ASp:=λxs μ R=>∃(x:AV) (zs:List Str),xs=[x]/\items μ x=some (zs.map Aj)/\zs.Nodup/\zs.length<=20/\∀d μ',μ d=none->He μ' d zs->Sub μ μ'->R (.R d) μ'
theorem Qgx{n:Nat}(F:Fun K "numbers_by_name" "numbers_by_name" sNn f fd) (m_enumerate:mg "enumerate" = none):FnOk P w K mg base Fb (n+1) f fd ["names"] (Hm K 1 Qc7):=by
 refine F.vok Y2 λcdv A outer s H E hr=>⟨_,(Ag (Au (i:=1) Y2.nd rfl (Or.inl rfl) Uq)
   (Ag (El PassesOwn.never rfl (Qb rfl m_enumerate (vv 0)) (Ek (n:=2) rfl (Bf (Ap (i:=2) Y2.nd rfl (Or.inl rfl)) (Bf (Ap (i:=3) Y2.nd rfl (Or.inl rfl)) C6))) (Ai (Xu (Ik hr) (vv 1) (vv 3) (vv 2))))
   (Ai (A8 (vv 1))))),?_⟩
 rintro xs μ R _ ⟨x,zs,rfl,hx,hn,hl,q⟩
 intro d hd
 have S1:Sub μ (Ar μ d (.dk [])):=Sub.refl.new hd
 refine Av (fun τ μ'=>∃o2 o3,τ=[some x,some (.R d),o2,o3]/\He μ' d zs/\Sub μ μ') (λZ hZ=>?_) (fun τ μ' ⟨o2,o3,e,D,S⟩=>by subst e;exact⟨_,Sub.refl,q d μ' hd D S⟩)
 refine Ab (Kx hx S1) (Ab (Cw zs) ?_)
 refine Gf (λi τ μ'=>∃o2 o3 kvs,τ=[some x,some (.R d),o2,o3]/\μ'=Ar μ d (.dk kvs)/\kvs.length<=i/\∀(k:Nat) (z:Str),k < i->zs[k]?=some z->Dd kvs (.inr z)=some (.D (.int (k:Nat)))) ⟨none,none,[],rfl,rfl,Nat.le_refl _,λk z hk=>absurd hk (Nat.not_lt_zero _)⟩ ?_ ?_ ?_
 ·rintro i τ μ' ⟨o2,o3,kvs,rfl,rfl,_⟩
  exact Kx hx (Sub.refl.new hd)
 ·rintro i y τ μ' Z2 hy ⟨o2,o3,kvs,rfl,rfl,hk,hv⟩ hZ2
  obtain⟨z,hz,rfl⟩:=Qc6 hy
  have hi:i < zs.length:=(List.getElem?_eq_some_iff.mp hz).1
  refine⟨rfl,Qj4 ?_⟩
  refine Ab Ac (Ab (x:=MO.dk (Li kvs (.inr z) (.D (.int (i:Nat))))) rfl ⟨A5 (show kvs.length<=1000 by omega),hZ2 _ _ ⟨_,_,_,rfl,De,Nat.le_trans (Vz _ _ _) (by omega),λk z' hk' hz'=>?_⟩⟩)
  rw [Vy]
  by_cases e:k=i
  ·subst e
   rw [hz]at hz'
   cases hz'
   rw [if_pos rfl]
  ·rw [if_neg,hv k z' (by omega) hz']
   intro e2
   have e3:z'=z:=by injection e2
   subst e3
   exact e ((List.getElem?_inj (by omega) hn).mp (hz'.trans hz.symm))
 ·rintro τ μ' ⟨o2,o3,kvs,rfl,rfl,hk,hv⟩
  rw [B6,List.length_map]at hv
  exact hZ _ _ ⟨_,_,rfl,⟨kvs,Ac,λk z hz=>hv k z (List.getElem?_eq_some_iff.mp hz).1 hz⟩,Sub.refl.new hd⟩
abbrev nIr:List Str:=["stands","lowest","bound"]
theorem Qj6:FnScope nIr ["stands","lowest","bound"] (Ah Zy):=⟨rfl,rfl,rfl,by decide +kernel,rfl,by decide +kernel,by decide +kernel⟩
theorem Qgy:(["stand","bound","lowest"]:List Str).Nodup:=by decide +kernel
theorem Qaa:(["low","high"]:List Str).Nodup:=by decide +kernel
def Qc8:ASp:=λxs μ R=>∃(ns:List Nat) (lo hi:Nat),xs=[.D (B0 ns),.D (.int lo),.D (.int hi)]/\ns.length<=20/\(∀n∈ns,lo<=n/\n < hi)/\ns.Pairwise (· < ·)/\∀ μ',Sub μ μ'->R (.D (.bool true)) μ'
theorem Qgz{n:Nat}(F:Fun K "is_rising" "is_rising" Zy f fd) (cIt:VCal P w K mg base n "is_there" ["number","many"] Qc5) (m_all:mg "all" = none) (m_zip:mg "zip" = none):FnOk P w K mg base Fb (n+1) f fd ["stands","lowest","bound"] (Hm K 3 Qc8):=by
 refine F.vok Qj6 λcdv A outer s H E hr=>⟨_,(Ag (B1 (Ej (Dj (Aw (Mn rfl) rfl m_all PyProof.Rows.boot_all (Aa (Bn (N':=["stand","bound","lowest"]) (mp:=[none,some 2,some 1]) rfl (B2 (vv 0)) (λ_ _ _ _=>(Ap (i:=0) Qgy rfl (Or.inl rfl) (Or.inr rfl))) (λ_ _ _ _=>Bk) (λ_ _ _ _=>(Fu (Ak cIt hr rfl (Aa (vv 0) (Aa (vv 1) Ae))) (Ft (Gw Qe7 (vv 2) (vv 0) (nomark _))))) (Ay (N:=nIr) (pn:=(Ah Zy).names) (by decide +kernel))) Ae)))) (Ai (A8 Mh)) Be)
   (Ai (A8 (Aw (Mn rfl) rfl m_all PyProof.Rows.boot_all (Aa (Bn (N':=["low","high"]) (mp:=[none,none]) rfl (Vu rfl m_zip (vv 0) (Ch (vv 0) (Cp Af) C5)) (λ_ _ _ _=>(Ek (n:=2) rfl (Bf (Ap (i:=0) Qaa rfl (Or.inl rfl) (Or.inr rfl)) (Bf (Ap (i:=1) Qaa rfl (Or.inl rfl) (Or.inr rfl)) C6)))) (λ_ _ _ _=>Bk) (λ_ _ _ _=>(Gw Mm (vv 0) (vv 1) (nomark _))) (Ay (N:=nIr) (pn:=(Ah Zy).names) (by decide +kernel))) Ae))))),?_⟩
 rintro xs μ R _ ⟨ns,lo,hi,rfl,hl,hb,hu,q⟩
 refine Av (fun τ μ'=>τ=[some (.D (B0 ns)),some (.D (.int lo)),some (.D (.int hi))]/\Sub μ μ') (λZ hZ=>?_) ?_
 ·refine Ab (Bs ns) λpl hpl=>?_
  refine cmap ns E9 (λ_=>.D (.bool true)) (fun τ=>∃o,τ=[o,some (.D (.int hi)),some (.D (.int lo))]) ⟨none,rfl⟩ Ac (seven (by omega)) (λ_=>Bs ns) ?_ ?_
  ·rintro i x τ' acc W hi' ⟨o,rfl⟩ hW
   have hx:=hb x (List.mem_of_getElem? hi')
   have hw:=hW [some (E9 x),some (.D (.int hi)),some (.D (.int lo))] ⟨_,rfl⟩
   have e:(true:Bool)=decide ((lo:Int)<=(x:Int)):=(decide_eq_true (by omega)).symm
   rw [e]at hw
   exact⟨x,hi,rfl,Gs (by unfold thr;exact decide_eq_true (by omega)) hw⟩
  ·dsimp only [Xm]
   refine Mr (g:=λ_=>true) Ac ?_
   rw [show(ns.all λ_=>true)=true by simp]
   exact Hj rfl (hZ _ _ ⟨rfl,(Sub.refl.new hpl).new hpl⟩)
 rintro τ μ1 ⟨rfl,S1⟩
 refine Ab (Bs ns) (Ab (x:=(Fr (ns.map λ(n:Nat)=>PyData.int n) (some 1) none).map AV.D) rfl (Ab (Gq ns) (Ab (B8 _) λpl hpl=>?_)))
 have hcut:Fr (ns.map λ(n:Nat)=>PyData.int n) (some 1) none=(ns.drop 1).map λ(n:Nat)=>PyData.int n:=Ku _ _ 1
 have hz:=Ds (ns.map λ(n:Nat)=>PyData.int n) (Fr (ns.map λ(n:Nat)=>PyData.int n) (some 1) none)
 rw [hcut,List.length_map,List.length_map,List.length_drop]at hz
 rw [<- hcut]at hz
 refine C0 (λi acc τ μ'=>∃o1 o2,τ=[o1,o2]/\acc=(List.replicate i ()).map (λ_=>.D (.bool true))/\μ'=Ar μ1 pl (.lst acc)) ⟨none,none,rfl,rfl,rfl⟩ (λ_ _ _ _ _=>⟨Bs ns,rfl⟩) ?_ ?_
 ·rintro i y acc τ μ' W hy ⟨o1,o2,rfl,rfl,rfl⟩ hW
  have hi':=(List.getElem?_eq_some_iff.mp hy).1
  obtain⟨d1,d2,h1,h2,rfl⟩:=Jm hy
  rw [List.getElem?_map]at h1
  obtain⟨x1,hx1,rfl⟩:=Option.map_eq_some_iff.mp h1
  rw [hcut,List.getElem?_map,List.getElem?_drop]at h2
  obtain⟨x2,hx2,rfl⟩:=Option.map_eq_some_iff.mp h2
  have hlt:x1 < x2:=by
   obtain⟨k1,e1⟩:=List.getElem?_eq_some_iff.mp hx1
   obtain⟨k2,e2⟩:=List.getElem?_eq_some_iff.mp hx2
   rw [<- e1,<- e2]
   exact List.pairwise_iff_getElem.mp hu i (1+i) k1 k2 (by omega)
  refine⟨rfl,Gs rfl ⟨Ac,A5 (by rw [List.length_map,List.length_replicate];omega),hW _ _ _ ⟨_,_,rfl,?_,De⟩⟩⟩
  have e:decide ((x1:Int) < (x2:Int))=true:=decide_eq_true (by omega)
  rw [List.replicate_succ',List.map_append]
  show _=_++[AV.D (.bool true)]
  rw [<- e]
 ·rintro acc τ μ' ⟨o1,o2,rfl,rfl,rfl⟩
  refine Mr (g:=λ_=>true) Ac ⟨_,Sub.refl,?_⟩
  rw [show((List.replicate (O7 (ns.map λ(n:Nat)=>PyData.int n) (Fr (ns.map λ(n:Nat)=>PyData.int n) (some 1) none)).length ()).all λ_=>true)=true by simp]
  exact q _ (S1.new (S1.none hpl))
abbrev nAe:List Str:=["game","many","ends"]
theorem Qj7:FnScope nAe ["game","many","ends"] (Ah sAe):=⟨rfl,rfl,rfl,by decide +kernel,rfl,by decide +kernel,by decide +kernel⟩
def Qg0:ASp:=λxs μ R=>∃(g:Gam) (m:Nat) (ns:List Nat),xs=[.D (Bq g),.D (.int m),.D (B0 ns)]/\ns.length<=20/\(∀n∈ns,n < g.pl.length+m)/\ns.Pairwise (· < ·)/\∀ μ',Sub μ μ'->R (.D (.bool true)) μ'
theorem Qg1{n:Nat}(F:Fun K "are_ends" "are_ends" sAe f fd) (cIr:VCal P w K mg base n "is_rising" ["stands","lowest","bound"] Qc8) (m_len:mg "len" = none):FnOk P w K mg base Fb (n+1) f fd ["game","many","ends"] (Hm K 3 Qg0):=by
 refine F.vok Qj7 λcdv A outer s H E hr=>⟨_,(Ai (A8 (Ak cIr hr rfl (Aa (vv 2) (Aa Af (Aa (A0 Br (Aw Cc rfl m_len PySem.boot_len (Aa (An Az (vv 0) Af) Ae)) (vv 1)) Ae)))))),?_⟩
 rintro xs μ R _ ⟨g,m,ns,rfl,hl,hb,hu,q⟩
 refine Ab (Al (j:=0) rfl) ⟨ns,0,g.pl.length+m,?_,hl,λn hn=>⟨Nat.zero_le _,hb n hn⟩,hu,fun μ1 S1=>⟨_,Sub.refl,q _ S1⟩⟩
 rw [List.length_map];rfl
abbrev nMb:List Str:=["game","many","ahead","arrow","places","stands"]
theorem Qc9:FnScope nMb ["game","many","ahead","arrow"] (Ah sMb):=⟨rfl,rfl,rfl,by decide +kernel,rfl,by decide +kernel,by decide +kernel⟩
def Qg2:ASp:=λxs μ R=>∃(g:Gam) (m:Nat) (pa:Addr) (B:List Arw) (a:Arw),xs=[.D (Bq g),.D (.int m),.R pa,.D (Bm a)]/\μ pa=some (.lst (B.map λb=>.D (Bm b)))/\a.p < g.pl.length+m/\a.x < g.le.length/\a.c=none/\a.ts.length<=20/\(∀t∈a.ts,g.pl.length<=t/\t < g.pl.length+m)/\a.ts.Pairwise (· < ·) /\
 (∀b∈B,b.c=none/\Fj (Bm b) (Bm a)=true)/\∀ μ',Sub μ μ'->R (.D (.bool true)) μ'
theorem Qg3{n:Nat}(F:Fun K "may_stand_behind" "may_stand_behind" sMb f fd) (cIr:VCal P w K mg base n "is_rising" ["stands","lowest","bound"] Qc8) (cIt:VCal P w K mg base n "is_there" ["number","many"] Qc5) (m_len:mg "len" = none):FnOk P w K mg base Fb (n+1) f fd ["game","many","ahead","arrow"] (Hm K 4 Qg2):=by
 refine F.vok Qc9 λcdv A outer s H E hr=>⟨_,(Ag (Au (i:=4) Qc9.nd rfl (Or.inl rfl) (Aw Cc rfl m_len PySem.boot_len (Aa (An Az (vv 0) Af) Ae)))
   (Ag (Au (i:=5) Qc9.nd rfl (Or.inl rfl) (A0 Br (vv 4) (vv 1)))
   (Ag (B1 (VW.pt (Ey (Ej (Dj (Ak cIt hr rfl (Aa (An Az (vv 3) Af) (Aa (vv 5) Ae))))) (Ex (Ej (Dj (Ak cIt hr rfl (Aa (An Az (vv 3) Af) (Aa (Aw Cc rfl m_len PySem.boot_len (Aa (An Az (vv 0) Af) Ae)) Ae)))))))) (Ai (A8 Mh)) Be)
   (Ag (B1 (Ej (Dj (Ak cIr hr rfl (Aa (An Az (vv 3) Af) (Aa (vv 4) (Aa (vv 5) Ae)))))) (Ai (A8 Mh)) Be)
   (Ai (A8 (Qe0 (Gw (Hs hr) (Aw Cc rfl m_len PySem.boot_len (Aa (vv 2) Ae)) Af (nomark _)) (Ft (Gw (Qfx hr) (An Az (vv 2) (Um Af)) (vv 3) (nomark _)))))))))),?_⟩
 rintro xs μ R _ ⟨g,m,pa,B,a,rfl,e1,hp,hx,hc,hl,hb,hu,hB,q⟩
 refine Av (fun τ μ'=>τ=[some (.D (Bq g)),some (.D (.int m)),some (.R pa),some (.D (Bm a)),some (.D (.int g.pl.length)),none]/\μ=μ') (λZ hZ=>?_) ?_
 ·refine Ab (Al (j:=0) rfl) (hZ _ _ ⟨?_,rfl⟩)
  rw [List.length_map];rfl
 rintro τ _ ⟨rfl,rfl⟩
 refine Av (fun τ μ'=>τ=[some (.D (Bq g)),some (.D (.int m)),some (.R pa),some (.D (Bm a)),some (.D (.int g.pl.length)),some (.D (.int ((g.pl.length+m:Nat):Int)))]/\μ=μ') (λZ hZ=>hZ _ _ ⟨rfl,rfl⟩) ?_
 rintro τ _ ⟨rfl,rfl⟩
 refine Av (fun τ μ'=>τ=[some (.D (Bq g)),some (.D (.int m)),some (.R pa),some (.D (Bm a)),some (.D (.int g.pl.length)),some (.D (.int ((g.pl.length+m:Nat):Int)))]/\μ=μ') (λZ hZ=>?_) ?_
 ·refine Ab (Al (j:=0) rfl) ⟨a.p,((g.pl.length+m:Nat):Int),rfl,Hj ?_ (Ab (Al (j:=1) rfl) (Ab (Al (j:=1) rfl) ⟨a.x,((g.le.map PyData.str).length:Nat),rfl,Hj ?_ (hZ _ _ ⟨rfl,rfl⟩)⟩))⟩
  ·unfold thr
   rw [decide_eq_true (by omega)];rfl
  ·unfold thr
   rw [List.length_map,decide_eq_true (by omega)];rfl
 rintro τ _ ⟨rfl,rfl⟩
 refine Av (fun τ μ'=>τ=[some (.D (Bq g)),some (.D (.int m)),some (.R pa),some (.D (Bm a)),some (.D (.int g.pl.length)),some (.D (.int ((g.pl.length+m:Nat):Int)))]/\Sub μ μ') (λZ hZ=>?_) ?_
 ·exact Ab (V5 (a:=a)) ⟨a.ts,g.pl.length,g.pl.length+m,rfl,hl,hb,hu,fun μ1 S1=>Hj rfl (hZ _ _ ⟨rfl,S1⟩)⟩
 rintro τ μ1 ⟨rfl,S1⟩
 refine Ab (S1 _ _ e1) ⟨C8 _,C8 _,?_⟩
 rw [Hv]
 rcases List.eq_nil_or_concat B with rfl | ⟨B',b,rfl⟩
 ·exact Gs (by simp) ⟨_,Sub.refl,q _ S1⟩
 ·have e9:atI ((B'.concat b).map λb=>AV.D (Bm b)) (-1)=some (.D (Bm b)):=by rw [List.concat_eq_append,List.map_append];exact Tn _ _
  have e10:Fj (Bm b) (Bm a)=true:=(hB b (by simp)).2
  refine Hj (decide_eq_false (by rw [List.length_map,List.length_concat];omega)) (Ab (S1 _ _ e1) (Ab e9 ⟨Ny b,Ny a,Q5 ?_,_,Sub.refl,?_⟩))
  ·rw [(hB b (by simp)).1,hc]
  ·show R (.D (.bool (Fj (Bm b) (Bm a)))) μ1
   rw [e10]
   exact q _ S1
end
section
variable {P:Program}{w:World}{K:PySem.W.Frag}{mg:Str->Option Value}{base:Heap}{f:Addr}{fd:FuncData}
structure TxIn(g:Gam)(s:Say):Prop where
 p0:0 < g.pl.length
 p1:g.pl.length<=3
 l1:g.le.length<=3
 pn:Nms (g.pl.map (·.1))
 ln:Nms g.le
 sa:SayOk g s 8
theorem TxIn.c{g:Gam}{s:Say}(h:TxIn g s){a:Arw}(ha:a∈s.as):a.c=none:=by
 have:=(h.sa.a a ha).c
 cases c:a.c with
 | none=>rfl
 | some v=>rw [c]at this;cases this
theorem TxIn.tn{g:Gam}{s:Say}(h:TxIn g s){a:Arw}(ha:a∈s.as):a.ts.length<=2:=by
 have:=(h.sa.su a ha).length_le
 have:=h.sa.o
 rw [List.length_range']at *;omega
theorem TxIn.en{g:Gam}{s:Say}(h:TxIn g s):s.es.length<=5:=by
 have:=h.sa.e.length_le
 have:=h.sa.o
 have:=h.p1
 rw [List.length_range]at *;omega
theorem TxIn.sh{g:Gam}{s:Say}(h:TxIn g s):ShIn g s :=
 ⟨h.p1,λp hp=>h.pn.n _ (List.mem_map.mpr ⟨p,hp,rfl⟩),h.ln.n,by have:=h.sa.o;omega,by have:=h.sa.n;omega,λa ha=>(h.sa.a a ha).p,λa ha=>(h.sa.a a ha).x,λa ha t ht=>((h.sa.a a ha).t t ht).2,λa ha=>by have:=h.tn ha;omega,λa ha=>h.c ha,λe he=>List.mem_range.mp (h.sa.e.subset he),by have:=h.en;omega⟩
def Wb(z:Str):Prop:=32∉z.cps.toList/\10∉z.cps.toList
theorem Q8{z:Str}(h:lets z):Wb z:=⟨λc=>by have:=h _ c;omega,λc=>by have:=h _ c;omega⟩
theorem Y3:∀i:Fin 12,32∉(toS (i.val:Int)).cps.toList/\10∉(toS (i.val:Int)).cps.toList:=by decide +kernel
theorem Wc{n:Nat}(h:n < 12):Wb (toS (n:Int)):=Y3 ⟨n,h⟩
theorem Qj8:Wb "arrow" /\ Wb ":" /\ Wb "ends" /\ Wb "own" := by unfold Wb;decide +kernel
theorem Qab:(" " : Str)=⟨#[32]⟩:=by decide +kernel
theorem Qg4:("\n" : Str)=⟨#[10]⟩:=by decide +kernel
theorem Ia(z:Str)(ws:List Str):Txt.join z ws=Str.join z ws:=StrLaws.glued_eq_join z ws
theorem TxIn.st{g:Gam}{s:Say}(h:TxIn g s){k:Nat}(hk:k < g.pl.length+s.own):Wb (Db g k):=by
 unfold Db
 by_cases h1:k < g.pl.length
 ·rw [List.getElem?_eq_getElem h1];exact Q8 (h.pn.l _ (List.mem_map.mpr ⟨_,List.getElem_mem h1,rfl⟩))
 ·rw [List.getElem?_eq_none (by omega)]
  have:=h.sa.o
  exact Wc (by omega)
theorem TxIn.rows{g:Gam}{s:Say}(h:TxIn g s):∀ws∈Bo g s,ws≠[]/\∀z∈ws,Wb z:=by
 obtain⟨w1,w2,w3,w4⟩:=Qj8
 have hs:=h.sh
 intro ws hws
 rcases List.mem_cons.mp hws with rfl | hws
 ·refine⟨List.cons_ne_nil _ _,λz hz=>?_⟩
  simp only [List.mem_cons,List.not_mem_nil,or_false]at hz
  rcases hz with rfl | rfl
  ·exact w4
  ·have:=hs.o
   exact Wc (by omega)
 rcases List.mem_append.mp hws with hws | hws
 ·obtain⟨a,ha,rfl⟩:=List.mem_map.mp hws
  refine⟨by unfold C4 Sy;exact List.cons_ne_nil _ _,λz hz=>?_⟩
  rcases List.mem_append.mp hz with hz | hz
  ·unfold Sy at hz
   simp only [List.mem_cons,List.not_mem_nil,or_false]at hz
   rcases hz with rfl | rfl | rfl | rfl
   ·exact w1
   ·exact h.st (hs.p a ha)
   ·unfold V9
    have hx:=hs.x a ha
    rw [List.getD_eq_getElem?_getD,List.getElem?_eq_getElem hx]
    exact Q8 (h.ln.l _ (List.getElem_mem hx))
   ·exact w2
  ·obtain⟨t,ht,rfl⟩:=List.mem_map.mp hz
   exact h.st (hs.t a ha t ht)
 ·rw [List.mem_singleton.mp hws]
  refine⟨List.cons_ne_nil _ _,λz hz=>?_⟩
  rcases List.mem_append.mp hz with hz | hz
  ·rw [List.mem_singleton.mp hz];exact w3
  ·obtain⟨t,ht,rfl⟩:=List.mem_map.mp hz
   exact h.st (hs.e t ht)
theorem Sr{ws:List Str}(h:ws≠[]/\∀z∈ws,Wb z):Txt.split (Txt.join " " ws) " " = ws:=by
 rw [Ia,Qab]
 exact Io h.1 λz hz=>(h.2 z hz).1
theorem Pf{rws:List (List Str)}(h0:rws≠[])(h:∀ws∈rws,ws≠[]/\∀z∈ws,Wb z):Txt.split (Txt.join "\n" (rws.map (Txt.join " "))) "\n" = rws.map (Txt.join " "):=by
 rw [Ia,Qg4]
 refine Io (by simpa using h0) λz hz=>?_
 obtain⟨ws,hws,rfl⟩:=List.mem_map.mp hz
 rw [Ia,Qab]
 exact Ky (by decide) λz hz=>((h ws hws).2 z hz).2
theorem Qda:B3 (.str "own"):=Mp (by decide +kernel)
theorem Y4:∀i:Fin 12,PyData.canLay0 (.str (toS (i.val:Int)))=true:=by decide +kernel
theorem N1{n:Nat}(h:n < 12):B3 (.list [.str "own",.str (toS (n:Int))]):=by
 have a:=Qda.1
 have b:PyData.canLay0 (.str (toS (n:Int)))=true:=Y4 ⟨n,h⟩
 refine⟨?_,by simp [PyData.depth,PyData.depthAll]⟩
 simp only [PyData.canLay0,PyData.canLayAll0]at a b ⊢
 rw [a,b];rfl
theorem Y5:∀i j:Fin 3,i≠j->toS (i.val:Int)≠toS (j.val:Int):=by decide +kernel
theorem Y6(a b:Str):PyData.eqv (.list [.str "own",.str a]) (.list [.str "own",.str b])=decide (a=b):=by
 show(PyData.eqv (.str "own") (.str "own") && (PyData.eqv (.str a) (.str b) && true))=_
 rw [Gn rfl rfl,Gn rfl rfl,decide_eq_true rfl,Bool.true_and,Bool.and_true]
 exact decide_eq_decide.mpr ⟨λh=>by injection h,λh=>by rw [h]⟩
abbrev nRo:List Str:=["words","many"]
theorem Qg5:FnScope nRo ["words"] (Ah sRo):=⟨rfl,rfl,rfl,by decide +kernel,rfl,by decide +kernel,by decide +kernel⟩
def Wd(m:Nat):List Str:=["own",toS (m:Int)]
def Qg6:ASp:=λxs μ R=>∃(q:Addr) (m:Nat),xs=[.R q]/\μ q=some (.lst ((Wd m).map Aj))/\m<=2/\∀ μ',Sub μ μ'->R (.D (.int m)) μ'
theorem Qac{μ:M}{p:Addr}{xs:List AV}{ds:List PyData}(h:μ p=some (.lst xs))(hd:dats xs=some ds):see μ (.R p)=some (.list ds):=by
 show(match μ p with
  | some (.lst xs)=>match dats xs with
   | some ds=>some (PyData.list ds)
   | none=>none
  | _=>none)=_
 rw [h]
 show(match dats xs with
   | some ds=>some (PyData.list ds)
   | none=>none)=_
 rw [hd]
theorem Qg7{n:Nat}{t1:Tok}(F:Fun K "read_own" "read_own" sRo f fd) (m_range:mg "range" = none) (m_str:mg "str" = none) (mMO:mg "MOST_OWN" = some (.int 2 t1)):FnOk P w K mg base Fb (n+1) f fd ["words"] (Hm K 1 Qg6):=by
 refine F.vok Qg5 λcdv A outer s H E hr=>⟨_,(Ag (El PassesOwn.never rfl (Cu rfl m_range (Aa (A0 Br (Pr rfl mMO (v:=.int 2) ⟨_,rfl⟩ (λ_=>Dh)) Af) Ae)) (Ap (i:=1) Qg5.nd rfl (Or.inl rfl)) (Ai (B1 (Bg (Hs hr) (vv 0) (Ca (Aa Bh (Aa (Bi No rfl m_str PyProof.Rows.boot_str (Aa (vv 1) Ae)) Ae))) (nomark _)) (Ai (A8 (vv 1))) Be)))
   (Ai (A8 Dx))),?_⟩
 rintro xs μ R _ ⟨q0,m,rfl,e0,hm,q⟩
 refine Av (fun τ μ'=>False) (λZ hZ=>?_) (λ_ _ h=>h.elim)
 refine⟨by decide,by decide,?_⟩
 refine Gf (λi τ μ'=>∃o1,τ=[some (.R q0),o1]/\i<=m/\Sub μ μ') ⟨none,rfl,Nat.zero_le _,Sub.refl⟩ (λ_ _ _ _=>trivial) ?_ ?_
 ·rintro i y τ μ1 Z2 hy ⟨o1,rfl,hi,S1⟩ hZ2
  have ey:=Ez _ _ _ hy
  rw [Int.zero_add]at ey
  subst ey
  refine⟨lg (by omega),λp hp=>?_⟩
  have n1:q0≠p:=by rintro rfl;rw [S1 _ _ e0]at hp;cases hp
  have S2:=S1.new (m:=.lst [.D (.str "own"),.D (.str (Str.ofString (toString (i:Int))))]) (S1.none hp)
  refine Ab (Qac (S2 _ _ e0) (Cw (Wd m))) (Ab (Qac Ac (Cw (Wd i))) ⟨N1 (by omega),N1 (by omega),?_⟩)
  show brP (PyData.eqv (.list [.str "own",.str (toS (m:Int))]) (.list [.str "own",.str (toS (i:Int))])) _ _
  rw [Y6]
  refine dif (λc=>?_) (λc=>hZ2 _ _ ⟨_,rfl,?_,S2⟩)
  ·have e:m=i:=by
    by_cases e:m=i
    ·exact e
    ·exact absurd c (Y5 ⟨m,by omega⟩ ⟨i,by omega⟩ (by intro h;exact e (Fin.mk.inj h)))
   subst e
   exact⟨_,Sub.refl,q _ S2⟩
  ·have:m≠i:=λe=>c (by rw [e])
   omega
 ·rintro τ μ1 ⟨o1,rfl,hi,S1⟩
  have:(3:Nat)<=m:=hi
  omega
abbrev nRt:List Str:=["words","stands"]
theorem Qka:FnScope nRt ["words","stands"] (Ah Z0):=⟨rfl,rfl,rfl,by decide +kernel,rfl,by decide +kernel,by decide +kernel⟩
theorem Qg8:(["word","stands"]:List Str).Nodup:=by decide +kernel
theorem Qg9:(["word","stands"]:List Str).Nodup:=by decide +kernel
def Qdb:ASp:=λxs μ R=>∃(q d:Addr) (g:Gam) (m:Nat) (ts:List Nat),xs=[.R q,.R d]/\μ q=some (.lst ((ts.map (Db g)).map Aj))/\He μ d (Jq g m)/\(∀t∈ts,t < g.pl.length+m)/\ts.length<=20/\∀ μ',Sub μ μ'->R (.D (B0 ts)) μ'
theorem Qha{n:Nat}(F:Fun K "read_stands" "read_stands" Z0 f fd) (m_all:mg "all" = none) (m_tuple:mg "tuple" = none):FnOk P w K mg base Fb (n+1) f fd ["words","stands"] (Hm K 2 Qdb):=by
 refine F.vok Qka λcdv A outer s H E hr=>⟨_,(Ag (B1 (Ej (Dj (Aw (Mn rfl) rfl m_all PyProof.Rows.boot_all (Aa (Bn (N':=["word","stands"]) (mp:=[none,some 1]) rfl (B2 (vv 0)) (λ_ _ _ _=>(Ap (i:=0) Qg8 rfl (Or.inl rfl) (Or.inr rfl))) (λ_ _ _ _=>Bk) (λ_ _ _ _=>(Qb6 (Ik hr) (vv 0) (vv 1))) (Ay (N:=nRt) (pn:=(Ah Z0).names) (by decide +kernel))) Ae)))) (Ai (A8 Dx)) Be)
   (Ai (A8 (Bi Cv rfl m_tuple PyProof.Rows.boot_tuple (Aa (Bn (N':=["word","stands"]) (mp:=[none,some 1]) rfl (B2 (vv 0)) (λ_ _ _ _=>(Ap (i:=0) Qg9 rfl (Or.inl rfl) (Or.inr rfl))) (λ_ _ _ _=>Bk) (λ_ _ _ _=>(Ll (Ik hr) (vv 1) (vv 0))) (Ay (N:=nRt) (pn:=(Ah Z0).names) (by decide +kernel))) Ae))))),?_⟩
 rintro xs μ R _ ⟨q0,d,g,m,ts,rfl,e0,⟨kvs,ed,hv⟩,hts,hl,q⟩
 have hval:∀t∈ts,Dd kvs (.inr (Db g t))=some (.D (.int (t:Nat))):=λt ht=>hv t _ (Lz (hts t ht))
 have eq0:(ts.map (Db g)).map Aj=ts.map λt=>Aj (Db g t):=(Gr _ _).symm
 rw [eq0]at e0
 refine Av (fun τ μ'=>τ=[some (.R q0),some (.R d)]/\Sub μ μ') (λZ hZ=>?_) ?_
 ·refine Ab (Aq e0) λpl hpl=>?_
  have n1:q0≠pl:=by rintro rfl;rw [e0]at hpl;cases hpl
  have n2:d≠pl:=by rintro rfl;rw [ed]at hpl;cases hpl
  refine cmap ts _ (λ_=>.D (.bool true)) (fun τ=>∃o,τ=[o,some (.R d)]) ⟨none,rfl⟩ Ac (seven (by omega)) (λ_=>Aq (by rw [Ad n1,Ad n1];exact e0)) ?_ ?_
  ·rintro i x τ' acc W hi ⟨o,rfl⟩ hW
   have hx:=hval x (List.mem_of_getElem? hi)
   refine Ab (x:=MO.dk kvs) (by rw [Ad n2,Ad n2];exact ed) (Ab (x:=Dd kvs (.inr (Db g x))) rfl ?_)
   rw [hx]
   exact hW _ ⟨_,rfl⟩
  ·dsimp only [Xm]
   refine Mr (g:=λ_=>true) Ac ?_
   rw [show(ts.all λ_=>true)=true by simp]
   exact Hj rfl (hZ _ _ ⟨rfl,(Sub.refl.new hpl).new hpl⟩)
 rintro τ μ1 ⟨rfl,S1⟩
 have e1:=S1 _ _ e0
 have d1:=S1 _ _ ed
 refine Ab (Aq e1) λpl hpl=>?_
 have n1:q0≠pl:=by rintro rfl;rw [e1]at hpl;cases hpl
 have n2:d≠pl:=by rintro rfl;rw [d1]at hpl;cases hpl
 refine cmap ts _ E9 (fun τ=>∃o,τ=[o,some (.R d)]) ⟨none,rfl⟩ Ac (seven (by omega)) (λ_=>Aq (by rw [Ad n1,Ad n1];exact e1)) ?_ ?_
 ·rintro i x τ' acc W hi ⟨o,rfl⟩ hW
  have hx:=hval x (List.mem_of_getElem? hi)
  exact Ab (x:=MO.dk kvs) (by rw [Ad n2,Ad n2];exact d1) (Ab (x:=Dd kvs (.inr (Db g x))) rfl (Ab hx (hW _ ⟨_,rfl⟩)))
 ·exact Ab (Aq Ac) (Ab (Gq ts) ⟨_,Sub.refl,q _ ((S1.new (S1.none hpl)).new (S1.none hpl))⟩)
theorem Qhb:("ends" : Str) ≠ "arrow" := by decide +kernel
theorem N3(ws:List Str)(n:Nat):D8 (ws.map Aj) (some (n:Int)) none=(ws.drop n).map Aj:=Kw Aj ws n
abbrev nRr:List Str:=["words","stands","letters","targets"]
theorem Qhc:FnScope nRr ["words","stands","letters"] (Ah sRr):=⟨rfl,rfl,rfl,by decide +kernel,rfl,by decide +kernel,by decide +kernel⟩
def Qhd:ASp:=λxs μ R=>∃(q d e:Addr) (ws:List Str),xs=[.R q,.R d,.R e]/\μ q=some (.lst (ws.map Aj))/\((∃r,ws=("ends" : Str) :: r/\R (.D .none) μ)\/∃(g:Gam) (m:Nat) (a:Arw),ws=C4 g a/\He μ d (Jq g m)/\He μ e g.le/\a.p < g.pl.length+m/\a.x < g.le.length/\a.c=none/\(∀t∈a.ts,t < g.pl.length+m)/\a.ts.length<=20/\∀ μ',Sub μ μ'->R (.D (Bm a)) μ')
theorem Qhe{n:Nat}(F:Fun K "read_arrow" "read_arrow" sRr f fd) (cRt:VCal P w K mg base n "read_stands" ["words","stands"] Qdb) (m_len:mg "len" = none):FnOk P w K mg base Fb (n+1) f fd ["words","stands","letters"] (Hm K 3 Qhd):=by
 refine F.vok Qhc λcdv A outer s H E hr=>⟨_,(Ag (B1 (VW.pt (Ey (Bg Mm (Aw Cc rfl m_len PySem.boot_len (Aa (vv 0) Ae)) Af (nomark _)) (Ey (Bg Qx (An Az (vv 0) Af) Bh (nomark _)) (Ex (Bg Qx (An Az (vv 0) Af) Bh (nomark _)))))) (Ai (A8 Dx)) Be)
   (Ag (Au (i:=3) Qhc.nd rfl (Or.inl rfl) (Ak cRt hr rfl (Aa (Ch (vv 0) (Cp Af) C5) (Aa (vv 1) Ae))))
   (Ag (B1 (VW.pt (Ey (Kd (Ik hr) (An Az (vv 0) Af) (vv 1)) (Ey (Kd (Ik hr) (An Az (vv 0) Af) (vv 2)) (Ex (Bg Ml (vv 3) Dx (nomark _)))))) (Ai (A8 Dx)) Be)
   (Ai (A8 (Cr (Aa (Ll (Ik hr) (vv 1) (An Az (vv 0) Af)) (Aa (Ll (Ik hr) (vv 2) (An Az (vv 0) Af)) (Aa (vv 3) Ae))))))))),?_⟩
 rintro xs μ R _ ⟨q0,d,e,ws,rfl,e0,hh⟩
 rcases hh with⟨r,rfl,q⟩ | ⟨g,m,a,rfl,hd,he,hp,hx,hc,hts,htl,q⟩
 ·refine Ab e0 (dif (λc=>Gs rfl ⟨_,Sub.refl,q⟩) (λc=>?_))
  refine Ab e0 (Ab (x:=Aj "ends") (Al (j:=0) rfl) (Gs ?_ (Gs rfl ⟨_,Sub.refl,q⟩)))
  rw [decide_eq_false Qhb];rfl
 ·have hlen:((C4 g a).map Aj).length=4+a.ts.length:=by
   unfold C4
   rw [List.length_map,List.length_append,List.length_map];rfl
  have hg:∀{k:Nat} {z:Str},(Sy g a)[k]?=some z->atI ((C4 g a).map Aj) (k:Int)=some (Aj z):=λ{k z} hz=>Al (by
   rw [List.getElem?_map]
   unfold C4
   rw [List.getElem?_append_left (List.getElem?_eq_some_iff.mp hz).1,hz];rfl)
  have g0:=hg (k:=0) (z := "arrow") rfl
  have g1:=hg (k:=1) (z:=Db g a.p) rfl
  have g2:=hg (k:=2) (z:=V9 g a.x) rfl
  have g3:=hg (k:=3) (z := ":") rfl
  refine Av (fun τ μ'=>τ=[some (.R q0),some (.R d),some (.R e),none]/\μ=μ') (λZ hZ=>?_) ?_
  ·refine Ab e0 (dif (λc=>absurd c (by rw [hlen];omega)) (λc=>?_))
   refine Ab e0 (Ab g0 (Hj (by rw [decide_eq_true rfl];rfl) ?_))
   exact Ab e0 (Ab g3 (Hj (by rw [decide_eq_true rfl];rfl) (hZ _ _ ⟨rfl,rfl⟩)))
  rintro τ _ ⟨rfl,rfl⟩
  refine Av (fun τ μ'=>τ=[some (.R q0),some (.R d),some (.R e),some (.D (B0 a.ts))]/\Sub μ μ') (λZ hZ=>?_) ?_
  ·refine Ab (Aq e0) λp hp=>?_
   have S1:Sub μ (Ar μ p (.lst (D8 ((C4 g a).map Aj) (some 4) none))):=Sub.refl.new hp
   refine⟨p,d,g,m,a.ts,rfl,?_,hd.sub S1,hts,htl,fun μ2 S2=>hZ _ _ ⟨rfl,λb mm h=>S2 b mm (S1 b mm h)⟩⟩
   rw [Ac,show D8 ((C4 g a).map Aj) (some 4) none=((C4 g a).drop 4).map Aj from N3 _ 4]
   rfl
  rintro τ μ1 ⟨rfl,S1⟩
  obtain⟨kd,ed,vd⟩:=hd.sub S1
  obtain⟨ke,ee,ve⟩:=he.sub S1
  have x1:Dd kd (.inr (Db g a.p))=some (.D (.int (a.p:Nat))):=vd a.p _ (Lz hp)
  have x2:Dd ke (.inr (V9 g a.x))=some (.D (.int (a.x:Nat))):=ve a.x _ (by
   unfold V9
   rw [List.getD_eq_getElem?_getD,List.getElem?_eq_getElem hx];rfl)
  have e1:=S1 _ _ e0
  refine Av (fun τ μ'=>τ=[some (.R q0),some (.R d),some (.R e),some (.D (B0 a.ts))]/\μ1=μ') (λZ hZ=>?_) ?_
  ·refine Ab e1 (Ab g1 (Ab ed (Ab (x:=Dd kd (.inr (Db g a.p))) rfl (Hj (by rw [x1];rfl) (Ab e1 (Ab g2 (Ab ee (Ab (x:=Dd ke (.inr (V9 g a.x))) rfl (Hj (by rw [x2];rfl) ?_)))))))))
   exact Hj rfl (hZ _ _ ⟨rfl,rfl⟩)
  rintro τ _ ⟨rfl,rfl⟩
  refine Ab e1 (Ab g1 (Ab ed (Ab (x:=Dd kd (.inr (Db g a.p))) rfl (Ab x1 (Ab e1 (Ab g2 (Ab ee (Ab (x:=Dd ke (.inr (V9 g a.x))) rfl (Ab x2 ⟨_,Sub.refl,?_⟩)))))))))
  have:=q _ S1
  unfold Bm Pa at this
  rw [hc]at this
  exact this
end
section
variable {P:Program}{w:World}{K:PySem.W.Frag}{mg:Str->Option Value}{base:Heap}{f:Addr}{fd:FuncData}
def Hf(kn:Addr)(μ μ':M):Prop:=∀b m,b≠kn->μ b=some m->μ' b=some m
theorem Hf.refl{kn:Addr}{μ:M}:Hf kn μ μ:=λ_ _ _ h=>h
theorem Hf.k{kn:Addr}{μ ν:M}{o:MO}(h:Hf kn μ ν):Hf kn μ (Ar ν kn o):=λb m h1 q=>by rw [Ad h1];exact h b m h1 q
theorem We{g:Gam}{m:Nat}(hn:(g.pl.map (·.1)).Nodup)(hl:∀z∈g.pl.map (·.1),lets z)(hm:m<=2):(Jq g m).Nodup:=by
 unfold Jq
 refine List.nodup_append.mpr ⟨hn,?_,λa ha b hb e=>?_⟩
 ·refine(List.pairwise_map.mpr ?_:List.Nodup _)
  refine List.Pairwise.imp_of_mem (λ{a b} ha hb hab e=>?_) List.pairwise_lt_range
  have h1:=List.mem_range.mp ha
  have h2:=List.mem_range.mp hb
  exact absurd e ((by decide +kernel:∀i j:Fin 3,i≠j->toS ((i.val+1:Nat):Int)≠toS ((j.val+1:Nat):Int)) ⟨a,by omega⟩ ⟨b,by omega⟩ (by intro h;have:=Fin.mk.inj h;omega))
 ·subst e
  obtain⟨k,hk,rfl⟩:=List.mem_map.mp hb
  have hk:=List.mem_range.mp hk
  have h2:∀i:Fin 3,∃c∈(toS ((i.val+1:Nat):Int)).cps.toList,c < 97:=by decide +kernel
  obtain⟨c,hc,hlt⟩:=h2 ⟨k,by omega⟩
  have:=hl _ ha c hc
  omega
abbrev nRe:List Str:=["game","many","words","ends"]
theorem Qhf:FnScope nRe ["game","many","words"] (Ah sRe):=⟨rfl,rfl,rfl,by decide +kernel,rfl,by decide +kernel,by decide +kernel⟩
def Qhg:ASp:=λxs μ R=>∃(g:Gam) (s:Say) (q:Addr),xs=[.D (Bq g),.D (.int s.own),.R q]/\TxIn g s/\μ q=some (.lst ((N5++s.es.map (Db g)).map Aj))/\∀ μ',Sub μ μ'->R (.D (B0 s.es)) μ'
theorem Q9{g:Gam}{m:Nat}:(Jq g m).length=g.pl.length+m:=by
 unfold Jq
 rw [List.length_append,List.length_map,List.length_map,List.length_range]
theorem Qhh{n:Nat}(F:Fun K "read_ends" "read_ends" sRe f fd) (cAe:VCal P w K mg base n "are_ends" ["game","many","ends"] Qg0) (cNn:VCal P w K mg base n "numbers_by_name" ["names"] Qc7) (cRt:VCal P w K mg base n "read_stands" ["words","stands"] Qdb) (cSd:VCal P w K mg base n "stand_words" ["game","many"] Y0):FnOk P w K mg base Fb (n+1) f fd ["game","many","words"] (Hm K 3 Qhg):=by
 refine F.vok Qhf λcdv A outer s H E hr=>⟨_,(Ag (Au (i:=3) Qhf.nd rfl (Or.inl rfl) (Ak cRt hr rfl (Aa (Ch (vv 2) (Cp Af) C5) (Aa (Ak cNn hr rfl (Aa (Ak cSd hr rfl (Aa (vv 0) (Aa (vv 1) Ae))) Ae)) Ae))))
   (Ag (B1 (VW.pt (Ey (Bg Qx (An Az (vv 2) Af) Bh (nomark _)) (Ey (Bg Ml (vv 3) Dx (nomark _)) (Ex (Ej (Dj (Ak cAe hr rfl (Aa (vv 0) (Aa (vv 1) (Aa (vv 3) Ae)))))))))) (Ai (A8 Dx)) Be)
   (Ai (A8 (vv 3))))),?_⟩
 rintro xs μ R _ ⟨g,s,q0,rfl,h,e0,q⟩
 have ho:=h.sa.o
 have hp:=h.p1
 have he:=h.en
 have hlt:∀e∈s.es,e < g.pl.length+s.own:=λe he=>List.mem_range.mp (h.sa.e.subset he)
 refine Av (fun τ μ'=>τ=[some (.D (Bq g)),some (.D (.int s.own)),some (.R q0),some (.D (B0 s.es))]/\Sub μ μ') (λZ hZ=>?_) ?_
 ·refine Ab (Aq e0) λp hp'=>?_
  have S1:Sub μ (Ar μ p (.lst (D8 ((N5++s.es.map (Db g)).map Aj) (some 1) none))):=Sub.refl.new hp'
  refine⟨g,s.own,rfl,hp,by omega,λp2 μ2 _ e2 S2=>⟨.R p2,Jq g s.own,rfl,Aq e2,We h.pn.nd h.pn.l ho,by rw [Q9];omega,λd μ3 _ D3 S3=>⟨p,d,g,s.own,s.es,rfl,S3 _ _ (S2 _ _ ?_),D3,hlt,by omega,fun μ4 S4=>hZ _ _ ⟨rfl,λb m hb=>S4 b m (S3 b m (S2 b m (S1 b m hb)))⟩⟩⟩⟩
  rw [Ac,show D8 ((N5++s.es.map (Db g)).map Aj) (some 1) none=((N5++s.es.map (Db g)).drop 1).map Aj from N3 _ 1]
  rfl
 rintro τ μ1 ⟨rfl,S1⟩
 have e1:=S1 _ _ e0
 refine Av (fun τ μ'=>τ=[some (.D (Bq g)),some (.D (.int s.own)),some (.R q0),some (.D (B0 s.es))]/\Sub μ μ') (λZ hZ=>?_) (fun τ μ' ⟨e,S⟩=>by subst e;exact⟨_,Sub.refl,q _ S⟩)
 refine Ab e1 (Ab (x:=Aj "ends") (Al (j:=0) rfl) (Hj (by rw [decide_eq_true rfl];rfl) (Hj rfl ⟨g,s.own,s.es,rfl,by omega,hlt,List.pairwise_lt_range.sublist h.sa.e,fun μ2 S2=>Hj rfl (hZ _ _ ⟨rfl,λb m hb=>S2 b m (S1 b m hb)⟩)⟩)))
abbrev nRa:List Str:=["game","many","rows","stands","letters","arrows","words","arrow"]
theorem Ss:FnScope nRa ["game","many","rows"] (Ah sRa):=⟨rfl,rfl,rfl,by decide +kernel,rfl,by decide +kernel,by decide +kernel⟩
def Kz(g:Gam)(s:Say):List (List Str):=s.as.map (C4 g)++[N5++s.es.map (Db g)]
def Qhi:ASp:=λxs μ R=>∃(g:Gam) (s:Say) (p:Addr) (qs:List Addr),xs=[.D (Bq g),.D (.int s.own),.R p]/\TxIn g s/\μ p=some (.lst (qs.map .R))/\RowsAt μ p qs (Kz g s)/\∀pa μ',μ' pa=some (.lst (s.as.map λa=>.D (Bm a)))->Sub μ μ'->R (.R pa) μ'
theorem Qhj{n:Nat}{t2:Tok}(F:Fun K "read_arrows" "read_arrows" sRa f fd) (cMb:VCal P w K mg base n "may_stand_behind" ["game","many","ahead","arrow"] Qg2) (cNn:VCal P w K mg base n "numbers_by_name" ["names"] Qc7) (cRr:VCal P w K mg base n "read_arrow" ["words","stands","letters"] Qhd) (cSd:VCal P w K mg base n "stand_words" ["game","many"] Y0) (mMA:mg "MOST_ARROWS" = some (.int 8 t2)):FnOk P w K mg base Fb (n+1) f fd ["game","many","rows"] (Hm K 3 Qhi):=by
 refine F.vok Ss λcdv A outer s H E hr=>⟨_,(Ag (Au (i:=3) Ss.nd rfl (Or.inl rfl) (Ak cNn hr rfl (Aa (Ak cSd hr rfl (Aa (vv 0) (Aa (vv 1) Ae))) Ae)))
   (Ag (Au (i:=4) Ss.nd rfl (Or.inl rfl) (Ak cNn hr rfl (Aa (An Az (vv 0) Af) Ae)))
   (Ag (Au (i:=5) Ss.nd rfl (Or.inl rfl) (Ca Ae))
   (Ag (El PassesOwn.never rfl (B2 (Ch (vv 2) C5 (Cp (Pr rfl mMA (v:=.int 8) ⟨_,rfl⟩ (λ_=>Dh))))) (Ap (i:=6) Ss.nd rfl (Or.inl rfl)) (Ag (Au (i:=7) Ss.nd rfl (Or.inl rfl) (Ak cRr hr rfl (Aa (vv 6) (Aa (vv 3) (Aa (vv 4) Ae)))))
   (Ag (B1 (VW.pt (Ey (Bg Ml (vv 7) Dx (nomark _)) (Ex (Ej (Dj (Ak cMb hr rfl (Aa (vv 0) (Aa (vv 1) (Aa (vv 5) (Aa (vv 7) Ae)))))))))) (Ai Uh) Be)
   (Ai (Dp (Hk PySem.F.slot_list_append PySem.F.type_list_append C7 (vv 5) (Aa (vv 7) Ae)))))))
   (Ai (A8 (vv 5))))))),?_⟩
 rintro xs μ R _ ⟨g,S,p,qs,rfl,h,ep,hA,q⟩
 have ho:=h.sa.o
 have hp1:=h.p1
 have hl1:=h.l1
 have hsh:=h.sh
 have hn:=h.sa.n
 have hle:∀ μ:M,items μ (.D (.tuple (g.le.map PyData.str)))=some (g.le.map Aj):=fun μ=>by
  show some ((g.le.map PyData.str).map AV.D)=_
  rw [List.map_map];rfl
 refine Av (fun τ μ'=>∃d,τ=[some (.D (Bq g)),some (.D (.int S.own)),some (.R p),some (.R d),none,none,none,none]/\He μ' d (Jq g S.own)/\Sub μ μ') (λZ hZ=>?_) ?_
 ·exact⟨g,S.own,rfl,hp1,by omega,λp2 μ2 _ e2 S2=>⟨.R p2,Jq g S.own,rfl,Aq e2,We h.pn.nd h.pn.l ho,by rw [Q9];omega,λd μ3 _ D3 S3=>hZ _ _ ⟨d,rfl,D3,λb m hb=>S3 b m (S2 b m hb)⟩⟩⟩
 rintro τ μ1 ⟨d,rfl,D1,S1⟩
 refine Av (fun τ μ'=>∃e,τ=[some (.D (Bq g)),some (.D (.int S.own)),some (.R p),some (.R d),some (.R e),none,none,none]/\He μ' d (Jq g S.own)/\He μ' e g.le/\Sub μ μ') (λZ hZ=>?_) ?_
 ·exact Ab (Al (j:=1) rfl) ⟨_,g.le,rfl,hle _,h.ln.nd,by omega,λe μ3 _ E3 S3=>hZ _ _ ⟨e,rfl,D1.sub S3,E3,λb m hb=>S3 b m (S1 b m hb)⟩⟩
 rintro τ μ2 ⟨e,rfl,D2,E2,S2⟩
 refine Hn λpa hpa=>?_
 have hpa0:=S2.none hpa
 have S3:=S2.new (m:=.lst []) hpa0
 have T3:Sub μ2 (Ar μ2 pa (.lst [])):=Sub.refl.new hpa
 have D3:=D2.sub T3
 have E3:=E2.sub T3
 refine Av (fun τ μ'=>∃o6 o7,τ=[some (.D (Bq g)),some (.D (.int S.own)),some (.R p),some (.R d),some (.R e),some (.R pa),o6,o7]/\μ' pa=some (.lst (S.as.map λa=>.D (Bm a)))/\Sub μ μ') (λZ hZ=>?_) (fun τ μ' ⟨o6,o7,et,ea,S⟩=>by subst et;exact⟨_,Sub.refl,q pa _ ea S⟩)
 refine Ab (Aq (S3 _ _ ep)) λp8 hp8=>?_
 have n8:pa≠p8:=by rintro rfl;rw [Ac]at hp8;cases hp8
 have ecut:D8 (qs.map .R) none (some 8)=(qs.take 8).map .R:=Kv AV.R qs 8
 rw [ecut]
 refine Ab (Aq Ac) ?_
 have S4:=S3.new (m:=.lst ((qs.take 8).map .R)) (S3.none hp8)
 have T4:Sub (Ar μ2 pa (.lst [])) (Ar (Ar μ2 pa (.lst [])) p8 (.lst ((qs.take 8).map .R))):=Sub.refl.new hp8
 have D4:=D3.sub T4
 have E4:=E3.sub T4
 have a4:Ar (Ar μ2 pa (.lst [])) p8 (.lst ((qs.take 8).map .R)) pa=some (.lst []):=by rw [Ad n8];exact Ac
 have l4:Ar (Ar μ2 pa (.lst [])) p8 (.lst ((qs.take 8).map .R)) p8=some (.lst ((qs.take 8).map .R)):=Ac
 generalize Ar (Ar μ2 pa (.lst [])) p8 (.lst ((qs.take 8).map .R))=μ4 at S4 D4 E4 a4 l4
 have hql:qs.length=S.as.length+1:=by
  rw [hA.n];unfold Kz;rw [List.length_append,List.length_map];rfl
 have hLen:((qs.take 8).map AV.R).length=min 8 qs.length:=by rw [List.length_map,List.length_take]
 have keep:∀{μ':M},Hf pa μ4 μ'->Sub μ μ':=λ{μ'} X b m hb=>X b m (by rintro rfl;rw [hpa0]at hb;cases hb) (S4 b m hb)
 have dk:∀{μ':M} {x:Addr} {zs:List Str},He μ4 x zs->Hf pa μ4 μ'->He μ' x zs:=λ{μ' x zs} D X=>by
  obtain⟨kvs,ek,hv⟩:=D
  refine⟨kvs,X x _ ?_ ek,hv⟩
  rintro rfl
  rw [a4]at ek;cases ek
 refine Gf (λi τ μ'=>∃o6 o7,τ=[some (.D (Bq g)),some (.D (.int S.own)),some (.R p),some (.R d),some (.R e),some (.R pa),o6,o7]/\i<=S.as.length/\μ' pa=some (.lst ((S.as.take i).map λa=>.D (Bm a)))/\Hf pa μ4 μ') ⟨none,none,rfl,Nat.zero_le _,a4,Hf.refl⟩ (λ_ _ _ ⟨_,_,_,_,_,X⟩=>Aq (X _ _ n8.symm l4)) ?_ ?_
 ·rintro i y τ μ5 Z2 hy ⟨o6,o7,rfl,hi,a5,X5⟩ hZ2
  have hi8:=(List.getElem?_eq_some_iff.mp hy).1
  rw [hLen]at hi8
  rw [List.getElem?_map]at hy
  obtain⟨qi,hqi,rfl⟩:=Option.map_eq_some_iff.mp hy
  rw [List.getElem?_take,if_pos (by omega)]at hqi
  by_cases hlt:i < S.as.length
  ·
   have ha:=List.getElem?_eq_getElem hlt
   generalize S.as[i]=a at ha
   have hm:=List.mem_of_getElem? ha
   have hrow:(Kz g S)[i]?=some (C4 g a):=by
    unfold Kz
    rw [List.getElem?_append_left (by rw [List.length_map];exact hlt),List.getElem?_map,ha];rfl
   have eq5:=keep X5 _ _ (hA.a i qi _ hqi hrow)
   have hatn:=h.tn hm
   refine Av (fun τ μ'=>τ=[some (.D (Bq g)),some (.D (.int S.own)),some (.R p),some (.R d),some (.R e),some (.R pa),some (.R qi),some (.D (Bm a))]/\μ' pa=some (.lst ((S.as.take i).map λa=>.D (Bm a)))/\Hf pa μ4 μ') (λZ3 hZ3=>?_) ?_
   ·exact⟨qi,d,e,C4 g a,rfl,eq5,.inr ⟨g,S.own,a,rfl,dk D4 X5,dk E4 X5,hsh.p a hm,hsh.x a hm,h.c hm,hsh.t a hm,by omega,fun μ6 S6=>hZ3 _ _ ⟨rfl,S6 _ _ a5,λb m hb hb2=>S6 b m (X5 b m hb hb2)⟩⟩⟩
   rintro τ μ6 ⟨rfl,a6,X6⟩
   have hso:∀b∈S.as.take i,b.c=none/\Fj (Bm b) (Bm a)=true:=λb hb=>by
    refine⟨h.c (List.mem_of_mem_take hb),?_⟩
    obtain⟨j,hj⟩:=List.mem_iff_getElem?.mp hb
    have hj2:j < i:=by
     have:=(List.getElem?_eq_some_iff.mp hj).1
     rw [List.length_take]at this;omega
    rw [List.getElem?_take,if_pos hj2]at hj
    have hp:=List.pairwise_iff_getElem.mp h.sa.so j i (by rw [List.length_map];omega) (by rw [List.length_map];omega) hj2
    rw [List.getElem_map,List.getElem_map]at hp
    obtain⟨_,e1⟩:=List.getElem?_eq_some_iff.mp hj
    obtain⟨_,e2⟩:=List.getElem?_eq_some_iff.mp ha
    rw [<- e1,<- e2];exact hp
   refine Av (fun τ μ'=>τ=[some (.D (Bq g)),some (.D (.int S.own)),some (.R p),some (.R d),some (.R e),some (.R pa),some (.R qi),some (.D (Bm a))]/\μ' pa=some (.lst ((S.as.take i).map λa=>.D (Bm a)))/\Hf pa μ4 μ') (λZ3 hZ3=>?_) ?_
   ·exact Hj rfl ⟨g,S.own,pa,S.as.take i,a,rfl,a6,hsh.p a hm,hsh.x a hm,h.c hm,by omega,(h.sa.a a hm).t,(List.pairwise_lt_range' (step:=1)).sublist (h.sa.su a hm),hso,fun μ7 S7=>Hj rfl (hZ3 _ _ ⟨rfl,S7 _ _ a6,λb m hb hb2=>S7 b m (X6 b m hb hb2)⟩)⟩
   rintro τ μ7 ⟨rfl,a7,X7⟩
   have htk:S.as.take (i+1)=S.as.take i++[a]:=by rw [List.take_succ,ha];rfl
   refine⟨Ab a7 trivial,Ab a7 ⟨A5 (by rw [List.length_map,List.length_take];omega),hZ2 _ _ ⟨_,_,rfl,by omega,?_,X7.k⟩⟩⟩
   rw [Ac,htk,List.map_append];rfl
  ·
   have hie:i=S.as.length:=by omega
   have hrow:(Kz g S)[i]?=some (N5++S.es.map (Db g)):=by
    unfold Kz
    rw [List.getElem?_append_right (by rw [List.length_map];omega),List.length_map,hie,Nat.sub_self];rfl
   have eq5:=keep X5 _ _ (hA.a i qi _ hqi hrow)
   refine⟨qi,d,e,N5++S.es.map (Db g),rfl,eq5,.inl ⟨S.es.map (Db g),rfl,?_⟩⟩
   refine Gs rfl (Gs rfl (hZ _ _ ⟨_,_,rfl,?_,keep X5⟩))
   rw [hie,List.take_length]at a5
   exact a5
 ·rintro τ μ5 ⟨o6,o7,rfl,hi,a5,X5⟩
  rw [hLen]at hi a5
  have:min 8 qs.length=S.as.length:=by omega
  rw [this,List.take_length]at a5
  exact hZ _ _ ⟨_,_,rfl,a5,keep X5⟩
end
section
variable {P:Program}{w:World}{K:PySem.W.Frag}{mg:Str->Option Value}{base:Heap}{f:Addr}{fd:FuncData}
theorem nl0:(("\n" : Str).length==0)=false/\((" " : Str).length==0)=false:=by decide +kernel
theorem TxIn.fit{g:Gam}{s:Say}(h:TxIn g s):(Txt.join "\n" ((Bo g s).map (Txt.join " "))).length<=1000000:=by
 have a:=StrLaws.join_length_le "\n" ((Bo g s).map (Txt.join " "))
 have b:=StrLaws.sumLen_le (B:=280) ((Bo g s).map (Txt.join " ")) λz hz=>by
  obtain⟨ws,hws,rfl⟩:=List.mem_map.mp hz
  exact L0 (Jo h.sh ws hws)
 rw [Pe.2]at a
 rw [List.length_map,L1]at a b
 have:=h.sa.n
 rw [Ia]
 omega
theorem RowsAt.tl{μ:M}{pr p:Addr}{qs:List Addr}{r:List Str}{t:List (List Str)}{o:MO}(h:RowsAt μ pr qs (r :: t))(hp:μ p=none):RowsAt (Ar μ p o) p (qs.drop 1) t:=by
 have hn:=h.n
 have ha:∀(j:Nat) (q:Addr) (ws:List Str),(qs.drop 1)[j]?=some q->t[j]?=some ws->μ q=some (.lst (ws.map Aj)):=λj q ws e1 e2=>by
  rw [List.getElem?_drop]at e1
  exact h.a (1+j) q ws e1 (by rw [Nat.add_comm];exact e2)
 have hmem:∀q∈qs.drop 1,∃m,μ q=some m:=λq hq=>by
  obtain⟨j,hj⟩:=List.mem_iff_getElem?.mp hq
  have hj2:j < t.length:=by
   have:=(List.getElem?_eq_some_iff.mp hj).1
   rw [List.length_drop]at this
   rw [List.length_cons]at hn;omega
  exact⟨_,ha j q _ hj (List.getElem?_eq_getElem hj2)⟩
 refine⟨by rw [List.length_drop,hn,List.length_cons];omega,λj q ws e1 e2=>?_,λhm=>?_⟩
 ·have:=ha j q ws e1 e2
  rw [Ad (by rintro rfl;rw [hp]at this;cases this)];exact this
 ·obtain⟨m,e⟩:=hmem p hm
  rw [hp]at e;cases e
abbrev nRs:List Str:=["game","text","rows","many","arrows","at","ends"]
theorem Su:FnScope nRs ["game","text"] (Ah sRs):=⟨rfl,rfl,rfl,by decide +kernel,rfl,by decide +kernel,by decide +kernel⟩
theorem Qhk:(["row"]:List Str).Nodup:=by decide +kernel
def Qhl:ASp:=λxs μ R=>∃(g:Gam) (s:Say),xs=[.D (Bq g),.D (.str (Txt.join "\n" ((Bo g s).map (Txt.join " "))))]/\TxIn g s/\∀ μ',Sub μ μ'->R (.D (Eg s)) μ'
theorem Qhm{n:Nat}(F:Fun K "read_saying" "read_saying" sRs f fd) (cRa:VCal P w K mg base n "read_arrows" ["game","many","rows"] Qhi) (cRe:VCal P w K mg base n "read_ends" ["game","many","words"] Qhg) (cRo:VCal P w K mg base n "read_own" ["words"] Qg6) (m_len:mg "len" = none) (m_tuple:mg "tuple" = none):FnOk P w K mg base Fb (n+1) f fd ["game","text"] (Hm K 2 Qhl):=by
 refine F.vok Su λcdv A outer s H E hr=>⟨_,(Ag (Py (i:=2) (N':=["row"]) (mp:=[none]) rfl Su.nd rfl rfl (B2 (Hl PySem.F.slot_str_split PySem.F.type_str_split Q0 (vv 1) (Aa Bh Ae))) (λ_ _ _ _=>(Ap (i:=0) Qhk rfl (Or.inl rfl) (Or.inr rfl))) (λ_ _ _ _=>Bk) (λ_ _ _ _=>(Hl PySem.F.slot_str_split PySem.F.type_str_split Q0 (vv 0) (Aa Bh Ae))) (Ay (N:=nRs) (pn:=(Ah sRs).names) (by decide +kernel)))
   (Ag (Au (i:=3) Su.nd rfl (Or.inl rfl) (Ak cRo hr rfl (Aa (An Az (vv 2) Af) Ae)))
   (Ag (B1 (Bg Ml (vv 3) Dx (nomark _)) (Ai Ge) Be)
   (Ag (Au (i:=4) Su.nd rfl (Or.inl rfl) (Ak cRa hr rfl (Aa (vv 0) (Aa (vv 3) (Aa (Ch (vv 2) (Cp Af) C5) Ae)))))
   (Ag (Au (i:=5) Su.nd rfl (Or.inl rfl) (A0 Br Af (Aw Cc rfl m_len PySem.boot_len (Aa (vv 4) Ae))))
   (Ag (B1 (Bg (Hs hr) (vv 5) (Aw Cc rfl m_len PySem.boot_len (Aa (vv 2) Ae)) (nomark _)) (Ai Ge) Be)
   (Ag (Au (i:=6) Su.nd rfl (Or.inl rfl) (Ak cRe hr rfl (Aa (vv 0) (Aa (vv 3) (Aa (An Az (vv 2) (vv 5)) Ae)))))
   (Ag (B1 (Bg Ml (vv 6) Dx (nomark _)) (Ai Ge) Be)
   (Ag (B1 (Bg Mm (A0 Br (vv 5) Af) (Aw Cc rfl m_len PySem.boot_len (Aa (vv 2) Ae)) (nomark _)) (Ai Ge) Be)
   (Ai (A8 (Cr (Aa (vv 3) (Aa (Bi Cv rfl m_tuple PyProof.Rows.boot_tuple (Aa (vv 4) Ae)) (Aa (vv 6) Ae))))))))))))))),?_⟩
 rintro xs μ R _ ⟨g,S,rfl,h,q⟩
 have hrn:(Bo g S).length=S.as.length+2:=L1
 have hn:=h.sa.n
 have hsp:=Pf (rws:=Bo g S) (by unfold Bo;exact List.cons_ne_nil _ _) h.rows
 have hfit:=h.fit
 generalize hT:Txt.join "\n" ((Bo g S).map (Txt.join " "))=T at hsp hfit
 refine Av (fun τ μ'=>∃pr qs,τ=[some (.D (Bq g)),some (.D (.str T)),some (.R pr),none,none,none,none]/\μ' pr=some (.lst (qs.map .R))/\RowsAt μ' pr qs (Bo g S)/\Sub μ μ') (λZ hZ=>?_) ?_
 ·refine⟨trivial,nl0.1,hfit,λp1 hp1=>?_⟩
  rw [hsp]
  refine Ab (Aq Ac) λpr hpr=>?_
  have n1:p1≠pr:=by rintro rfl;rw [Ac]at hpr;cases hpr
  have S1:Sub μ (Ar μ p1 (.lst (((Bo g S).map (Txt.join " ")).map λw=>.D (.str w)))):=Sub.refl.new hp1
  have e1:Ar μ p1 (.lst (((Bo g S).map (Txt.join " ")).map λw=>.D (.str w))) p1=some (.lst (((Bo g S).map (Txt.join " ")).map λw=>.D (.str w))):=Ac
  generalize Ar μ p1 (.lst (((Bo g S).map (Txt.join " ")).map λw=>.D (.str w)))=μ1 at S1 e1 hpr
  have hpr0:=S1.none hpr
  refine C0 (λi acc τ μ'=>∃o qs,τ=[o]/\acc=qs.map .R/\μ' pr=some (.lst acc)/\RowsAt μ' pr qs ((Bo g S).take i)/\Hf pr μ1 μ') ⟨none,[],rfl,rfl,Ac,⟨rfl,(λj q ws e=>by simp at e),(λz=>nomatch z)⟩,Hf.refl.k⟩ (λ_ _ _ _ ⟨_,_,_,_,_,_,X⟩=>Aq (X _ _ n1 e1)) ?_ ?_
  ·rintro i y acc τ μ2 W hy ⟨o,qs,rfl,rfl,r2,A2,X2⟩ hW
   have hi:=(List.getElem?_eq_some_iff.mp hy).1
   rw [List.length_map,List.length_map]at hi
   rw [List.getElem?_map,List.getElem?_map,List.getElem?_eq_getElem hi]at hy
   have hy:=(Option.some.inj hy).symm
   subst hy
   have hws:=h.rows _ (List.getElem_mem hi)
   have hlen:=L0 (Jo h.sh _ (List.getElem_mem hi))
   have hspl:=Sr hws
   have htk:(Bo g S).take (i+1)=(Bo g S).take i++[(Bo g S)[i]]:=by rw [List.take_succ,List.getElem?_eq_getElem hi];rfl
   have hql:qs.length<=100:=by rw [A2.n,List.length_take];omega
   rw [htk]at hW
   generalize (Bo g S)[i]=ws at hws hlen hspl hW
   refine Gs rfl ⟨trivial,nl0.2,by omega,λq' hq'=>?_⟩
   rw [hspl]
   have k1:pr≠q':=by rintro rfl;rw [r2]at hq';cases hq'
   refine⟨by rw [Ad k1];exact r2,A5 (by rw [List.length_map];omega),hW _ _ _ ⟨_,qs++[q'],rfl,by rw [List.map_append];rfl,Ac,?_,λb m hb hb2=>?_⟩⟩
   ·have A3:RowsAt (Ar μ2 q' (.lst (ws.map Aj))) pr qs ((Bo g S).take i):=A2.sub λb hb m hm=>by
     rw [Ad (by rintro rfl;rw [hm]at hq';cases hq')];exact hm
    have A4:=A3.add (q:=q') (ws:=ws) Ac k1
    refine RowsAt.sub A4 λb hb m hm=>?_
    have hne:b≠pr:=λz=>A4.ne (z ▸ hb)
    rw [Ad hne];exact hm
   ·have h2:=X2 b m hb hb2
    have k2:b≠q':=by rintro rfl;rw [h2]at hq';cases hq'
    rw [Ad hb,Ad k2];exact h2
  ·rintro acc τ μ2 ⟨o,qs,rfl,rfl,r2,A2,X2⟩
   rw [List.length_map,List.length_map,List.take_length]at A2
   exact hZ _ _ ⟨pr,qs,rfl,r2,A2,λb m hb=>X2 b m (by rintro rfl;rw [hpr0]at hb;cases hb) (S1 b m hb)⟩
 rintro τ μ1 ⟨pr,qs,rfl,r1,A1,S1⟩
 have hql:qs.length=S.as.length+2:=by rw [A1.n,hrn]
 have hq0:∃q0,qs[0]?=some q0:=⟨qs[0]'(by omega),List.getElem?_eq_getElem (by omega)⟩
 obtain⟨q0,hq0⟩:=hq0
 have e0:μ1 q0=some (.lst ((Wd S.own).map Aj)):=A1.a 0 q0 (Wd S.own) hq0 rfl
 have hR:∀{j:Nat} {q':Addr},qs[j]?=some q'->atI (qs.map AV.R) (j:Int)=some (.R q'):=λ{j q'} hj=>Al (by rw [List.getElem?_map,hj];rfl)
 refine Av (fun τ μ'=>τ=[some (.D (Bq g)),some (.D (.str T)),some (.R pr),some (.D (.int S.own)),none,none,none]/\Sub μ1 μ') (λZ hZ=>?_) ?_
 ·exact Ab r1 (Ab (hR (j:=0) hq0) ⟨q0,S.own,rfl,e0,h.sa.o,fun μ2 S2=>hZ _ _ ⟨rfl,S2⟩⟩)
 rintro τ μ2 ⟨rfl,S2⟩
 refine Hn (Hj rfl ?_)
 have r2:=S2 _ _ r1
 have A2:RowsAt μ2 pr qs (Bo g S):=A1.sub λb _ m hm=>S2 b m hm
 refine Av (fun τ μ'=>∃pa,τ=[some (.D (Bq g)),some (.D (.str T)),some (.R pr),some (.D (.int S.own)),some (.R pa),none,none]/\μ' pa=some (.lst (S.as.map λa=>.D (Bm a)))/\Sub μ2 μ') (λZ hZ=>?_) ?_
 ·refine Ab (Aq r2) λp hp=>?_
  have A3:=A2.tl (o:=.lst (D8 (qs.map .R) (some 1) none)) hp
  have S3:Sub μ2 (Ar μ2 p (.lst (D8 (qs.map .R) (some 1) none))):=Sub.refl.new hp
  refine⟨g,S,p,qs.drop 1,rfl,h,?_,A3,λpa μ3 ea S4=>hZ _ _ ⟨pa,rfl,ea,λb m hb=>S4 b m (S3 b m hb)⟩⟩
  rw [Ac,show D8 (qs.map .R) (some 1) none=(qs.drop 1).map .R from Kw AV.R qs 1]
 rintro τ μ3 ⟨pa,rfl,a3,S3⟩
 have r3:=S3 _ _ r2
 refine Av (fun τ μ'=>τ=[some (.D (Bq g)),some (.D (.str T)),some (.R pr),some (.D (.int S.own)),some (.R pa),some (.D (.int ((1+S.as.length:Nat):Int))),none]/\μ3=μ') (λZ hZ=>?_) ?_
 ·refine Ab a3 (hZ _ _ ⟨?_,rfl⟩)
  rw [List.length_map];rfl
 rintro τ _ ⟨rfl,rfl⟩
 refine Hn (Ab r3 (ieq (λc=>absurd c (by rw [List.length_map];omega)) λ_=>?_))
 obtain⟨qe,hqe⟩:∃qe,qs[1+S.as.length]?=some qe:=⟨qs[1+S.as.length]'(by omega),List.getElem?_eq_getElem (by omega)⟩
 have hre:(Bo g S)[1+S.as.length]?=some (N5++S.es.map (Db g)):=by
  unfold Bo
  rw [Nat.add_comm,List.getElem?_cons_succ,List.getElem?_append_right (by rw [List.length_map];omega),List.length_map,Nat.sub_self];rfl
 have ee:=S3 _ _ (S2 _ _ (A1.a _ qe _ hqe hre))
 refine Av (fun τ μ'=>τ=[some (.D (Bq g)),some (.D (.str T)),some (.R pr),some (.D (.int S.own)),some (.R pa),some (.D (.int ((1+S.as.length:Nat):Int))),some (.D (B0 S.es))]/\Sub μ3 μ') (λZ hZ=>?_) ?_
 ·exact Ab r3 (Ab (hR hqe) ⟨g,S,qe,rfl,h,ee,fun μ4 S4=>hZ _ _ ⟨rfl,S4⟩⟩)
 rintro τ μ4 ⟨rfl,S4⟩
 refine Hn (Hj rfl ?_)
 refine Hn (Ab (S4 _ _ r3) (dif (λc=>absurd c (by rw [List.length_map];omega)) λ_=>?_))
 refine Ab (Aq (S4 _ _ a3)) (Ab (Nx S.as) ⟨_,Sub.refl,q _ λb m hb=>S4 b m (S3 b m (S2 b m (S1 b m hb)))⟩)
abbrev nRi:List Str:=["_law_game_here","_law_saying_here","_law_text"]
theorem Qhn:FnScope nRi ["_law_game_here","_law_saying_here"] (Ah sRi):=⟨rfl,rfl,rfl,by decide +kernel,rfl,by decide +kernel,by decide +kernel⟩
def Qdc:ASp:=λxs μ R=>∃(g:Gam) (s:Say),xs=[.D (Bq g),.D (Eg s)]/\TxIn g s/\∀ μ',Sub μ μ'->R (.D (.bool true)) μ'
theorem Qho{n:Nat}(F:Fun K "_law_right" "_law_right" sRi f fd) (cAl:VCal P w K mg base n "_law_alike" ["_law_found","_law_due"] (V8 4)) (cRw:VCal P w K mg base n "_law_rows" ["_law_game_here","_law_saying_here"] Qgu) (cRs:VCal P w K mg base n "read_saying" ["game","text"] Qhl) (cSh:VCal P w K mg base n "show_saying" ["game","saying"] Qgq):FnOk P w K mg base Fb (n+1) f fd ["_law_game_here","_law_saying_here"] (Hm K 2 Qdc):=by
 refine F.vok Qhn λcdv A outer s H E hr=>⟨_,(Ag (Au (i:=2) Qhn.nd rfl (Or.inl rfl) (Hl PySem.F.slot_str_join PySem.F.type_str_join G6 Bh (Aa (Ak cRw hr rfl (Aa (vv 0) (Aa (vv 1) Ae))) Ae)))
   (Ai (A8 (Fu (Ak cAl hr rfl (Aa (Ak cRs hr rfl (Aa (vv 0) (Aa (vv 2) Ae))) (Aa (vv 1) Ae))) (Ft (Ak cAl hr rfl (Aa (Ak cSh hr rfl (Aa (vv 0) (Aa (vv 1) Ae))) (Aa (vv 2) Ae)))))))),?_⟩
 rintro xs μ R _ ⟨g,S,rfl,h,q⟩
 have hn:=h.sa.n
 have hen:=h.en
 refine Av (fun τ μ'=>τ=[some (.D (Bq g)),some (.D (Eg S)),some (.D (.str (Txt.join "\n" ((Bo g S).map (Txt.join " ")))))]/\Sub μ μ') (λZ hZ=>?_) ?_
 ·exact⟨trivial,g,S,rfl,h.sh,λp μ1 e1 S1=>Ab e1 (Ab (Dn _) ⟨N0 h.sh,hZ _ _ ⟨rfl,S1⟩⟩)⟩
 rintro τ μ1 ⟨rfl,S1⟩
 refine⟨g,S,rfl,h,fun μ2 S2=>⟨_,rfl,Qc3 (by omega) (λa ha=>⟨by have:=h.tn ha;omega,h.c ha⟩) (by omega),fun μ3 S3=>Gs rfl ⟨g,S,rfl,h.sh,fun μ4 S4=>⟨_,rfl,trivial,fun μ5 S5=>⟨_,Sub.refl,q _ λb m hb=>S5 b m (S4 b m (S3 b m (S2 b m (S1 b m hb))))⟩⟩⟩⟩⟩
end
section
variable {P:Program}{w:World}{K:PySem.W.Frag}{mg:Str->Option Value}{base:Heap}{f:Addr}{fd:FuncData}
theorem Pot.sub{μ ν:M}{a l:Addr}(h:Pot μ a l)(S:Sub μ ν):Pot ν a l :=
 let⟨s1,s2,s3,ns,h⟩:=h;⟨s1,s2,s3,ns,S _ _ h.ha,S _ _ h.hl,h.n0,h.ne⟩
theorem Wf{α:Type}(g:α->AV)(xs:List α)(i n:Nat)(h:i+n<=xs.length):D8 (xs.map g) (some (i:Int)) (some ((i+n:Nat):Int))=((xs.drop i).take n).map g:=by
 unfold D8
 rw [HT.sIx_nat,HT.sIx_nat,List.length_map,Nat.min_eq_left h,Nat.min_eq_left (show i<=xs.length by omega),<- List.map_drop,<- List.map_take,Nat.add_sub_cancel_left]
theorem Qkb{a b c:PyData}{i j k:Nat}{τ:ASt}{μ:M}{R:ASt->M->Prop}(h:R (((τ.set i (some (.D a))).set j (some (.D b))).set k (some (.D c))) μ):Fn (Dq i) (Fn (Qb3 2 (Fn (Dq j) (Fn (Dq k) Ui))) Ui) (List.map AV.D [a,.tuple [b,c]]) τ μ R:=⟨rfl,h⟩
theorem Nms.sublist{xs ys:List Str}(h:Nms ys)(s:xs.Sublist ys):Nms xs:=⟨λz hz=>h.l z (s.subset hz),λz hz=>h.n z (s.subset hz),λz hz=>h.k z (s.subset hz),h.nd.sublist s⟩
theorem SayOk.cong{g g':Gam}{s:Say}(h:SayOk g s 8)(e1:g'.pl.length=g.pl.length)(e2:g'.le.length=g.le.length):SayOk g' s 8 :=
 ⟨h.o,h.n,λa ha=>by rw [e1,e2];exact h.a a ha,by rw [e1];exact h.e,h.d,λa ha=>by rw [e1];exact h.su a ha,h.so⟩
def prD(x:Gam×Say):PyData:=.tuple [Bq x.1,Eg x.2]
def L3(x:Gam×Say):AV:=.D (prD x)
def neZ(n:Str)(z:Str):Bool:=!decide (z=n)
theorem Qhp{L:List (Str×Nat)}{i:Nat}{x:AV}(h:(Eb 0 (L.map Ff))[i]?=some x):∃p,L[i]?=some p/\x=.D (.tuple [.int i,Ff p]):=by
 obtain⟨d,hd,rfl⟩:=Ec h
 rw [List.getElem?_map]at hd
 obtain⟨z,hz,rfl⟩:=Option.map_eq_some_iff.mp hd
 exact⟨z,hz,by simp⟩
abbrev Y7:List Str:=["_law_script","_law_state","_law_asked","_law_k","_law_game_here","_law_saying_here","_law_names_here","_law_places","_law_other"]
theorem Fa:FnScope Y7 ["_law_script"] (Ah Ha):=⟨rfl,rfl,rfl,by decide +kernel,rfl,by decide +kernel,by decide +kernel⟩
theorem Qdd:(["_law_name","_law_game_here"]:List Str).Nodup:=by decide +kernel
theorem Wg:(["_law_game_here","_law_saying_here"]:List Str).Nodup:=by decide +kernel
theorem Pg:(["_law_k","_law_name","_law_hand","_law_names_here"]:List Str).Nodup:=by decide +kernel
def spL:ASp:=λxs μ R=>∃(ns:List Int),xs=[.D (Hb ns)]/\ns.length<=63/\∀ μ',R (.D (.bool true)) μ'
structure GmIn(g:Gam):Prop where
 p0:0 < g.pl.length
 p1:g.pl.length<=3
 l0:0 < g.le.length
 l1:g.le.length<=3
 pn:Nms (g.pl.map (·.1))
 ln:Nms g.le
theorem Y8{n:Nat}(F:Fun K "law" "law" Ha f fd) (cGa:VCal P w K mg base n "_law_game" ["_law_state","_law_most"] Qc1) (cSa:VCal P w K mg base n "_law_saying" ["_law_state","_law_game_here","_law_most"] Qc2) (cDr:VCal P w K mg base n "_law_draw" ["_law_state","_law_many"] O8) (cNa:VCal P w K mg base n "_law_names" ["_law_state","_law_many"] Yw) (cRi:VCal P w K mg base n "_law_right" ["_law_game_here","_law_saying_here"] Qdc) (m_list:mg "list" = none) (m_range:mg "range" = none) (m_tuple:mg "tuple" = none) (m_all:mg "all" = none) (m_enumerate:mg "enumerate" = none) (m_len:mg "len" = none):FnOk P w K mg base Fb (n+1) f fd ["_law_script"] (Hm K 1 spL):=by
 refine F.vok Fa λcdv A outer s H E hr=>⟨_,(Ag (Au (i:=1) Fa.nd rfl (Or.inl rfl) (Ca (Aa (Bi Qbx rfl m_list PyProof.Rows.boot_list (Aa (vv 0) Ae)) (Aa Af (Aa Af (Aa Af Ae))))))
   (Ag (Au (i:=2) Fa.nd rfl (Or.inl rfl) (Ca Ae))
   (Ag (El PassesOwn.never rfl (Cu rfl m_range (Aa Af Ae)) (Ap (i:=3) Fa.nd rfl (Or.inl rfl)) (Ag (Au (i:=4) Fa.nd rfl (Or.inr rfl) (Ak cGa hr rfl (Aa (vv 1) (Aa Af Ae))))
   (Ag (B1 (Bg (Hs hr) (Ak cDr hr rfl (Aa (vv 1) (Aa Af Ae))) Af (nomark _)) (Ai (Au (i:=4) Fa.nd rfl (Or.inr rfl) (Cr (Aa (An Az (vv 4) Af) (Aa (A0 Br (Cr (Aa (An Az (An Az (An Az (vv 4) Af) Af) Af) Ae)) (Bi Cv rfl m_tuple PyProof.Rows.boot_tuple (Aa (Bn (N':=["_law_name","_law_game_here"]) (mp:=[none,some 4]) rfl (B2 (Ch (An Az (vv 4) Af) (Cp Af) C5)) (λ_ _ _ _=>(Ap (i:=0) Qdd rfl (Or.inl rfl) (Or.inr rfl))) (λ_ _ _ _=>(E5 (Bg Qx (vv 0) (An Az (An Az (An Az (vv 1) Af) Af) Af) (nomark _)))) (λ_ _ _ _=>(vv 0)) (Ay (N:=Y7) (pn:=(Ah Ha).names) (by decide +kernel))) Ae))) (Aa (Cr Ae) Ae)))))) Be)
   (Ai (Dp (Hk PySem.F.slot_list_append PySem.F.type_list_append C7 (vv 2) (Aa (Cr (Aa (vv 4) (Aa (Ak cSa hr rfl (Aa (vv 1) (Aa (vv 4) (Aa Af Ae)))) Ae))) Ae)))))))
   (Ag (B1 (Ej (Dj (Aw (Mn rfl) rfl m_all PyProof.Rows.boot_all (Aa (Bn (N':=["_law_game_here","_law_saying_here"]) (mp:=[none,none]) rfl (B2 (A0 Br (vv 2) (Ch (vv 2) C5 (Cp Af)))) (λ_ _ _ _=>(Ek (n:=2) rfl (Bf (Ap (i:=0) Wg rfl (Or.inl rfl) (Or.inr rfl)) (Bf (Ap (i:=1) Wg rfl (Or.inl rfl) (Or.inr rfl)) C6)))) (λ_ _ _ _=>Bk) (λ_ _ _ _=>(Ak cRi hr rfl (Aa (vv 0) (Aa (vv 1) Ae)))) (Ay (N:=Y7) (pn:=(Ah Ha).names) (by decide +kernel))) Ae)))) (Ai (A8 Mh)) Be)
   (Ag (Au (i:=6) Fa.nd rfl (Or.inr rfl) (Ak cNa hr rfl (Aa (vv 1) (Aa Af Ae))))
   (Ag (Gz (An Az (vv 2) Af) (Ek (n:=2) rfl (Bf (Ap (i:=4) Fa.nd rfl (Or.inr rfl)) (Bf (Ap (i:=5) Fa.nd rfl (Or.inl rfl)) C6))))
   (Ag (Au (i:=7) Fa.nd rfl (Or.inl rfl) (Bi Cv rfl m_tuple PyProof.Rows.boot_tuple (Aa (Bn (N':=["_law_k","_law_name","_law_hand","_law_names_here"]) (mp:=[none,none,none,some 6]) rfl (Qb rfl m_enumerate (An Az (vv 4) Af)) (λ_ _ _ _=>(Ek (n:=2) rfl (Bf (Ap (i:=0) Pg rfl (Or.inl rfl) (Or.inr rfl)) (Bf (Ek (n:=2) rfl (Bf (Ap (i:=1) Pg rfl (Or.inl rfl) (Or.inr rfl)) (Bf (Ap (i:=2) Pg rfl (Or.inl rfl) (Or.inr rfl)) C6))) C6)))) (λ_ _ _ _=>Bk) (λ_ _ _ _=>(Cr (Aa (An Az (vv 3) (vv 0)) (Aa (vv 2) Ae)))) (Ay (N:=Y7) (pn:=(Ah Ha).names) (by decide +kernel))) Ae)))
   (Ag (Au (i:=8) Fa.nd rfl (Or.inl rfl) (Cr (Aa (vv 7) (Aa (Bi Cv rfl m_tuple PyProof.Rows.boot_tuple (Aa (Ch (vv 6) (Cp Af) (Cp (A0 Br Af (Aw Cc rfl m_len PySem.boot_len (Aa (An Az (vv 4) Af) Ae))))) Ae)) (Aa (An Az (vv 4) Af) Ae)))))
   (Ai (A8 (Fu (Ak cRi hr rfl (Aa (vv 8) (Aa (vv 5) Ae))) (Ft (Ak cRi hr rfl (Aa (vv 4) (Aa (vv 5) Ae))))))))))))))),?_⟩
 rintro xs μ R _ ⟨ns,rfl,hns,q⟩
 refine Av (fun τ μ'=>∃a l,τ=[some (.D (Hb ns)),some (.R a),none,none,none,none,none,none,none]/\Pot μ' a l) (λZ hZ=>?_) ?_
 ·refine Ab (Sl _ ns) λl hl=>λa ha=>?_
  have hla:l≠a:=by rintro rfl;rw [Ac]at ha;cases ha
  exact hZ _ _ ⟨a,l,rfl,0,0,0,ns,Ac,by rw [Ad hla,Ac],Int.le_refl _,hla.symm⟩
 rintro τ μ1 ⟨a,l,rfl,P1⟩
 refine Hn λpk hpk=>?_
 have hne:=P1.ne hpk
 refine Av (fun τ μ'=>∃(o3 o4:Option AV) (L:List (Gam×Say)),τ=[some (.D (Hb ns)),some (.R a),some (.R pk),o3,o4,none,none,none,none]/\L.length=2/\(∀x∈L,TxIn x.1 x.2)/\μ' pk=some (.lst (L.map L3))/\Pot μ' a l) (λZ hZ=>?_) ?_
 ·refine⟨by decide,by decide,?_⟩
  refine Gf (λi τ μ'=>∃(o3 o4:Option AV) (L:List (Gam×Say)),τ=[some (.D (Hb ns)),some (.R a),some (.R pk),o3,o4,none,none,none,none]/\L.length=i/\(∀x∈L,TxIn x.1 x.2)/\μ' pk=some (.lst (L.map L3))/\Pot μ' a l) ⟨none,none,[],rfl,rfl,(λ_ z=>nomatch z),Ac,P1.new hpk⟩ (λ_ _ _ _=>trivial) ?_ ?_
  ·rintro i y τ μ2 Z2 hy ⟨o3,o4,L,rfl,hL,hT,e2,P2⟩ hZ2
   have hi:i < 2:=(List.getElem?_eq_some_iff.mp hy).1
   refine Av (fun τ μ'=>∃g,τ=[some (.D (Hb ns)),some (.R a),some (.R pk),some y,some (.D (Bq g)),none,none,none,none]/\GmIn g/\μ' pk=some (.lst (L.map L3))/\Pot μ' a l) (λZ3 hZ3=>?_) ?_
   ·exact⟨a,l,2,rfl,by decide,P2,λg μ3 hg P3 S3=>hZ3 _ _ ⟨g,rfl,⟨hg.p0,hg.p1,hg.l0,hg.l1,hg.pn,hg.ln⟩,S3 pk _ hne.1.symm hne.2.symm e2,P3⟩⟩
   rintro τ μ3 ⟨g,rfl,hg,e3,P3⟩
   refine Av (fun τ μ'=>∃g,τ=[some (.D (Hb ns)),some (.R a),some (.R pk),some y,some (.D (Bq g)),none,none,none,none]/\GmIn g/\μ' pk=some (.lst (L.map L3))/\Pot μ' a l) (λZ3 hZ3=>?_) ?_
   ·refine⟨a,l,3,rfl,P3,by decide,by decide,λv μ4 hv P4 S4=>?_⟩
    have e4:=S4 pk _ hne.1.symm hne.2.symm e3
    refine ieq (λc=>?_) (λc=>hZ3 _ _ ⟨g,rfl,hg,e4,P4⟩)
    obtain⟨p0,hp0⟩:∃p0,g.pl[0]?=some p0:=⟨g.pl[0]'hg.p0,List.getElem?_eq_getElem hg.p0⟩
    have hpl:atI (g.pl.map Ff) ((0:Nat):Int)=some (Ff p0):=Al (by rw [List.getElem?_map,hp0];rfl)
    have hcut:Fr (g.le.map PyData.str) (some 1) none=(g.le.drop 1).map PyData.str:=Ku _ _ 1
    have hit:∀ μ:M,items μ (.D (.tuple (Fr (g.le.map PyData.str) (some 1) none)))=some ((g.le.drop 1).map Aj):=fun μ=>by
     rw [hcut]
     show some (((g.le.drop 1).map PyData.str).map AV.D)=_
     rw [List.map_map];rfl
    have hl1:=hg.l1
    have hdl:(g.le.drop 1).length<=3:=by rw [List.length_drop];omega
    refine Ab (Al (j:=0) rfl) (Ab (Al (j:=0) rfl) (Ab hpl (Ab (Al (j:=0) rfl) (Ab (Al (j:=1) rfl) (Ab (hit _) λpc hpc=>?_)))))
    have nkc:pk≠pc:=by rintro rfl;rw [e4]at hpc;cases hpc
    refine cmapf (g.le.drop 1) Aj (neZ p0.1) Aj (fun τ=>∃o,τ=[o,some (.D (Bq g))]) ⟨none,rfl⟩ Ac (seven (by omega)) (λ_=>hit _) ?_ ?_
    ·rintro j z τ' acc W W2 hj ⟨o,rfl⟩ h1 h2
     refine Ab (Al (j:=0) rfl) (Ab hpl (Ab (Al (j:=0) rfl) (br (λc=>h1 c _ ⟨_,rfl⟩) (λc=>h2 c _ ⟨_,rfl⟩))))
    ·have hfl:=List.length_filter_le (neZ p0.1) (g.le.drop 1)
     refine Ab (Aq Ac) (Ab (Cw _) ⟨by rw [List.length_map];exact seven (show 1+_<=1000 by omega),hZ3 _ _ ⟨⟨g.pl,p0.1 :: (g.le.drop 1).filter (neZ p0.1),[]⟩,rfl,⟨hg.p0,hg.p1,Nat.succ_pos _,?_,hg.pn,?_⟩,by rw [Ad nkc,Ad nkc];exact e4,(P4.new hpc).other (P4.ne hpc).1 (P4.ne hpc).2⟩⟩)
     ·show((g.le.drop 1).filter (neZ p0.1)).length+1<=3
      rw [List.length_drop]at hfl;omega
     ·have hs:Nms ((g.le.drop 1).filter (neZ p0.1)):=hg.ln.sublist ((List.filter_sublist).trans (List.drop_sublist _ _))
      have hm:p0.1∈g.pl.map (·.1):=List.mem_map.mpr ⟨p0,List.mem_of_getElem? hp0,rfl⟩
      refine⟨λz hz=>?_,λz hz=>?_,λz hz=>?_,List.nodup_cons.mpr ⟨λh=>?_,hs.nd⟩⟩
      ·rcases List.mem_cons.mp hz with rfl | hz
       ·exact hg.pn.l _ hm
       ·exact hs.l z hz
      ·rcases List.mem_cons.mp hz with rfl | hz
       ·exact hg.pn.n _ hm
       ·exact hs.n z hz
      ·rcases List.mem_cons.mp hz with rfl | hz
       ·exact hg.pn.k _ hm
       ·exact hs.k z hz
      ·have:=(List.mem_filter.mp h).2
       unfold neZ at this
       rw [decide_eq_true rfl]at this;cases this
   rintro τ μ4 ⟨g,rfl,hg,e4,P4⟩
   refine⟨Ab e4 trivial,a,l,g,8,rfl,hg.p0,hg.p1,hg.l0,hg.l1,by decide,P4,λs μ5 hs P5 S5=>?_⟩
   have e5:=S5 pk _ hne.1.symm hne.2.symm e4
   refine Ab e5 ⟨A5 (by rw [List.length_map];omega),hZ2 _ _ ⟨_,_,L++[(g,s)],rfl,by rw [List.length_append,hL];rfl,λx hx=>?_,by rw [Ac,List.map_append];rfl,P5.other hne.1 hne.2⟩⟩
   rcases List.mem_append.mp hx with hx | hx
   ·exact hT x hx
   ·rw [List.mem_singleton.mp hx];exact⟨hg.p0,hg.p1,hg.l1,hg.pn,hg.ln,hs⟩
  ·rintro τ μ2 ⟨o3,o4,L,rfl,hL,hT,e2,P2⟩
   exact hZ _ _ ⟨_,_,L,rfl,hL,hT,e2,P2⟩
 rintro τ μ2 ⟨o3,o4,L,rfl,hL,hT,e2,P2⟩
 refine Av (fun τ μ'=>τ=[some (.D (Hb ns)),some (.R a),some (.R pk),o3,o4,none,none,none,none]/\Sub μ2 μ') (λZ hZ=>?_) ?_
 ·refine Ab (Aq e2) λpb hpb=>?_
  have nb:pk≠pb:=by rintro rfl;rw [e2]at hpb;cases hpb
  have eL:D8 (L.map L3) none (some 1)=(L.take 1).map L3:=Kv L3 L 1
  rw [eL]
  refine Ab (x:=MO.lst (L.map L3)) (by rw [Ad nb];exact e2) (Ab Ac ⟨seven (by rw [List.length_map,List.length_map,List.length_take];omega),λpe hpe=>?_⟩)
  rw [<- List.map_append]
  have S3:Sub μ2 (Ar (Ar μ2 pb (.lst ((L.take 1).map L3))) pe (.lst ((L++L.take 1).map L3))):=by
   have S0:Sub μ2 (Ar μ2 pb (.lst ((L.take 1).map L3))):=Sub.refl.new hpb
   exact S0.new (S0.none hpe)
  refine Ab (Aq Ac) λpc hpc=>?_
  have e3:Ar (Ar μ2 pb (.lst ((L.take 1).map L3))) pe (.lst ((L++L.take 1).map L3)) pe=some (.lst ((L++L.take 1).map L3)):=Ac
  generalize Ar (Ar μ2 pb (.lst ((L.take 1).map L3))) pe (.lst ((L++L.take 1).map L3))=μ3 at S3 e3 hpc
  have hT2:∀x∈L++L.take 1,TxIn x.1 x.2:=λx hx=>by
   rcases List.mem_append.mp hx with hx | hx
   ·exact hT x hx
   ·exact hT x (List.mem_of_mem_take hx)
  have hLL:(L++L.take 1).length<=3:=by rw [List.length_append,List.length_take];omega
  refine C0 (λi acc τ μ'=>∃o1 o2,τ=[o1,o2]/\acc=((L++L.take 1).take i).map (λ_=>.D (.bool true))/\μ' pc=some (.lst acc)/\Sub μ3 μ') ⟨none,none,rfl,rfl,Ac,Sub.refl.new hpc⟩ (λ_ _ _ _ ⟨_,_,_,_,_,S⟩=>Aq (S _ _ e3)) ?_ ?_
  ·rintro i y acc τ μ4 W hy ⟨o1,o2,rfl,rfl,c4,S4⟩ hW
   rw [List.getElem?_map]at hy
   obtain⟨x,hx,rfl⟩:=Option.map_eq_some_iff.mp hy
   refine⟨rfl,Gs rfl ⟨x.1,x.2,rfl,hT2 x (List.mem_of_getElem? hx),fun μ5 S5=>⟨S5 _ _ c4,A5 (by rw [List.length_map,List.length_take];omega),hW _ _ _ ⟨_,_,rfl,?_,Ac,?_⟩⟩⟩⟩
   ·rw [List.take_succ (l:=L++L.take 1),hx,List.map_append];rfl
   ·exact Sub.new (λb m hb=>S5 b m (S4 b m hb)) hpc
  ·rintro acc τ μ4 ⟨o1,o2,rfl,rfl,c4,S4⟩
   rw [List.length_map,List.take_length]at c4
   dsimp only [Xm]
   refine Mr (g:=λ_=>true) c4 ?_
   rw [show((L++L.take 1).all λ_=>true)=true by simp]
   exact Hj rfl (hZ _ _ ⟨rfl,λb m hb=>S4 b m (S3 b m hb)⟩)
 rintro τ μ3 ⟨rfl,S3⟩
 have e3:=S3 _ _ e2
 have P3:=P2.sub S3
 refine Av (fun τ μ'=>∃(pz:Addr) (zs:List Str),τ=[some (.D (Hb ns)),some (.R a),some (.R pk),o3,o4,none,some (.R pz),none,none]/\zs.length=6/\Nms zs/\μ' pz=some (.lst (zs.map Aj))/\μ' pk=some (.lst (L.map L3))) (λZ hZ=>?_) ?_
 ·exact⟨a,l,6,rfl,by decide,P3,λzs pz μ4 hz hN _ ez P4 S4=>hZ _ _ ⟨pz,zs,rfl,hz,hN,ez,S4 pk _ hne.1.symm hne.2.symm e3⟩⟩
 rintro τ μ4 ⟨pz,zs,rfl,hz,hN,z4,e4⟩
 obtain⟨x0,hx0⟩:∃x0,L[0]?=some x0:=⟨L[0]'(by omega),List.getElem?_eq_getElem (by omega)⟩
 have hT0:=hT x0 (List.mem_of_getElem? hx0)
 obtain⟨g,S⟩:=x0
 have hat:atI (L.map L3) ((0:Nat):Int)=some (L3 (g,S)):=Al (by rw [List.getElem?_map,hx0];rfl)
 refine Av (fun τ μ'=>τ=[some (.D (Hb ns)),some (.R a),some (.R pk),o3,some (.D (Bq g)),some (.D (Eg S)),some (.R pz),none,none]/\μ4=μ') (λZ hZ=>?_) ?_
 ·exact Ab e4 (Ab hat ⟨rfl,hZ _ _ ⟨rfl,rfl⟩⟩)
 rintro τ _ ⟨rfl,rfl⟩
 have hp1:g.pl.length<=3:=hT0.p1
 have hl1:g.le.length<=3:=hT0.l1
 have hit:∀ μ:M,items μ (.D (.tuple (g.pl.map Ff)))=some (g.pl.map plA):=fun μ=>by
  show some ((g.pl.map Ff).map AV.D)=_
  rw [List.map_map];rfl
 refine Av (fun τ μ'=>∃pl':List (Str×Nat),τ=[some (.D (Hb ns)),some (.R a),some (.R pk),o3,some (.D (Bq g)),some (.D (Eg S)),some (.R pz),some (.D (.tuple (pl'.map Ff))),none]/\pl'.length=g.pl.length/\pl'.map (·.1)=zs.take g.pl.length/\μ' pz=some (.lst (zs.map Aj))) (λZ hZ=>?_) ?_
 ·refine Ab (Al (j:=0) rfl) (Ab (hit _) (Ab (Lx g.pl) λpc hpc=>?_))
  have nzc:pz≠pc:=by rintro rfl;rw [z4]at hpc;cases hpc
  refine C0 (λi acc τ μ'=>∃(o1 o2 o3':Option AV) (pl':List (Str×Nat)),τ=[o1,o2,o3',some (.R pz)]/\acc=pl'.map plA/\pl'.length=i/\pl'.map (·.1)=zs.take i/\μ'=Ar μ4 pc (.lst acc)) ⟨none,none,none,[],rfl,rfl,rfl,rfl,rfl⟩ (λ_ _ _ _ _=>hit _) ?_ ?_
  ·rintro i y acc τ μ' W hy ⟨o1,o2,o3',pl',rfl,rfl,hpl,hnm,rfl⟩ hW
   obtain⟨p,hp,rfl⟩:=Qhp hy
   have hi:i < g.pl.length:=(List.getElem?_eq_some_iff.mp hp).1
   have hzi:=List.getElem?_eq_getElem (show i < zs.length by omega)
   have hza:atI (zs.map Aj) ((i:Nat):Int)=some (Aj (zs[i]'(by omega))):=Al (by rw [List.getElem?_map,hzi];rfl)
   refine⟨rfl,Qkb (Gs rfl (Ab (x:=MO.lst (zs.map Aj)) (by rw [Ad nzc];exact z4) (Ab hza ⟨Ac,A5 (by rw [List.length_map];omega),hW _ _ _ ⟨_,_,_,pl'++[(zs[i]'(by omega),p.2)],rfl,by rw [List.map_append];rfl,by rw [List.length_append,hpl];rfl,?_,De⟩⟩)))⟩
   rw [List.map_append,hnm,List.take_succ,hzi];rfl
  ·rintro acc τ μ' ⟨o1,o2,o3',pl',rfl,rfl,hpl,hnm,rfl⟩
   rw [B6,List.length_map]at hpl hnm
   exact Ab (Aq Ac) (Ab (Lx pl') (hZ _ _ ⟨pl',rfl,hpl,hnm,by rw [Ad nzc];exact z4⟩))
 rintro τ μ5 ⟨pl',rfl,hpl,hnm,z5⟩
 have eM:D8 (zs.map Aj) (some 3) (some (3+((g.le.map PyData.str).length:Nat)))=((zs.drop 3).take g.le.length).map Aj:=by
  rw [List.length_map]
  exact Wf Aj zs 3 g.le.length (by omega)
 refine Av (fun τ μ'=>τ=[some (.D (Hb ns)),some (.R a),some (.R pk),o3,some (.D (Bq g)),some (.D (Eg S)),some (.R pz),some (.D (.tuple (pl'.map Ff))),some (.D (Bq ⟨pl',(zs.drop 3).take g.le.length,g.rs⟩))]) (λZ hZ=>?_) ?_
 ·refine Ab (Al (j:=1) rfl) (Ab (Aq z5) λp hp=>?_)
  rw [eM]
  exact Ab (Aq Ac) (Ab (Cw _) (Ab (Al (j:=2) rfl) (hZ _ _ rfl)))
 rintro τ μ6 rfl
 have hTx:TxIn ⟨pl',(zs.drop 3).take g.le.length,g.rs⟩ S:=by
  have hll:((zs.drop 3).take g.le.length).length=g.le.length:=by rw [List.length_take,List.length_drop];omega
  refine⟨?_,?_,?_,?_,?_,hT0.sa.cong hpl hll⟩
  ·show 0 < pl'.length
   have:0 < g.pl.length:=hT0.p0
   omega
  ·show pl'.length<=3
   omega
  ·show((zs.drop 3).take g.le.length).length<=3
   omega
  ·show Nms (pl'.map (·.1))
   rw [hnm];exact hN.sublist (List.take_sublist _ _)
  ·exact hN.sublist ((List.take_sublist _ _).trans (List.drop_sublist _ _))
 exact⟨_,S,rfl,hTx,fun μ7 S7=>Gs rfl ⟨g,S,rfl,hT0,fun μ8 S8=>⟨_,Sub.refl,q _⟩⟩⟩
def Ra(K:PySem.W.Frag):Sp:=λvs H Q _=>∃(a:Addr) (ns:List Int),vs=[.ref a]/\D5 K H a (ns.map V.int)/\Only H/\ns.length<=63/\∀H',Q (.bl true) H'
theorem Rb{H:Hp}:∀(ns:List Int),Am K H (ns.map .int) (ns.map V.int)
 | []=>Dc
 | n :: ns=>Cg Dh (Rb ns)
theorem Qde{n:Nat}(F:Fun K "law" "law" Ha f fd) (cGa:VCal P w K mg base n "_law_game" ["_law_state","_law_most"] Qc1) (cSa:VCal P w K mg base n "_law_saying" ["_law_state","_law_game_here","_law_most"] Qc2) (cDr:VCal P w K mg base n "_law_draw" ["_law_state","_law_many"] O8) (cNa:VCal P w K mg base n "_law_names" ["_law_state","_law_many"] Yw) (cRi:VCal P w K mg base n "_law_right" ["_law_game_here","_law_saying_here"] Qdc) (m_list:mg "list" = none) (m_range:mg "range" = none) (m_tuple:mg "tuple" = none) (m_all:mg "all" = none) (m_enumerate:mg "enumerate" = none) (m_len:mg "len" = none):FnOk P w K mg base Fb (n+1) f fd ["_law_script"] (Ra K):=by
 refine(Y8 F cGa cSa cDr cNa cRi m_list m_range m_tuple m_all m_enumerate m_len).imp ?_
 rintro vs H Q E ⟨a,ns,rfl,hS,hO,hl,q⟩
 refine⟨[.D (Hb ns)],λ_=>none,λv _=>v=.D (.bool true),rfl,.cons ?_ .nil,(λ_ _ z=>nomatch z),⟨ns,rfl,hl,λ_=>rfl⟩,?_⟩
 ·refine Qbu (xs:=ns.map V.int) ?_ (Rb ns)
  rcases hS with(h | h) | h
  ·rcases hO a with z | ⟨o,xs,z⟩
   ·rw [z]at h;cases h
   ·rw [z]at h;cases h
  ·exact .inl h
  ·exact .inr h
 ·rintro x μ v H' _ _ rx rfl
  cases RelA.bl rx
  exact q _
end
theorem Wh{us:List Value}(h:us.length=1):∃a0,us=[a0]:=by
 obtain⟨a0,t,rfl,h2⟩:=Ea h
 rw [List.eq_nil_of_length_eq_zero h2];exact⟨a0,rfl⟩
theorem Dt{us:List Value}(h:us.length=2):∃a0 a1,us=[a0,a1]:=by
 obtain⟨a0,t,rfl,h2⟩:=Ea h
 obtain⟨a1,rfl⟩:=Wh h2
 exact⟨a0,a1,rfl⟩
theorem Jp{us:List Value}(h:us.length=3):∃a0 a1 a2,us=[a0,a1,a2]:=by
 obtain⟨a0,t,rfl,h2⟩:=Ea h
 obtain⟨a1,a2,rfl⟩:=Dt h2
 exact⟨a0,a1,a2,rfl⟩
theorem Qhq{us:List Value}(h:us.length=4):∃a0 a1 a2 a3,us=[a0,a1,a2,a3]:=by
 obtain⟨a0,t,rfl,h2⟩:=Ea h
 obtain⟨a1,a2,a3,rfl⟩:=Jp h2
 exact⟨a0,a1,a2,a3,rfl⟩
theorem all_mk{l:PySem.W.OpenLaw}{w:World}{K:PySem.W.Frag}{h:Heap}{mg:Str->Option Value}{fa f1 f2 f3 f4 f5 f6 f7 f8 f9 f10 f11 f12 f13 f14 f15 f16 f17 f18 f19 f20 f21 f22 f23:Addr}(X:K.In h)(G:h.Ns mainGlobals mg)(hfa:mg "law" = some (.ref fa))
  {od1 an1 od2 an2 od3 an3 od4 an4 od5 an5 od6 an6 od7 an7 od8 an8 od9 an9 od10 an10 od11 an11 od12 an12 od13 an13 od14 an14 od15 an15 od16 an16 od17 an17 od18 an18 od19 an19 od20 an20 od21 an21 od22 an22 od23 an23:Option Addr} {sl1 sl2 sl3 sl4 sl5 sl6 sl7 sl8 sl9 sl10 sl11 sl12 sl13 sl14 sl15 sl16 sl17 sl18 sl19 sl20 sl21 sl22 sl23:Array (Option Value)} {oc1 kV1 dc1 pm1 cd1 ct1 oc2 kV2 dc2 pm2 cd2 ct2 oc3 kV3 dc3 pm3 cd3 ct3 oc4 kV4 dc4 pm4 cd4 ct4 oc5 kV5 dc5 pm5 cd5 ct5 oc6 kV6 dc6 pm6 cd6 ct6 oc7 kV7 dc7 pm7 cd7 ct7 oc8 kV8 dc8 pm8 cd8 ct8 oc9 kV9 dc9 pm9 cd9 ct9 oc10 kV10 dc10 pm10 cd10 ct10 oc11 kV11 dc11 pm11 cd11 ct11 oc12 kV12 dc12 pm12 cd12 ct12 oc13 kV13 dc13 pm13 cd13 ct13 oc14 kV14 dc14 pm14 cd14 ct14 oc15 kV15 dc15 pm15 cd15 ct15 oc16 kV16 dc16 pm16 cd16 ct16 oc17 kV17 dc17 pm17 cd17 ct17 oc18 kV18 dc18 pm18 cd18 ct18 oc19 kV19 dc19 pm19 cd19 ct19 oc20 kV20 dc20 pm20 cd20 ct20 oc21 kV21 dc21 pm21 cd21 ct21 oc22 kV22 dc22 pm22 cd22 ct22 oc23 kV23 dc23 pm23 cd23 ct23:Value}
  {t1 t2:Tok}
  (a1:PySem.W.nsIn K mainGlobals "numbers_by_name" = some (some (.ref f1)))
  (l1:K.lookup f1=some ⟨oc1,od1,.func (PySem.W.fnOf "numbers_by_name" "numbers_by_name" (Bc sNn) (A9 sNn) (Ah sNn) .none kV1 dc1 pm1 an1 cd1 ct1),sl1⟩)
  (c_1:PySem.W.codeIn K cd1 "numbers_by_name" = true)
  (k1:PySem.W.keepIn K (.ref f1)=true)
  (a2:PySem.W.nsIn K mainGlobals "is_there" = some (some (.ref f2)))
  (l2:K.lookup f2=some ⟨oc2,od2,.func (PySem.W.fnOf "is_there" "is_there" (Bc sIt) (A9 sIt) (Ah sIt) .none kV2 dc2 pm2 an2 cd2 ct2),sl2⟩)
  (c_2:PySem.W.codeIn K cd2 "is_there" = true)
  (k2:PySem.W.keepIn K (.ref f2)=true)
  (a3:PySem.W.nsIn K mainGlobals "may_stand_behind" = some (some (.ref f3)))
  (l3:K.lookup f3=some ⟨oc3,od3,.func (PySem.W.fnOf "may_stand_behind" "may_stand_behind" (Bc sMb) (A9 sMb) (Ah sMb) .none kV3 dc3 pm3 an3 cd3 ct3),sl3⟩)
  (c_3:PySem.W.codeIn K cd3 "may_stand_behind" = true)
  (k3:PySem.W.keepIn K (.ref f3)=true)
  (a4:PySem.W.nsIn K mainGlobals "are_ends" = some (some (.ref f4)))
  (l4:K.lookup f4=some ⟨oc4,od4,.func (PySem.W.fnOf "are_ends" "are_ends" (Bc sAe) (A9 sAe) (Ah sAe) .none kV4 dc4 pm4 an4 cd4 ct4),sl4⟩)
  (c_4:PySem.W.codeIn K cd4 "are_ends" = true)
  (k4:PySem.W.keepIn K (.ref f4)=true)
  (a5:PySem.W.nsIn K mainGlobals "is_rising" = some (some (.ref f5)))
  (l5:K.lookup f5=some ⟨oc5,od5,.func (PySem.W.fnOf "is_rising" "is_rising" (Bc Zy) (A9 Zy) (Ah Zy) .none kV5 dc5 pm5 an5 cd5 ct5),sl5⟩)
  (c_5:PySem.W.codeIn K cd5 "is_rising" = true)
  (k5:PySem.W.keepIn K (.ref f5)=true)
  (a6:PySem.W.nsIn K mainGlobals "show_saying" = some (some (.ref f6)))
  (l6:K.lookup f6=some ⟨oc6,od6,.func (PySem.W.fnOf "show_saying" "show_saying" (Bc Yu) (A9 Yu) (Ah Yu) .none kV6 dc6 pm6 an6 cd6 ct6),sl6⟩)
  (c_6:PySem.W.codeIn K cd6 "show_saying" = true)
  (k6:PySem.W.keepIn K (.ref f6)=true)
  (a7:PySem.W.nsIn K mainGlobals "stand_words" = some (some (.ref f7)))
  (l7:K.lookup f7=some ⟨oc7,od7,.func (PySem.W.fnOf "stand_words" "stand_words" (Bc Zz) (A9 Zz) (Ah Zz) .none kV7 dc7 pm7 an7 cd7 ct7),sl7⟩)
  (c_7:PySem.W.codeIn K cd7 "stand_words" = true)
  (k7:PySem.W.keepIn K (.ref f7)=true)
  (a8:PySem.W.nsIn K mainGlobals "read_saying" = some (some (.ref f8)))
  (l8:K.lookup f8=some ⟨oc8,od8,.func (PySem.W.fnOf "read_saying" "read_saying" (Bc sRs) (A9 sRs) (Ah sRs) .none kV8 dc8 pm8 an8 cd8 ct8),sl8⟩)
  (c_8:PySem.W.codeIn K cd8 "read_saying" = true)
  (k8:PySem.W.keepIn K (.ref f8)=true)
  (a9:PySem.W.nsIn K mainGlobals "read_own" = some (some (.ref f9)))
  (l9:K.lookup f9=some ⟨oc9,od9,.func (PySem.W.fnOf "read_own" "read_own" (Bc sRo) (A9 sRo) (Ah sRo) .none kV9 dc9 pm9 an9 cd9 ct9),sl9⟩)
  (c_9:PySem.W.codeIn K cd9 "read_own" = true)
  (k9:PySem.W.keepIn K (.ref f9)=true)
  (a10:PySem.W.nsIn K mainGlobals "read_arrows" = some (some (.ref f10)))
  (l10:K.lookup f10=some ⟨oc10,od10,.func (PySem.W.fnOf "read_arrows" "read_arrows" (Bc sRa) (A9 sRa) (Ah sRa) .none kV10 dc10 pm10 an10 cd10 ct10),sl10⟩)
  (c_10:PySem.W.codeIn K cd10 "read_arrows" = true)
  (k10:PySem.W.keepIn K (.ref f10)=true)
  (a11:PySem.W.nsIn K mainGlobals "read_arrow" = some (some (.ref f11)))
  (l11:K.lookup f11=some ⟨oc11,od11,.func (PySem.W.fnOf "read_arrow" "read_arrow" (Bc sRr) (A9 sRr) (Ah sRr) .none kV11 dc11 pm11 an11 cd11 ct11),sl11⟩)
  (c_11:PySem.W.codeIn K cd11 "read_arrow" = true)
  (k11:PySem.W.keepIn K (.ref f11)=true)
  (a12:PySem.W.nsIn K mainGlobals "read_ends" = some (some (.ref f12)))
  (l12:K.lookup f12=some ⟨oc12,od12,.func (PySem.W.fnOf "read_ends" "read_ends" (Bc sRe) (A9 sRe) (Ah sRe) .none kV12 dc12 pm12 an12 cd12 ct12),sl12⟩)
  (c_12:PySem.W.codeIn K cd12 "read_ends" = true)
  (k12:PySem.W.keepIn K (.ref f12)=true)
  (a13:PySem.W.nsIn K mainGlobals "read_stands" = some (some (.ref f13)))
  (l13:K.lookup f13=some ⟨oc13,od13,.func (PySem.W.fnOf "read_stands" "read_stands" (Bc Z0) (A9 Z0) (Ah Z0) .none kV13 dc13 pm13 an13 cd13 ct13),sl13⟩)
  (c_13:PySem.W.codeIn K cd13 "read_stands" = true)
  (k13:PySem.W.keepIn K (.ref f13)=true)
  (a14:PySem.W.nsIn K mainGlobals "_law_draw" = some (some (.ref f14)))
  (l14:K.lookup f14=some ⟨oc14,od14,.func (PySem.W.fnOf "_law_draw" "_law_draw" (Bc sDr) (A9 sDr) (Ah sDr) .none kV14 dc14 pm14 an14 cd14 ct14),sl14⟩)
  (c_14:PySem.W.codeIn K cd14 "_law_draw" = true)
  (k14:PySem.W.keepIn K (.ref f14)=true)
  (a15:PySem.W.nsIn K mainGlobals "_law_names" = some (some (.ref f15)))
  (l15:K.lookup f15=some ⟨oc15,od15,.func (PySem.W.fnOf "_law_names" "_law_names" (Bc Z1) (A9 Z1) (Ah Z1) .none kV15 dc15 pm15 an15 cd15 ct15),sl15⟩)
  (c_15:PySem.W.codeIn K cd15 "_law_names" = true)
  (k15:PySem.W.keepIn K (.ref f15)=true)
  (a16:PySem.W.nsIn K mainGlobals "_law_game" = some (some (.ref f16)))
  (l16:K.lookup f16=some ⟨oc16,od16,.func (PySem.W.fnOf "_law_game" "_law_game" (Bc Vv) (A9 Vv) (Ah Vv) .none kV16 dc16 pm16 an16 cd16 ct16),sl16⟩)
  (c_16:PySem.W.codeIn K cd16 "_law_game" = true)
  (k16:PySem.W.keepIn K (.ref f16)=true)
  (a17:PySem.W.nsIn K mainGlobals "_law_some" = some (some (.ref f17)))
  (l17:K.lookup f17=some ⟨oc17,od17,.func (PySem.W.fnOf "_law_some" "_law_some" (Bc sSo) (A9 sSo) (Ah sSo) .none kV17 dc17 pm17 an17 cd17 ct17),sl17⟩)
  (c_17:PySem.W.codeIn K cd17 "_law_some" = true)
  (k17:PySem.W.keepIn K (.ref f17)=true)
  (a18:PySem.W.nsIn K mainGlobals "_law_saying" = some (some (.ref f18)))
  (l18:K.lookup f18=some ⟨oc18,od18,.func (PySem.W.fnOf "_law_saying" "_law_saying" (Bc sSa) (A9 sSa) (Ah sSa) .none kV18 dc18 pm18 an18 cd18 ct18),sl18⟩)
  (c_18:PySem.W.codeIn K cd18 "_law_saying" = true)
  (k18:PySem.W.keepIn K (.ref f18)=true)
  (a19:PySem.W.nsIn K mainGlobals "_law_stand" = some (some (.ref f19)))
  (l19:K.lookup f19=some ⟨oc19,od19,.func (PySem.W.fnOf "_law_stand" "_law_stand" (Bc sLs) (A9 sLs) (Ah sLs) .none kV19 dc19 pm19 an19 cd19 ct19),sl19⟩)
  (c_19:PySem.W.codeIn K cd19 "_law_stand" = true)
  (k19:PySem.W.keepIn K (.ref f19)=true)
  (a20:PySem.W.nsIn K mainGlobals "_law_rows" = some (some (.ref f20)))
  (l20:K.lookup f20=some ⟨oc20,od20,.func (PySem.W.fnOf "_law_rows" "_law_rows" (Bc Z5) (A9 Z5) (Ah Z5) .none kV20 dc20 pm20 an20 cd20 ct20),sl20⟩)
  (c_20:PySem.W.codeIn K cd20 "_law_rows" = true)
  (k20:PySem.W.keepIn K (.ref f20)=true)
  (a21:PySem.W.nsIn K mainGlobals "_law_alike" = some (some (.ref f21)))
  (l21:K.lookup f21=some ⟨oc21,od21,.func (PySem.W.fnOf "_law_alike" "_law_alike" (Bc Z6) (A9 Z6) (Ah Z6) .none kV21 dc21 pm21 an21 cd21 ct21),sl21⟩)
  (c_21:PySem.W.codeIn K cd21 "_law_alike" = true)
  (k21:PySem.W.keepIn K (.ref f21)=true)
  (a22:PySem.W.nsIn K mainGlobals "_law_right" = some (some (.ref f22)))
  (l22:K.lookup f22=some ⟨oc22,od22,.func (PySem.W.fnOf "_law_right" "_law_right" (Bc sRi) (A9 sRi) (Ah sRi) .none kV22 dc22 pm22 an22 cd22 ct22),sl22⟩)
  (c_22:PySem.W.codeIn K cd22 "_law_right" = true)
  (k22:PySem.W.keepIn K (.ref f22)=true)
  (a23:PySem.W.nsIn K mainGlobals "law" = some (some (.ref f23)))
  (l23:K.lookup f23=some ⟨oc23,od23,.func (PySem.W.fnOf "law" "law" (Bc Ha) (A9 Ha) (Ah Ha) .none kV23 dc23 pm23 an23 cd23 ct23),sl23⟩)
  (c_23:PySem.W.codeIn K cd23 "law" = true)
  (k23:PySem.W.keepIn K (.ref f23)=true)
  (z_enumerate:PySem.W.nsIn K mainGlobals "enumerate" = some none)
  (z_isinstance:PySem.W.nsIn K mainGlobals "isinstance" = some none)
  (z_bool:PySem.W.nsIn K mainGlobals "bool" = some none)
  (z_len:PySem.W.nsIn K mainGlobals "len" = some none)
  (z_all:PySem.W.nsIn K mainGlobals "all" = some none)
  (z_zip:PySem.W.nsIn K mainGlobals "zip" = some none)
  (z_str:PySem.W.nsIn K mainGlobals "str" = some none)
  (z_range:PySem.W.nsIn K mainGlobals "range" = some none)
  (z_tuple:PySem.W.nsIn K mainGlobals "tuple" = some none)
  (z_min:PySem.W.nsIn K mainGlobals "min" = some none)
  (z_list:PySem.W.nsIn K mainGlobals "list" = some none)
  (z_sorted:PySem.W.nsIn K mainGlobals "sorted" = some none)
  (z_set:PySem.W.nsIn K mainGlobals "set" = some none)
  (z_int:PySem.W.nsIn K mainGlobals "int" = some none)
  (y1:PySem.W.nsIn K mainGlobals "MOST_OWN" = some (some (.int 2 t1)))
  (y2:PySem.W.nsIn K mainGlobals "MOST_ARROWS" = some (some (.int 8 t2))) :
  ∃fd:FuncData,(∀(s:Shared) (v:Value),BindsTo s fd ⟨[v],[]⟩ [("_law_script",v)])/\∀base:Heap,K.In base->base.Ns mainGlobals mg->FnOk l.prog w K mg base Fb 65 fa fd ["_law_script"] (Ra K):=by
 have e:=hfa.symm.trans (PySem.W.mg_of X G a23)
 cases e
 have F1:=Bu (st:=sNn) l1 c_1 k1
 have F2:=Bu (st:=sIt) l2 c_2 k2
 have F3:=Bu (st:=sMb) l3 c_3 k3
 have F4:=Bu (st:=sAe) l4 c_4 k4
 have F5:=Bu (st:=Zy) l5 c_5 k5
 have F6:=Bu (st:=Yu) l6 c_6 k6
 have F7:=Bu (st:=Zz) l7 c_7 k7
 have F8:=Bu (st:=sRs) l8 c_8 k8
 have F9:=Bu (st:=sRo) l9 c_9 k9
 have F10:=Bu (st:=sRa) l10 c_10 k10
 have F11:=Bu (st:=sRr) l11 c_11 k11
 have F12:=Bu (st:=sRe) l12 c_12 k12
 have F13:=Bu (st:=Z0) l13 c_13 k13
 have F14:=Bu (st:=sDr) l14 c_14 k14
 have F15:=Bu (st:=Z1) l15 c_15 k15
 have F16:=Bu (st:=Vv) l16 c_16 k16
 have F17:=Bu (st:=sSo) l17 c_17 k17
 have F18:=Bu (st:=sSa) l18 c_18 k18
 have F19:=Bu (st:=sLs) l19 c_19 k19
 have F20:=Bu (st:=Z5) l20 c_20 k20
 have F21:=Bu (st:=Z6) l21 c_21 k21
 have F22:=Bu (st:=sRi) l22 c_22 k22
 have F23:=Bu (st:=Ha) l23 c_23 k23
 have b1:=F1.binds (ps:=["names"]) λ_ _ _ _ _ _ us hl=>by obtain⟨a0,rfl⟩:=Wh hl;rfl
 have b2:=F2.binds (ps:=["number","many"]) λ_ _ _ _ _ _ us hl=>by obtain⟨a0,a1,rfl⟩:=Dt hl;rfl
 have b3:=F3.binds (ps:=["game","many","ahead","arrow"]) λ_ _ _ _ _ _ us hl=>by obtain⟨a0,a1,a2,a3,rfl⟩:=Qhq hl;rfl
 have b4:=F4.binds (ps:=["game","many","ends"]) λ_ _ _ _ _ _ us hl=>by obtain⟨a0,a1,a2,rfl⟩:=Jp hl;rfl
 have b5:=F5.binds (ps:=["stands","lowest","bound"]) λ_ _ _ _ _ _ us hl=>by obtain⟨a0,a1,a2,rfl⟩:=Jp hl;rfl
 have b6:=F6.binds (ps:=["game","saying"]) λ_ _ _ _ _ _ us hl=>by obtain⟨a0,a1,rfl⟩:=Dt hl;rfl
 have b7:=F7.binds (ps:=["game","many"]) λ_ _ _ _ _ _ us hl=>by obtain⟨a0,a1,rfl⟩:=Dt hl;rfl
 have b8:=F8.binds (ps:=["game","text"]) λ_ _ _ _ _ _ us hl=>by obtain⟨a0,a1,rfl⟩:=Dt hl;rfl
 have b9:=F9.binds (ps:=["words"]) λ_ _ _ _ _ _ us hl=>by obtain⟨a0,rfl⟩:=Wh hl;rfl
 have b10:=F10.binds (ps:=["game","many","rows"]) λ_ _ _ _ _ _ us hl=>by obtain⟨a0,a1,a2,rfl⟩:=Jp hl;rfl
 have b11:=F11.binds (ps:=["words","stands","letters"]) λ_ _ _ _ _ _ us hl=>by obtain⟨a0,a1,a2,rfl⟩:=Jp hl;rfl
 have b12:=F12.binds (ps:=["game","many","words"]) λ_ _ _ _ _ _ us hl=>by obtain⟨a0,a1,a2,rfl⟩:=Jp hl;rfl
 have b13:=F13.binds (ps:=["words","stands"]) λ_ _ _ _ _ _ us hl=>by obtain⟨a0,a1,rfl⟩:=Dt hl;rfl
 have b14:=F14.binds (ps:=["_law_state","_law_many"]) λ_ _ _ _ _ _ us hl=>by obtain⟨a0,a1,rfl⟩:=Dt hl;rfl
 have b15:=F15.binds (ps:=["_law_state","_law_many"]) λ_ _ _ _ _ _ us hl=>by obtain⟨a0,a1,rfl⟩:=Dt hl;rfl
 have b16:=F16.binds (ps:=["_law_state","_law_most"]) λ_ _ _ _ _ _ us hl=>by obtain⟨a0,a1,rfl⟩:=Dt hl;rfl
 have b17:=F17.binds (ps:=["_law_state","_law_things"]) λ_ _ _ _ _ _ us hl=>by obtain⟨a0,a1,rfl⟩:=Dt hl;rfl
 have b18:=F18.binds (ps:=["_law_state","_law_game_here","_law_most"]) λ_ _ _ _ _ _ us hl=>by obtain⟨a0,a1,a2,rfl⟩:=Jp hl;rfl
 have b19:=F19.binds (ps:=["_law_game_here","_law_stand_here"]) λ_ _ _ _ _ _ us hl=>by obtain⟨a0,a1,rfl⟩:=Dt hl;rfl
 have b20:=F20.binds (ps:=["_law_game_here","_law_saying_here"]) λ_ _ _ _ _ _ us hl=>by obtain⟨a0,a1,rfl⟩:=Dt hl;rfl
 have b21:=F21.binds (ps:=["_law_found","_law_due"]) λ_ _ _ _ _ _ us hl=>by obtain⟨a0,a1,rfl⟩:=Dt hl;rfl
 have b22:=F22.binds (ps:=["_law_game_here","_law_saying_here"]) λ_ _ _ _ _ _ us hl=>by obtain⟨a0,a1,rfl⟩:=Dt hl;rfl
 have m_enumerate:=PySem.W.mg_none_of X G z_enumerate
 have m_isinstance:=PySem.W.mg_none_of X G z_isinstance
 have m_bool:=PySem.W.mg_none_of X G z_bool
 have m_len:=PySem.W.mg_none_of X G z_len
 have m_all:=PySem.W.mg_none_of X G z_all
 have m_zip:=PySem.W.mg_none_of X G z_zip
 have m_str:=PySem.W.mg_none_of X G z_str
 have m_range:=PySem.W.mg_none_of X G z_range
 have m_tuple:=PySem.W.mg_none_of X G z_tuple
 have m_min:=PySem.W.mg_none_of X G z_min
 have m_list:=PySem.W.mg_none_of X G z_list
 have m_sorted:=PySem.W.mg_none_of X G z_sorted
 have m_set:=PySem.W.mg_none_of X G z_set
 have m_int:=PySem.W.mg_none_of X G z_int
 have mMO:=PySem.W.mg_of X G y1
 have mMA:=PySem.W.mg_of X G y2
 refine⟨PySem.W.fnOf "law" "law" (Bc Ha) (A9 Ha) (Ah Ha) .none kV23 dc23 pm23 an23 cd23 ct23,λs v=>.of_eq rfl,λbase _ _=>?_⟩
 have g1:=Qgx (P:=l.prog) (w:=w) (mg:=mg) (base:=base) (n:=0) F1 m_enumerate
 have q1:VCal l.prog w K mg base 1 "numbers_by_name" ["names"] _:=⟨_,_,g1,b1,k1,PySem.W.mg_of X G a1⟩
 have g2:=Qgw (P:=l.prog) (w:=w) (mg:=mg) (base:=base) (n:=0) F2 m_isinstance m_bool
 have q2:VCal l.prog w K mg base 1 "is_there" ["number","many"] _:=⟨_,_,g2,b2,k2,PySem.W.mg_of X G a2⟩
 have g5:=Qgz (P:=l.prog) (w:=w) (mg:=mg) (base:=base) (n:=1) F5 (q2.mono (by decide)) m_all m_zip
 have q5:VCal l.prog w K mg base 2 "is_rising" ["stands","lowest","bound"] _:=⟨_,_,g5,b5,k5,PySem.W.mg_of X G a5⟩
 have g3:=Qg3 (P:=l.prog) (w:=w) (mg:=mg) (base:=base) (n:=2) F3 (q5.mono (by decide)) (q2.mono (by decide)) m_len
 have q3:VCal l.prog w K mg base 3 "may_stand_behind" ["game","many","ahead","arrow"] _:=⟨_,_,g3,b3,k3,PySem.W.mg_of X G a3⟩
 have g4:=Qg1 (P:=l.prog) (w:=w) (mg:=mg) (base:=base) (n:=2) F4 (q5.mono (by decide)) m_len
 have q4:VCal l.prog w K mg base 3 "are_ends" ["game","many","ends"] _:=⟨_,_,g4,b4,k4,PySem.W.mg_of X G a4⟩
 have g7:=Qgj (P:=l.prog) (w:=w) (mg:=mg) (base:=base) (n:=0) F7 m_range m_str
 have q7:VCal l.prog w K mg base 1 "stand_words" ["game","many"] _:=⟨_,_,g7,b7,k7,PySem.W.mg_of X G a7⟩
 have g6:=Qgr (P:=l.prog) (w:=w) (mg:=mg) (base:=base) (n:=1) F6 (q7.mono (by decide)) m_str
 have q6:VCal l.prog w K mg base 2 "show_saying" ["game","saying"] _:=⟨_,_,g6,b6,k6,PySem.W.mg_of X G a6⟩
 have g13:=Qha (P:=l.prog) (w:=w) (mg:=mg) (base:=base) (n:=0) F13 m_all m_tuple
 have q13:VCal l.prog w K mg base 1 "read_stands" ["words","stands"] _:=⟨_,_,g13,b13,k13,PySem.W.mg_of X G a13⟩
 have g11:=Qhe (P:=l.prog) (w:=w) (mg:=mg) (base:=base) (n:=1) F11 (q13.mono (by decide)) m_len
 have q11:VCal l.prog w K mg base 2 "read_arrow" ["words","stands","letters"] _:=⟨_,_,g11,b11,k11,PySem.W.mg_of X G a11⟩
 have g10:=Qhj (P:=l.prog) (w:=w) (mg:=mg) (base:=base) (n:=3) F10 (q3.mono (by decide)) (q1.mono (by decide)) (q11.mono (by decide)) (q7.mono (by decide)) mMA
 have q10:VCal l.prog w K mg base 4 "read_arrows" ["game","many","rows"] _:=⟨_,_,g10,b10,k10,PySem.W.mg_of X G a10⟩
 have g12:=Qhh (P:=l.prog) (w:=w) (mg:=mg) (base:=base) (n:=3) F12 (q4.mono (by decide)) (q1.mono (by decide)) (q13.mono (by decide)) (q7.mono (by decide))
 have q12:VCal l.prog w K mg base 4 "read_ends" ["game","many","words"] _:=⟨_,_,g12,b12,k12,PySem.W.mg_of X G a12⟩
 have g9:=Qg7 (P:=l.prog) (w:=w) (mg:=mg) (base:=base) (n:=0) F9 m_range m_str mMO
 have q9:VCal l.prog w K mg base 1 "read_own" ["words"] _:=⟨_,_,g9,b9,k9,PySem.W.mg_of X G a9⟩
 have g8:=Qhm (P:=l.prog) (w:=w) (mg:=mg) (base:=base) (n:=4) F8 (q10.mono (by decide)) (q12.mono (by decide)) (q9.mono (by decide)) m_len m_tuple
 have q8:VCal l.prog w K mg base 5 "read_saying" ["game","text"] _:=⟨_,_,g8,b8,k8,PySem.W.mg_of X G a8⟩
 have g14:=Qfz (P:=l.prog) (w:=w) (mg:=mg) (base:=base) (n:=0) F14 m_len
 have q14:VCal l.prog w K mg base 1 "_law_draw" ["_law_state","_law_many"] _:=⟨_,_,g14,b14,k14,PySem.W.mg_of X G a14⟩
 have g15:=Qf3 (P:=l.prog) (w:=w) (mg:=mg) (base:=base) (n:=1) F15 (q14.mono (by decide)) m_range m_len
 have q15:VCal l.prog w K mg base 2 "_law_names" ["_law_state","_law_many"] _:=⟨_,_,g15,b15,k15,PySem.W.mg_of X G a15⟩
 have g16:=Qf9 (P:=l.prog) (w:=w) (mg:=mg) (base:=base) (n:=2) F16 (q14.mono (by decide)) (q15.mono (by decide)) m_tuple m_range m_len m_min
 have q16:VCal l.prog w K mg base 3 "_law_game" ["_law_state","_law_most"] _:=⟨_,_,g16,b16,k16,PySem.W.mg_of X G a16⟩
 have g17:=Qgc (P:=l.prog) (w:=w) (mg:=mg) (base:=base) (n:=1) F17 (q14.mono (by decide)) m_tuple
 have q17:VCal l.prog w K mg base 2 "_law_some" ["_law_state","_law_things"] _:=⟨_,_,g17,b17,k17,PySem.W.mg_of X G a17⟩
 have g18:=Qgd (P:=l.prog) (w:=w) (mg:=mg) (base:=base) (n:=2) F18 (q14.mono (by decide)) (q17.mono (by decide)) m_len m_range m_list m_tuple m_sorted m_set
 have q18:VCal l.prog w K mg base 3 "_law_saying" ["_law_state","_law_game_here","_law_most"] _:=⟨_,_,g18,b18,k18,PySem.W.mg_of X G a18⟩
 have g19:=Qgl (P:=l.prog) (w:=w) (mg:=mg) (base:=base) (n:=0) F19 m_len m_str
 have q19:VCal l.prog w K mg base 1 "_law_stand" ["_law_game_here","_law_stand_here"] _:=⟨_,_,g19,b19,k19,PySem.W.mg_of X G a19⟩
 have g20:=Qgv (P:=l.prog) (w:=w) (mg:=mg) (base:=base) (n:=1) F20 (q19.mono (by decide)) m_str
 have q20:VCal l.prog w K mg base 2 "_law_rows" ["_law_game_here","_law_saying_here"] _:=⟨_,_,g20,b20,k20,PySem.W.mg_of X G a20⟩
 have g21:=Qgh (P:=l.prog) (w:=w) (mg:=mg) (base:=base) F21 b21 k21 (PySem.W.mg_of X G a21) m_isinstance m_tuple m_len m_all m_zip m_str m_bool m_int 4
 have q21:VCal l.prog w K mg base 6 "_law_alike" ["_law_found","_law_due"] _:=⟨_,_,g21,b21,k21,PySem.W.mg_of X G a21⟩
 have g22:=Qho (P:=l.prog) (w:=w) (mg:=mg) (base:=base) (n:=6) F22 (q21.mono (by decide)) (q20.mono (by decide)) (q8.mono (by decide)) (q6.mono (by decide))
 have q22:VCal l.prog w K mg base 7 "_law_right" ["_law_game_here","_law_saying_here"] _:=⟨_,_,g22,b22,k22,PySem.W.mg_of X G a22⟩
 have g23:=Qde (P:=l.prog) (w:=w) (mg:=mg) (base:=base) (n:=7) F23 (q16.mono (by decide)) (q18.mono (by decide)) (q14.mono (by decide)) (q15.mono (by decide)) (q22.mono (by decide)) m_list m_range m_tuple m_all m_enumerate m_len
 exact g23.mono (by decide)
theorem walk{l:PySem.W.OpenLaw}{q:Program}{loose:List Str}{XP:(Str->Option Value)->Heap->Prop}{YP:World->Heap->Prop}{d:DefRec}{K:Params->PySem.W.Frag}(hn:l.most=some 63)(hdf:d.params.defaults=[])
  (hY:∀(w:World) (h:Heap),YP w h->(K w.params).In h)
  (F:∀(w:World) (mg:Str->Option Value) (fa:Addr) (h:Heap),(K w.params).In h->h.Ns mainGlobals mg->mg d.name=some (.ref fa) ->
   ∃fd:FuncData,(∀(s:Shared) (u:Value),BindsTo s fd ⟨[u],[]⟩ [("_law_script",u)])/\∀base:Heap,(K w.params).In base->base.Ns mainGlobals mg->FnOk l.prog w (K w.params) mg base Fb 65 fa fd ["_law_script"] (Ra (K w.params))) :
  PySem.W.WalkO q loose XP YP l.row.toRowW d [] (λf vs=>PySem.call f vs) :=
 L2.walk_of (n:=63) (k:=65) (x := "_law_script") (CX:=λ_=>Fb) (sp:=λw=>Ra (K w.params)) hn (by decide) hdf ⟨rfl,by decide,by decide,rfl⟩ hY F (λ_ _ a ns hl hO hS=>⟨a,ns,rfl,hS,hO,hl,λ_=>rfl⟩) λ_ _ _ _ _ z=>z
end K19
namespace PySem.W.Fast
theorem tw13188273342902711453:True:=trivial
theorem tw9452612284153324380:True:=trivial
theorem tw6229285043102809272:True:=trivial
theorem tw9955949109540445518:True:=trivial
theorem tw17823819545124735400:True:=trivial
theorem tw13058118408187794527:True:=trivial
theorem tw11296619026749103281:True:=trivial
theorem tw5772604309483760921:True:=trivial
theorem tw12851264875287516921:True:=trivial
theorem tw5890699007295235596:True:=trivial
theorem tw13935202452483471002:True:=trivial
theorem tw17042321750147444508:True:=trivial
theorem tw9322575949603319823:True:=trivial
theorem tw10861740930312135182:True:=trivial
theorem tw9393817483897064711:True:=trivial
theorem tw1454668988119737485:True:=trivial
theorem tw7944372689255805717:True:=trivial
theorem tw4227394555656338373:True:=trivial
theorem tw16685266422472392189:True:=trivial
theorem tw9124390239756148813:True:=trivial
theorem tw3383913336633617487:True:=trivial
theorem tw16797270848282371009:True:=trivial
theorem tw7811471060463294757:True:=trivial
theorem tw10452124595774710905:True:=trivial
theorem tw11739349534713820275:True:=trivial
theorem tw3453301616390127526:True:=trivial
theorem tw5445707647333975559:True:=trivial
theorem tw8621829754161648294:True:=trivial
theorem tw14652373849392084613:True:=trivial
theorem tw3031672371326530166:True:=trivial
theorem tw2220991349827935781:True:=trivial
theorem tw17665152495919371566:True:=trivial
theorem tw9782787733505305225:True:=trivial
theorem tw13815143035624629357:True:=trivial
theorem tw11426511707786572213:True:=trivial
theorem tw15155560107755752655:True:=trivial
theorem tw5078485552600276240:True:=trivial
theorem tw9727995718370241302:True:=trivial
theorem tw11233796993027008279:True:=trivial
theorem tw7939295784998317739:True:=trivial
theorem tw11805193933364605151:True:=trivial
theorem tw1736797262984187048:True:=trivial
theorem tw647176710530930569:True:=trivial
theorem tw10640934925775343351:True:=trivial
theorem tw521572321577829439:True:=trivial
theorem tw11910793842160284164:True:=trivial
theorem tw12773174274664414299:True:=trivial
theorem tw1633343123337415160:True:=trivial
theorem tw12401124042126501426:True:=trivial
theorem tw14443412062538671861:True:=trivial
theorem tw82845350584253619:True:=trivial
theorem tw1852089210066172609:True:=trivial
theorem tw231499745007934669:True:=trivial
theorem tw18035669809606208187:True:=trivial
theorem tw224636391764139520:True:=trivial
theorem tw16934839460379236746:True:=trivial
theorem tw14230273106887656205:True:=trivial
theorem tw14788865089997044169:True:=trivial
theorem tw11758275769709168881:True:=trivial
theorem tw12389681890339015792:True:=trivial
theorem tw9280018598527970930:True:=trivial
theorem tw15204105261682372450:True:=trivial
theorem tw389698211822099849:True:=trivial
end PySem.W.Fast
open PySem PySem.W PyProof.Rows
set_option maxRecDepth 100000 in
set_option maxHeartbeats 0 in
theorem PySem.Challenge.cw_pileduel_k19_sayings_as_texts_holds : PySem.Challenge.rw_pileduel_k19_sayings_as_texts.Holds := by
 w_on;o_law;k_head;(case hw=>w_witness2)
 k_fill
 refine K19.walk (l:=PySem.Challenge.rw_pileduel_k19_sayings_as_texts) rfl rfl (fun w h Y=>PySem.W.kIn_of Y) ?F
 case F =>
  intro w mg fa h KX G hmg
  refine' K19.all_mk KX G hmg ?a1 ?l1 ?c_1 ?k1 ?a2 ?l2 ?c_2 ?k2 ?a3 ?l3 ?c_3 ?k3 ?a4 ?l4 ?c_4 ?k4 ?a5 ?l5 ?c_5 ?k5 ?a6 ?l6 ?c_6 ?k6 ?a7 ?l7 ?c_7 ?k7 ?a8 ?l8 ?c_8 ?k8 ?a9 ?l9 ?c_9 ?k9 ?a10 ?l10 ?c_10 ?k10 ?a11 ?l11 ?c_11 ?k11 ?a12 ?l12 ?c_12 ?k12 ?a13 ?l13 ?c_13 ?k13 ?a14 ?l14 ?c_14 ?k14 ?a15 ?l15 ?c_15 ?k15 ?a16 ?l16 ?c_16 ?k16 ?a17 ?l17 ?c_17 ?k17 ?a18 ?l18 ?c_18 ?k18 ?a19 ?l19 ?c_19 ?k19 ?a20 ?l20 ?c_20 ?k20 ?a21 ?l21 ?c_21 ?k21 ?a22 ?l22 ?c_22 ?k22 ?a23 ?l23 ?c_23 ?k23 ?z_enumerate ?z_isinstance ?z_bool ?z_len ?z_all ?z_zip ?z_str ?z_range ?z_tuple ?z_min ?z_list ?z_sorted ?z_set ?z_int ?y1 ?y2
  (case a1=>k_is)
  (case l1=>k_is)
  (case c_1=>k_is)
  (case k1=>k_is)
  (case a2=>k_is)
  (case l2=>k_is)
  (case c_2=>k_is)
  (case k2=>k_is)
  (case a3=>k_is)
  (case l3=>k_is)
  (case c_3=>k_is)
  (case k3=>k_is)
  (case a4=>k_is)
  (case l4=>k_is)
  (case c_4=>k_is)
  (case k4=>k_is)
  (case a5=>k_is)
  (case l5=>k_is)
  (case c_5=>k_is)
  (case k5=>k_is)
  (case a6=>k_is)
  (case l6=>k_is)
  (case c_6=>k_is)
  (case k6=>k_is)
  (case a7=>k_is)
  (case l7=>k_is)
  (case c_7=>k_is)
  (case k7=>k_is)
  (case a8=>k_is)
  (case l8=>k_is)
  (case c_8=>k_is)
  (case k8=>k_is)
  (case a9=>k_is)
  (case l9=>k_is)
  (case c_9=>k_is)
  (case k9=>k_is)
  (case a10=>k_is)
  (case l10=>k_is)
  (case c_10=>k_is)
  (case k10=>k_is)
  (case a11=>k_is)
  (case l11=>k_is)
  (case c_11=>k_is)
  (case k11=>k_is)
  (case a12=>k_is)
  (case l12=>k_is)
  (case c_12=>k_is)
  (case k12=>k_is)
  (case a13=>k_is)
  (case l13=>k_is)
  (case c_13=>k_is)
  (case k13=>k_is)
  (case a14=>k_is)
  (case l14=>k_is)
  (case c_14=>k_is)
  (case k14=>k_is)
  (case a15=>k_is)
  (case l15=>k_is)
  (case c_15=>k_is)
  (case k15=>k_is)
  (case a16=>k_is)
  (case l16=>k_is)
  (case c_16=>k_is)
  (case k16=>k_is)
  (case a17=>k_is)
  (case l17=>k_is)
  (case c_17=>k_is)
  (case k17=>k_is)
  (case a18=>k_is)
  (case l18=>k_is)
  (case c_18=>k_is)
  (case k18=>k_is)
  (case a19=>k_is)
  (case l19=>k_is)
  (case c_19=>k_is)
  (case k19=>k_is)
  (case a20=>k_is)
  (case l20=>k_is)
  (case c_20=>k_is)
  (case k20=>k_is)
  (case a21=>k_is)
  (case l21=>k_is)
  (case c_21=>k_is)
  (case k21=>k_is)
  (case a22=>k_is)
  (case l22=>k_is)
  (case c_22=>k_is)
  (case k22=>k_is)
  (case a23=>k_is)
  (case l23=>k_is)
  (case c_23=>k_is)
  (case k23=>k_is)
  (case z_enumerate=>k_is)
  (case z_isinstance=>k_is)
  (case z_bool=>k_is)
  (case z_len=>k_is)
  (case z_all=>k_is)
  (case z_zip=>k_is)
  (case z_str=>k_is)
  (case z_range=>k_is)
  (case z_tuple=>k_is)
  (case z_min=>k_is)
  (case z_list=>k_is)
  (case z_sorted=>k_is)
  (case z_set=>k_is)
  (case z_int=>k_is)
  (case y1=>k_is)
  (case y2=>k_is)
