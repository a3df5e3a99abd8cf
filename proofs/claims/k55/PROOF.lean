import PyProof.Rows.All
import Wide.All
import OpenK.AllK
import Wide.FinOn
import Lean
import PyProof.EqAt
import PyProof.EqKinds
import PyProof.TupleCall
import PyProof.CompFree
import PyProof.CompUse
import PyProof.CollectIter
import PyProof.ListNew
import KE.KRevIter
import PyProof.EnumMake
import PyProof.Draws
import PyProof.TupleIter
import PyProof.WalksMore
import PyProof.ReprRoads
import PyProof.P3Eq
import PyProof.NeData
import PyProof.EqLayable
import PyProof.Rows.RegFStrParts
import PyProof.AutoListH
import KE.KItemsList
import KE.KDictList
import PyProof.StrBlockG
import PyProof.StrLawsOcc
import PyProof.StrLawsTight
import PyProof.StrLawsChain
import PyProof.Rows.Range3
import PyProof.MinMaxWalk
import PyProof.WalkInts
import PyProof.ExcClass3
import PyProof.ExcInit
import PyProof.InstStoreFacts
import PyProof.ExcArgsOwn
import KE.KIsAll
import PyProof.RaisesMany
import PyProof.RulesTry
import PyProof.Raises
import PyProof.RulesAs
import PyProof.NsDelKeeps
import PyProof.PassesOwn
import PyProof.Rows.CatchHere
import KE.KSortTup
import PyProof.FactsAll.tuple_2
import PyProof.TupleKey
import PyProof.Rows.RowHeap
import PyProof.SetKind
import PyProof.SetNew
import PyProof.DictIter
import PyProof.CollectWalk
import PyProof.Walks
import PyProof.ZipIter
import KE.KRevSl
import KE.KStateDown
import PyProof.SetRoads
import PyProof.SumWalk
import PySem.Challenge.RW_pileduel_k55_whole_runs_are_plays
set_option Elab.async false
set_option linter.all false
set_option maxRecDepth 100000
namespace L2
theorem ex12{α:Sort _}{a b:α->Prop}{P:Prop}(h:∃x,a x/\b x)(k:∀x,a x->b x->P):P:=Exists.elim h fun x y=>k x y.1 y.2
theorem ex23{α β:Sort _}{a b c:α->β->Prop}{P:Prop}(h:∃x y,a x y/\b x y/\c x y)(k:∀x y,a x y->b x y->c x y->P):P:=Exists.elim h fun x h=>Exists.elim h fun y h=>k x y h.1 h.2.1 h.2.2
theorem ex34{α β γ:Sort _}{a b c d:α->β->γ->Prop}{P:Prop}(h:∃x y z,a x y z/\b x y z/\c x y z/\d x y z)(k:∀x y z,a x y z->b x y z->c x y z->d x y z->P):P:=Exists.elim h fun x h=>Exists.elim h fun y h=>Exists.elim h fun z h=>k x y z h.1 h.2.1 h.2.2.1 h.2.2.2
theorem ex45{α β γ δ:Sort _}{a b c d e:α->β->γ->δ->Prop}{P:Prop}(h:∃x y z u,a x y z u/\b x y z u/\c x y z u/\d x y z u/\e x y z u)(k:∀x y z u,a x y z u->b x y z u->c x y z u->d x y z u->e x y z u->P):P:=Exists.elim h fun x h=>Exists.elim h fun y h=>Exists.elim h fun z h=>Exists.elim h fun u h=>k x y z u h.1 h.2.1 h.2.2.1 h.2.2.2.1 h.2.2.2.2
theorem ex46{α β γ δ:Sort _}{a b c d e f:α->β->γ->δ->Prop}{P:Prop}(h:∃x y z u,a x y z u/\b x y z u/\c x y z u/\d x y z u/\e x y z u/\f x y z u)(k:∀x y z u,a x y z u->b x y z u->c x y z u->d x y z u->e x y z u->f x y z u->P):P:=Exists.elim h fun x h=>Exists.elim h fun y h=>Exists.elim h fun z h=>Exists.elim h fun u h=>k x y z u h.1 h.2.1 h.2.2.1 h.2.2.2.1 h.2.2.2.2.1 h.2.2.2.2.2
theorem ex64{α β γ δ ε ζ:Sort _}{a b c d:α->β->γ->δ->ε->ζ->Prop}{P:Prop}(h:∃x y z u v w,a x y z u v w/\b x y z u v w/\c x y z u v w/\d x y z u v w)(k:∀x y z u v w,a x y z u v w->b x y z u v w->c x y z u v w->d x y z u v w->P):P:=Exists.elim h fun x h=>Exists.elim h fun y h=>Exists.elim h fun z h=>Exists.elim h fun u h=>Exists.elim h fun v h=>Exists.elim h fun w h=>k x y z u v w h.1 h.2.1 h.2.2.1 h.2.2.2
open PySem PySem.Spec PyProof.Rows
abbrev Key:=Sum Int Str
def keyIs:Key->Value->Bool
 | .inl k,v=>Value.isInt k v
 | .inr x,v=>Value.isStrOf x v
def keyH(w:World):Key->Int
 | .inl k=>hashInt k
 | .inr x=>hashStr w x
theorem keyIs_shape:∀{k:Key} {v:Value},keyIs k v=true->(∃i t,k=Sum.inl i/\v=Value.int i t)\/(∃x t,k=Sum.inr x/\v=Value.str x t)
 | .inl i,v,h=>by
  obtain⟨t,e⟩:=Value.isInt_shape (k:=i) (v:=v) h
  exact .inl ⟨i,t,rfl,e⟩
 | .inr x,v,h=>by
  obtain⟨t,e⟩:=Value.isStrOf_shape (x:=x) (v:=v) h
  exact .inr ⟨x,t,rfl,e⟩
theorem keyIs_int(i:Int)(t:Tok):keyIs (.inl i) (.int i t)=true:=by simp [keyIs,Value.isInt]
theorem keyIs_str(x:Str)(t:Tok):keyIs (.inr x) (.str x t)=true:=by simp [keyIs,Value.isStrOf]
theorem key_ll(a b:Int):decide ((Sum.inl a:Key)=Sum.inl b)=(a==b):=by
 by_cases e:a=b
 ·subst e;simp
 ·have h:¬(Sum.inl a:Key)=Sum.inl b:=fun q=>e (Sum.inl.inj q)
  rw [decide_eq_false h]
  exact(beq_eq_false_iff_ne.mpr e).symm
theorem key_rr(a b:Str):decide ((Sum.inr a:Key)=Sum.inr b)=decide (a=b):=by
 by_cases e:a=b
 ·subst e;simp
 ·have h:¬(Sum.inr a:Key)=Sum.inr b:=fun q=>e (Sum.inr.inj q)
  rw [decide_eq_false h,decide_eq_false e]
theorem key_lr(a:Int)(b:Str):decide ((Sum.inl a:Key)=Sum.inr b)=false:=decide_eq_false (fun q=>nomatch q)
theorem key_rl(a:Str)(b:Int):decide ((Sum.inr a:Key)=Sum.inl b)=false:=decide_eq_false (fun q=>nomatch q)
def mixKind(prog:Program)(w:World):PySem.KeyKind prog w Key where
 is:=keyIs
 hash:=keyH w
 inj:=fun v a b ha hb=>by
  rcases keyIs_shape ha with⟨i,t,rfl,rfl⟩ | ⟨x,t,rfl,rfl⟩
  ·rcases keyIs_shape hb with⟨j,u,rfl,e⟩ | ⟨y,u,rfl,e⟩
   ·injection e with e1 _;rw [e1]
   ·exact nomatch e
  ·rcases keyIs_shape hb with⟨j,u,rfl,e⟩ | ⟨y,u,rfl,e⟩
   ·exact nomatch e
   ·injection e with e1 _;rw [e1]
 byValue:=fun k v h=>by
  rcases keyIs_shape h with⟨i,t,rfl,rfl⟩ | ⟨x,t,rfl,rfl⟩ <;> rfl
 pyHash:=fun hv h=>by
  rcases keyIs_shape hv with⟨i,t,rfl,rfl⟩ | ⟨x,t,rfl,rfl⟩
  ·exact wpAny_pyHash_int h
  ·exact wpAny_pyHash_str h
 eqBool:=fun hu hv h=>by
  rcases keyIs_shape hu with⟨i,t,rfl,rfl⟩ | ⟨x,t,rfl,rfl⟩
  ·rcases keyIs_shape hv with⟨j,u,rfl,rfl⟩ | ⟨y,u,rfl,rfl⟩
   ·rw [key_ll]at h;exact wpAny_eqBool_int h
   ·rw [key_lr]at h;exact SeqAt.EqAt.int_str i t y u _ _ _ _ h
  ·rcases keyIs_shape hv with⟨j,u,rfl,rfl⟩ | ⟨y,u,rfl,rfl⟩
   ·rw [key_rl]at h;exact SeqAt.EqAt.str_int x t j u _ _ _ _ h
   ·rw [key_rr]at h;exact wpAny_eqBool_str h
 «strs»:=fun k x t v h=>by
  rcases keyIs_shape h with⟨i,u,rfl,e⟩ | ⟨y,u,rfl,e⟩
  ·exact nomatch e
  ·injection e with e1 _
   subst e1
   cases v <;> rfl
theorem mixKind_int(prog:Program)(w:World)(i:Int)(t:Tok):(mixKind prog w).is (.inl i) (.int i t)=true:=keyIs_int i t
theorem mixKind_str(prog:Program)(w:World)(x:Str)(t:Tok):(mixKind prog w).is (.inr x) (.str x t)=true:=keyIs_str x t
end L2
namespace L2
open PySem PySem.Spec PyProof.Rows
inductive V where
 | non | bl (b:Bool) | int (i:Int) | str (x:Str) | byt (b:Array UInt8) | flt (b:UInt64) | ref (a:Addr) | ty (n:String)
 deriving DecidableEq
def RelV:V->Value->Prop
 | .non,u=>u=Value.none
 | .bl b,u=>u=Value.bool b
 | .int i,u=>∃t,u=Value.int i t
 | .str x,u=>∃t,u=Value.str x t
 | .byt b,u=>∃t,u=Value.bytes b t
 | .flt b,u=>∃t,u=Value.float b t
 | .ref a,u=>u=Value.ref a
 | .ty n,u=>u=Value.type n
abbrev Vals:List V->List Value->Prop:=Paired RelV
theorem Vals.length{xs:List V}{us:List Value}(r:Vals xs us):xs.length=us.length:=Paired.length r
theorem Vals.get:∀{xs:List V} {us:List Value} {i:Nat} {x:V},Vals xs us->xs[i]?=some x->∃u,us[i]?=some u/\RelV x u
 | _,_,_,_,.nil,e=>by simp at e
 | _,_,0,_,.cons r _,e=>by simp at e;subst e;exact⟨_,rfl,r⟩
 | _,_,i+1,x,.cons _ t,e=>by
  obtain⟨u,h1,h2⟩:=Vals.get (i:=i) (x:=x) t (by simpa using e)
  exact⟨u,by simpa using h1,h2⟩
theorem Vals.set{x:V}{u:Value}(r:RelV x u):∀{xs:List V} {us:List Value} (i:Nat),Vals xs us->Vals (xs.set i x) (us.set i u)
 | _,_,_,.nil=>.nil
 | _,_,0,.cons _ t=>.cons r t
 | _,_,i+1,.cons q t=>.cons q (Vals.set r i t)
theorem Vals.append:∀{xs ys:List V} {us ws:List Value},Vals xs us->Vals ys ws->Vals (xs++ys) (us++ws)
 | _,_,_,_,.nil,s=>s
 | _,_,_,_,.cons r t,s=>.cons r (Vals.append t s)
theorem Vals.take:∀{xs:List V} {us:List Value} (n:Nat),Vals xs us->Vals (xs.take n) (us.take n)
 | _,_,0,_=>.nil
 | _,_,_+1,.nil=>.nil
 | _,_,n+1,.cons r t=>.cons r (Vals.take n t)
theorem Vals.drop:∀{xs:List V} {us:List Value} (n:Nat),Vals xs us->Vals (xs.drop n) (us.drop n)
 | _,_,0,r=>r
 | _,_,_+1,.nil=>.nil
 | _,_,n+1,.cons _ t=>Vals.drop n t
def RelO:Option V->Option Value->Prop
 | some v,some u=>RelV v u
 | none,none=>True
 | _,_=>False
def KV{κ:Type}:List (κ×V)->List (κ×Value)->Prop:=Paired fun(p:κ×V) (q:κ×Value)=>p.1=q.1/\RelV p.2 q.2
def kV:Key->V
 | .inl i=>.int i
 | .inr x=>.str x
mutual
def hashD(w:World):PyData->Int
 | .int i=>keyH w (.inl i)
 | .str x=>keyH w (.inr x)
 | .tuple ds=>reduceHash (Builtin.Tuple.tupleHashOf (hashDs w ds))
 | _=>0
def hashDs(w:World):List PyData->List Int
 | []=>[]
 | d :: ds=>hashD w d :: hashDs w ds
end
def entD(w:World)(x:PyData×Addr×Value):DictEntry:=⟨hashD w x.1,.ref x.2.1,x.2.2⟩
def IsDD(w:World)(h:Heap)(a:Addr)(xs:List (PyData×Addr×Value)):Prop :=
 ∃o es ep,h.get? a=some o/\o.ExactDict/\o.data=.dict es ep/\es.toList=xs.map (entD w)/\(xs.map (·.1)).Nodup/\(a==sysModules)=false/\xs.length<=sizeLine
inductive HO where
 | lst (xs:List V)
 | tup (xs:List V)
 | dK (kvs:List (Key×V)) | dT (kvs:List (List Key×V))
 | set (S:Int->Bool) (n:Nat)
 | ins (C dx:Addr) (fs:List (Str×V))
 | own (x:Addr)
 | xd (fs:List (Str×V))
 | met (f x:Addr)
 | rng (lo hi:Int)
 | frz (o:Obj) (u:HO)
 | tbl (ps:Array Value)
 | ext (φ:Heap->Prop)
 | dd (xs:List (PyData×Addr×Value))
abbrev Hp:=Addr->Option HO
def upd(H:Hp)(a:Addr)(o:HO):Hp:=fun b=>if b=a then some o else H b
theorem upd_same{H:Hp}{a:Addr}{o:HO}:upd H a o a=some o:=by unfold upd;rw [if_pos rfl]
theorem upd_ne{H:Hp}{a b:Addr}{o:HO}(h:b≠a):upd H a o b=H b:=by unfold upd;rw [if_neg h]
theorem ne_of{H:Hp}{a b:Addr}{o u:HO}(h:H a=some o)(h':H b=some u)(d:o≠u):a≠b:=by
 intro e;subst e;rw [h]at h';exact d (Option.some.inj h')
theorem ne_of_none{H:Hp}{a b:Addr}{o:HO}(h:H a=some o)(h':H b=none):a≠b:=by
 intro e;subst e;rw [h]at h';cases h'
section
variable(P:Program)(w:World)
def ObjOk(H:Hp)(h:Heap)(a:Addr):HO->Prop
 | .lst xs=>xs.length<=sizeLine/\∃(its:List Value) (n:Nat),Vals xs its/\h.get? a=some { cls:=.type "list",data:=.seq its.toArray n }
 | .tup xs=>xs.length<=sizeLine/\∃its:List Value,Vals xs its/\IsTup h a its.toArray
 | .dK kvs=>kvs.length<=sizeLine/\(a==sysModules)=false/\∃vs,KV kvs vs/\h.DictOf (mixKind P w) a vs
 | .dT kvs=>kvs.length<=sizeLine/\(a==sysModules)=false/\∃xs:List (List Key×Addr×Value),
   Paired (fun(p:List Key×V) (q:List Key×Addr×Value)=>p.1=q.1/\H q.2.1=some (.tup (p.1.map kV))/\RelV p.2 q.2.2) kvs xs /\
   ∃o es ep,h.get? a=some o/\o.ExactDict/\o.data=.dict es ep/\es.toList=xs.map (entryOfKey (tupleKind (mixKind P w)))/\(xs.map (·.1)).Nodup
 | .set S n=>h.SetOf (intKind P w) a S n
 | .ins C dx fs=>H dx=some (.own a)/\fs.length<=1000/\dx≠a/\h.get? a=some (PySem.W.instObj C dx) /\
   ∃mA,h.Ns1 dx mA/\(∀f,RelO (fs.lookup f) (mA f))/\PySem.Within mA (fs.map (·.1))
 | .own _=>∃o,h.get? a=some o
 | .xd fs=>∃mA,h.Ns1 a mA/\∀f,RelO (fs.lookup f) (mA f)
 | .rng lo hi=>∃t u v,h.get? a=some { cls:=.type "range",data:=.fields #[.int lo t,.int hi u,.int 1 v] }
 | .frz o u=>h.get? a=some o/\ObjOk H h a u
 | .tbl ps=>h.get? a=some { cls:=.none,data:=.fields ps }
 | .met f x=>h.get? a=some (PySem.W.methodObj (.ref f) (.ref x))
 | .ext φ=>φ h/\(∃o,h.get? a=some o)/\∀h1 h2:Heap,φ h1->(∀o,h1.get? a=some o->h2.get? a=some o)->φ h2
 | .dd xs=>IsDD w h a xs
def HOk(H:Hp)(h:Heap):Prop:=∀a o,H a=some o->ObjOk P w H h a o
end
section
variable {P:Program}{w:World}{H H':Hp}{h h':Heap}{a:Addr}{o:HO}
theorem ObjOk.lt(x:ObjOk P w H h a o):a < h.objs.size:=by
 cases o with
 | lst xs=>obtain⟨_,_,_,_,e⟩:=x;exact Heap.lt_size e
 | tup xs=>obtain⟨_,_,_,p⟩:=x;exact p.lt
 | dK kvs=>obtain⟨_,_,_,_,o,_,_,e,_⟩:=x;exact Heap.lt_size e
 | dT kvs=>obtain⟨_,_,_,_,o,_,_,e,_⟩:=x;exact Heap.lt_size e
 | set S n=>obtain⟨o,_,_,_,e,_⟩:=x;exact Heap.lt_size e
 | ins C dx fs=>obtain⟨_,_,_,e,_⟩:=x;exact Heap.lt_size e
 | own y=>obtain⟨_,e⟩:=x;exact Heap.lt_size e
 | xd fs=>obtain⟨_,⟨_,_,_,e,_⟩,_⟩:=x;exact Heap.lt_size e
 | rng lo hi=>obtain⟨_,_,_,e⟩:=x;exact Heap.lt_size e
 | frz ob u=>obtain⟨e,_⟩:=x;exact Heap.lt_size e
 | tbl ps=>exact Heap.lt_size (show h.get? a=some _ from x)
 | met f y=>exact Heap.lt_size (show h.get? a=some _ from x)
 | ext φ=>obtain⟨_,⟨_,e⟩,_⟩:=x;exact Heap.lt_size e
 | dd xs=>obtain⟨_,_,_,e,_⟩:=x;exact Heap.lt_size e
theorem Paired.mapP{α β:Type}{F G:α->β->Prop}:∀{l₁:List α} {l₂:List β},Paired F l₁ l₂->(∀a b,F a b->G a b)->Paired G l₁ l₂
 | _,_,.nil,_=>.nil
 | _,_,.cons r t,f=>.cons (f _ _ r) (Paired.mapP t f)
theorem ObjOk.stay(x:ObjOk P w H h a o)(k:∀b u,(b=a\/H b=some (.own a))->h.get? b=some u->h'.get? b=some u)
  (ho:∀b,H b=some (.own a)->H' b=some (.own a)) (ht:∀b xs,H b=some (.tup xs)->H' b=some (.tup xs)):ObjOk P w H' h' a o:=by
 induction o with
 | lst xs=>obtain⟨z,its,n,r,e⟩:=x;exact⟨z,its,n,r,k _ _ (.inl rfl) e⟩
 | tup xs=>obtain⟨z,its,r,ob,e,c⟩:=x;exact⟨z,its,r,ob,k _ _ (.inl rfl) e,c⟩
 | dK kvs=>obtain⟨z,y,vs,r,ob,es,ep,e,c⟩:=x;exact⟨z,y,vs,r,ob,es,ep,k _ _ (.inl rfl) e,c⟩
 | dT kvs =>
  obtain⟨z,y,xs,r,ob,es,ep,e,c⟩:=x
  exact⟨z,y,xs,Paired.mapP r fun p q z=>⟨z.1,ht _ _ z.2.1,z.2.2⟩,ob,es,ep,k _ _ (.inl rfl) e,c⟩
 | set S n=>obtain⟨ob,es,ep,t,e,c⟩:=x;exact⟨ob,es,ep,t,k _ _ (.inl rfl) e,c⟩
 | ins C dx fs =>
  obtain⟨d,z,ne,e,mA,⟨od,es,ep,e2,c⟩,r⟩:=x
  exact⟨ho _ d,z,ne,k _ _ (.inl rfl) e,mA,⟨od,es,ep,k _ _ (.inr d) e2,c⟩,r⟩
 | own y=>obtain⟨ob,e⟩:=x;exact⟨ob,k _ _ (.inl rfl) e⟩
 | xd fs=>obtain⟨mA,⟨od,es,ep,e,c⟩,r⟩:=x;exact⟨mA,⟨od,es,ep,k _ _ (.inl rfl) e,c⟩,r⟩
 | rng lo hi=>obtain⟨t,u,v,e⟩:=x;exact⟨t,u,v,k _ _ (.inl rfl) e⟩
 | frz ob u ih=>obtain⟨e,q⟩:=x;exact⟨k _ _ (.inl rfl) e,ih q⟩
 | tbl ps =>
  have e:h.get? a=some { cls:=.none,data:=.fields ps }:=x
  show h'.get? a=some { cls:=.none,data:=.fields ps }
  exact k a _ (.inl rfl) e
 | met f y =>
  have e:h.get? a=some (PySem.W.methodObj (.ref f) (.ref y)):=x
  show h'.get? a=some (PySem.W.methodObj (.ref f) (.ref y))
  exact k a _ (.inl rfl) e
 | ext φ=>obtain⟨p,⟨o,e⟩,st⟩:=x;exact⟨st _ _ p fun o q=>k _ _ (.inl rfl) q,⟨o,k _ _ (.inl rfl) e⟩,st⟩
 | dd xs=>obtain⟨o,es,ep,e,c⟩:=x;exact⟨o,es,ep,k _ _ (.inl rfl) e,c⟩
theorem HOk.lt(x:HOk P w H h)(e:H a=some o):a < h.objs.size:=(x a o e).lt
theorem HOk.fresh(x:HOk P w H h)(e:h.objs.size<=a):H a=none:=by
 cases q:H a with
 | none=>rfl
 | some u=>exact absurd (Nat.lt_of_lt_of_le (x.lt q) e) (Nat.lt_irrefl _)
theorem HOk.kept(x:HOk P w H h)(k:∀b u,h.get? b=some u->h'.get? b=some u):HOk P w H h':=fun a o e =>
 (x a o e).stay (fun b u _ q=>k b u q) (fun _ q=>q) fun _ _ q=>q
theorem HOk.laid(x:HOk P w H h)(k:∀b u,h.get? b=some u->h'.get? b=some u)(hp:h.objs.size<=a)(new:ObjOk P w (upd H a o) h' a o):HOk P w (upd H a o) h':=fun b u e=>by
 have hn:=x.fresh hp
 by_cases hb:b=a
 ·subst hb;rw [upd_same]at e;cases e;exact new
 ·rw [upd_ne hb]at e
  exact(x b u e).stay (fun c v _ q=>k c v q) (fun c q=>by rw [upd_ne (ne_of_none q hn)];exact q) fun c xs q=>by rw [upd_ne (ne_of_none q hn)];exact q
end
def Rd(H:Hp)(a:Addr)(u:HO):Prop:=H a=some u\/∃o,H a=some (.frz o u)
theorem Rd.ok{P:Program}{w:World}{H:Hp}{h:Heap}{a:Addr}{u:HO}(r:Rd H a u)(x:HOk P w H h):ObjOk P w H h a u:=by
 rcases r with r | ⟨o,r⟩
 ·exact x a u r
 ·obtain⟨_,q⟩:=x a _ r
  exact q
def Mut:Option HO->Prop
 | some (.lst _)=>True
 | some (.dK _)=>True
 | some (.dT _)=>True
 | some (.set _ _)=>True
 | some (.ins _ _ _)=>True
 | some (.ext _)=>True
 | some (.dd _)=>True
 | _=>False
section
variable {P:Program}{w:World}{H:Hp}{h h':Heap}{x e:Addr}{o':HO}
theorem HOk.write(ok:HOk P w H h)(mu:Mut (H x))(he:e=x\/H e=some (.own x))(k:∀b u,b≠e->h.get? b=some u->h'.get? b=some u)(heo:∃u,h'.get? e=some u)
  (new:ObjOk P w (upd H x o') h' x o'):HOk P w (upd H x o') h':=fun b u q=>by
 have nown:∀c y,H c=some (.own y)->c≠x:=fun c y r z=>by subst z;rw [r]at mu;exact mu
 have ntup:∀c xs,H c=some (.tup xs)->c≠x:=fun c xs r z=>by subst z;rw [r]at mu;exact mu
 by_cases hb:b=x
 ·subst hb;rw [upd_same]at q;cases q;exact new
 ·rw [upd_ne hb]at q
  by_cases hbe:b=e
  ·have q':H b=some (.own x):=by
    rcases he with z | z
    ·exact absurd (hbe.trans z) hb
    ·rw [hbe];exact z
   rw [q]at q';cases q'
   obtain⟨v,hv⟩:=heo
   exact⟨v,by rw [hbe];exact hv⟩
  ·refine(ok b u q).stay (fun c v hc r=>k c v ?_ r) (fun c r=>by rw [upd_ne (nown c b r)];exact r) fun c xs r=>by rw [upd_ne (ntup c xs r)];exact r
   rcases hc with rfl | hc
   ·exact hbe
   ·rintro rfl
    rcases he with z | z
    ·exact nown c b hc z
    ·rw [hc]at z;cases z;exact hb rfl
end
structure Un(fs ex:List Addr)(H H':Hp)(h h':Heap):Prop where
 keep:∀b o,h.get? b=some o->H b=none->b∉fs->b∉ex->h'.get? b=some o
 slot:∀b o,h.get? b=some o->H b=none->b∈fs->b∉ex->∃sl,h'.get? b=some { o with slots:=sl }
 free:∀b o,h.get? b=some o->H b=none->b∉ex->H' b=none
 there:∀b o,h.get? b=some o->b∉ex->∃o',h'.get? b=some o'
 tups:∀b xs,H b=some (.tup xs)->H' b=some (.tup xs)
 frzs:∀b o u,H b=some (.frz o u)->H' b=some (.frz o u)
 tbls:∀b ps,H b=some (.tbl ps)->∃more,H' b=some (.tbl (ps++more))
section
variable {fs fs' ex ex':List Addr}{H H1 H2:Hp}{h h1 h2 h':Heap}{a x e:Addr}{o:HO}
theorem Un.any(u:Un fs ex H H1 h h1){b:Addr}{ob:Obj}(q:h.get? b=some ob)(n:H b=none)(hx:b∉ex):∃sl,h1.get? b=some { ob with slots:=sl }:=by
 by_cases hb:b∈fs
 ·exact u.slot b ob q n hb hx
 ·exact⟨ob.slots,u.keep b ob q n hb hx⟩
theorem Un.kept(k:∀b u,h.get? b=some u->h'.get? b=some u):Un fs ex H H h h' :=
 ⟨fun b ob q _ _ _=>k b ob q,fun b ob q _ _ _=>⟨ob.slots,k b ob q⟩,fun _ _ _ n _=>n,fun b ob q _=>⟨ob,k b ob q⟩,fun _ _ q=>q,fun _ _ _ q=>q,fun _ ps q=>⟨#[],by rw [q];simp⟩⟩
theorem Un.refl:Un fs ex H H h h:=Un.kept fun _ _ q=>q
theorem Un.laid(k:∀b u,h.get? b=some u->h'.get? b=some u)(hp:h.objs.size<=a)(hn:H a=none):Un fs ex H (upd H a o) h h' where
 keep:=fun b u q _ _ _=>k b u q
 slot:=fun b u q _ _ _=>⟨u.slots,k b u q⟩
 free:=fun b u q n _=>by rw [upd_ne (Nat.ne_of_lt (Nat.lt_of_lt_of_le (Heap.lt_size q) hp))];exact n
 there:=fun b u q _=>⟨u,k b u q⟩
 tups:=fun b xs q=>by rw [upd_ne (ne_of_none q hn)];exact q
 frzs:=fun b u xs q=>by rw [upd_ne (ne_of_none q hn)];exact q
 tbls:=fun b ps q=>⟨#[],by rw [upd_ne (ne_of_none q hn),q];simp⟩
theorem Un.write(mu:Mut (H x))(he:e=x\/H e=some (.own x))(k:∀b u,b≠e->h.get? b=some u->h'.get? b=some u)(heo:∃u,h'.get? e=some u):Un fs ex H (upd H x o) h h':=by
 have hx:∀b,H b=none->b≠x:=fun b n z=>by subst z;rw [n]at mu;exact mu
 have hb:∀b,H b=none->b≠e:=fun b n z=>by
  subst z
  rcases he with r | r
  ·exact hx b n r
  ·rw [n]at r;cases r
 have hm:∀b u,H b=some u->¬Mut (some u)->b≠x:=fun b u q nm z=>by subst z;rw [q]at mu;exact nm mu
 refine⟨fun b u q n _ _=>k b u (hb b n) q,fun b u q n _ _=>⟨u.slots,k b u (hb b n) q⟩,fun b u q n _=>by rw [upd_ne (hx b n)];exact n,fun b u q _=>?_,
  fun b xs q=>by rw [upd_ne (hm b _ q fun z=>z)];exact q,fun b u xs q=>by rw [upd_ne (hm b _ q fun z=>z)];exact q,fun b ps q=>⟨#[],by rw [upd_ne (hm b _ q fun z=>z),q];simp⟩⟩
 by_cases hbe:b=e
 ·subst hbe;exact heo
 ·exact⟨u,k b u hbe q⟩
end
def trk(h:Heap)(H:Hp):List Addr:=(List.range h.objs.size).filter fun a=>(H a).isSome
def hidT(h:Heap)(H:Hp):Heap:=PySem.W.hideAll h (trk h H)
theorem hidT_size(h:Heap)(H:Hp):(hidT h H).objs.size=h.objs.size:=PySem.W.hideAll_size _ _
theorem hidT_get{h:Heap}{H:Hp}{b:Addr}{o:Obj}(e:h.get? b=some o)(n:H b=none):(hidT h H).get? b=some o :=
 PySem.W.hideAll_get _ e fun hm=>by
  have q:(H b).isSome=true:=(List.mem_filter.mp hm).2
  rw [n]at q;simp at q
theorem of_hidT{h:Heap}{H:Hp}{b:Addr}{o:Obj}(e:(hidT h H).get? b=some o):h.get? b=some o/\H b=none:=by
 have e':h.get? b=some o:=PySem.W.of_hideAll (trk h H) e
 refine⟨e',?_⟩
 cases q:H b with
 | none=>rfl
 | some x =>
  have hm:b∈trk h H:=List.mem_filter.mpr ⟨List.mem_range.mpr (Heap.lt_size e'),by simp [q]⟩
  have z:(hidT h H).get? b=none:=PySem.W.hideAll_none (trk h H) hm
  rw [z]at e;cases e
def allNews(g h:Heap)(L:Addr):List (Addr×Obj):=(List.range h.objs.size).filterMap fun a=>if a=L\/(g.get? a).isSome=true then none else(h.get? a).map fun o=>(a,o)
def rest(g h:Heap)(L d:Addr):List (Addr×Obj):=(allNews g h L).filter fun p=>decide (p.1≠d)
end L2
namespace L2
open PySem PySem.Spec PyProof.Rows
structure Mod(K:PySem.W.Frag)(mg:Str->Option Value)(base:Heap):Prop where
 kin:K.In base
 glob:base.Ns mainGlobals mg
 blt:∃mb,base.Ns builtinsNs mb/\∀x:Str,x ≠ "__name__" -> mb x=bootBuiltins x
 nolimit:base.NoLimit
structure Cx where
 prog:Program
 w:World
 K:PySem.W.Frag
 mg:Str->Option Value
 base:Heap
 A:Around
 N:List Str
 s₀:Shared
 H₀:Hp
 env:Env
 outer:List Env
 stack:List Env
 ex:List Addr
 fn:Str->Bool
 calm:Bool
 pn:List (Addr×Obj)
 xe:Value->Shared->Prop
def frs(l:List Env):List Addr:=l.filterMap (·.frame)
abbrev Cx.fs(X:Cx):List Addr:=frs X.outer
def Vis(sc:Scope)(x:Str):Prop:=sc.names.lookup x=some .local\/sc.names.lookup x=some .cell\/sc.names.lookup x=some .free
def Loc(sc:Scope)(x:Str):Prop:=sc.names.lookup x=some .local\/sc.names.lookup x=some .cell
def Look(env:Env)(h:Heap)(m:Str->Option Value)(x:Str)(u:Value):Prop :=
 (env.kindOf x=some .local/\m x=some u)\/((env.kindOf x=some .cell\/env.kindOf x=some .free)/\∃c,env.cells.lookup x=some c/\h.IsCell c (some u))
structure Cx.Ok(X:Cx):Prop where
 mod:Mod X.K X.mg X.base
 kind:X.env.scope.kind=.function
 glob:X.env.globals=mainGlobals
 blt:X.env.builtins=builtinsNs
 above:X.s₀.heap.objs.size<=X.env.locals
 inj:∀x y c,X.env.cells.lookup x=some c->X.env.cells.lookup y=some c->x=y
 has:∀x,(X.env.kindOf x=some .cell\/X.env.kindOf x=some .free)->∃c,X.env.cells.lookup x=some c
 cab:∀x c,X.fn x=true->X.env.cells.lookup x=some c->X.s₀.heap.objs.size<=c
 hd:X.calm=true->X.A.handled=none
 frames:X.A.frames=some X.stack
 stk:X.stack=X.outer\/(X.stack=X.env :: X.outer/\X.env.frame=some X.env.locals)
 exf:∀b∈X.ex,b≠X.env.locals/\∀x c,X.env.cells.lookup x=some c->c≠b
 bs:∀b o,X.base.get? b=some o->X.s₀.heap.get? b=some o/\X.H₀ b=none
 bsz:X.base.objs.size<=X.s₀.heap.objs.size
 noex:∀b o,X.base.get? b=some o->b∉X.ex
 exfs:∀b∈X.ex,b∉X.fs
 funs:X.s₀.heap.FunFrames X.base X.outer
 frf:∀b∈X.fs,X.H₀ b=none
structure Inv(X:Cx)(pins:List (Addr×Obj))(σ:List (Option V))(H:Hp)(s:Shared):Prop where
 ok:X.Ok
 os:s.os=X.s₀.os
 bare:AllBare s.gens
 base:Un X.fs X.ex X.H₀ H X.s₀.heap s.heap
 loc:∃m,s.heap.Ns X.env.locals m/\∀(i:Nat) (x:Str) (v:V),X.N[i]?=some x->σ[i]?=some (some v)->Vis X.env.scope x->∃u,RelV v u/\Look X.env s.heap m x u
 cell:∀x c,X.env.cells.lookup x=some c->∃v,s.heap.IsCell c v
 free:H X.env.locals=none
 freeC:∀x c,X.env.cells.lookup x=some c->H c=none
 pin:∀p∈X.pn++pins,s.heap.get? p.1=some p.2/\H p.1=none/\p.1≠X.env.locals/\p.1∉X.fs/\∀v,p.2.data≠.cell v
 hok:HOk X.prog X.w H s.heap
 len:σ.length=X.N.length
section
variable {X:Cx}{pins:List (Addr×Obj)}{σ:List (Option V)}{H H':Hp}{s:Shared}{h':Heap}
theorem Cx.Ok.nofr(ok:X.Ok){b:Addr}{o:Obj}(e:X.base.get? b=some o):b∉X.fs:=fun hb=>by
 have:=(ok.funs.mem hb).1
 rw [e]at this;cases this
theorem Inv.bs(I:Inv X pins σ H s):∀b o,X.base.get? b=some o->s.heap.get? b=some o/\H b=none:=fun b o e =>
 ⟨I.base.keep b o (I.ok.bs b o e).1 (I.ok.bs b o e).2 (I.ok.nofr e) (I.ok.noex b o e),I.base.free b o (I.ok.bs b o e).1 (I.ok.bs b o e).2 (I.ok.noex b o e)⟩
theorem Inv.bk(I:Inv X pins σ H s):∀b o,X.base.get? b=some o->s.heap.get? b=some o:=fun b o e=>(I.bs b o e).1
theorem Inv.mod(I:Inv X pins σ H s):Mod X.K X.mg X.base:=I.ok.mod
theorem Inv.kIn(I:Inv X pins σ H s):X.K.In s.heap:=I.ok.mod.kin.keeps I.bk
theorem Inv.lt(I:Inv X pins σ H s):X.env.locals < s.heap.objs.size:=let⟨_,hn,_⟩:=I.loc;hn.lt
theorem Inv.sz(I:Inv X pins σ H s):X.s₀.heap.objs.size<=s.heap.objs.size:=Nat.le_trans I.ok.above (Nat.le_of_lt I.lt)
theorem Inv.nofs(I:Inv X pins σ H s){a:Addr}(h:s.heap.objs.size<=a):a∉X.fs:=fun hb=>by
 obtain⟨_,o,ho,_⟩:=I.ok.funs.mem hb
 exact absurd (Nat.lt_of_lt_of_le (Heap.lt_size ho) (Nat.le_trans I.sz h)) (Nat.lt_irrefl _)
theorem Inv.cne(I:Inv X pins σ H s):∀x c,X.env.cells.lookup x=some c->c≠X.env.locals:=fun x c e z=>by
 obtain⟨v,o,ho,hd⟩:=I.cell x c e
 obtain⟨m,⟨o',es,ep,ho',hd',_⟩,_⟩:=I.loc
 rw [z,ho']at ho;cases ho;rw [hd']at hd;cases hd
theorem Inv.funs(I:Inv X pins σ H s):s.heap.FunFrames X.base X.outer:=by
 have all:∀(l:List Env),(∀b∈frs l,b∈X.fs)->X.s₀.heap.FunFrames X.base l->s.heap.FunFrames X.base l:=by
  intro l
  induction l with
  | nil=>intro _ _;trivial
  | cons env r ih =>
   intro hs hl
   obtain⟨hk,⟨L,o,hf,hn,ho,hd⟩,hr⟩:=hl
   have hL:L∈X.fs:=hs L (by unfold frs;rw [List.filterMap_cons,hf];exact List.mem_cons_self)
   obtain⟨sl,e⟩:=I.base.slot L o ho (I.ok.frf L hL) hL fun z=>I.ok.exfs L z hL
   exact⟨hk,⟨L,_,hf,hn,e,hd⟩,ih (fun b hb=>hs b (by unfold frs;rw [List.filterMap_cons,hf];exact List.mem_cons_of_mem _ hb)) hr⟩
 exact all X.outer (fun _ hb=>hb) I.ok.funs
theorem Inv.stack(I:Inv X pins σ H s):s.heap.FunFrames X.base X.stack:=by
 rcases I.ok.stk with e | ⟨e,hf⟩
 ·rw [e];exact I.funs
 ·rw [e]
  obtain⟨m,hn,_⟩:=I.loc
  refine .cons (by rw [I.ok.kind];decide) hf hn ?_ I.funs
  exact Heap.get?_none_of_le (Nat.le_trans I.ok.bsz I.ok.above)
theorem Inv.stkSub(I:Inv X pins σ H s):∀b∈frs X.stack,b∈X.env.locals :: X.fs:=fun b hb=>by
 rcases I.ok.stk with e | ⟨e,hf⟩
 ·rw [e]at hb;exact List.mem_cons_of_mem _ hb
 ·rw [e]at hb
  unfold frs at hb
  rw [List.filterMap_cons,hf]at hb
  exact hb
theorem Inv.stkFree(I:Inv X pins σ H s):∀b∈frs X.stack,H b=none:=fun b hb=>by
 rcases List.mem_cons.mp (I.stkSub b hb) with e | hb
 ·rw [e];exact I.free
 ·obtain⟨_,o,ho,_⟩:=I.ok.funs.mem hb
  exact I.base.free b o ho (I.ok.frf b hb) fun z=>I.ok.exfs b z hb
theorem Inv.step{g':Array GenState}{t':Nat}{d':Drawn}{ch:List Addr}(I:Inv X pins σ H s)
  (hch:∀b∈ch,(b∈X.ex\/X.s₀.heap.objs.size<=b)/\b≠X.env.locals/\(∀x c,X.env.cells.lookup x=some c->c≠b)/\∀p∈X.pn++pins,p.1≠b)
  (keep:∀b o,b≠X.env.locals->b∉X.fs->b∉ch->s.heap.get? b=some o->H b=none->h'.get? b=some o)
  (slot:∀b o,b≠X.env.locals->b∈X.fs->b∉ch->s.heap.get? b=some o->H b=none->∃sl,h'.get? b=some { o with slots:=sl }) (free:∀b o,b∉ch->s.heap.get? b=some o->H b=none->H' b=none)
  (there:∀b o,b∉ch->s.heap.get? b=some o->∃o',h'.get? b=some o')
  (tups:∀b xs,H b=some (.tup xs)->H' b=some (.tup xs)) (frzs:∀b o u,H b=some (.frz o u)->H' b=some (.frz o u)) (tbls:∀b ps,H b=some (.tbl ps)->∃more,H' b=some (.tbl (ps++more)))
  (ns:∀m,s.heap.Ns X.env.locals m->h'.Ns X.env.locals m) (hok:HOk X.prog X.w H' h') (hg:AllBare g') :
  Inv X pins σ H' { s with heap:=h',gens:=g',drawn:=d',toks:=t' }:=by
 have neL:∀b o,X.s₀.heap.get? b=some o->b≠X.env.locals:=fun b o e=>Nat.ne_of_lt (Nat.lt_of_lt_of_le (Heap.lt_size e) I.ok.above)
 have neC:∀b o,X.s₀.heap.get? b=some o->b∉X.ex->b∉ch:=fun b o e hx hb=>by
  rcases(hch b hb).1 with z | z
  ·exact hx z
  ·exact absurd (Nat.lt_of_lt_of_le (Heap.lt_size e) z) (Nat.lt_irrefl _)
 have cellK:∀x c,X.env.cells.lookup x=some c->∀v,s.heap.IsCell c v->h'.IsCell c v:=fun x c e v ⟨o,ho,hd⟩=>by
  have nch:c∉ch:=fun z=>(hch c z).2.2.1 x c e rfl
  by_cases hc:c∈X.fs
  ·obtain⟨sl,q⟩:=slot c o (I.cne x c e) hc nch ho (I.freeC x c e)
   exact⟨_,q,hd⟩
  ·exact⟨o,keep c o (I.cne x c e) hc nch ho (I.freeC x c e),hd⟩
 refine⟨I.ok,I.os,hg,⟨fun b o e n hb hx=>?_,fun b o e n hb hx=>?_,fun b o e n hx=>?_,fun b o e hx=>?_,fun b xs e=>tups b xs (I.base.tups b xs e),fun b o xs e=>frzs b o xs (I.base.frzs b o xs e),fun b ps e=>?_⟩,?_,fun x c e=>?_,?_,fun x c e=>?_,fun p hp=>?_,hok,I.len⟩
 ·exact keep b o (neL b o e) hb (neC b o e hx) (I.base.keep b o e n hb hx) (I.base.free b o e n hx)
 ·obtain⟨sl,e1⟩:=I.base.slot b o e n hb hx
  obtain⟨sl',e2⟩:=slot b _ (neL b o e) hb (neC b o e hx) e1 (I.base.free b o e n hx)
  exact⟨sl',e2⟩
 ·obtain⟨o',e1⟩:=I.base.there b o e hx
  exact free b o' (neC b o e hx) e1 (I.base.free b o e n hx)
 ·obtain⟨o',e1⟩:=I.base.there b o e hx
  exact there b o' (neC b o e hx) e1
 ·obtain⟨m1,e1⟩:=I.base.tbls b ps e
  obtain⟨m2,e2⟩:=tbls b _ e1
  exact⟨m1++m2,by rw [e2,Array.append_assoc]⟩
 ·obtain⟨m,hn,hl⟩:=I.loc
  refine⟨m,ns m hn,fun i x v e1 e2 e3=>?_⟩
  obtain⟨u,r,l⟩:=hl i x v e1 e2 e3
  refine⟨u,r,?_⟩
  rcases l with l | ⟨k,c,e,z⟩
  ·exact .inl l
  ·exact .inr ⟨k,c,e,cellK x c e _ z⟩
 ·obtain⟨v,z⟩:=I.cell x c e
  exact⟨v,cellK x c e v z⟩
 ·obtain⟨m,⟨o,_,_,ho,_⟩,_⟩:=I.loc
  exact free _ o (fun z=>(hch _ z).2.1 rfl) ho I.free
 ·obtain⟨v,o,ho,hd⟩:=I.cell x c e
  exact free c o (fun z=>(hch c z).2.2.1 x c e rfl) ho (I.freeC x c e)
 ·obtain⟨e,n,ne,nf,d⟩:=I.pin p hp
  have nch:p.1∉ch:=fun z=>(hch p.1 z).2.2.2 p hp rfl
  exact⟨keep p.1 p.2 ne nf nch e n,free p.1 p.2 nch e n,ne,nf,d⟩
theorem Inv.un{t':Nat}(I:Inv X pins σ H s)(u:Un X.fs [] H H' s.heap h')(hok:HOk X.prog X.w H' h'):Inv X pins σ H' { s with heap:=h',toks:=t' }:=by
 obtain⟨m,⟨o,es,ep,ho,r⟩,_⟩:=id I.loc
 obtain⟨sl,hL⟩:=u.any ho I.free (by simp)
 exact I.step (g':=s.gens) (d':=s.drawn) (ch:=[]) (fun _ z=>nomatch z) (fun b o _ hb _ e n=>u.keep b o e n hb (by simp)) (fun b o _ hb _ e n=>u.slot b o e n hb (by simp)) (fun b o _ e n=>u.free b o e n (by simp)) (fun b o _ e=>u.there b o e (by simp)) u.tups u.frzs u.tbls (fun m' hm=>by
  obtain⟨o',es',ep',ho',r'⟩:=hm
  rw [ho]at ho';cases ho'
  exact⟨_,es',ep',hL,r'⟩) hok I.bare
theorem Inv.call{g':Array GenState}{t':Nat}{d':Drawn}{ch:List Addr}(I:Inv X pins σ H s)(u:Un (frs X.stack) ch H H' s.heap h')(hok:HOk X.prog X.w H' h')(hg:AllBare g')
  (hch:∀b∈ch,(b∈X.ex\/X.s₀.heap.objs.size<=b)/\b≠X.env.locals/\(∀x c,X.env.cells.lookup x=some c->c≠b)/\∀p∈X.pn++pins,p.1≠b) :
  Inv X pins σ H' { s with heap:=h',gens:=g',drawn:=d',toks:=t' }:=by
 obtain⟨m,⟨o,es,ep,ho,r⟩,_⟩:=id I.loc
 obtain⟨sl,hL⟩:=u.any ho I.free fun z=>(hch _ z).2.1 rfl
 exact I.step (ch:=ch) hch (fun b o hL hb hc e n=>u.keep b o e n (fun z=>(List.mem_cons.mp (I.stkSub b z)).elim hL hb) hc) (fun b o _ _ hc e n=>u.any e n hc) (fun b o hc e n=>u.free b o e n hc) (fun b o hc e=>u.there b o e hc) u.tups u.frzs u.tbls (fun m' hm=>by
  obtain⟨o',es',ep',ho',r'⟩:=hm
  rw [ho]at ho';cases ho'
  exact⟨_,es',ep',hL,r'⟩) hok hg
theorem Inv.turned{t':Nat}{it:Addr}(I:Inv X pins σ H s)(k:∀b o,b≠it->s.heap.get? b=some o->h'.get? b=some o)(hn:H it=none)(hL:it≠X.env.locals)
  (h1:it∈X.ex\/X.s₀.heap.objs.size<=it) (h2:∀x c,X.env.cells.lookup x=some c->c≠it) (h3:∀p∈X.pn++pins,p.1≠it):Inv X pins σ H { s with heap:=h',toks:=t' }:=by
 have nit:∀b u,H b=some u->b≠it:=fun b u e z=>by rw [z,hn]at e;cases e
 refine I.step (g':=s.gens) (d':=s.drawn) (ch:=[it]) (fun b hb=>?_) (fun b o _ _ hc e _=>k b o (fun z=>hc (by simp [z])) e) (fun b o _ _ hc e _=>⟨o.slots,k b o (fun z=>hc (by simp [z])) e⟩) (fun _ _ _ _ n=>n)
  (fun b o hc e=>⟨o,k b o (fun z=>hc (by simp [z])) e⟩) (fun _ _ e=>e) (fun _ _ _ e=>e) (fun b ps e=>⟨#[],by rw [e];simp⟩) (fun m hm=>?_) (fun b u e=>?_) I.bare
 ·have e:b=it:=by simpa using hb
  subst e
  exact⟨h1,hL,h2,h3⟩
 ·obtain⟨o,es,ep,ho,r⟩:=hm
  exact⟨o,es,ep,k _ o (Ne.symm hL) ho,r⟩
 ·refine(I.hok b u e).stay (fun c v hc q=>k c v ?_ q) (fun _ q=>q) fun _ _ q=>q
  rcases hc with z | z
  ·rw [z];exact nit b u e
  ·exact nit c _ z
theorem Inv.tok(I:Inv X pins σ H s)(t:Nat):Inv X pins σ H { s with toks:=t }:=I.un (h':=s.heap) (t':=t) Un.refl I.hok
theorem Inv.kept{t':Nat}(I:Inv X pins σ H s)(k:∀b u,s.heap.get? b=some u->h'.get? b=some u):Inv X pins σ H { s with heap:=h',toks:=t' }:=I.un (Un.kept k) (I.hok.kept k)
theorem Inv.laid{a:Addr}{o:HO}{t':Nat}(I:Inv X pins σ H s)(k:∀b u,s.heap.get? b=some u->h'.get? b=some u)(hp:s.heap.objs.size<=a)(new:ObjOk X.prog X.w (upd H a o) h' a o) :
  Inv X pins σ (upd H a o) { s with heap:=h',toks:=t' }:=I.un (Un.laid k hp (I.hok.fresh hp)) (I.hok.laid k hp new)
theorem Inv.write{x e:Addr}{o:HO}{t':Nat}(I:Inv X pins σ H s)(mu:Mut (H x))(he:e=x\/H e=some (.own x))(k:∀b u,b≠e->s.heap.get? b=some u->h'.get? b=some u)(heo:∃u,h'.get? e=some u)
  (new:ObjOk X.prog X.w (upd H x o) h' x o):Inv X pins σ (upd H x o) { s with heap:=h',toks:=t' }:=I.un (Un.write mu he k heo) (I.hok.write mu he k heo new)
theorem Inv.pins_of{pins':List (Addr×Obj)}(I:Inv X pins σ H s)(h:∀p∈pins',s.heap.get? p.1=some p.2/\H p.1=none/\p.1≠X.env.locals/\p.1∉X.fs/\∀v,p.2.data≠.cell v):Inv X pins' σ H s :=
 ⟨I.ok,I.os,I.bare,I.base,I.loc,I.cell,I.free,I.freeC,fun p hp=>(List.mem_append.mp hp).elim (fun z=>I.pin p (List.mem_append_left _ z)) (h p),I.hok,I.len⟩
theorem nodup_ix{N:List Str}(hN:N.Nodup){i j:Nat}{x:Str}(a:N[i]?=some x)(b:N[j]?=some x):i=j:=by
 obtain⟨h1,e1⟩:=List.getElem?_eq_some_iff.mp a
 obtain⟨h2,e2⟩:=List.getElem?_eq_some_iff.mp b
 exact(List.getElem_inj hN).mp (e1.trans e2.symm)
theorem store_ok2{M:Model}{A:Around}{E:Value->Shared->Prop}{i:Nat}{x:Str}{v:V}{u:Value}{Q:Unit->Shared->Prop}(I:Inv X pins σ H s)(hN:X.N.Nodup)(hi:X.N[i]?=some x)(hx:Loc X.env.scope x)(r:RelV v u)
  (h:∀s',Inv X pins (σ.set i (some v)) H s'->(∃a,Heap.SameBut a s.heap s'.heap/\(a=X.env.locals\/X.env.cells.lookup x=some a))->Q () s') (hf:X.fn x=true\/X.env.scope.names.lookup x=some .local:=by first | exact .inl rfl | exact .inr rfl | assumption):wpAny M A (storeName X.env x u) Q E s:=by
 obtain⟨m,hn,hl⟩:=id I.loc
 have hcls:(X.env.scope.kind==.class || (X.env.scope.kind==.module && X.env.locals != X.env.globals))=false:=by rw [I.ok.kind];rfl
 have hiσ:i < σ.length:=by rw [I.len];exact(List.getElem?_eq_some_iff.mp hi).1
 have cne:=I.cne
 have tracked:∀{a:Addr} {h':Heap},(∃o,s.heap.get? a=some o/\H a=none)->Heap.SameBut a s.heap h'->HOk X.prog X.w H h':=fun {a h'} ha hs b ob e=>by
  obtain⟨_,_,hfree⟩:=ha
  refine(I.hok b ob e).stay (fun c w' hc q=>(hs.2 c ?_).trans q) (fun _ q=>q) fun _ _ q=>q
  rintro rfl
  rcases hc with rfl | hc
  ·rw [hfree]at e;cases e
  ·rw [hfree]at hc;cases hc
 rcases hx with hk | hk
 ·refine wpAny_storeName_local hk hn (fun h' hn' hs=>?_) hcls
  obtain⟨oL,_,_,hoL,_⟩:=id hn
  refine h _ ⟨I.ok,I.os,I.bare,⟨fun b o e n hb hx=>?_,fun b o e n hb hx=>?_,I.base.free,fun b o e hx=>?_,I.base.tups,I.base.frzs,I.base.tbls⟩,⟨_,hn',fun j y v' e1 e2 e3=>?_⟩,fun y c e=>?_,I.free,I.freeC,fun p hp=>?_,tracked ⟨oL,hoL,I.free⟩ hs,by simpa using I.len⟩ ⟨_,hs,.inl rfl⟩
  ·exact(hs.2 b (Nat.ne_of_lt (Nat.lt_of_lt_of_le (Heap.lt_size e) I.ok.above))).trans (I.base.keep b o e n hb hx)
  ·obtain⟨sl,e1⟩:=I.base.slot b o e n hb hx
   exact⟨sl,(hs.2 b (Nat.ne_of_lt (Nat.lt_of_lt_of_le (Heap.lt_size e) I.ok.above))).trans e1⟩
  ·obtain⟨o',e1⟩:=I.base.there b o e hx
   exact⟨o',(hs.2 b (Nat.ne_of_lt (Nat.lt_of_lt_of_le (Heap.lt_size e) I.ok.above))).trans e1⟩
  ·by_cases hj:j=i
   ·subst hj
    rw [hi]at e1;cases e1
    rw [List.getElem?_set_self hiσ]at e2
    cases e2
    exact⟨u,r,.inl ⟨hk,by simp⟩⟩
   ·rw [List.getElem?_set_ne (Ne.symm hj)]at e2
    obtain⟨u',r',q⟩:=hl j y v' e1 e2 e3
    refine⟨u',r',?_⟩
    rcases q with⟨k,e⟩ | ⟨k,c,e,z⟩
    ·refine .inl ⟨k,?_⟩
     have:y≠x:=fun e=>hj (nodup_ix hN e1 (e ▸ hi))
     simp [this,e]
    ·exact .inr ⟨k,c,e,z.sameBut hs (cne y c e)⟩
  ·obtain⟨w',z⟩:=I.cell y c e
   exact⟨w',z.sameBut hs (cne y c e)⟩
  ·obtain⟨e,n,ne,nf,d⟩:=I.pin p hp
   exact⟨(hs.2 p.1 ne).trans e,n,ne,nf,d⟩
 ·have hfn:X.fn x=true:=by
   rcases hf with z | z
   ·exact z
   ·rw [z]at hk;cases hk
  obtain⟨c,hc⟩:=I.ok.has x (.inl hk)
  obtain⟨w',z⟩:=I.cell x c hc
  refine wpAny_storeName_cell I.ok.kind hk hc z (fun h' hc' hs=>?_)
  obtain⟨oc,hoc,hocd⟩:=id z
  refine h { s with heap:=h' } ⟨I.ok,I.os,I.bare,⟨fun b o e n hb hx=>?_,fun b o e n hb hx=>?_,I.base.free,fun b o e hx=>?_,I.base.tups,I.base.frzs,I.base.tbls⟩,⟨m,hn.sameBut hs (Ne.symm (cne x c hc)),fun j y v' e1 e2 e3=>?_⟩,fun y c' e=>?_,I.free,I.freeC,fun p hp=>?_,tracked ⟨oc,hoc,I.freeC x c hc⟩ hs,by simpa using I.len⟩ ⟨c,hs,.inr hc⟩
  ·exact(hs.2 b (Nat.ne_of_lt (Nat.lt_of_lt_of_le (Heap.lt_size e) (I.ok.cab x c hfn hc)))).trans (I.base.keep b o e n hb hx)
  ·obtain⟨sl,e1⟩:=I.base.slot b o e n hb hx
   exact⟨sl,(hs.2 b (Nat.ne_of_lt (Nat.lt_of_lt_of_le (Heap.lt_size e) (I.ok.cab x c hfn hc)))).trans e1⟩
  ·obtain⟨o',e1⟩:=I.base.there b o e hx
   exact⟨o',(hs.2 b (Nat.ne_of_lt (Nat.lt_of_lt_of_le (Heap.lt_size e) (I.ok.cab x c hfn hc)))).trans e1⟩
  ·by_cases hj:j=i
   ·subst hj
    rw [hi]at e1;cases e1
    rw [List.getElem?_set_self hiσ]at e2
    cases e2
    exact⟨u,r,.inr ⟨.inl hk,c,hc,hc'⟩⟩
   ·rw [List.getElem?_set_ne (Ne.symm hj)]at e2
    obtain⟨u',r',q⟩:=hl j y v' e1 e2 e3
    refine⟨u',r',?_⟩
    rcases q with q | ⟨k,c',e,z'⟩
    ·exact .inl q
    ·refine .inr ⟨k,c',e,z'.sameBut hs ?_⟩
     rintro rfl
     exact hj (nodup_ix hN e1 (I.ok.inj _ _ _ e hc ▸ hi))
  ·by_cases hcc:c'=c
   ·subst hcc;exact⟨_,hc'⟩
   ·obtain⟨w2,z2⟩:=I.cell y c' e
    exact⟨w2,z2.sameBut hs hcc⟩
  ·obtain⟨e,n,ne,nf,d⟩:=I.pin p hp
   refine⟨(hs.2 p.1 ?_).trans e,n,ne,nf,d⟩
   intro q
   rw [q,hoc]at e
   have q':oc=p.2:=Option.some.inj e
   exact d w' (by rw [<- q'];exact hocd)
theorem store_ok{M:Model}{A:Around}{E:Value->Shared->Prop}{i:Nat}{x:Str}{v:V}{u:Value}{Q:Unit->Shared->Prop}(I:Inv X pins σ H s)(hN:X.N.Nodup)(hi:X.N[i]?=some x)(hx:Loc X.env.scope x)(r:RelV v u)
  (h:∀s',Inv X pins (σ.set i (some v)) H s'->Q () s') (hf:X.fn x=true\/X.env.scope.names.lookup x=some .local:=by first | exact .inl rfl | exact .inr rfl | assumption):wpAny M A (storeName X.env x u) Q E s :=
 store_ok2 I hN hi hx r (fun s' I' _=>h s' I') hf
theorem Inv.call'{s':Shared}{ch:List Addr}(I:Inv X pins σ H s)(ho:s'.os=s.os)(u:Un (frs X.stack) ch H H' s.heap s'.heap)(hok:HOk X.prog X.w H' s'.heap)(hg:AllBare s'.gens)
  (hch:∀b∈ch,(b∈X.ex\/X.s₀.heap.objs.size<=b)/\b≠X.env.locals/\(∀x c,X.env.cells.lookup x=some c->c≠b)/\∀p∈X.pn++pins,p.1≠b):Inv X pins σ H' s':=by
 obtain⟨h',g',d',t',o'⟩:=s'
 have e:o'=s.os:=ho
 subst e
 exact I.call (g':=g') (t':=t') (d':=d') u hok hg hch
end
abbrev XK:=Value->Option Addr->Hp->Prop
abbrev St:=List (Option V)
abbrev VK:=V->Hp->Prop
abbrev TE:=St->Hp->VK->Prop
abbrev TT:=St->Hp->(Bool->Hp->Prop)->Prop
abbrev TA:=St->Hp->(List V->Hp->Prop)->Prop
structure Ends where
 nx:St->Hp->Prop
 rt:VK
 bk:St->Hp->Prop:=fun _ _=>False
 ct:St->Hp->Prop:=fun _ _=>False
abbrev TS:=Ends->St->Hp->Prop
def EP(X:Cx)(pins:List (Addr×Obj))(σ:St)(Q:VK)(u:Value)(s':Shared):Prop:=∃v H',Inv X pins σ H' s'/\RelV v u/\Q v H'
def TP(X:Cx)(pins:List (Addr×Obj))(σ:St)(Q:Bool->Hp->Prop)(b:Bool)(s':Shared):Prop:=∃H',Inv X pins σ H' s'/\Q b H'
def AP(X:Cx)(pins:List (Addr×Obj))(σ:St)(Q:List V->Hp->Prop)(us:List Value)(s':Shared):Prop:=∃vs H',Inv X pins σ H' s'/\Vals vs us/\Q vs H'
def SP(X:Cx)(pins:List (Addr×Obj))(D:Ends)(f:Flow)(s':Shared):Prop :=
 match f with
 | .next=>∃ σ' H',Inv X pins σ' H' s'/\D.nx σ' H'
 | .brk=>∃ σ' H',Inv X pins σ' H' s'/\D.bk σ' H'
 | .cont=>∃ σ' H',Inv X pins σ' H' s'/\D.ct σ' H'
 | .ret u=>∃v σ' H',Inv X pins σ' H' s'/\RelV v u/\D.rt v H'
def PE(X:Cx)(e:Expr)(t:TE):Prop :=
 ∀(pins:List (Addr×Obj)) (s:Shared) (σ:St) (H:Hp) (Q:VK),Inv X pins σ H s->t σ H Q->wpAny (model X.prog X.w) X.A (eval e X.env) (EP X pins σ Q) X.xe s
def PT(X:Cx)(e:Expr)(t:TT):Prop :=
 ∀(pins:List (Addr×Obj)) (s:Shared) (σ:St) (H:Hp) (Q:Bool->Hp->Prop),Inv X pins σ H s->t σ H Q->wpAny (model X.prog X.w) X.A (isTrue e X.env (eval e X.env)) (TP X pins σ Q) X.xe s
def PW(X:Cx)(e:Expr)(t:TT):Prop :=
 ∀(whole:Sem Value) (pins:List (Addr×Obj)) (s:Shared) (σ:St) (H:Hp) (Q:Bool->Hp->Prop),Inv X pins σ H s->t σ H Q->wpAny (model X.prog X.w) X.A (isTrue e X.env whole) (TP X pins σ Q) X.xe s
theorem PW.pt{X:Cx}{e:Expr}{t:TT}(h:PW X e t):PT X e t:=h _
def PA(X:Cx)(es:List Expr)(t:TA):Prop :=
 ∀(pos:Pos) (pins:List (Addr×Obj)) (s:Shared) (σ:St) (H:Hp) (Q:List V->Hp->Prop),Inv X pins σ H s->t σ H Q->wpAny (model X.prog X.w) X.A (spliced (backTo pos (starEach es X.env))) (AP X pins σ Q) X.xe s
def PS(X:Cx)(st:Stmt)(t:TS):Prop :=
 ∀(pins:List (Addr×Obj)) (s:Shared) (σ:St) (H:Hp) (D:Ends),Inv X pins σ H s->t D σ H->wpAny (model X.prog X.w) X.A (exec st X.env) (SP X pins D) X.xe s
def PSs(X:Cx)(st:List Stmt)(t:TS):Prop :=
 ∀(pins:List (Addr×Obj)) (s:Shared) (σ:St) (H:Hp) (D:Ends),Inv X pins σ H s->t D σ H->wpAny (model X.prog X.w) X.A (execs st X.env) (SP X pins D) X.xe s
theorem thn{α:Type}{t:Sem α}{Q Q':α->Shared->Prop}{M:Model}{A:Around}{E:Value->Shared->Prop}{s:Shared}(h:wpAny M A t Q E s)(hQ:∀a s,Q a s->Q' a s):wpAny M A t Q' E s:=wpAny_mono h hQ fun _ _ x=>x
end L2
namespace L2
open PySem PySem.Spec PyProof.Rows
section
variable {X:Cx}
def tVar(i:Nat):TE:=fun σ H Q=>∃v,σ[i]?=some (some v)/\Q v H
def tC(v:V):TE:=fun _ H Q=>Q v H
theorem pe_var{i:Nat}{x:Str}{pos:Pos}(hN:X.N[i]?=some x)(hv:Vis X.env.scope x)(hd:(x==("__debug__" : Str))=false:=by decide) (hcd:(x==("__classdict__" : Str))=false:=by decide):PE X (.Name x pos) (tVar i):=by
 intro pins s σ H Q I h
 obtain⟨v,e,h⟩:=h
 obtain⟨m,hn,hl⟩:=I.loc
 obtain⟨u,r,l⟩:=hl i x v hN e hv
 have fin:EP X pins σ Q u s:=⟨v,H,I,r,h⟩
 rcases l with⟨hk,hm⟩ | ⟨hk,c,hc,hcell⟩
 ·exact wpAny_Name (wpAny_loadName_local I.ok.kind hk hn hm fin) hd
 ·rcases hk with hk | hk
  ·exact wpAny_Name (wpAny_loadName_cell I.ok.kind hk hc hcell fin) hd
  ·exact wpAny_Name (wpAny_loadName_free I.ok.kind hk hc hcell fin hcd) hd
theorem pe_int{i j pos}:PE X (.Constant (.int i) j pos) (tC (.int i)):=fun _ _ _ H _ I h=>wpAny_Constant_int ⟨.int i,H,I.tok _,⟨_,rfl⟩,h⟩
theorem pe_bl{b j pos}:PE X (.Constant (.bool b) j pos) (tC (.bl b)):=fun _ _ _ H _ I h=>Constant_bool ⟨.bl b,H,I,rfl,h⟩
theorem pe_non{j pos}:PE X (.Constant .none j pos) (tC .non):=fun _ _ _ H _ I h=>Constant_none ⟨.non,H,I,rfl,h⟩
theorem pe_str{x j pos}:PE X (.Constant (.str x) j pos) (tC (.str x)):=fun _ _ _ H _ I h=>Calls.Constant_str ⟨.str x,H,I.tok _,⟨_,rfl⟩,h⟩
def Gl(X:Cx)(x:Str):Prop:=X.env.kindOf x=some .globalImplicit
theorem ld_glob{E:Value->Shared->Prop}{pins:List (Addr×Obj)}{s:Shared}{σ:St}{H:Hp}{x:Str}{u:Value}{pos:Pos}{Q:Value->Shared->Prop}(I:Inv X pins σ H s)(hg:Gl X x)(hm:X.mg x=some u)(h:Q u s)
  (hd:(x==("__debug__" : Str))=false:=by decide):wpAny (model X.prog X.w) X.A (eval (.Name x pos) X.env) Q E s :=
 Calls.Name_function_global I.ok.kind hg (Calls.loadGlobal_global (by rw [I.ok.glob];exact I.mod.glob.keeps I.bk) hm h) hd
theorem ld_blt{E:Value->Shared->Prop}{pins:List (Addr×Obj)}{s:Shared}{σ:St}{H:Hp}{x:Str}{u:Value}{pos:Pos}{Q:Value->Shared->Prop}(I:Inv X pins σ H s)(hg:Gl X x)(hm:X.mg x=none)(hv:bootBuiltins x=some u)(h:Q u s)
  (hn:x ≠ "__name__" := by decide) (hd:(x==("__debug__" : Str))=false:=by decide):wpAny (model X.prog X.w) X.A (eval (.Name x pos) X.env) Q E s:=by
 obtain⟨mb,h1,h2⟩:=I.mod.blt
 exact Calls.Name_function_global I.ok.kind hg (Calls.loadGlobal_builtin (by rw [I.ok.glob];exact I.mod.glob.keeps I.bk) hm (by rw [I.ok.blt];exact h1.keeps I.bk) ((h2 x hn).trans hv) h) hd
theorem pe_glob{x:Str}{v:V}{u:Value}{pos:Pos}(hg:Gl X x)(hm:X.mg x=some u)(r:RelV v u)(hd:(x==("__debug__" : Str))=false:=by decide):PE X (.Name x pos) (tC v) :=
 fun _ _ _ H _ I h=>ld_glob I hg hm ⟨v,H,I,r,h⟩ hd
variable {a b:Expr}{ta tb:TE}{pos:Pos}
def PC(X:Cx)(op:CmpOp)(a b:Expr)(t:TE):Prop :=
 ∀(pins:List (Addr×Obj)) (s:Shared) (σ:St) (H:Hp) (Q:VK),Inv X pins σ H s->t σ H Q ->
  wpAny (model X.prog X.w) X.A (eval a X.env) (fun v s₁=>wpAny (model X.prog X.w) X.A (eval b X.env) (fun u s₂=>wpAny (model X.prog X.w) X.A (compareOp op v u) (EP X pins σ Q) X.xe s₂) X.xe s₁) X.xe s
def tB(t:TE):TT:=fun σ H Q=>t σ H fun x H1=>∃c,x=.bl c/\Q c H1
theorem pe_cmp{op:CmpOp}{t:TE}(h:PC X op a b t)(h1:behindInMarks op b=false:=by first | exact nobehind _ (by decide) (by decide) | rfl):PE X (.Compare a [op] [b] pos) t:=fun pins s σ H Q I hw=>wpAny_Compare1 (h pins s σ H Q I hw) h1
theorem pt_val{e:Expr}{t:TE}(h:PE X e t)(he:∀whole,isTrue e X.env whole=(do let v <- whole;standAt e.pos;holding [v] (truthy v)):=by intro _;rfl):PT X e (tB t):=by
 intro pins s σ H Q I hw
 refine isTrue_plain (thn (h pins s σ H _ I hw) fun v s1 zz206=>ex23 zz206 fun x H1 I1 r1 q1=>?_) (he _)
 obtain⟨d,rfl,q⟩:=q1
 cases r1
 exact wpAny_truthy_bool ⟨H1,I1,q⟩
variable {tA tB':TT}{rest:List Expr}
def tAnd(t u:TT):TT:=fun σ H Q=>t σ H fun c H1=>if c=true then u σ H1 Q else Q false H1
def tOr(t u:TT):TT:=fun σ H Q=>t σ H fun c H1=>if c=true then Q true H1 else u σ H1 Q
theorem pw_and1(ha:PT X a tA):PW X (.BoolOp .And [a] pos) tA:=by
 intro wh pins s σ H Q I h
 refine isTrue_and (thn (ha pins s σ H Q I h) fun c s1 e=>?_)
 cases c with
 | true=>exact isTrue_and_nil e
 | false=>exact e
theorem pw_or1(ha:PT X a tA):PW X (.BoolOp .Or [a] pos) tA:=by
 intro wh pins s σ H Q I h
 refine isTrue_or (thn (ha pins s σ H Q I h) fun c s1 e=>?_)
 cases c with
 | false=>exact isTrue_or_nil e
 | true=>exact e
theorem pw_and(ha:PT X a tA)(hb:PW X (.BoolOp .And (b :: rest) pos) tB'):PW X (.BoolOp .And (a :: b :: rest) pos) (tAnd tA tB'):=by
 intro wh pins s σ H Q I h
 refine isTrue_and (thn (ha pins s σ H _ I h) fun c s1 ⟨H1,I1,q1⟩=>?_)
 cases c with
 | true=>exact hb wh pins s1 σ H1 Q I1 q1
 | false=>exact⟨H1,I1,q1⟩
theorem pw_or(ha:PT X a tA)(hb:PW X (.BoolOp .Or (b :: rest) pos) tB'):PW X (.BoolOp .Or (a :: b :: rest) pos) (tOr tA tB'):=by
 intro wh pins s σ H Q I h
 refine isTrue_or (thn (ha pins s σ H _ I h) fun c s1 ⟨H1,I1,q1⟩=>?_)
 cases c with
 | true=>exact⟨H1,I1,q1⟩
 | false=>exact hb wh pins s1 σ H1 Q I1 q1
def tAndV(ta tb:TE):TE:=fun σ H Q=>ta σ H fun x H1=>∃c,x=.bl c/\if c=true then tb σ H1 Q else Q (.bl false) H1
theorem pe_one{op}{t:TE}(h:PE X a t):PE X (.BoolOp op [a] pos) t:=fun pins s σ H Q I hw=>BoolOp_one (h pins s σ H Q I hw)
theorem pe_and(ha:PE X a ta)(hb:PE X (.BoolOp .And (b :: rest) pos) tb):PE X (.BoolOp .And (a :: b :: rest) pos) (tAndV ta tb):=by
 intro pins s σ H Q I h
 refine BoolOp_and (thn (ha pins s σ H _ I h) fun v s1 zz207=>ex23 zz207 fun x H1 I1 r1 q1=>?_)
 obtain⟨c,rfl,q1⟩:=q1
 cases r1
 refine wpAny_truthy_bool ?_
 cases c with
 | true=>exact hb pins s1 σ H1 Q I1 q1
 | false=>exact⟨.bl false,H1,I1,rfl,q1⟩
def tIf(t:TT)(ta tb:TE):TE:=fun σ H Q=>t σ H fun c H1=>if c=true then ta σ H1 Q else tb σ H1 Q
theorem pe_ifExp{c:Expr}(hc:PT X c tA)(ha:PE X a ta)(hb:PE X b tb):PE X (.IfExp c a b pos) (tIf tA ta tb):=by
 intro pins s σ H Q I h
 refine wpAny_IfExp (thn (hc pins s σ H _ I h) fun d s1 ⟨H1,I1,q1⟩=>?_)
 cases d with
 | true=>exact ha pins s1 σ H1 Q I1 q1
 | false=>exact hb pins s1 σ H1 Q I1 q1
end
end L2
namespace L2
open PySem PySem.Spec PyProof.Rows
def SqL(K:PySem.W.Frag)(H:Hp)(a:Addr)(xs:List V):Prop :=
 Rd H a (.lst xs) \/
  ∃(o:Obj) (its:Array Value) (n:Nat),K.lookup a=some o/\o.cls=.type "list" /\ o.dict=none/\o.data=.seq its n/\its.size<=sizeLine/\Vals xs its.toList
def SqT(K:PySem.W.Frag)(H:Hp)(a:Addr)(xs:List V):Prop :=
 Rd H a (.tup xs) \/
  ∃(o:Obj) (its:Array Value) (n:Nat),K.lookup a=some o/\o.cls=.type "tuple" /\ o.data=.seq its n/\its.size<=sizeLine/\Vals xs its.toList
def absV:Value->Option V
 | .none=>some .non
 | .bool b=>some (.bl b)
 | .int i _=>some (.int i)
 | .str x _=>some (.str x)
 | .bytes b _=>some (.byt b)
 | .float b _=>some (.flt b)
 | .ref a=>some (.ref a)
 | .type n=>some (.ty n)
 | _=>none
theorem RelV.abs{x:V}{u:Value}(r:RelV x u):absV u=some x:=by
 cases x with
 | non=>cases r;rfl
 | bl _=>cases r;rfl
 | int _=>obtain⟨t,rfl⟩:=r;rfl
 | str _=>obtain⟨t,rfl⟩:=r;rfl
 | byt _=>obtain⟨t,rfl⟩:=r;rfl
 | flt _=>obtain⟨t,rfl⟩:=r;rfl
 | ref _=>cases r;rfl
 | ty _=>cases r;rfl
theorem RelV.inj{x y:V}{u:Value}(r:RelV x u)(q:RelV y u):x=y:=Option.some.inj (r.abs.symm.trans q.abs)
theorem Vals.inj:∀{xs ys:List V} {us:List Value},Vals xs us->Vals ys us->xs=ys
 | _,_,_,.nil,.nil=>rfl
 | _,_,_,.cons r t,.cons r' t'=>by rw [r.inj r',Vals.inj t t']
section
variable {X:Cx}{pins:List (Addr×Obj)}{σ:St}{H:Hp}{s:Shared}{a:Addr}{xs ys:List V}
theorem SqL.of{K:PySem.W.Frag}(h:H a=some (.lst xs)):SqL K H a xs:=.inl (.inl h)
theorem SqT.of{K:PySem.W.Frag}(h:H a=some (.tup xs)):SqT K H a xs:=.inl (.inl h)
theorem Inv.list(I:Inv X pins σ H s)(h:SqL X.K H a xs):∃its:List Value,Vals xs its/\PlainL s.heap a its.toArray/\xs.length<=sizeLine:=by
 rcases h with h | ⟨o,its,n,hk,hc,hd,hs,hz,r⟩
 ·obtain⟨z,its,n,r,e⟩:=h.ok I.hok
  exact⟨its,r,⟨_,n,e,rfl,rfl,rfl⟩,z⟩
 ·refine⟨its.toList,r,⟨o,n,I.kIn a o hk,hc,hd,by simpa using hs⟩,?_⟩
  have e:=r.length
  simp only [Array.length_toList]at e
  omega
theorem Inv.tuple(I:Inv X pins σ H s)(h:SqT X.K H a xs):∃its:List Value,Vals xs its/\IsTup s.heap a its.toArray/\xs.length<=sizeLine:=by
 rcases h with h | ⟨o,its,n,hk,hc,hs,hz,r⟩
 ·obtain⟨z,its,r,p⟩:=h.ok I.hok
  exact⟨its,r,p,z⟩
 ·refine⟨its.toList,r,⟨o,I.kIn a o hk,hc,n,by simpa using hs⟩,?_⟩
  have e:=r.length
  simp only [Array.length_toList]at e
  omega
theorem Inv.list_inj(I:Inv X pins σ H s)(h:SqL X.K H a xs)(h':SqL X.K H a ys):xs=ys:=by
 obtain⟨its,r,⟨o,n,e,_,_,d⟩,_⟩:=I.list h
 obtain⟨its',r',⟨o',n',e',_,_,d'⟩,_⟩:=I.list h'
 rw [e]at e';cases e'
 rw [d]at d'
 injection d' with d1 _
 have:its=its':=by simpa using congrArg Array.toList d1
 subst this
 exact r.inj r'
theorem Inv.tuple_inj(I:Inv X pins σ H s)(h:SqT X.K H a xs)(h':SqT X.K H a ys):xs=ys:=by
 obtain⟨its,r,⟨o,e,_,n,d⟩,_⟩:=I.tuple h
 obtain⟨its',r',⟨o',e',_,n',d'⟩,_⟩:=I.tuple h'
 rw [e]at e';cases e'
 rw [d]at d'
 injection d' with d1 _
 have:its=its':=by simpa using congrArg Array.toList d1
 subst this
 exact r.inj r'
end
abbrev Cx.wish(X:Cx)(E:Value->Shared->Prop):Cx:={ X with xe:=E }
abbrev Cx.nox(X:Cx):Cx:=X.wish fun _ _=>False
theorem Cx.Ok.wish{X:Cx}(ok:X.Ok)(E:Value->Shared->Prop):(X.wish E).Ok :=
 ⟨ok.mod,ok.kind,ok.glob,ok.blt,ok.above,ok.inj,ok.has,ok.cab,ok.hd,ok.frames,ok.stk,ok.exf,ok.bs,ok.bsz,ok.noex,ok.exfs,ok.funs,ok.frf⟩
theorem Cx.Ok.unwish{X:Cx}{E:Value->Shared->Prop}(ok:(X.wish E).Ok):X.Ok :=
 ⟨ok.mod,ok.kind,ok.glob,ok.blt,ok.above,ok.inj,ok.has,ok.cab,ok.hd,ok.frames,ok.stk,ok.exf,ok.bs,ok.bsz,ok.noex,ok.exfs,ok.funs,ok.frf⟩
section
variable {X:Cx}{pins:List (Addr×Obj)}{σ:St}{H:Hp}{s:Shared}{E:Value->Shared->Prop}
theorem Inv.wish(I:Inv X pins σ H s)(E:Value->Shared->Prop):Inv (X.wish E) pins σ H s:=⟨I.ok.wish E,I.os,I.bare,I.base,I.loc,I.cell,I.free,I.freeC,I.pin,I.hok,I.len⟩
theorem Inv.unwish(I:Inv (X.wish E) pins σ H s):Inv X pins σ H s:=⟨I.ok.unwish,I.os,I.bare,I.base,I.loc,I.cell,I.free,I.freeC,I.pin,I.hok,I.len⟩
theorem SP.unwish{D:Ends}{f:Flow}{s':Shared}(h:SP (X.wish E) pins D f s'):SP X pins D f s':=by
 cases f with
 | next=>obtain⟨σ',H',I,q⟩:=h;exact⟨σ',H',I.unwish,q⟩
 | brk=>obtain⟨σ',H',I,q⟩:=h;exact⟨σ',H',I.unwish,q⟩
 | cont=>obtain⟨σ',H',I,q⟩:=h;exact⟨σ',H',I.unwish,q⟩
 | ret u=>obtain⟨v,σ',H',I,r,q⟩:=h;exact⟨v,σ',H',I.unwish,r,q⟩
theorem PSs.nox{st:List Stmt}{t:TS}(h:PSs X.nox st t):PSs X st t:=fun pins s σ H D I hw =>
 wpAny_mono (h pins s σ H D (I.wish _) hw) (fun _ _ q=>q.unwish) fun _ _ z=>False.elim z
end
section
variable {X:Cx}{st:Stmt}{rest:List Stmt}{t u:TS}{e:Expr}{te:TE}{pos:Pos}
def tNext:TS:=fun D σ H=>D.nx σ H
def tSeq(t u:TS):TS:=fun D σ H=>t { D with nx:=u D } σ H
theorem pss_nil:PSs X [] tNext:=fun _ _ σ H _ I h=>wpAny_execs_nil ⟨σ,H,I,h⟩
theorem pss_cons(h1:PS X st t)(h2:PSs X rest u):PSs X (st :: rest) (tSeq t u):=by
 intro pins s σ H D I h
 refine wpAny_execs_cons (thn (h1 pins s σ H { D with nx:=u D } I h) fun f s1 q=>?_)
 cases f with
 | next =>
  obtain⟨σ',H',I',q⟩:=q
  exact h2 pins s1 σ' H' D I' q
 | ret v=>exact q
 | brk=>exact q
 | cont=>exact q
theorem pss_one(h1:PS X st t):PSs X [st] t:=by
 intro pins s σ H D I h
 refine wpAny_execs_cons (thn (h1 pins s σ H D I h) fun f s1 q=>?_)
 cases f with
 | next=>exact wpAny_execs_nil q
 | ret v=>exact q
 | brk=>exact q
 | cont=>exact q
theorem Inv.quiet{pins:List (Addr×Obj)}{σ:St}{H:Hp}{s:Shared}(I:Inv X pins σ H s):interactive X.env=false:=by simp [interactive,I.ok.kind]
def tDrop(te:TE):TS:=fun D σ H=>te σ H fun _ H1=>D.nx σ H1
theorem ps_expr(he:PE X e te)(hs:swapsWith e none pos.line X.env=pure false:=by rfl):PS X (.Expr e pos) (tDrop te):=by
 intro pins s σ H D I h
 exact wpAny_Expr_any (thn (he pins s σ H _ I h) fun v s1 zz210=>ex23 zz210 fun x H1 I1 r1 q1=>⟨σ,H1,I1,q1⟩) I.quiet hs
def tRet(te:TE):TS:=fun D σ H=>te σ H D.rt
theorem ps_ret(he:PE X e te):PS X (.Return (some e) pos) (tRet te):=by
 intro pins s σ H D I h
 exact wpAny_Return_some (thn (he pins s σ H _ I h) fun v s1 zz211=>ex23 zz211 fun x H1 I1 r1 q1=>⟨x,σ,H1,I1,r1,q1⟩)
def tIfS(c:TT)(t u:TS):TS:=fun D σ H=>c σ H fun b H1=>if b=true then t D σ H1 else u D σ H1
theorem ps_if{c:Expr}{a b:List Stmt}{tc:TT}(hc:PT X c tc)(ha:PSs X a t)(hb:PSs X b u):PS X (.If c a b pos) (tIfS tc t u):=by
 intro pins s σ H D I h
 refine wpAny_If (thn (hc pins s σ H _ I h) fun d s1 ⟨H1,I1,q1⟩=>?_)
 cases d with
 | true=>exact ha pins s1 σ H1 D I1 q1
 | false=>exact hb pins s1 σ H1 D I1 q1
end
abbrev TG:=V->St->Hp->(St->Hp->Prop)->Prop
abbrev TGs:=List V->St->Hp->(St->Hp->Prop)->Prop
def PG(X:Cx)(target:Expr)(t:TG):Prop :=
 ∀(pins:List (Addr×Obj)) (s:Shared) (σ:St) (H:Hp) (v:V) (u:Value) (Q:St->Hp->Prop),Inv X pins σ H s->RelV v u->t v σ H Q ->
  wpAny (model X.prog X.w) X.A (assign target X.env u) (fun _ s'=>∃ σ' H',Inv X pins σ' H' s'/\Q σ' H') X.xe s
def PGs(X:Cx)(ts:List Expr)(t:TGs):Prop :=
 ∀(pins:List (Addr×Obj)) (s:Shared) (σ:St) (H:Hp) (vs:List V) (us:List Value) (Q:St->Hp->Prop),Inv X pins σ H s->Vals vs us->t vs σ H Q ->
  wpAny (model X.prog X.w) X.A (assignInOrder ((assignEach ts X.env).map (·.2)) us) (fun _ s'=>∃ σ' H',Inv X pins σ' H' s'/\Q σ' H') X.xe s
abbrev TSet:=V->V->V->Hp->(Hp->Prop)->Prop
def PSet(X:Cx)(t:TSet):Prop :=
 ∀(pins:List (Addr×Obj)) (s:Shared) (σ:St) (H:Hp) (o i v:V) (ov iv u:Value) (Q:Hp->Prop),Inv X pins σ H s->RelV o ov->RelV i iv->RelV v u->t o i v H Q ->
  wpAny (model X.prog X.w) X.A (setItem ov iv u) (fun _ s'=>∃H',Inv X pins σ H' s'/\Q H') X.xe s
section
variable {X:Cx}{pos:Pos}
def gName(i:Nat):TG:=fun v σ H Q=>Q (σ.set i (some v)) H
theorem pg_name{i:Nat}{x:Str}(hN:X.N.Nodup)(hi:X.N[i]?=some x)(hx:Loc X.env.scope x)(hf:X.fn x=true\/X.env.scope.names.lookup x=some .local:=by first | exact .inl rfl | exact .inr rfl | assumption):PG X (.Name x pos) (gName i):=by
 intro pins s σ H v u Q I r h
 exact wpAny_assign_Name (store_ok I hN hi hx r (fun s' I'=>⟨_,H,I',h⟩) hf)
def gNil:TGs:=fun vs σ H Q=>vs=[]/\Q σ H
def gCons(t:TG)(u:TGs):TGs:=fun vs σ H Q=>∃v r,vs=v :: r/\t v σ H fun σ' H'=>u r σ' H' Q
theorem pgs_nil:PGs X [] gNil:=by
 intro pins s σ H vs us Q I r h
 obtain⟨e,h⟩:=h
 subst e
 cases r
 exact assignInOrder_nil ⟨σ,H,I,h⟩
theorem pgs_cons{e:Expr}{es:List Expr}{t:TG}{u:TGs}(h1:PG X e t)(h2:PGs X es u)
  (hs:(assignEach (e :: es) X.env).map (·.2)=assign e X.env :: (assignEach es X.env).map (·.2):=by rfl):PGs X (e :: es) (gCons t u):=by
 intro pins s σ H vs us Q I r h
 obtain⟨v,vr,e1,h⟩:=h
 subst e1
 cases r with
 | cons r rr =>
  rw [hs]
  refine assignInOrder_cons (thn (h1 pins s σ H _ _ _ I r h) fun _ s1 zz501=>?_)
  obtain⟨σ1,H1,I1,q1⟩:=zz501
  exact h2 pins s1 σ1 H1 _ _ Q I1 rr q1
def gTup(K:PySem.W.Frag)(n:Nat)(t:TGs):TG:=fun v σ H Q=>∃a xs,v=.ref a/\SqT K H a xs/\xs.length=n/\t xs σ H Q
theorem pg_tup{es:List Expr}{k:Nat}{t:TGs}{n:Nat}(hc:X.calm=true)(h:PGs X es t)
  (hn:(assignEach es X.env).length=n:=by rfl) (hst:(assignEach es X.env).findIdx? (·.1)=none:=by rfl):PG X (.Tuple es k pos) (gTup X.K n t):=by
 intro pins s σ H v u Q I r hw
 obtain⟨a,xs,e1,hq,hl,hw⟩:=hw
 subst e1
 cases r
 obtain⟨its,rv,ht,hz⟩:=I.tuple hq
 refine assign_Tuple_tuple (I.ok.hd hc) ht (by simp [hn,<- hl,rv.length]) hst fun h' hx=>?_
 have I1:Inv X pins σ H { s with heap:=h' }:=I.kept (t':=s.toks) fun b o e=>hx b o (Nat.ne_of_lt (Heap.lt_size e)) e
 exact h pins _ σ H xs _ Q I1 (by simpa using rv) hw
def gSub(to ti:TE)(t:TSet):TG:=fun v σ H Q=>to σ H fun o H1=>ti σ H1 fun i H2=>t o i v H2 fun H3=>Q σ H3
theorem pg_sub{o i:Expr}{to ti:TE}{t:TSet}(ho:PE X o to)(hi:PE X i ti)(hs:PSet X t)
  (ha:∀v,assign (.Subscript o i pos) X.env v=(do
   let ov <- holding [v] (eval o X.env)
   let iv <- holding [v,ov] (eval i X.env)
   standAt pos
   holding [v,ov,iv] (setItem ov iv v)
   release [v,ov,iv] []):=by intro _;rfl):PG X (.Subscript o i pos) (gSub to ti t):=by
 intro pins s σ H v u Q I r h
 rw [ha]
 refine wpAny_bind (wpAny_holding (thn (ho pins s σ H _ I h) fun ov s1 zz212=>ex23 zz212 fun x H1 I1 r1 q1=>?_))
 refine wpAny_bind (wpAny_holding (thn (hi pins s1 σ H1 _ I1 q1) fun iv s2 zz213=>ex23 zz213 fun y H2 I2 r2 q2=>?_))
 refine wpAny_bind (wpAny_standAt (wpAny_bind (wpAny_holding (thn (hs pins s2 σ H2 x y v ov iv u _ I2 r1 r2 r q2) fun _ s3 ⟨H3,I3,q3⟩=>?_))))
 exact wpAny_release ⟨σ,H3,I3,q3⟩
def tAsg(te:TE)(g:TG):TS:=fun D σ H=>te σ H fun x H1=>g x σ H1 D.nx
theorem ps_asg{tg e:Expr}{te:TE}{g:TG}(he:PE X e te)(hg:PG X tg g)(hs:swapsWithSole [tg] e pos.line X.env=pure false:=by rfl)(hw:swappedStores [tg] e X.env=pure none:=by rfl)
  (h1:(assignEach [tg] X.env).map (·.2)=[assign tg X.env]:=by rfl):PS X (.Assign [tg] e pos) (tAsg te g):=by
 intro pins s σ H D I h
 refine wpAny_Assign_stores (thn (he pins s σ H _ I h) fun v s1 zz214=>ex23 zz214 fun x H1 I1 r1 q1=>?_) hs hw
 rw [h1]
 exact thn (hg pins s1 σ H1 x v _ I1 r1 q1) fun _ s2 q=>q
theorem ps_set{i:Nat}{x:Str}{e:Expr}{te:TE}{pos':Pos}(hN:X.N.Nodup)(hi:X.N[i]?=some x)(hx:Loc X.env.scope x)(he:PE X e te)(hs:swapsWith e (some (.Name x pos')) pos.line X.env=pure false:=by rfl)(hf:X.fn x=true\/X.env.scope.names.lookup x=some .local:=by first | exact .inl rfl | exact .inr rfl | assumption) :
  PS X (.Assign [.Name x pos'] e pos) (tAsg te (gName i)):=by
 intro pins s σ H D I h
 refine wpAny_Assign_Name (thn (he pins s σ H _ I h) fun v s1 zz215=>ex23 zz215 fun y H1 I1 r1 q1=>?_) hs
 exact store_ok I1 hN hi hx r1 (fun s2 I2=>⟨_,H1,I2,q1⟩) hf
def tPar(i j:Nat)(ta:TA):TS:=fun D σ H=>ta σ H fun vs H1=>∃v w,vs=[v,w]/\D.nx ((σ.set i (some v)).set j (some w)) H1
theorem ps_par{i j:Nat}{x y:Str}{a b:Expr}{ta:TA}{px py pt:Pos}{kt k2 pt2}(hc:X.calm=true)(hN:X.N.Nodup)(hi:X.N[i]?=some x)(hj:X.N[j]?=some y)(hij:i≠j)
  (hx:X.env.scope.names.lookup x=some .local) (hy:X.env.scope.names.lookup y=some .local) (ha:PA X [a,b] ta)
  (hw:swappedStores [.Tuple [.Name x px,.Name y py] kt pt] (.Tuple [a,b] k2 pt2) X.env=pure (some [x,y]))
  (hs:swapsWithSole [.Tuple [.Name x px,.Name y py] kt pt] (.Tuple [a,b] k2 pt2) pos.line X.env=pure false:=by rfl) :
  PS X (.Assign [.Tuple [.Name x px,.Name y py] kt pt] (.Tuple [a,b] k2 pt2) pos) (tPar i j ta):=by
 intro pins s σ H D I h
 rw [exec_Assign_arm]
 refine wpAny_bind (wpAny_standAt ?_)
 rw [hs]
 refine wpAny_bind (wpAny_pure ?_)
 rw [if_neg (by decide)]
 refine wpAny_bind (Tuple_ (thn (ha _ pins s σ H _ I h) fun us s1 zz216=>ex23 zz216 fun vs H1 I1 r1 q1=>?_))
 obtain⟨v,w,e1,q1⟩:=q1
 subst e1
 obtain⟨u1,u2,rfl,rv,rw'⟩:∃u1 u2,us=[u1,u2]/\RelV v u1/\RelV w u2:=by
  cases r1 with
  | cons p q =>
   cases q with
   | cons p' q' =>
    cases q'
    exact⟨_,_,rfl,p,p'⟩
 refine wpAny_newObj_type ?_ (by show 2<=sizeLine;decide)
 have I2:Inv X pins σ H1 { s1 with heap:=s1.heap.push { cls:=.type "tuple",data:=.seq [u1,u2].toArray } }:=I1.kept (t':=s1.toks) fun b o e=>Heap.get?_push_of_some _ e
 rw [hw]
 refine wpAny_bind (wpAny_pure ?_)
 show wpAny (model X.prog X.w) X.A (do rule "assign.swapped-stores";let items <- unpackItems (.ref s1.heap.objs.size) 2 none;assignInOrder [fun v=>bindName X.env y v,fun v=>bindName X.env x v] items.reverse;pure Flow.next) _ _ _
 refine wpAny_bind (wpAny_rule (wpAny_bind (unpackItems_tuple (items:=#[u1,u2]) (I.ok.hd hc) (IsTup.new s1.heap _) fun h' hx'=>?_)))
 have I3:=I2.kept (h':=h') (t':=s1.toks) fun b o e=>hx' b o (Nat.ne_of_lt (Heap.lt_size e)) e
 show wpAny _ _ (assignInOrder [fun v=>bindName X.env y v,fun v=>bindName X.env x v] [u2,u1] >>= fun _=>pure Flow.next) _ _ _
 refine wpAny_bind (assignInOrder_cons (wpAny_bindName (store_ok I3 hN hj (.inl hy) rw' (fun s2 I4=>?_) (.inr hy))))
 refine assignInOrder_cons (wpAny_bindName (store_ok I4 hN hi (.inl hx) rv (fun s3 I5=>assignInOrder_nil (wpAny_pure ?_)) (.inr hx)))
 rw [List.set_comm _ _ (Ne.symm hij)]at I5
 exact⟨_,H1,I5,q1⟩
end
section
variable {X:Cx}{pos:Pos}
def tWhile(c:TT)(tb:TS):TS:=fun D σ H=>∃W:Nat->St->Hp->Prop,(∃m,W m σ H)/\∀m σ H,W m σ H ->
 c σ H fun b H1=>if b=true then ∃N:St->Hp->Prop,(∀ σ' H',N σ' H'->∃m',m' < m/\W m' σ' H')/\tb { D with nx:=N,ct:=N,bk:=D.nx } σ H1 else D.nx σ H1
theorem ps_while{c:Expr}{body:List Stmt}{tc:TT}{tb:TS}(hp:PassesOwn (model X.prog X.w) X.A X.env X.xe)(hc:PT X c tc)(hb:PSs X body tb):PS X (.While c body [] pos) (tWhile tc tb):=by
 intro pins s σ H D I h
 obtain⟨W,⟨m0,w0⟩,turn⟩:=h
 refine wpAny_While (codeAny_whileLoop (fun n s'=>∃ σ' H',Inv X pins σ' H' s'/\W n σ' H') ?_ m0 ⟨σ,H,I,w0⟩)
 rintro n s1 ⟨σ1,H1,I1,w1⟩
 refine wpAny_passesOwn hp (thn (hc pins s1 σ1 H1 _ I1 (turn n σ1 H1 w1)) fun b s2 ⟨H2,I2,q2⟩=>?_)
 cases b with
 | true =>
  obtain⟨N,hN,q2⟩:=q2
  rw [if_pos rfl]
  refine wpAny_passesOwn hp (thn (hb pins s2 σ1 H2 _ I2 q2) fun f s3 q3=>?_)
  cases f with
  | next =>
   obtain⟨σ3,H3,I3,n3⟩:=q3
   obtain⟨m',hm,w3⟩:=hN σ3 H3 n3
   exact⟨m',hm,σ3,H3,I3,w3⟩
  | cont =>
   obtain⟨σ3,H3,I3,n3⟩:=q3
   obtain⟨m',hm,w3⟩:=hN σ3 H3 n3
   exact⟨m',hm,σ3,H3,I3,w3⟩
  | brk=>exact q3
  | ret v=>exact q3
 | false =>
  rw [if_neg Bool.false_ne_true]
  exact wpAny_execs_nil ⟨σ1,H2,I2,q2⟩
end
structure It where
 go:Nat->Hp->Prop
 yld:Nat->Hp->V->Hp->Prop
 stop:Nat->Hp->Prop
def FpOk(X:Cx)(pins:List (Addr×Obj))(H:Hp)(b:Addr):Prop :=
 H b=none/\b≠X.env.locals/\b∉X.fs/\(b∈X.ex\/X.s₀.heap.objs.size<=b)/\(∀x c,X.env.cells.lookup x=some c->c≠b)/\∀p∈X.pn++pins,p.1≠b
theorem Inv.fpOk{X:Cx}{pins:List (Addr×Obj)}{σ:St}{H H':Hp}{s:Shared}{b:Addr}(I:Inv X pins σ H s)(hb:s.heap.objs.size<=b)(hn:H' b=none):FpOk X pins H' b:=by
 refine⟨hn,Nat.ne_of_gt (Nat.lt_of_lt_of_le I.lt hb),I.nofs hb,.inr (Nat.le_trans I.sz hb),fun x c e z=>?_,fun p hp z=>?_⟩
 ·obtain⟨v,q⟩:=I.cell x c e
  exact absurd (Nat.lt_of_lt_of_le q.lt (by rw [z];exact hb)) (Nat.lt_irrefl _)
 ·exact absurd (Nat.lt_of_lt_of_le (Heap.lt_size (I.pin p hp).1) (by rw [z];exact hb)) (Nat.lt_irrefl _)
structure Turn(P:Program)(w:World)(K:PySem.W.Frag)(tg:Expr)(J:It)(fp:List Addr)(it:Addr)(tn:Nat->Heap->Prop):Prop where
 mem:it∈fp
 obj:∀i h,tn i h->∀b∈fp,∃o,h.get? b=some o/\∀v,o.data≠.cell v
 keep:∀i h h',tn i h->(∀b∈fp,∀o,h.get? b=some o->h'.get? b=some o)->tn i h'
 item:∀(X:Cx),X.prog=P->X.w=w->X.K=K->X.calm=true->∀(i:Nat) (pins:List (Addr×Obj)) (s:Shared) (σ:St) (H:Hp) (E:Value->Shared->Prop),Inv X pins σ H s->(∀b∈fp,FpOk X pins H b)->tn i s.heap->J.go i H ->
  wpAny (model P w) X.A (pyNext (.ref it)) (fun r s1=>∃u,r=some u /\
   wpAny (model P w) X.A (letOwnedTupleGo tg (.ref it) u) (fun _ s2=>∃x H',Inv X pins σ H' s2/\RelV x u/\J.yld i H x H'/\tn (i+1) s2.heap/\∀b∈fp,H' b=none) E s1) E s
 done:∀(X:Cx),X.prog=P->X.w=w->X.K=K->X.calm=true->∀(i:Nat) (pins:List (Addr×Obj)) (s:Shared) (σ:St) (H:Hp) (E:Value->Shared->Prop),Inv X pins σ H s->(∀b∈fp,FpOk X pins H b)->tn i s.heap->J.stop i H ->
  wpAny (model P w) X.A (pyNext (.ref it)) (fun r s1=>r=none/\Inv X pins σ H s1) E s
 self:∀(A:Around) (i:Nat) (s:Shared) (Q:Value->Shared->Prop) (E:Value->Shared->Prop),tn i s.heap->Q (.ref it) s->wpAny (model P w) A (pyIter (.ref it)) Q E s
abbrev TI:=St->Hp->(It->Hp->Prop)->Prop
def PIE(X:Cx)(pins:List (Addr×Obj))(σ:St)(tg:Expr)(R:It->Hp->Prop)(itv:Value)(s2:Shared):Prop :=
 ∃(it:Addr) (fp:List Addr) (tn:Nat->Heap->Prop) (J:It) (H':Hp),itv=.ref it/\Inv X pins σ H' s2/\Turn X.prog X.w X.K tg J fp it tn/\tn 0 s2.heap/\(∀b∈fp,FpOk X pins H' b)/\R J H'
def PI(X:Cx)(tg iter:Expr)(wi:TI):Prop :=
 ∀(pins:List (Addr×Obj)) (s:Shared) (σ:St) (H:Hp) (R:It->Hp->Prop),Inv X pins σ H s->wi σ H R ->
  wpAny (model X.prog X.w) X.A (eval iter X.env) (fun v s1=>wpAny (model X.prog X.w) X.A (pyIter v) (PIE X pins σ tg R) X.xe s1) X.xe s
theorem go_of{M:Model}{A:Around}{E:Value->Shared->Prop}{s:Shared}{tg:Expr}{it:Addr}{u:Value}{o:Obj}{n:String}{vs:Array Value}{Q:Unit->Shared->Prop}(ho:s.heap.get? it=some o)(hc:o.cls=.type n)(hd:o.data=.fields vs)
  (hn:["enumerate","zip","dict_itemiterator","dict_reverseitemiterator","odict_iterator","itertools.zip_longest","itertools.pairwise"].contains n=false) (hQ:Q () s):wpAny M A (letOwnedTupleGo tg (.ref it) u) Q E s:=by
 unfold letOwnedTupleGo
 cases tg <;> first
  | exact wpAny_pure hQ
  | (cases u <;> first
    | exact wpAny_pure hQ
    | (refine wpAny_bind (wpAny_load ho ?_)
       rw [hc, hd]
       show wpAny M A (if (["enumerate", "zip", "dict_itemiterator", "dict_reverseitemiterator", "odict_iterator", "itertools.zip_longest", "itertools.pairwise"].contains n && vs[0]? == some (rawInt _)) = true then _ else _) Q E s
       rw [if_neg (by intro h; rw [hn, Bool.false_and] at h; cases h)]
       exact wpAny_pure hQ))
def Itl(K:PySem.W.Frag)(a:Addr):It :=
 ⟨fun i H=>∃xs x,SqL K H a xs/\xs[i]?=some x,fun i H x H'=>H'=H/\∀xs,SqL K H a xs->xs[i]?=some x,fun i H=>∃xs,SqL K H a xs/\xs.length<=i⟩
def Itt(K:PySem.W.Frag)(a:Addr):It :=
 ⟨fun i H=>∃xs x,SqT K H a xs/\xs[i]?=some x,fun i H x H'=>H'=H/\∀xs,SqT K H a xs->xs[i]?=some x,fun i H=>∃xs,SqT K H a xs/\xs.length<=i⟩
def Itr(lo:Int)(n:Nat):It:=⟨fun i _=>i < n,fun i H x H'=>H'=H/\x=.int (lo+i),fun i _=>n<=i⟩
theorem turn_list{P:Program}{w:World}{K:PySem.W.Frag}{tg:Expr}(a it:Addr):Turn P w K tg (Itl K a) [it] it (fun i h=>h.IsListIter it a i) where
 mem:=by simp
 obj:=fun i h st b hb=>by
  have e:b=it:=by simpa using hb
  subst e
  obtain⟨o,e,c,d⟩:=st
  exact⟨o,e,fun v z=>by rw [d]at z;cases z⟩
 keep:=fun i h h' st k=>st.at fun o e=>k it (by simp) o e
 item:=by
  intro X hP hw hK hc i pins s σ H E I hf st hg
  subst hP hw hK
  obtain⟨xs,x,hq,hx⟩:=hg
  obtain⟨its,rv,p,hz⟩:=I.list hq
  obtain⟨u,hu,ru⟩:=rv.get hx
  obtain⟨f0,f1,f2,f3,f4,f5⟩:=hf it (by simp)
  refine wpAny_pyNext_list_item st p.isList (x:=u) (by simpa using hu) fun h' st' sb=>?_
  have I1:Inv X pins σ H { s with heap:=h' }:=I.turned (t':=s.toks) (fun b o hb e=>(sb.2 b hb).trans e) f0 f1 f3 f4 f5
  obtain⟨o,e,c,d⟩:=id st'
  exact⟨u,rfl,go_of (s:={ s with heap:=h' }) e c d (by decide) ⟨x,H,I1,ru,⟨rfl,fun ys hy=>by rw [I.list_inj hy hq];exact hx⟩,st',fun b hb=>(hf b hb).1⟩⟩
 done:=by
  intro X hP hw hK hc i pins s σ H E I hf st hg
  subst hP hw hK
  obtain⟨xs,hq,hx⟩:=hg
  obtain⟨its,rv,p,hz⟩:=I.list hq
  obtain⟨f0,f1,f2,f3,f4,f5⟩:=hf it (by simp)
  have hl:=rv.length
  exact wpAny_pyNext_list_end (I.ok.hd hc) st p.isList (by simp;omega) fun h' eb=>⟨rfl,I.turned (t':=s.toks) (fun b o hb e=>eb b o hb e) f0 f1 f3 f4 f5⟩
 self:=fun _ _ _ _ _ st h=>wpAny_pyIter_listiter st h
theorem turn_tuple{P:Program}{w:World}{K:PySem.W.Frag}{tg:Expr}(a it:Addr):Turn P w K tg (Itt K a) [it] it (fun i h=>h.IsTupleIter it a i) where
 mem:=by simp
 obj:=fun i h st b hb=>by
  have e:b=it:=by simpa using hb
  subst e
  obtain⟨o,e,c,d⟩:=st
  exact⟨o,e,fun v z=>by rw [d]at z;cases z⟩
 keep:=fun i h h' st k=>st.at fun o e=>k it (by simp) o e
 item:=by
  intro X hP hw hK hc i pins s σ H E I hf st hg
  subst hP hw hK
  obtain⟨xs,x,hq,hx⟩:=hg
  obtain⟨its,rv,p,hz⟩:=I.tuple hq
  obtain⟨u,hu,ru⟩:=rv.get hx
  obtain⟨f0,f1,f2,f3,f4,f5⟩:=hf it (by simp)
  refine wpAny_pyNext_tuple_item st (show s.heap.IsTuple a its.toArray from p) (x:=u) (by simpa using hu) fun h' st' sb=>?_
  have I1:Inv X pins σ H { s with heap:=h' }:=I.turned (t':=s.toks) (fun b o hb e=>(sb.2 b hb).trans e) f0 f1 f3 f4 f5
  obtain⟨o,e,c,d⟩:=id st'
  exact⟨u,rfl,go_of (s:={ s with heap:=h' }) e c d (by decide) ⟨x,H,I1,ru,⟨rfl,fun ys hy=>by rw [I.tuple_inj hy hq];exact hx⟩,st',fun b hb=>(hf b hb).1⟩⟩
 done:=by
  intro X hP hw hK hc i pins s σ H E I hf st hg
  subst hP hw hK
  obtain⟨xs,hq,hx⟩:=hg
  obtain⟨its,rv,p,hz⟩:=I.tuple hq
  obtain⟨f0,f1,f2,f3,f4,f5⟩:=hf it (by simp)
  have hl:=rv.length
  exact wpAny_pyNext_tuple_end (I.ok.hd hc) st (show s.heap.IsTuple a its.toArray from p) (by simp;omega) fun h' eb=>⟨rfl,I.turned (t':=s.toks) (fun b o hb e=>eb b o hb e) f0 f1 f3 f4 f5⟩
 self:=fun _ _ _ _ _ st h=>wpAny_pyIter_tupleiter st h
theorem turn_range{P:Program}{w:World}{K:PySem.W.Frag}{tg:Expr}(it:Addr)(lo:Int)(n:Nat):Turn P w K tg (Itr lo n) [it] it (fun i h=>IsRangeIter h it (lo+(i:Nat) * 1) ((n:Int) - (i:Nat)) 1) where
 mem:=by simp
 obj:=fun i h st b hb=>by
  have e:b=it:=by simpa using hb
  subst e
  exact⟨_,st,fun v z=>by
   have z':Data.fields _=Data.cell v:=z
   cases z'⟩
 keep:=fun i h h' st k=>k it (by simp) _ st
 item:=by
  intro X hP hw hK hc i pins s σ H E I hf st hg
  subst hP hw hK
  obtain⟨f0,f1,f2,f3,f4,f5⟩:=hf it (by simp)
  have W:=Walks.range (prog:=X.prog) (w:=X.w) (I.ok.hd hc) it lo 1 n
  refine W.item i s _ _ hg st fun v h' tk hv st' kk=>?_
  obtain⟨t,rfl⟩:=hv
  have I1:Inv X pins σ H { s with heap:=h',toks:=tk }:=I.turned (fun b o hb e=>kk b o (by simpa using hb) e) f0 f1 f3 f4 f5
  refine⟨_,rfl,go_of (s:={ s with heap:=h',toks:=tk }) (n := "range_iterator") st' rfl rfl (by decide) ⟨.int (lo+i),H,I1,⟨t,?_⟩,⟨rfl,rfl⟩,st',fun b hb=>(hf b hb).1⟩⟩
  rw [Int.mul_one]
 done:=by
  intro X hP hw hK hc i pins s σ H E I hf st hg
  subst hP hw hK
  obtain⟨f0,f1,f2,f3,f4,f5⟩:=hf it (by simp)
  exact wpAny_pyNext_range_end (I.ok.hd hc) st (by have:n<=i:=hg;omega) fun h' eb=>⟨rfl,I.turned (t':=s.toks) (fun b o hb e=>eb b o hb e) f0 f1 f3 f4 f5⟩
 self:=fun _ _ _ _ _ st h=>wpAny_pyIter_rangeiter st h
end L2
namespace L2
open PySem PySem.Spec PyProof.Rows
section
variable {X:Cx}{tg:Expr}
theorem range_it{pins:List (Addr×Obj)}{σ:St}{H:Hp}{s:Shared}{R:It->Hp->Prop}{E:Value->Shared->Prop}{lo hi:Int}{t u v:Tok}{tk:Nat}(I:Inv X pins σ H s)(h1:-(2 ^ 62)<=lo)(h2:lo < 2 ^ 62)(h3:-(2 ^ 62)<=hi)(h4:hi < 2 ^ 62)
  (q:R (Itr lo (hi - lo).toNat) H):wpAny (model X.prog X.w) X.A (pyIter (.ref s.heap.objs.size)) (PIE X pins σ tg R) E { s with heap:=s.heap.push { cls:=.type "range",data:=.fields #[.int lo t,.int hi u,.int 1 v] },toks:=tk }:=by
 refine wpAny_pyIter_range (IsRange.new ..) (small_one h1 h2 h3 h4) ?_
 have I1:Inv X pins σ H { s with heap:=s.heap.push { cls:=.type "range",data:=.fields #[.int lo t,.int hi u,.int 1 v] },toks:=tk }:=I.kept fun b o e=>Heap.get?_push_of_some _ e
 refine⟨(s.heap.push { cls:=.type "range",data:=.fields #[.int lo t,.int hi u,.int 1 v] }).objs.size,[(s.heap.push { cls:=.type "range",data:=.fields #[.int lo t,.int hi u,.int 1 v] }).objs.size],_,_,H,rfl,
  I1.kept (t':=tk) fun b o e=>Heap.get?_push_of_some _ e,turn_range _ lo (hi - lo).toNat,?_,fun b hb=>?_,q⟩
 ·have e1:lo+((0:Nat):Int) * 1=lo:=by simp
  have e2:(((hi - lo).toNat:Nat):Int) - ((0:Nat):Int)=Builtin.Range.rangeSize lo hi 1:=by rw [rangeSize_one];split <;> omega
  show IsRangeIter _ _ (lo+((0:Nat):Int) * 1) ((((hi - lo).toNat:Nat):Int) - ((0:Nat):Int)) 1
  rw [e1,e2]
  exact Heap.get?_push_size _ rfl
 ·have e:b=(s.heap.push { cls:=.type "range",data:=.fields #[.int lo t,.int hi u,.int 1 v] }).objs.size:=by simpa using hb
  subst e
  exact I1.fpOk (Nat.le_refl _) (I1.hok.fresh (Nat.le_refl _))
def iRng1(ta:TA):TI:=fun σ H R=>ta σ H fun vs H1=>∃j:Int,vs=[.int j]/\-(2 ^ 62)<=j/\j < 2 ^ 62/\R (Itr 0 j.toNat) H1
theorem pi_range1{a:Expr}{ta:TA}{p pos:Pos}(hg:Gl X "range") (hm:X.mg "range" = none) (ha:PA X [a] ta) (hs:starEach [a] X.env=[(false,eval a X.env)]:=by rfl):PI X tg (.Call (.Name "range" p) [a] [] pos) (iRng1 ta):=by
 intro pins s σ H R I h
 refine Call_ (ld_blt I hg hm boot_range (PyProof.Rows.callWith_type1 (thn (ha pos pins s σ H _ I h) fun us s1 zz226=>ex23 zz226 fun vs H1 I1 r1 q1=>?_) hs rfl))
 obtain⟨j,e,q1,q2,q⟩:=q1
 subst e
 cases r1 with
 | cons r rr =>
  cases rr
  obtain⟨t,rfl⟩:=r
  exact call_range_1 (range_it I1 (by omega) (by omega) q1 q2 (by simpa using q))
def tFor(wi:TI)(g:TG)(tb:TS):TS:=fun D σ H=>wi σ H fun J H1=>∃W:Nat->Nat->St->Hp->Prop,(∃m,W 0 m σ H1)/\∀i m σ H,W i m σ H ->
 (J.stop i H/\D.nx σ H)\/(J.go i H/\∃N:St->Hp->Prop,(∀ σ' H',N σ' H'->∃m',m' < m/\W (i+1) m' σ' H')/\∀x H',J.yld i H x H'->g x σ H' fun σ2 H2=>tb { D with nx:=N,ct:=N,bk:=D.nx } σ2 H2)
def pinsAt(fp:List Addr)(h:Heap):List (Addr×Obj):=fp.filterMap fun b=>(h.get? b).map fun o=>(b,o)
theorem mem_pinsAt{fp:List Addr}{h:Heap}{b:Addr}{o:Obj}(hb:b∈fp)(e:h.get? b=some o):(b,o)∈pinsAt fp h:=List.mem_filterMap.mpr ⟨b,hb,by rw [e];rfl⟩
theorem of_pinsAt{fp:List Addr}{h:Heap}{p:Addr×Obj}(hp:p∈pinsAt fp h):p.1∈fp/\h.get? p.1=some p.2:=by
 obtain⟨b,hb,e⟩:=List.mem_filterMap.mp hp
 cases q:h.get? b with
 | none=>rw [q]at e;cases e
 | some o =>
  rw [q]at e
  have e':(b,o)=p:=Option.some.inj e
  subst e'
  exact⟨hb,q⟩
theorem Inv.pinned{pins:List (Addr×Obj)}{σ:St}{H:Hp}{s:Shared}{fp:List Addr}(I:Inv X pins σ H s)(hf:∀b∈fp,FpOk X pins H b)(ho:∀b∈fp,∃o,s.heap.get? b=some o/\∀v,o.data≠.cell v):Inv X (pins++pinsAt fp s.heap) σ H s :=
 I.pins_of fun p hp=>(List.mem_append.mp hp).elim (fun z=>I.pin p (List.mem_append_right _ z)) fun z=>by
  obtain⟨hb,e⟩:=of_pinsAt z
  obtain⟨f0,f1,f2,_⟩:=hf p.1 hb
  obtain⟨o,e',d⟩:=ho p.1 hb
  rw [e]at e';cases e'
  exact⟨e,f0,f1,f2,d⟩
theorem Inv.unpinned{pins pl:List (Addr×Obj)}{σ:St}{H:Hp}{s:Shared}(I:Inv X (pins++pl) σ H s):Inv X pins σ H s:=I.pins_of fun p hp=>I.pin p (List.mem_append_right _ (List.mem_append_left _ hp))
theorem ps_for{iter:Expr}{body:List Stmt}{wi:TI}{g:TG}{tb:TS}{pos:Pos}(hp:PassesOwn (model X.prog X.w) X.A X.env X.xe)(hc:X.calm=true)(hi:PI X tg iter wi)(hg:PG X tg g)(hb:PSs X body tb)
  (hs:∀x,foldedSetIterable iter X.env x=pure x:=by intro _;rfl):PS X (.For tg iter body [] pos) (tFor wi g tb):=by
 intro pins s σ H D I h
 refine wpAny_For (thn (hi pins s σ H _ I h) fun v s1 h1=>thn h1 fun itv s2 h2=>?_) hs
 obtain⟨it,fp,tn,J,H2,e,I2,T,st2,f2,W,⟨m0,w0⟩,turn⟩:=h2
 subst e
 have stat:∀{H':Hp},(∀b∈fp,H' b=none)->∀b∈fp,FpOk X pins H' b:=fun hn b hb=>⟨hn b hb,(f2 b hb).2⟩
 refine codeAny_forLoop_any (fun n s'=>∃i σ' H',Inv X pins σ' H' s'/\tn i s'.heap/\(∀b∈fp,H' b=none)/\W i n σ' H') ?_ m0 ⟨0,σ,H2,I2,st2,fun b hb=>(f2 b hb).1,w0⟩
 rintro n s3 ⟨i,σ3,H3,I3,st3,fr3,w3⟩
 rcases turn i n σ3 H3 w3 with⟨stop,qn⟩ | ⟨go,N,hN,step⟩
 ·refine wpAny_passesOwn hp (thn (T.done X rfl rfl rfl hc i pins s3 σ3 H3 X.xe I3 (stat fr3) st3 stop) fun r s4 ⟨hr,I4⟩=>?_)
  subst hr
  exact wpAny_execs_nil ⟨σ3,H3,I4,qn⟩
 ·refine wpAny_passesOwn hp (thn (T.item X rfl rfl rfl hc i pins s3 σ3 H3 X.xe I3 (stat fr3) st3 go) fun r s4 ⟨u,hr,h4⟩=>?_)
  subst hr
  refine wpAny_passesOwn hp (thn h4 fun _ s5 zz502=>?_)
  obtain⟨x,H5,I5,r5,y5,st5,fr5⟩:=zz502
  have I5':=I5.pinned (stat fr5) (T.obj _ _ st5)
  refine wpAny_passesOwn hp (thn (hg _ s5 σ3 H5 x u _ I5' r5 (step x H5 y5)) fun _ s6 zz503=>?_)
  obtain⟨σ6,H6,I6,q6⟩:=zz503
  refine wpAny_passesOwn hp (thn (hb _ s6 σ6 H6 _ I6 q6) fun f s7 q7=>?_)
  have again:∀{σ7:St} {H7:Hp},Inv X (pins++pinsAt fp s5.heap) σ7 H7 s7->N σ7 H7->∃m,m < n/\∃i σ' H',Inv X pins σ' H' s7/\tn i s7.heap/\(∀b∈fp,H' b=none)/\W i m σ' H':=fun {σ7 H7} I7 n7=>by
   obtain⟨m',hm,w7⟩:=hN σ7 H7 n7
   refine⟨m',hm,i+1,σ7,H7,I7.unpinned,T.keep _ _ _ st5 fun b hb o e=>(I7.pin (b,o) (List.mem_append_right _ (List.mem_append_right _ (mem_pinsAt hb e)))).1,fun b hb=>?_,w7⟩
   obtain⟨o,e,d⟩:=T.obj _ _ st5 b hb
   exact(I7.pin (b,o) (List.mem_append_right _ (List.mem_append_right _ (mem_pinsAt hb e)))).2.1
  cases f with
  | next=>obtain⟨σ7,H7,I7,n7⟩:=q7;exact again I7 n7
  | cont=>obtain⟨σ7,H7,I7,n7⟩:=q7;exact again I7 n7
  | brk=>obtain⟨σ7,H7,I7,q7⟩:=q7;exact⟨σ7,H7,I7.unpinned,q7⟩
  | ret v=>obtain⟨x7,σ7,H7,I7,r7,q7⟩:=q7;exact⟨x7,σ7,H7,I7.unpinned,r7,q7⟩
end
end L2
namespace L2
open PySem PySem.Spec PyProof.Rows
abbrev R2:=V->V->Hp->VK->Prop
def OpR(X:Cx)(f:Value->Value->Sem Value)(r:R2):Prop :=
 ∀(pins:List (Addr×Obj)) (s:Shared) (σ:St) (H:Hp) (x y:V) (v u:Value) (Q:VK),Inv X pins σ H s->RelV x v->RelV y u->r x y H Q ->
  wpAny (model X.prog X.w) X.A (f v u) (EP X pins σ Q) X.xe s
def CallR(X:Cx)(f:Value)(r:List V->Hp->VK->Prop):Prop :=
 ∀(pins:List (Addr×Obj)) (s:Shared) (σ:St) (H:Hp) (xs:List V) (us:List Value) (Q:VK),Inv X pins σ H s->Vals xs us->r xs H Q ->
  wpAny (model X.prog X.w) X.A (call f us) (EP X pins σ Q) X.xe s
def tOp(r:R2)(ta tb:TE):TE:=fun σ H Q=>ta σ H fun x H1=>tb σ H1 fun y H2=>r x y H2 Q
def rI(C:Int->Int->Prop)(g:Int->Int->V):R2:=fun x y H Q=>∃i j,x=.int i/\y=.int j/\C i j/\Q (g i j) H
def rI0(g:Int->Int->V):R2:=fun x y H Q=>∃i j,x=.int i/\y=.int j/\Q (g i j) H
section
variable {X:Cx}{a b c:Expr}{ta tb tc:TE}{pos:Pos}
theorem binT(ha:PE X a ta)(hb:PE X b tb){pins:List (Addr×Obj)}{s:Shared}{σ:St}{H:Hp}{R:V->V->Hp->Prop}(I:Inv X pins σ H s)
  (h:ta σ H fun x H1=>tb σ H1 fun y H2=>R x y H2) {Q:Value->Shared->Prop} {f:Value->Value->Sem Value}
  (hf:∀v u s2 x y H2,Inv X pins σ H2 s2->RelV x v->RelV y u->R x y H2->wpAny (model X.prog X.w) X.A (f v u) Q X.xe s2) :
  wpAny (model X.prog X.w) X.A (eval a X.env) (fun v s₁=>wpAny (model X.prog X.w) X.A (eval b X.env) (fun u s₂=>wpAny (model X.prog X.w) X.A (f v u) Q X.xe s₂) X.xe s₁) X.xe s:=by
 refine thn (ha pins s σ H _ I h) fun v s1 zz228=>ex23 zz228 fun x H1 I1 r1 q1=>?_
 refine thn (hb pins s1 σ H1 _ I1 q1) fun u s2 zz229=>ex23 zz229 fun y H2 I2 r2 q2=>?_
 exact hf v u s2 x y H2 I2 r1 r2 q2
theorem pe_op{op:Operator}{r:R2}(ho:OpR X (binaryOp op) r)(ha:PE X a ta)(hb:PE X b tb):PE X (.BinOp a op b pos) (tOp r ta tb):=by
 intro pins s σ H Q I h
 exact wpAny_BinOp (binT ha hb I h fun v u s2 x y H2 I2 rx ry q=>ho pins s2 σ H2 x y v u Q I2 rx ry q)
theorem opI{f:Value->Value->Sem Value}{C:Int->Int->Prop}{g:Int->Int->Int}
  (rule:∀(i j:Int) (t u:Tok) (s:Shared) (Q:Value->Shared->Prop) (E:Value->Shared->Prop),C i j->Q (.int (g i j) s.toks) { s with toks:=s.toks+1 }->wpAny (model X.prog X.w) X.A (f (.int i t) (.int j u)) Q E s) :
  OpR X f (rI C fun i j=>.int (g i j)):=by
 intro pins s σ H x y v u Q I rx ry h
 obtain⟨i,j,rfl,rfl,hc,q⟩:=h
 obtain⟨t,rfl⟩:=rx
 obtain⟨t',rfl⟩:=ry
 exact rule i j t t' s _ _ hc ⟨.int (g i j),H,I.tok _,⟨_,rfl⟩,q⟩
theorem opI0{f:Value->Value->Sem Value}{g:Int->Int->Int}
  (rule:∀(i j:Int) (t u:Tok) (s:Shared) (Q:Value->Shared->Prop) (E:Value->Shared->Prop),Q (.int (g i j) s.toks) { s with toks:=s.toks+1 }->wpAny (model X.prog X.w) X.A (f (.int i t) (.int j u)) Q E s) :
  OpR X f (rI0 fun i j=>.int (g i j)):=by
 intro pins s σ H x y v u Q I rx ry h
 obtain⟨i,j,rfl,rfl,q⟩:=h
 obtain⟨t,rfl⟩:=rx
 obtain⟨t',rfl⟩:=ry
 exact rule i j t t' s _ _ ⟨.int (g i j),H,I.tok _,⟨_,rfl⟩,q⟩
theorem opB0{f:Value->Value->Sem Value}{g:Int->Int->Bool}
  (rule:∀(i j:Int) (t u:Tok) (s:Shared) (Q:Value->Shared->Prop) (E:Value->Shared->Prop),Q (.bool (g i j)) s->wpAny (model X.prog X.w) X.A (f (.int i t) (.int j u)) Q E s) :
  OpR X f (rI0 fun i j=>.bl (g i j)):=by
 intro pins s σ H x y v u Q I rx ry h
 obtain⟨i,j,rfl,rfl,q⟩:=h
 obtain⟨t,rfl⟩:=rx
 obtain⟨t',rfl⟩:=ry
 exact rule i j t t' s _ _ ⟨.bl (g i j),H,I,rfl,q⟩
def CDiv(i j:Int):Prop:=0 < j/\j < 1073741824
def CPow(i j:Int):Prop:=0<=j/\j<=1000000/\i.natAbs < 2 ^ 64
def CMul(i j:Int):Prop:=(-(2 ^ 64) < i/\i < 2 ^ 64)\/(-(2 ^ 64) < j/\j < 2 ^ 64)
theorem CMul.ok{i j:Int}(h:CMul i j):IntMulOk i j:=by
 rcases h with⟨h1,h2⟩ | ⟨h1,h2⟩
 ·exact .of_left (intBits_le_64 h1 h2)
 ·exact .of_right (intBits_le_64 h1 h2)
theorem op_add:OpR X (binaryOp .Add) (rI0 fun i j=>.int (i+j)):=opI0 fun _ _ _ _ _ _ _ q=>add_int q
theorem op_sub:OpR X (binaryOp .Sub) (rI0 fun i j=>.int (i - j)):=opI0 fun _ _ _ _ _ _ _ q=>sub_int q
theorem op_mul:OpR X (binaryOp .Mult) (rI CMul fun i j=>.int (i * j)):=opI fun _ _ _ _ _ _ _ hc q=>mul_int q hc.ok
theorem op_fdiv:OpR X (binaryOp .FloorDiv) (rI CDiv fun i j=>.int (i / j)):=opI fun i j _ _ _ _ _ hc q=>by
 have h1:(0:Int) < j:=hc.1
 have h2:j < 1073741824:=hc.2
 exact floordiv_int (by omega) (by rw [Int.fdiv_eq_ediv_of_nonneg i (by omega)];exact q) (.inl (PyProof.noPylong_small (by omega)))
theorem op_mod:OpR X (binaryOp .Mod) (rI (fun _ j=>0 < j) fun i j=>.int (i % j)):=opI fun i j _ _ _ _ _ hc q=>by
 have h1:(0:Int) < j:=hc
 exact mod_int' (by omega) (by rw [Int.fmod_eq_emod_of_nonneg i (by omega)];exact q)
theorem op_pow:OpR X (binaryOp .Pow) (rI CPow fun i j=>.int (i ^ j.toNat)):=opI fun _ _ _ _ _ _ _ hc q=>pow_int_small hc.1 hc.2.1 hc.2.2 q
end
section
variable {X:Cx}{a b c:Expr}{ta tb tc:TE}{pos:Pos}
theorem fin_bl{pins:List (Addr×Obj)}{σ:St}{H:Hp}{s:Shared}{Q:VK}{k k':Bool}(I:Inv X pins σ H s)(q:Q (.bl k) H)(e:k=k'):EP X pins σ Q (.bool k') s:=by
 subst e
 exact⟨.bl k,H,I,rfl,q⟩
theorem op_lt:OpR X (compareOp .Lt) (rI0 fun i j=>.bl (decide (i < j))):=opB0 fun _ _ _ _ _ _ _ q=>lt_int q
theorem op_gt:OpR X (compareOp .Gt) (rI0 fun i j=>.bl (decide (j < i))):=opB0 fun _ _ _ _ _ _ _ q=>gt_int q
theorem op_ge:OpR X (compareOp .GtE) (rI0 fun i j=>.bl (decide (j<=i))):=opB0 fun _ _ _ _ _ _ _ q=>ge_int q
theorem op_in_str:OpR X (compareOp .In) (fun x y H Q=>∃i j,x=.str i/\y=.str j/\Q (.bl (!(Builtin.Str.occurrences j i 0 j.length 1).isEmpty)) H):=by
 intro pins s σ H x y v u Q I rx ry h
 obtain⟨i,j,rfl,rfl,q⟩:=h
 obtain⟨t,rfl⟩:=rx
 obtain⟨t',rfl⟩:=ry
 exact in_str (fin_bl I q rfl)
theorem op_isN:OpR X (compareOp .Is) (fun x y H Q=>y=.non/\Q (.bl (decide (x=.non))) H):=by
 intro pins s σ H x y v u Q I rx ry h
 obtain⟨rfl,q⟩:=h
 cases ry
 refine is_none_gen (fin_bl I q ?_)
 cases x <;> first
  | (cases rx;rfl)
  | (obtain⟨t,rfl⟩:=rx;rfl)
theorem op_notN:OpR X (compareOp .IsNot) (fun x y H Q=>y=.non/\Q (.bl (!decide (x=.non))) H):=by
 intro pins s σ H x y v u Q I rx ry h
 obtain⟨rfl,q⟩:=h
 cases ry
 refine isnot_none_gen (fin_bl I q ?_)
 cases x <;> first
  | (cases rx;rfl)
  | (obtain⟨t,rfl⟩:=rx;rfl)
theorem nomark(b:Expr){op:CmpOp}(h:op≠.In:=by decide)(h2:op≠.NotIn:=by decide):behindInMarks op b=false:=by
 have e1:(op==CmpOp.In)=false:=by cases op <;> first | rfl | exact absurd rfl h
 have e2:(op==CmpOp.NotIn)=false:=by cases op <;> first | rfl | exact absurd rfl h2
 cases b <;> simp [behindInMarks,e1,e2]
theorem pe_cmpR{op:CmpOp}{r:R2}(ho:OpR X (compareOp op) r)(ha:PE X a ta)(hb:PE X b tb)(hm:behindInMarks op b=false):PE X (.Compare a [op] [b] pos) (tOp r ta tb):=by
 intro pins s σ H Q I h
 exact wpAny_Compare1 (binT ha hb I h fun v u s2 x y H2 I2 rx ry q=>ho pins s2 σ H2 x y v u Q I2 rx ry q) hm
def tTest(t:TE):TT:=fun σ H Q=>t σ H fun x H'=>∃k,x=.bl k/\Q k H'
theorem pt_cmpR{op:CmpOp}{r:R2}(ho:OpR X (compareOp op) r)(ha:PE X a ta)(hb:PE X b tb)(hm:behindInMarks op b=false):PT X (.Compare a [op] [b] pos) (tTest (tOp r ta tb)):=by
 intro pins s σ H Q I h
 refine wpAny_isTrue_Compare1 (thn (ha pins s σ H _ I h) fun v s1 zz231=>ex23 zz231 fun x H1 I1 r1 q1=>thn (hb pins s1 σ H1 _ I1 q1) fun u s2 zz232=>ex23 zz232 fun y H2 I2 r2 q2 =>
  thn (ho pins s2 σ H2 x y v u _ I2 r1 r2 q2) fun c s3 ⟨z,H3,I3,r3,k,e,q3⟩=>?_) hm
 subst e
 cases r3
 exact wpAny_truthy_bool ⟨H3,I3,q3⟩
theorem line63:(sizeLine:Nat) < 2 ^ 63:=by rw [sizeLine_eq];decide
theorem op_add_str:OpR X (binaryOp .Add) (fun x y H Q=>∃i j,x=.str i/\y=.str j/\i.length+j.length<=sizeLine/\Q (.str (i++j)) H):=by
 intro pins s σ H x y v u Q I rx ry h
 obtain⟨i,j,rfl,rfl,hz,q⟩:=h
 obtain⟨t,rfl⟩:=rx
 obtain⟨t',rfl⟩:=ry
 exact add_str (fun t' tk=>⟨.str (i++j),H,I.tok _,⟨_,rfl⟩,q⟩) hz
theorem vals1{x:V}{us:List Value}(r:Vals [x] us):∃u,us=[u]/\RelV x u:=by
 cases r with
 | cons r1 r2=>cases r2;exact⟨_,rfl,r1⟩
theorem call_int1:CallR X (.type "int") (fun xs H Q=>(∃i,xs=[.int i]/\Q (.int i) H)\/∃k,xs=[.bl k]/\Q (.int (if k then 1 else 0)) H):=by
 intro pins s σ H xs us Q I r h
 rcases h with⟨i,rfl,q⟩ | ⟨k,rfl,q⟩
 ·obtain⟨u,rfl,t,rfl⟩:=vals1 r
  exact call_int_int ⟨.int i,H,I,⟨_,rfl⟩,q⟩
 ·obtain⟨u,rfl,r1⟩:=vals1 r
  cases r1
  exact call_int_bool ⟨.int (if k then 1 else 0),H,I.tok _,⟨_,rfl⟩,q⟩
end
end L2
namespace L2
open PySem PySem.Spec PyProof.Rows
section
variable {prog:Program}{w:World}{A:Around}{E:Value->Shared->Prop}{s:Shared}{K:PySem.W.Frag}{x dx C f:Addr}{mA:Str->Option Value}{name:Str}{v:Value}
end
section
variable {P:Program}{w:World}{H H':Hp}{h h':Heap}{a C dx:Addr}{fs fs':List (Str×V)}
end
section
variable {X:Cx}{pins:List (Addr×Obj)}{σ:St}{H:Hp}{s:Shared}{a C dx:Addr}{fs:List (Str×V)}{f:Str}{v:V}{A:Around}{E:Value->Shared->Prop}
end
section
variable {X:Cx}{o e value:Expr}{f:Str}{pos pos' tpos:Pos}{ta tv:TE}
end
section
variable {X:Cx}{pins:List (Addr×Obj)}{σ:St}{H:Hp}{s:Shared}{A:Around}{E:Value->Shared->Prop}{Q:Value->Shared->Prop}{c:Value}{b:Bool}
end
end L2
namespace L2
open PySem PySem.Spec PyProof.Rows
structure Room(k:Nat)(A:Around):Prop where
 hd:A.handled=none
 dp:A.depth+3 * k+5 < recursionLimit
 un:A.units+16 * k+200 < cLine
 gd:A.guards=some []
theorem Room.mono{j k:Nat}{A:Around}(r:Room k A)(h:j<=k):Room j A:=⟨r.hd,by have:=r.dp;omega,by have:=r.un;omega,r.gd⟩
theorem Room.deeper{k:Nat}{A:Around}(r:Room (k+1) A)(env:Env):Room k (A.deeper env) :=
 ⟨r.hd,by have:=r.dp;show A.depth+1+3 * k+5 < _;omega,by have:=r.un;show A.units+3+16 * k+200 < _;omega,r.gd⟩
theorem Room.depth{k:Nat}{A:Around}(r:Room k A):A.depth < recursionLimit:=by have:=r.dp;omega
theorem Room.units{k:Nat}{A:Around}(r:Room k A):A.units+64 < cLine:=by have:=r.un;omega
def tNil:TA:=fun _ H Q=>Q [] H
def tCons(ta:TE)(tr:TA):TA:=fun σ H Q=>ta σ H fun x H1=>tr σ H1 fun xs H2=>Q (x :: xs) H2
section
variable {X:Cx}{e:Expr}{es:List Expr}{te:TE}{t:TA}{pos:Pos}
theorem pa_nil:PA X [] tNil:=fun _ _ _ _ H Q I h=>Calls.spliced_nil ⟨[],H,I,.nil,h⟩
theorem pa_cons(ha:PE X e te)(hr:PA X es t)(hs:starEach (e :: es) X.env=(false,eval e X.env) :: starEach es X.env:=by rfl):PA X (e :: es) (tCons te t):=by
 intro pos pins s σ H Q I h
 rw [hs]
 show wpAny _ _ (spliced ((false,eval e X.env) :: backTo pos (starEach es X.env))) _ _ s
 refine Calls.spliced_cons (thn (ha pins s σ H _ I h) fun u s1 zz242=>ex23 zz242 fun x H1 I1 r1 q1=>?_)
 exact thn (hr pos pins s1 σ H1 _ I1 q1) fun us s2 zz243=>ex23 zz243 fun xs H2 I2 r2 q2=>⟨x :: xs,H2,I2,.cons r1 r2,q2⟩
def tTup(t:TA):TE:=fun σ H Q=>t σ H fun xs H1=>xs.length<=sizeLine/\∀p,H1 p=none->Q (.ref p) (upd H1 p (.tup xs))
def tLst(t:TA):TE:=fun σ H Q=>t σ H fun xs H1=>xs.length<=sizeLine/\∀p,H1 p=none->Q (.ref p) (upd H1 p (.lst xs))
theorem pe_tup{x1}(h:PA X es t):PE X (.Tuple es x1 pos) (tTup t):=by
 intro pins s σ H Q I hq
 refine wpAny_Tuple_spliced (thn (h pos pins s σ H _ I hq) fun us s1 ⟨xs,H1,I1,r,z,q⟩=>⟨by rw [<- r.length];exact z,?_⟩)
 have hf:H1 s1.heap.objs.size=none:=I1.hok.fresh (Nat.le_refl _)
 refine⟨.ref s1.heap.objs.size,upd H1 s1.heap.objs.size (.tup xs),I1.laid (t':=s1.toks) (fun b u e=>Heap.get?_push_of_some _ e) (Nat.le_refl _) ?_,rfl,q _ hf⟩
 exact⟨z,us,r,⟨_,Heap.get?_push_size _ rfl,rfl,_,rfl⟩⟩
theorem pe_lst(h:PA X es t):PE X (.List es pos) (tLst t):=by
 intro pins s σ H Q I hq
 refine wpAny_List_spliced (thn (h pos pins s σ H _ I hq) fun us s1 ⟨xs,H1,I1,r,z,q⟩=>⟨by rw [<- r.length];exact z,?_⟩)
 have hf:H1 s1.heap.objs.size=none:=I1.hok.fresh (Nat.le_refl _)
 refine⟨.ref s1.heap.objs.size,upd H1 s1.heap.objs.size (.lst xs),I1.laid (t':=s1.toks) (fun b u e=>Heap.get?_push_of_some _ e) (Nat.le_refl _) ?_,rfl,q _ hf⟩
 exact⟨z,us,0,r,Heap.get?_push_size _ rfl⟩
end
abbrev Sp:=List V->Hp->VK->XK->Prop
abbrev CXT:=List Env->Hp->Shared->XK->Value->Shared->Prop
structure Env0(P:Program)(w:World)(K:PySem.W.Frag)(mg:Str->Option Value)(base:Heap)(A:Around)(outer:List Env)(s:Shared)(H:Hp):Prop where
 frames:A.frames=some outer
 mod:Mod K mg base
 bs:∀b o,base.get? b=some o->s.heap.get? b=some o/\H b=none
 bsz:base.objs.size<=s.heap.objs.size
 funs:s.heap.FunFrames base outer
 frf:∀b∈frs outer,H b=none
 hok:HOk P w H s.heap
 bare:AllBare s.gens
def CE(outer:List Env)(P:Program)(w:World)(H:Hp)(s:Shared)(Q:VK)(u:Value)(s':Shared):Prop :=
 ∃v H',s'.os=s.os/\AllBare s'.gens/\Un (frs outer) [] H H' s.heap s'.heap/\HOk P w H' s'.heap/\RelV v u/\Q v H'
def CR(CX:CXT)(outer:List Env)(P:Program)(w:World)(H:Hp)(s:Shared)(Q:VK)(E:XK)(r:Result)(s':Shared):Prop :=
 match r with
 | .ok (.ret u)=>CE outer P w H s Q u s'
 | .ok _=>False
 | .error e=>CX outer H s E e s'
structure FnOk(P:Program)(w:World)(K:PySem.W.Frag)(mg:Str->Option Value)(base:Heap)(CX:CXT)(k:Nat)(f:Addr)(fd:FuncData)(ps:List Str)(sp:Sp):Prop where
 len:∀vs H Q E,sp vs H Q E->vs.length=ps.length
 run:∀(A:Around) (outer:List Env) (s:Shared) (H:Hp) (args:Args) (us:List Value) (vs:List V) (Q:VK) (E:XK),Room k A->Env0 P w K mg base A outer s H->BindsTo s fd args (ps.zip us)->Vals vs us->sp vs H Q E ->
  codeAny (model P w) A (.call (.ref f) args) (CR CX outer P w H s Q E) s
theorem FnOk.mono{P:Program}{w:World}{K:PySem.W.Frag}{mg:Str->Option Value}{base:Heap}{CX:CXT}{j k:Nat}{f:Addr}{fd:FuncData}{ps:List Str}{sp:Sp}(F:FnOk P w K mg base CX j f fd ps sp)(h:j<=k) :
  FnOk P w K mg base CX k f fd ps sp:=⟨F.len,fun A outer s H args us vs Q E hr=>F.run A outer s H args us vs Q E (hr.mono h)⟩
theorem FnOk.imp{P:Program}{w:World}{K:PySem.W.Frag}{mg:Str->Option Value}{base:Heap}{CX:CXT}{k:Nat}{f:Addr}{fd:FuncData}{ps:List Str}{sp sp':Sp}(F:FnOk P w K mg base CX k f fd ps sp)
  (h:∀vs H Q E,sp' vs H Q E->sp vs H Q E):FnOk P w K mg base CX k f fd ps sp' :=
 ⟨fun vs H Q E q=>F.len vs H Q E (h _ _ _ _ q),fun A outer s H args us vs Q E hr he hb hv hs=>F.run A outer s H args us vs Q E hr he hb hv (h _ _ _ _ hs)⟩
section
variable {X:Cx}{pins:List (Addr×Obj)}{σ:St}{H:Hp}{s s':Shared}
theorem Inv.env0(I:Inv X pins σ H s):Env0 X.prog X.w X.K X.mg X.base X.A X.stack s H :=
 ⟨I.ok.frames,I.ok.mod,I.bs,Nat.le_trans I.ok.bsz I.sz,I.stack,I.stkFree,I.hok,I.bare⟩
theorem Inv.after{Q:VK}{u:Value}(I:Inv X pins σ H s)(h:CE X.stack X.prog X.w H s Q u s'):EP X pins σ Q u s':=by
 obtain⟨v,H',os,bare,un,hok,r,q⟩:=h
 obtain⟨hh,g,d,t,os'⟩:=s'
 obtain rfl:os'=s.os:=os
 exact⟨v,H',I.call (h':=hh) (g':=g) (d':=d) (t':=t) (ch:=[]) un hok bare (fun b z=>absurd z (by simp)),r,q⟩
end
def tCall(sp:Sp)(dvs:List V)(E:XK)(t:TA):TE:=fun σ H Q=>t σ H fun vs H1=>sp (vs++dvs) H1 Q E
def Binds(K:PySem.W.Frag)(fd:FuncData)(ps:List Str)(ds:List Value):Prop :=
 ∀(s:Shared) (us:List Value),K.In s.heap->(us++ds).length=ps.length->BindsTo s fd ⟨us,[]⟩ (ps.zip (us++ds))
theorem Binds.all{K:PySem.W.Frag}{fd:FuncData}{ps:List Str}(h:∀us:List Value,us.length=ps.length->bindArgs fd ⟨us,[]⟩=pure (ps.zip us)):Binds K fd ps []:=fun s us _ hl=>by
 rw [List.append_nil]at hl ⊢
 exact .of_eq (h us hl)
def Passes(CX:CXT)(X:Cx)(E:XK):Prop:=∀(pins:List (Addr×Obj)) (σ:St) (H:Hp) (s:Shared) (e:Value) (s':Shared),Inv X pins σ H s->CX X.stack H s E e s'->X.xe e s'
section
variable {X:Cx}{CX:CXT}{k:Nat}{f C:Addr}{fd:FuncData}{ps:List Str}{sp:Sp}{dvs:List V}{ds:List Value}{E:XK}{x m:Str}{p pos apos:Pos}{e o:Expr}{es:List Expr}{ta:TE}{t:TA}
theorem run_fn{pins:List (Addr×Obj)}{σ:St}{H:Hp}{s:Shared}{Q:VK}{us:List Value}{vs:List V}(F:FnOk X.prog X.w X.K X.mg X.base CX k f fd ps sp)(hr:Room k X.A)(hb:Binds X.K fd ps ds)(hd:Vals dvs ds)(hx:Passes CX X E)
  (I:Inv X pins σ H s) (r:Vals vs us) (h:sp (vs++dvs) H Q E):wpAny (model X.prog X.w) X.A (call (.ref f) us) (EP X pins σ Q) X.xe s:=by
 have r2:Vals (vs++dvs) (us++ds):=r.append hd
 have hl:(us++ds).length=ps.length:=by rw [<- r2.length];exact F.len _ _ _ _ h
 refine wpAny_call (codeAny_mono (F.run X.A X.stack s H ⟨us,[]⟩ (us++ds) (vs++dvs) Q E hr I.env0 (hb s us I.kIn hl) r2 h) fun r s' hq=>?_)
 cases r with
 | error e=>exact hx pins σ H s e s' I hq
 | ok fl =>
  cases fl with
  | ret u=>exact I.after hq
  | next=>exact False.elim hq
  | brk=>exact False.elim hq
  | cont=>exact False.elim hq
theorem pe_call(F:FnOk X.prog X.w X.K X.mg X.base CX k f fd ps sp)(hr:Room k X.A)(hg:Gl X x)(hm:X.mg x=some (.ref f))(hk:PySem.W.keepIn X.K (.ref f)=true)(hb:Binds X.K fd ps ds)(hd:Vals dvs ds)(hx:Passes CX X E)
  (ha:PA X (e :: es) t) (hdb:(x==("__debug__" : Str))=false:=by decide) (he:starEach (e :: es) X.env=(false,eval e X.env) :: starEach es X.env:=by rfl) (hpl:(backTo pos (starEach es X.env)).any (·.1)=false:=by rfl) :
  PE X (.Call (.Name x p) (e :: es) [] pos) (tCall sp dvs E t):=by
 intro pins s σ H Q I h
 refine wpAny_Call_Name_kw (ld_glob I hg hm ?_ hdb)
 refine PySem.W.callWith_K (h₀:=X.base) I.ok.mod.kin hk (thn (ha pos pins s σ H _ I h) fun us s1 zz244=>ex23 zz244 fun vs H1 I1 r q=>⟨I1.kIn,?_⟩) he hpl
 exact run_fn F hr hb hd hx I1 r q
end
section
variable {X:Cx}{CX:CXT}{k:Nat}{f C:Addr}{fd:FuncData}{ps ks:List Str}{sp:Sp}{E:XK}{x m:Str}{p pos apos kpos:Pos}{e o:Expr}{es:List Expr}{kws:List Keyword}{te ta:TE}{t tk:TA}{nm:Option Str}
variable {g:List Value->List Value->List Value}{gV:List V->List V->List V}
end
structure FnScope(N P:List Str)(sc:Scope):Prop where
 kind:sc.kind=.function
 co:sc.isCoroutine=false
 gen:sc.isGenerator=false
 nd:N.Nodup
 pre:N.take P.length=P
 par:∀x∈P,sc.names.lookup x=some .local\/sc.names.lookup x=some .cell
 nofree:∀y∈sc.names,y.2≠.free
theorem bindL_out{kindOf:Str->Option NameKind}{x:Str}:∀{binds:List (Str×Value)} {m:Str->Option Value},(∀v,(x,v)∉binds)->bindL kindOf binds m x=m x
 | [],_,_=>rfl
 | (n,v) :: r,m,h=>by
  unfold bindL
  rw [bindL_out fun w hw=>h w (List.mem_cons_of_mem _ hw)]
  split
  ·have:x≠n:=by rintro rfl;exact h v List.mem_cons_self
   simp [this]
  ·rfl
theorem bindC_out{kindOf:Str->Option NameKind}{x:Str}:∀{binds:List (Str×Value)} {m:Str->Option Value},(∀v,(x,v)∉binds)->bindC kindOf binds m x=m x
 | [],_,_=>rfl
 | (n,v) :: r,m,h=>by
  unfold bindC
  rw [bindC_out fun w hw=>h w (List.mem_cons_of_mem _ hw)]
  split
  ·rfl
  ·have:x≠n:=by rintro rfl;exact h v List.mem_cons_self
   simp [this]
theorem bindL_get{kindOf:Str->Option NameKind}{x:Str}{v:Value}:∀{P:List Str} {vs:List Value} {i:Nat} {m:Str->Option Value},P.Nodup->P[i]?=some x->vs[i]?=some v->kindOf x=some .local ->
  bindL kindOf (P.zip vs) m x=some v
 | [],_,_,_,_,h,_,_=>by simp at h
 | _ :: _,[],_,_,_,_,h,_=>by simp at h
 | p :: P,w :: vs,0,m,nd,h1,h2,hk=>by
  simp at h1 h2;subst h1;subst h2
  show bindL kindOf ((p,w) :: P.zip vs) m p=_
  unfold bindL
  rw [bindL_out fun v hv=>(List.nodup_cons.mp nd).1 (List.of_mem_zip hv).1,if_pos hk]
  simp
 | p :: P,w :: vs,i+1,m,nd,h1,h2,hk=>by
  show bindL kindOf ((p,w) :: P.zip vs) m x=_
  unfold bindL
  exact bindL_get (i:=i) (List.nodup_cons.mp nd).2 (by simpa using h1) (by simpa using h2) hk
theorem bindC_get{kindOf:Str->Option NameKind}{x:Str}{v:Value}:∀{P:List Str} {vs:List Value} {i:Nat} {m:Str->Option Value},P.Nodup->P[i]?=some x->vs[i]?=some v->kindOf x≠some .local ->
  bindC kindOf (P.zip vs) m x=some v
 | [],_,_,_,_,h,_,_=>by simp at h
 | _ :: _,[],_,_,_,_,h,_=>by simp at h
 | p :: P,w :: vs,0,m,nd,h1,h2,hk=>by
  simp at h1 h2;subst h1;subst h2
  show bindC kindOf ((p,w) :: P.zip vs) m p=_
  unfold bindC
  rw [bindC_out fun v hv=>(List.nodup_cons.mp nd).1 (List.of_mem_zip hv).1,if_neg hk]
  simp
 | p :: P,w :: vs,i+1,m,nd,h1,h2,hk=>by
  show bindC kindOf ((p,w) :: P.zip vs) m x=_
  unfold bindC
  exact bindC_get (i:=i) (List.nodup_cons.mp nd).2 (by simpa using h1) (by simpa using h2) hk
def start(N:List Str)(vs:List V):St:=vs.map some++List.replicate (N.length - vs.length) none
def cxOf(CX:CXT)(P:Program)(w:World)(K:PySem.W.Frag)(mg:Str->Option Value)(base:Heap)(N:List Str)(qual:Str)(scope:Scope)(f:Addr)(cd:Value)(A:Around)(outer:List Env)(s:Shared)(H:Hp)(E:XK):Cx where
 prog:=P
 w:=w
 K:=K
 mg:=mg
 base:=base
 A:=A.deeper (envOfC qual scope s.heap.objs.size f cd)
 N:=N
 s₀:=s
 H₀:=H
 env:=envOfC qual scope s.heap.objs.size f cd
 outer:=outer
 stack:=envOfC qual scope s.heap.objs.size f cd :: outer
 ex:=[]
 calm:=true
 fn:=fun _=>true
 pn:=[]
 xe:=fun e s'=>wpAny (model P w) (A.deeper (envOfC qual scope s.heap.objs.size f cd)) («leaving» (envOfC qual scope s.heap.objs.size f cd) e) (fun _ s''=>CX outer H s E e s'') (fun e' s''=>CX outer H s E e' s'') s'
theorem cell_has{sc:Scope}{n:Nat}{x:Str}(h:sc.names.lookup x=some .cell):∃c,(cellsFrom n sc.names []).lookup x=some c:=by
 have q:=PySem.W.cellsFrom_some sc.names n [] (.inl h)
 exact Option.isSome_iff_exists.mp q
theorem inv_start{CX:CXT}{P:Program}{w:World}{K:PySem.W.Frag}{mg:Str->Option Value}{base:Heap}{N ps:List Str}{qual:Str}{scope:Scope}{f:Addr}{cd:Value}{A:Around}{outer:List Env}{s s1:Shared}{H:Hp}{E:XK}{us:List Value}{vs:List V}
  (S:FnScope N ps scope) (hd:A.handled=none) (e0:Env0 P w K mg base A outer s H) (hl:vs.length=ps.length) (r:Vals vs us)
  (x:InCallC s s.heap.objs.size (bindL (envOfC qual scope s.heap.objs.size f cd).kindOf (ps.zip us) fun _=>none) (cellsFrom (s.heap.objs.size+1) scope.names []) (bindC (envOfC qual scope s.heap.objs.size f cd).kindOf (ps.zip us) fun _=>none) s1) :
  Inv (cxOf CX P w K mg base N qual scope f cd A outer s H E) [] (start N vs) H s1:=by
 have hpl:ps.length<=N.length:=by have:=congrArg List.length S.pre;rw [List.length_take]at this;omega
 obtain⟨h1,tk,rfl,hk⟩:=x.done
 have noA:∀b:Addr,b∉(cxOf CX P w K mg base N qual scope f cd A outer s H E).ex:=fun b z=>absurd (show b∈([]:List Addr) from z) (by simp)
 refine⟨⟨e0.mod,S.kind,rfl,rfl,Nat.le_refl _,fun y z c h1 h2=>?_,fun y hy=>?_,fun y c _ h=>?_,fun _=>hd,Around.frames_deeper e0.frames,.inr ⟨rfl,rfl⟩,fun b z=>absurd z (noA b),e0.bs,e0.bsz,fun b _ _=>noA b,fun b z=>absurd z (noA b),e0.funs,e0.frf⟩,
  rfl,e0.bare,Un.kept hk,⟨_,x.toInCall.ns,fun i y v h1 h2 h3=>?_⟩,fun y c h=>⟨_,x.cell y c h⟩,e0.hok.fresh (Nat.le_refl _),fun y c h=>?_,fun p hp=>absurd (show p∈([]:List (Addr×Obj)) from hp) (by simp),e0.hok.kept hk,?_⟩
 ·exact name_of_addr x.apart (PySem.mem_of_lookup h1) (PySem.mem_of_lookup h2)
 ·have hy:scope.names.lookup y=some .cell\/scope.names.lookup y=some .free:=hy
  rcases hy with hy | hy
  ·exact cell_has hy
  ·exact absurd rfl (S.nofree _ (PySem.mem_of_lookup hy))
 ·exact Nat.le_of_lt (x.above y c (PySem.mem_of_lookup h))
 ·have hi:i < vs.length:=by
   unfold start at h2
   by_cases hi:i < vs.length
   ·exact hi
   ·rw [List.getElem?_append_right (by simpa using hi)]at h2
    rw [List.getElem?_replicate]at h2
    split at h2 <;> cases h2
  have ha:vs[i]?=some v:=by
   unfold start at h2
   rw [List.getElem?_append_left (by simpa using hi),List.getElem?_map]at h2
   cases e:vs[i]? with
   | none=>rw [e]at h2;cases h2
   | some a=>rw [e]at h2;cases h2;rfl
  obtain⟨u,hu,rv⟩:=r.get ha
  have hp:ps[i]?=some y:=by
   rw [<- S.pre,List.getElem?_take_of_lt (by omega)];exact h1
  have ndP:ps.Nodup:=by rw [<- S.pre];exact S.nd.sublist (List.take_sublist _ _)
  refine⟨u,rv,?_⟩
  rcases S.par y (List.mem_of_getElem? hp) with k | k
  ·exact .inl ⟨k,bindL_get ndP hp hu k⟩
  ·obtain⟨c,e⟩:=cell_has (n:=s.heap.objs.size+1) k
   refine .inr ⟨.inl k,c,e,?_⟩
   have q:=x.cell y c e
   rw [bindC_get ndP hp hu (by show scope.names.lookup y≠_;rw [k];decide)]at q
   exact q
 ·exact e0.hok.fresh (Nat.le_of_lt (x.above y c (PySem.mem_of_lookup h)))
 ·unfold start
  show _=N.length
  rw [List.length_append,List.length_map,List.length_replicate]
  omega
theorem fn_of{CX:CXT}{P:Program}{w:World}{K:PySem.W.Frag}{mg:Str->Option Value}{base:Heap}{k:Nat}{f:Addr}{name qual:Str}{params:Arguments}{body:List Stmt}{scope:Scope}{dV kV doc pm cdv ct oc:Value}{an od:Option Addr}
  {osl:Array (Option Value)} {N ps:List Str} {sp:Sp} (lk:K.lookup f=some ⟨oc,od,.func (PySem.W.fnOf name qual params body scope dV kV doc pm an cdv ct),osl⟩) (hcd:PySem.W.codeIn K cdv qual=true) (S:FnScope N ps scope)
  (len:∀vs H Q E,sp vs H Q E->vs.length=ps.length)
  (hbody:∀(A:Around) (outer:List Env) (s:Shared) (H:Hp) (vs:List V) (Q:VK) (E:XK),Room k (A.deeper (envOfC qual scope s.heap.objs.size f cdv))->sp vs H Q E ->
   ∃t,PSs (cxOf CX P w K mg base N qual scope f cdv A outer s H E) body t/\t { nx:=fun _ H'=>Q .non H',rt:=Q } (start N vs) H) :
  FnOk P w K mg base CX (k+1) f (PySem.W.fnOf name qual params body scope dV kV doc pm an cdv ct) ps sp:=by
 refine⟨len,fun A outer s H args us vs Q E hr e0 hb r hsp=>?_⟩
 have hl:=len _ _ _ _ hsp
 have KX:K.In s.heap:=e0.mod.kin.keeps fun b o e=>(e0.bs b o e).1
 have lim:s.heap.NoLimit:=e0.mod.nolimit.keeps fun b o e=>(e0.bs b o e).1
 have hkind:∀y∈ps.zip us,scope.names.lookup y.1=some .local\/(scope.names.lookup y.1=some .cell/\((cellsFrom (s.heap.objs.size+1) scope.names []).lookup y.1).isSome=true):=fun⟨n,v⟩ hy=>by
  rcases S.par n (List.of_mem_zip hy).1 with q | q
  ·exact .inl q
  ·exact .inr ⟨q,PySem.W.cellsFrom_some _ _ _ (.inl q)⟩
 refine codeAny_call_function hr.depth (KX _ _ lk) rfl S.co S.gen rfl (PySem.W.codeRec_of KX hcd) (hb _ _ _ _ ?_)
 refine wpAny_newFunctionEnv_cells S.kind hkind fun env he s1 x=>?_
 subst he
 refine⟨lim.keeps x.toInCall.keep,codeAny_func ?_⟩
 obtain⟨t,ht,hq⟩:=hbody A outer s H vs Q E (hr.deeper _) hsp
 have I:Inv (cxOf CX P w K mg base N qual scope f cdv A outer s H E) [] (start N vs) H s1:=inv_start S hr.hd e0 hl r x
 refine wpAny_mono (ht [] s1 (start N vs) H _ I hq) (fun fl s' hs=>?_) fun e s' hs=>hs
 have fin:∀{σ':St} {H':Hp} {v:V} {u:Value},Inv (cxOf CX P w K mg base N qual scope f cdv A outer s H E) [] σ' H' s'->RelV v u->Q v H'->CE outer P w H s Q u s' :=
  fun {σ' H' v u} J rv q=>⟨v,H',J.os,J.bare,J.base,J.hok,rv,q⟩
 cases fl with
 | ret u =>
  obtain⟨v,σ',H',J,rv,q⟩:=hs
  exact fin J rv q
 | next =>
  obtain⟨σ',H',J,q⟩:=hs
  exact fin (v:=V.non) (u:=Value.none) J rfl q
 | brk =>
  obtain⟨_,_,_,q⟩:=hs
  exact False.elim q
 | cont =>
  obtain⟨_,_,_,q⟩:=hs
  exact False.elim q
end L2
namespace L2
open PySem PySem.Spec PyProof.Rows
section
variable {X:Cx}{x:Str}{p pos:Pos}{e:Expr}{es:List Expr}{t:TA}{id T:String}{r:List V->Hp->VK->Prop}
def tCB(r:List V->Hp->VK->Prop)(t:TA):TE:=fun σ H Q=>t σ H fun vs H1=>r vs H1 Q
theorem pe_callB(hc:CallR X (.builtin id) r)(hg:Gl X x)(hm:X.mg x=none)(hv:bootBuiltins x=some (.builtin id))(ha:PA X (e :: es) t)(hn:x ≠ "__name__" := by decide) (hdb:(x==("__debug__" : Str))=false:=by decide)
  (he:starEach (e :: es) X.env=(false,eval e X.env) :: starEach es X.env:=by rfl) (hpl:(backTo pos (starEach es X.env)).any (·.1)=false:=by rfl):PE X (.Call (.Name x p) (e :: es) [] pos) (tCB r t):=by
 intro pins s σ H Q I h
 refine wpAny_Call_Name_kw (ld_blt I hg hm hv ?_ hn hdb)
 exact PyProof.Rows.callWith_builtin1 (thn (ha pos pins s σ H _ I h) fun us s1 zz251=>ex23 zz251 fun vs H1 I1 r1 q1=>hc pins s1 σ H1 vs us Q I1 r1 q1) he hpl
theorem pe_callTy(hc:CallR X (.type T) r)(hg:Gl X x)(hm:X.mg x=none)(hv:bootBuiltins x=some (.type T))(ha:PA X (e :: es) t)(hn:x ≠ "__name__" := by decide) (hdb:(x==("__debug__" : Str))=false:=by decide)
  (he:starEach (e :: es) X.env=(false,eval e X.env) :: starEach es X.env:=by rfl) (hpl:(backTo pos (starEach es X.env)).any (·.1)=false:=by rfl):PE X (.Call (.Name x p) (e :: es) [] pos) (tCB r t):=by
 intro pins s σ H Q I h
 refine wpAny_Call_Name_kw (ld_blt I hg hm hv ?_ hn hdb)
 exact PyProof.Rows.callWith_type1 (thn (ha pos pins s σ H _ I h) fun us s1 zz252=>ex23 zz252 fun vs H1 I1 r1 q1=>hc pins s1 σ H1 vs us Q I1 r1 q1) he hpl
end
end L2
namespace HT
open PySem PyProof.Rows
section
open PySem.SeqAt
open PySem.AutoSeq1 (wpAny_loadPart')
open PySem.MeetsSeq PySem.MeetsSeq2 PySem.MeetsSeq3
end
section
variable {prog:Program}{w:World}{A:Around}{E:Value->Shared->Prop}{s:Shared}
theorem cat_tup{t b:Addr}{vs ws:List Value}{Q:Value->Shared->Prop}(ht:IsTup s.heap t vs.toArray)(hb:IsTup s.heap b ws.toArray)(hv:vs≠[])
  (h1:ws=[]->Q (.ref t) s) (h2:ws≠[]->Q (.ref s.heap.objs.size) { s with heap:=s.heap.push { cls:=.type "tuple",data:=.seq (vs++ws).toArray } })
  (hsz:vs.length+ws.length<=sizeLine):wpAny (model prog w) A (binaryOp .Add (.ref t) (.ref b)) Q E s:=by
 obtain⟨⟨cls,dd,data,sl⟩,ho,hc,n,hd⟩:=id ht
 obtain⟨⟨cls2,dd2,data2,sl2⟩,ho2,hc2,n2,hd2⟩:=id hb
 simp only at hc hd hc2 hd2
 subst hc hd hc2 hd2
 have e:vs.toArray++ws.toArray=(vs++ws).toArray:=by simp
 by_cases hw:ws=[]
 ·exact concat_meets ⟨_,ho,rfl⟩ ⟨_,ho2,rfl⟩ noFill_tuple_add seq_tuple_add PySem.F.slot_tuple_add PySem.F.entry_tuple_add (PySem.F.args_tuple_add_2 _ _)
   (tuple_addW1 t b vs.toArray ws.toArray n n2 dd dd2 sl sl2 (by simpa using hv) (by simp [hw])) ⟨ho,ho2,h1 hw⟩
 ·refine concat_meets ⟨_,ho,rfl⟩ ⟨_,ho2,rfl⟩ noFill_tuple_add seq_tuple_add PySem.F.slot_tuple_add PySem.F.entry_tuple_add (PySem.F.args_tuple_add_2 _ _)
   (tuple_addW2 t b vs.toArray ws.toArray n n2 dd dd2 sl sl2 (by simpa using hv) (by simpa using hw) (by rw [List.size_toArray,List.size_toArray];exact hsz)) ⟨ho,ho2,?_⟩
  rw [e]
  exact h2 hw
def sIx(n d:Nat):Option Int->Nat
 | none=>d
 | some v=>if v < 0 then(v+(n:Int)).toNat else min v.toNat n
theorem sIx_none(n d:Nat):sIx n d none=d:=rfl
theorem sIx_nat(n d k:Nat):sIx n d (some (k:Int))=min k n:=by
 show(if(k:Int) < 0 then((k:Int)+(n:Int)).toNat else min (k:Int).toNat n)=min k n
 rw [if_neg (by omega),Int.toNat_natCast]
theorem sIx_le(n d:Nat)(hd:d<=n)(o:Option Int):sIx n d o<=n:=by
 cases o with
 | none=>exact hd
 | some v =>
  show(if v < 0 then(v+(n:Int)).toNat else min v.toNat n)<=n
  by_cases hv:v < 0
  ·rw [if_pos hv];omega
  ·rw [if_neg hv];exact Nat.min_le_right _ _
theorem clip_eq(v:Int)(n d:Nat):(if v < 0 then max (v+(n:Int)) 0 else min v (n:Int))=((sIx n d (some v):Nat):Int):=by
 show(if v < 0 then max (v+(n:Int)) 0 else min v (n:Int))=(((if v < 0 then(v+(n:Int)).toNat else min v.toNat n):Nat):Int)
 by_cases hv:v < 0
 ·simp only [if_pos hv];omega
 ·simp only [if_neg hv];omega
theorem adjust_gen(lo hi:Option Int)(n:Nat):Builtin.Slice.sliceAdjust lo hi 1 (n:Int)=(((sIx n 0 lo:Nat):Int),((sIx n n hi:Nat):Int)):=by
 have h1:¬((1:Int) < 0):=by omega
 unfold Builtin.Slice.sliceAdjust
 simp only [h1,if_false]
 refine Prod.ext ?_ ?_
 ·cases lo with
  | none=>rfl
  | some v=>exact clip_eq v n 0
 ·cases hi with
  | none=>rfl
  | some v=>exact clip_eq v n n
theorem places_gen(i j:Nat):Builtin.Slice.slicePlaces (i:Int) (j:Int) 1=j - i:=by
 unfold Builtin.Slice.slicePlaces
 have h1:(1:Int) > 0:=by omega
 simp only [h1,if_true,Int.ediv_one]
 split <;> omega
theorem slicePart_{v:Value}{o:Option Int}{Q:Option Int->Shared->Prop}(p:IsPart v o)(h:Q o s):wpAny (model prog w) A (Builtin.Slice.slicePartIndex v) Q E s:=by
 cases p with
 | none=>exact slicePart_none h
 | int i t=>exact slicePart_int h
theorem sliceApplied_gen{sl:Addr}{vl vu:Value}{lo hi:Option Int}{n:Nat}{Q:Int×Int×Nat->Shared->Prop}(hs:s.heap.IsSliceOf sl vl vu .none)(pl:IsPart vl lo)(pu:IsPart vu hi)
  (h:Q (((sIx n 0 lo:Nat):Int),1,sIx n n hi - sIx n 0 lo) s):wpAny (model prog w) A (Builtin.Slice.sliceApplied (.ref sl) (pure (n:Int))) Q E s:=by
 obtain⟨os,hos,hcs,hds⟩:=id hs
 unfold Builtin.Slice.sliceApplied Builtin.Slice.sliceFields
 refine wpAny_bind (wpAny_bind (wpAny_field hos hds (x:=vl) rfl (wpAny_bind (wpAny_field hos hds (x:=vu) rfl (wpAny_bind (wpAny_field hos hds (x:=.none) rfl (wpAny_pure ?_)))))))
 refine wpAny_bind (slicePart_none ?_)
 show wpAny _ _ (if((1:Int)==0)=true then _ else _) _ _ s
 rw [if_neg (by decide)]
 refine wpAny_bind (slicePart_ pl (wpAny_bind (slicePart_ pu (wpAny_bind (wpAny_pure ?_)))))
 show wpAny _ _ (match Builtin.Slice.sliceAdjust lo hi 1 (n:Int) with | (lo,hi)=>pure (lo,(1:Int),Builtin.Slice.slicePlaces lo hi 1)) _ _ s
 rw [adjust_gen lo hi n]
 show wpAny _ _ (pure (((sIx n 0 lo:Nat):Int),(1:Int),Builtin.Slice.slicePlaces ((sIx n 0 lo:Nat):Int) ((sIx n n hi:Nat):Int) 1)) _ _ s
 rw [places_gen]
 exact wpAny_pure h
theorem pick_gen(xs:Array Value)(i k:Nat):((List.range k).filterMap fun(m:Nat)=>xs[((i:Int)+(m:Int) * 1).toNat]?).toArray=((xs.toList.drop i).take k).toArray:=by
 have e:(fun(m:Nat)=>xs[((i:Int)+(m:Int) * 1).toNat]?)=fun m=>xs[i+m]?:=by
  funext m
  have:((i:Int)+(m:Int) * 1).toNat=i+m:=by omega
  rw [this]
 rw [e]
 have:=pick_run xs i k
 rw [List.filterMap_map]at this
 have e2:((fun x=>xs[x]?) ∘ fun x=>i+x)=fun m=>xs[i+m]?:=rfl
 rw [e2]at this
 rw [this]
theorem getItem_tuple_cut{t sl:Addr}{items:Array Value}{vl vu:Value}{lo hi:Option Int}{Q:Value->Shared->Prop}(ht:IsTup s.heap t items)(hs:s.heap.IsSliceOf sl vl vu .none)(pl:IsPart vl lo)(pu:IsPart vu hi)
  (hw:¬(sIx items.size 0 lo=0/\sIx items.size items.size hi=items.size))
  (h:Q (.ref s.heap.objs.size) { s with heap:=s.heap.push { cls:=.type "tuple",data:=.seq ((items.toList.drop (sIx items.size 0 lo)).take (sIx items.size items.size hi - sIx items.size 0 lo)).toArray } })
  (hsz:items.size<=sizeLine):wpAny (model prog w) A (getItem (.ref t) (.ref sl)) Q E s:=by
 have htake:sizeOk (.seq ((items.toList.drop (sIx items.size 0 lo)).take (sIx items.size items.size hi - sIx items.size 0 lo)).toArray):=by
  show((items.toList.drop (sIx items.size 0 lo)).take (sIx items.size items.size hi - sIx items.size 0 lo)).toArray.size<=sizeLine
  rw [List.size_toArray,List.length_take,List.length_drop,Array.length_toList]
  omega
 have hj:sIx items.size items.size hi<=items.size:=sIx_le _ _ (Nat.le_refl _) hi
 obtain⟨os,hos,hcs,hds⟩:=id hs
 have hTs:s.TypeIs (.ref sl) "slice" := ⟨os,hos,hcs⟩
 unfold getItem
 try with_reducible refine wpAny_holding ?_
 first | refine wpAny_bind (wpAny_pure ?_) | skip
 refine wpAny_bind (wpAny_sequenceKey ht.typeIs (by decide) ?_)
 refine wpAny_bind (wpAny_callSpecial?_slot (name:=Str.ofString "__getitem__") ht.typeIs PyProof.Rows.slot_tuple_getitem
  (wpAny_call_entry PyProof.Rows.slot_tuple_getitem ht.typeIs entry_tuple_getitem ?_ (args_tuple_getitem _ _)))
 show wpAny _ _ (Builtin.Tuple.tupleItemsOf (.ref t) >>= _) _ _ s
 refine wpAny_bind (tupleItemsOf_ ht ?_)
 refine wpAny_bind (wpAny_typeOf hTs ?_)
 rw [if_pos (by decide)]
 refine wpAny_bind (sliceApplied_gen hs pl pu ?_)
 have hno:¬((((sIx items.size 0 lo:Nat):Int)==0 && (1:Int)==1 && (sIx items.size items.size hi - sIx items.size 0 lo)==items.size)=true):=by
  intro q
  rw [Bool.and_eq_true,Bool.and_eq_true]at q
  have q1:((sIx items.size 0 lo:Nat):Int)=0:=eq_of_beq q.1.1
  have q2:sIx items.size items.size hi - sIx items.size 0 lo=items.size:=eq_of_beq q.2
  exact hw ⟨by omega,by omega⟩
 show wpAny _ _ (if(((sIx items.size 0 lo:Nat):Int)==0 && (1:Int)==1 && (sIx items.size items.size hi - sIx items.size 0 lo)==items.size)=true then _ else _) _ _ s
 rw [if_neg hno,pick_gen]
 first
  | exact wpAny_bind (m:=Builtin.Tuple.tupleExact _) (wpAny_newObj_type (wpAny_pure ⟨_,rfl,wpAny_pure h⟩) htake)
  | exact wpAny_bind (m:=Builtin.Tuple.tupleExact _) (wpAny_newObj_type (wpAny_bind (wpAny_pure (wpAny_pure ⟨_,rfl,wpAny_pure h⟩))) htake)
  | exact wpAny_bind (wpAny_bind (m:=Builtin.Tuple.tupleExact _) (wpAny_newObj_type (wpAny_pure (wpAny_pure ⟨_,rfl,wpAny_pure h⟩)) htake))
  | exact wpAny_bind (wpAny_bind (m:=Builtin.Tuple.tupleExact _) (wpAny_newObj_type (wpAny_pure ⟨_,rfl,wpAny_pure h⟩) htake))
end
end HT
namespace L2
open PySem PySem.Spec PyProof.Rows
abbrev TO:=St->Hp->(Option Int->Hp->Prop)->Prop
def PO(X:Cx)(e:Option Expr)(t:TO):Prop :=
 ∀(pins:List (Addr×Obj)) (s:Shared) (σ:St) (H:Hp) (Q:Option Int->Hp->Prop),Inv X pins σ H s->t σ H Q ->
  wpAny (model X.prog X.w) X.A (evalPart e X.env) (fun u s'=>∃o H',Inv X pins σ H' s'/\IsPart u o/\Q o H') X.xe s
def tNoPart:TO:=fun _ H Q=>Q none H
def tPart(t:TE):TO:=fun σ H Q=>t σ H fun x H1=>∃i,x=.int i/\Q (some i) H1
section
variable {X:Cx}{e:Expr}{te:TE}{lo hi:Option Expr}{tl th:TO}{pos p2:Pos}
theorem po_none:PO X none tNoPart:=by
 intro pins s σ H Q I h
 rw [evalPart_none]
 exact wpAny_pure ⟨none,H,I,.none,h⟩
theorem po_some(h:PE X e te):PO X (some e) (tPart te):=by
 intro pins s σ H Q I hw
 rw [evalPart_some]
 refine thn (h pins s σ H _ I hw) fun u s1 zz253=>ex23 zz253 fun x H1 I1 r1 q1=>?_
 obtain⟨i,rfl,q⟩:=q1
 obtain⟨t,rfl⟩:=r1
 exact⟨some i,H1,I1,.int i t,q⟩
def SlR(X:Cx)(r:V->Option Int->Option Int->Hp->VK->Prop):Prop :=
 ∀(pins:List (Addr×Obj)) (s:Shared) (σ:St) (H:Hp) (x:V) (v vl vu:Value) (lo hi:Option Int) (sl:Addr) (Q:VK),Inv X pins σ H s->RelV x v->s.heap.IsSliceOf sl vl vu .none->IsPart vl lo->IsPart vu hi->r x lo hi H Q ->
  ∃T id,typeLookup (.type T) "__getitem__" = pure (some (.builtin id))/\s.TypeIs v T/\wpAny (model X.prog X.w) X.A (getItem v (.ref sl)) (EP X pins σ Q) X.xe s
def tSl(r:V->Option Int->Option Int->Hp->VK->Prop)(te:TE)(tl th:TO):TE:=fun σ H Q=>te σ H fun x H1=>tl σ H1 fun l H2=>th σ H2 fun u H3=>r x l u H3 Q
theorem pe_slice{r:V->Option Int->Option Int->Hp->VK->Prop}(hr:SlR X r)(he:PE X e te)(hl:PO X lo tl)(hu:PO X hi th):PE X (.Subscript e (.Slice lo hi none p2) pos) (tSl r te tl th):=by
 intro pins s σ H Q I h
 refine Subscript_ (thn (he pins s σ H _ I h) fun v s1 zz254=>ex23 zz254 fun x H1 I1 r1 q1=>?_)
 refine wpAny_Slice (thn (hl pins s1 σ H1 _ I1 q1) fun vl s2 zz255=>ex23 zz255 fun l H2 I2 pl q2=>thn (hu pins s2 σ H2 _ I2 q2) fun vu s3 zz256=>ex23 zz256 fun u H3 I3 pu q3=>?_)
 rw [evalPart_none]
 refine wpAny_pure ?_
 have I4:Inv X pins σ H3 { s3 with heap:=s3.heap.push { cls:=.type "slice",data:=.fields #[vl,vu,.none] } }:=I3.kept (t':=s3.toks) fun b ob q=>Heap.get?_push_of_some _ q
 obtain⟨T,id,hT,ht,hg⟩:=hr pins { s3 with heap:=s3.heap.push { cls:=.type "slice",data:=.fields #[vl,vu,.none] } } σ H3 x v vl vu l u s3.heap.objs.size Q I4 r1 (Heap.IsSliceOf.new ..) pl pu q3
 show wpAny (model X.prog X.w) X.A (subscriptTail e (.Slice lo hi none p2) v (.ref s3.heap.objs.size)) (EP X pins σ Q) X.xe { s3 with heap:=s3.heap.push { cls:=.type "slice",data:=.fields #[vl,vu,.none] } }
 exact tail_any (ops:=[.ref s3.heap.objs.size,v]) ht hT hg (by with_unfolding_all rfl)
def cutV(xs:List V)(lo hi:Option Int):List V:=(xs.drop (HT.sIx xs.length 0 lo)).take (HT.sIx xs.length xs.length hi - HT.sIx xs.length 0 lo)
theorem cutV_length(xs:List V)(lo hi:Option Int):(cutV xs lo hi).length<=xs.length:=by
 unfold cutV
 rw [List.length_take,List.length_drop]
 omega
def rSlT(K:PySem.W.Frag):V->Option Int->Option Int->Hp->VK->Prop:=fun x lo hi H Q=>∃a xs,x=.ref a/\SqT K H a xs /\
 ¬(HT.sIx xs.length 0 lo=0/\HT.sIx xs.length xs.length hi=xs.length)/\∀p,H p=none->Q (.ref p) (upd H p (.tup (cutV xs lo hi)))
theorem sl_tup:SlR X (rSlT X.K):=by
 intro pins s σ H x v vl vu lo hi sl Q I rx hs pl pu h
 obtain⟨a,xs,rfl,hx,hw,q⟩:=h
 cases rx
 obtain⟨its,r,ht,hz⟩:=I.tuple hx
 have hlen:its.toArray.size=xs.length:=by rw [List.size_toArray];exact r.length.symm
 refine⟨"tuple",_,PyProof.Rows.slot_tuple_getitem.lookup,ht.typeIs,?_⟩
 refine HT.getItem_tuple_cut ht hs pl pu (by rw [hlen];exact hw) ?_ (by rw [hlen];exact hz)
 rw [hlen]
 refine⟨.ref s.heap.objs.size,_,I.laid (t':=s.toks) (o:=.tup (cutV xs lo hi)) (fun b ob q=>Heap.get?_push_of_some _ q) (Nat.le_refl _) ?_,rfl,q _ (I.hok.fresh (Nat.le_refl _))⟩
 exact⟨Nat.le_trans (cutV_length xs lo hi) hz,_,(r.drop (HT.sIx xs.length 0 lo)).take (HT.sIx xs.length xs.length hi - HT.sIx xs.length 0 lo),IsTup.new _ _⟩
theorem Vals.nil_iff{xs:List V}{us:List Value}(r:Vals xs us):us=[]↔xs=[]:=by
 cases r with
 | nil=>simp
 | cons _ _=>simp
end
end L2
namespace L2
open PySem PySem.Spec PyProof.Rows
def ixN(n:Nat)(i:Int):Option Nat:=if 0<=i then(if i < n then some i.toNat else none) else if -(n:Int)<=i then some (i+n).toNat else none
def atI{α:Type}(xs:List α)(i:Int):Option α:=(ixN xs.length i).bind fun j=>xs[j]?
theorem ixN_seq{n:Nat}{i:Int}{j:Nat}(h:ixN n i=some j):seqIndex? i n=some j/\j < n/\-(n:Int)<=i/\i < n:=by
 unfold ixN at h
 by_cases h0:0<=i
 ·rw [if_pos h0]at h
  by_cases h1:i < n
  ·rw [if_pos h1]at h
   have e:i.toNat=j:=Option.some.inj h
   exact⟨by rw [seqIndex_of h0 h1,e],by omega,by omega,h1⟩
  ·rw [if_neg h1]at h;cases h
 ·rw [if_neg h0]at h
  by_cases h1:-(n:Int)<=i
  ·rw [if_pos h1]at h
   have e:(i+n).toNat=j:=Option.some.inj h
   exact⟨by rw [seqIndex_neg (by omega) h1,e],by omega,h1,by omega⟩
  ·rw [if_neg h1]at h;cases h
theorem atI_get{α:Type}{xs:List α}{i:Int}{v:α}(h:atI xs i=some v):∃j,seqIndex? i xs.length=some j/\xs[j]?=some v/\j < xs.length/\-(xs.length:Int)<=i/\i < xs.length:=by
 unfold atI at h
 cases e:ixN xs.length i with
 | none=>rw [e]at h;cases h
 | some j =>
  rw [e]at h
  obtain⟨h1,h2,h3,h4⟩:=ixN_seq e
  exact⟨j,h1,h,h2,h3,h4⟩
theorem atI_nat{α:Type}{xs:List α}{j:Nat}{v:α}(h:xs[j]?=some v):atI xs (j:Int)=some v:=by
 have hj:j < xs.length:=(List.getElem?_eq_some_iff.mp h).1
 have e:ixN xs.length (j:Int)=some j:=by
  unfold ixN
  rw [if_pos (by omega),if_pos (by omega)];simp
 unfold atI;rw [e];exact h
def PlainIx(b:Expr):Prop:=∀o i,subscripted b false o i=operate [o,i] (getItem o i)
def IxR(X:Cx)(r:R2):Prop :=
 ∀(value slice:Expr) (pins:List (Addr×Obj)) (s:Shared) (σ:St) (H:Hp) (x y:V) (v u:Value) (Q:VK),Inv X pins σ H s->RelV x v->RelV y u->r x y H Q ->
  subscripted slice false v u=operate [v,u] (getItem v u)->wpAny (model X.prog X.w) X.A (subscriptTail value slice v u) (EP X pins σ Q) X.xe s
def MtR(X:Cx)(id:String)(r:V->List V->Hp->VK->Prop):Prop :=
 ∀(pins:List (Addr×Obj)) (s:Shared) (σ:St) (H:Hp) (x:V) (xs:List V) (v:Value) (us:List Value) (Q:VK),Inv X pins σ H s->RelV x v->Vals xs us->r x xs H Q ->
  wpAny (model X.prog X.w) X.A (call (.builtin id) (v :: us)) (EP X pins σ Q) X.xe s
section
variable {X:Cx}{a b:Expr}{ta tb:TE}{pos:Pos}
theorem pe_ix{r:R2}(hr:IxR X r)(ha:PE X a ta)(hb:PE X b tb)(hs:PlainIx b):PE X (.Subscript a b pos) (tOp r ta tb):=by
 intro pins s σ H Q I h
 exact Subscript_ (binT ha hb I h fun v u s2 x y H2 I2 rx ry q=>hr a b pins s2 σ H2 x y v u Q I2 rx ry q (hs _ _))
def rIxL(K:PySem.W.Frag):R2:=fun x y H Q=>∃p xs i v,x=.ref p/\y=.int i/\SqL K H p xs/\atI xs i=some v/\Q v H
def rIxT(K:PySem.W.Frag):R2:=fun x y H Q=>∃p xs i v,x=.ref p/\y=.int i/\SqT K H p xs/\atI xs i=some v/\Q v H
def rIxS:R2:=fun x y H Q=>∃z i c,x=.str z/\y=.int i/\z.length<=sizeLine/\atI z.cps.toList i=some c/\Q (.str ⟨#[c]⟩) H
theorem ix_list:IxR X (rIxL X.K):=by
 intro value slice pins s σ H x y v u Q I rx ry h hs
 obtain⟨p,xs,i,z,rfl,rfl,hq,he,q⟩:=h
 cases rx
 obtain⟨t,rfl⟩:=ry
 obtain⟨its,r,pl,hz⟩:=I.list hq
 obtain⟨j,h1,h2,h3,h4,h5⟩:=atI_get he
 obtain⟨w,ew,rw'⟩:=r.get h2
 have hl:=r.length
 have hn:=line63
 have fin:EP X pins σ Q w s:=⟨z,H,I,rw',q⟩
 by_cases h0:0<=i
 ·have hj:i.toNat=j:=by
   rw [seqIndex_of h0 h5]at h1
   exact Option.some.inj h1
  exact item_listR pl.isList h0 (by omega) (by rw [hj];simpa using ew) fin hs
 ·have hj:(i+(its.toArray.size:Int)).toNat=j:=by
   rw [seqIndex_neg (by omega) h4]at h1
   rw [List.size_toArray,<- hl]
   exact Option.some.inj h1
  exact subscriptTail_builtinR (x:=w) pl.isList.typeIs slot_list_getitem.lookup
   (wpAny_getItem_list_neg (Q:=fun r s'=>r=w/\EP X pins σ Q r s') pl.isList (by omega) (by rw [List.size_toArray] <;> omega) (by omega) (by rw [hj];simpa using ew) ⟨rfl,fin⟩) hs
theorem ix_tup:IxR X (rIxT X.K):=by
 intro value slice pins s σ H x y v u Q I rx ry h hs
 obtain⟨p,xs,i,z,rfl,rfl,hq,he,q⟩:=h
 cases rx
 obtain⟨t,rfl⟩:=ry
 obtain⟨its,r,pl,hz⟩:=I.tuple hq
 obtain⟨j,h1,h2,h3,h4,h5⟩:=atI_get he
 obtain⟨w,ew,rw'⟩:=r.get h2
 have hl:=r.length
 have hn:=line63
 have fin:EP X pins σ Q w s:=⟨z,H,I,rw',q⟩
 exact subscriptTail_builtinR (x:=w) pl.typeIs slot_tuple_getitem.lookup
  (getItem_tuple (j:=j) (Q:=fun r s'=>r=w/\EP X pins σ Q r s') pl (by omega) (by omega) (by rw [List.size_toArray,<- hl];exact h1) (by simpa using ew) ⟨rfl,fin⟩) hs
theorem ix_str:IxR X rIxS:=by
 intro value slice pins s σ H x y v u Q I rx ry h hs
 obtain⟨z,i,c,rfl,rfl,hz,he,q⟩:=h
 obtain⟨t,rfl⟩:=rx
 obtain⟨t',rfl⟩:=ry
 obtain⟨j,h1,h2,h3,h4,h5⟩:=atI_get he
 have hl:z.cps.toList.length=z.length:=by simp [Str.length]
 rw [hl]at h1 h4 h5
 have hn:=line63
 exact tail_any (typeIs_str s z t) slot_str_getitem.lookup (getItem_str (c:=c) (by
  have e1:decide (i < -(2 ^ 63:Int))=false:=decide_eq_false (by omega)
  have e2:decide (i>=2 ^ 63)=false:=decide_eq_false (by omega)
  rw [e1,e2,Bool.or_false]) (by rw [h1];simpa using h2) ⟨.str ⟨#[c]⟩,H,I.tok _,⟨_,rfl⟩,q⟩) hs
theorem mapSeq_set(its:List Value)(n j:Nat)(u:Value):Obj.mapSeq (·.setIfInBounds j u) { cls:=.type "list",data:=.seq its.toArray n }={ cls:=.type "list",data:=.seq (its.set j u).toArray n }:=by
 simp [Obj.mapSeq]
theorem Inv.lst{pins:List (Addr×Obj)}{σ:St}{H:Hp}{s:Shared}{p:Addr}{xs:List V}(I:Inv X pins σ H s)(h:H p=some (.lst xs)) :
  ∃(its:List Value) (n:Nat),Vals xs its/\s.heap.get? p=some { cls:=.type "list",data:=.seq its.toArray n }/\xs.length<=sizeLine:=by
 obtain⟨z,its,n,r,e⟩:=I.hok p _ h
 exact⟨its,n,r,e,z⟩
theorem Inv.lstUpd{pins:List (Addr×Obj)}{σ:St}{H:Hp}{s:Shared}{p:Addr}{xs ys:List V}{its its':List Value}{n n':Nat}{f:Obj->Obj}(I:Inv X pins σ H s)(h:H p=some (.lst xs))
  (ho:s.heap.get? p=some { cls:=.type "list",data:=.seq its.toArray n }) (hf:f { cls:=.type "list",data:=.seq its.toArray n }={ cls:=.type "list",data:=.seq its'.toArray n' }) (r:Vals ys its') (hz:ys.length<=sizeLine) (t:Nat) :
  Inv X pins σ (upd H p (.lst ys)) { s with heap:=s.heap.update p f,toks:=t }:=by
 have e:(s.heap.update p f).get? p=some { cls:=.type "list",data:=.seq its'.toArray n' }:=by
  rw [Heap.get?_update_self f ho (by rw [hf] <;> rfl),hf]
 refine I.write (x:=p) (e:=p) (by rw [h];trivial) (.inl rfl) (fun b u hb q=>(Heap.get?_update_other _ _ (Ne.symm hb)).trans q) ⟨_,e⟩ ?_
 exact⟨hz,its',n',r,e⟩
def rSetL:V->V->V->Hp->(Hp->Prop)->Prop:=fun o i v H Q=>∃p xs k j,o=.ref p/\i=.int k/\H p=some (.lst xs)/\ixN xs.length k=some j/\Q (upd H p (.lst (xs.set j v)))
theorem set_list:PSet X rSetL:=by
 intro pins s σ H o i v ov iv u Q I ro ri rv h
 obtain⟨p,xs,k,j,rfl,rfl,hp,hj,q⟩:=h
 cases ro
 obtain⟨t,rfl⟩:=ri
 obtain⟨its,n,r,ho,hz⟩:=I.lst hp
 obtain⟨h1,h2,h3,h4⟩:=ixN_seq hj
 have hl:=r.length
 have hn:=line63
 have I':Inv X pins σ (upd H p (.lst (xs.set j v))) { s with heap:=s.heap.update p (Obj.mapSeq (·.setIfInBounds j u)) } :=
  I.lstUpd hp ho (mapSeq_set its n j u) (r.set rv j) (by rw [List.length_set];exact hz) s.toks
 by_cases h0:0<=k
 ·have hk:k.toNat=j:=by
   rw [seqIndex_of h0 h4]at h1
   exact Option.some.inj h1
  exact PySem.W.ki_setAt ho h0 (by omega) (by rw [List.size_toArray,<- hl];exact h4) (by rw [hk];exact⟨_,I',q⟩)
 ·have hk:(k+(its.toArray.size:Int)).toNat=j:=by
   rw [seqIndex_neg (by omega) h3]at h1
   rw [List.size_toArray,<- hl]
   exact Option.some.inj h1
  exact PySem.W.ki_setBack ho (by omega) (by rw [List.size_toArray,<- hl];exact h3) (by omega) (by rw [hk];exact⟨_,I',q⟩)
theorem slice_bounds(lo hi:Option Int)(n:Nat):(sliceBounds lo hi none n).1=((HT.sIx n 0 lo:Nat):Int)/\(sliceBounds lo hi none n).2.1=((HT.sIx n n hi:Nat):Int)/\(sliceBounds lo hi none n).2.2=1:=by
 refine⟨?_,?_,rfl⟩
 ·cases lo with
  | none=>simp [sliceBounds,HT.sIx]
  | some i =>
   simp only [sliceBounds,HT.sIx,Option.getD_none,show(1:Int) > 0 by decide,if_true]
   by_cases h:i < 0
   ·simp only [h,if_true] <;> omega
   ·simp only [h,if_false] <;> omega
 ·cases hi with
  | none=>simp [sliceBounds,HT.sIx]
  | some i =>
   simp only [sliceBounds,HT.sIx,Option.getD_none,show(1:Int) > 0 by decide,if_true]
   by_cases h:i < 0
   ·simp only [h,if_true] <;> omega
   ·simp only [h,if_false] <;> omega
theorem slicePick_cut(its:List Value)(lo hi:Option Int):slicePick its.toArray lo hi none=((its.drop (HT.sIx its.length 0 lo)).take (HT.sIx its.length its.length hi - HT.sIx its.length 0 lo)).toArray:=by
 obtain⟨h1,h2,h3⟩:=slice_bounds lo hi its.toArray.size
 unfold slicePick
 rw [h1,h2,h3]
 simp only [sliceRange_one,pick_run,List.size_toArray] <;> rfl
def rSlL(K:PySem.W.Frag):V->Option Int->Option Int->Hp->VK->Prop:=fun x lo hi H Q=>∃a xs,x=.ref a/\SqL K H a xs/\∀p,H p=none->Q (.ref p) (upd H p (.lst (cutV xs lo hi)))
theorem sl_list:SlR X (rSlL X.K):=by
 intro pins s σ H x v vl vu lo hi sl Q I rx hs pl pu h
 obtain⟨a,xs,rfl,hx,q⟩:=h
 cases rx
 obtain⟨its,r,ht,hz⟩:=I.list hx
 have hlen:=r.length
 refine⟨"list",_,slot_list_getitem.lookup,ht.isList.typeIs,?_⟩
 refine wpAny_getItem_list_slice ht.isList hs pl pu .none (by simp) ?_ (by rw [List.size_toArray] <;> omega)
 rw [slicePick_cut,<- hlen]
 refine⟨.ref s.heap.objs.size,_,I.laid (t':=s.toks) (o:=.lst (cutV xs lo hi)) (fun b ob q=>Heap.get?_push_of_some _ q) (Nat.le_refl _) ?_,rfl,q _ (I.hok.fresh (Nat.le_refl _))⟩
 exact⟨Nat.le_trans (cutV_length xs lo hi) hz,_,0,(r.drop (HT.sIx xs.length 0 lo)).take (HT.sIx xs.length xs.length hi - HT.sIx xs.length 0 lo),Heap.get?_push_size _ rfl⟩
theorem call_len_seq:CallR X (.builtin "len") (fun xs H Q=>∃p ys,xs=[.ref p]/\(SqL X.K H p ys\/SqT X.K H p ys)/\Q (.int ys.length) H):=by
 intro pins s σ H xs us Q I r h
 obtain⟨p,ys,rfl,hq,q⟩:=h
 obtain⟨u,rfl,rx⟩:=vals1 r
 cases rx
 have hn:=line63
 rcases hq with hq | hq
 ·obtain⟨its,r',pl,hz⟩:=I.list hq
  have hlen:=r'.length
  exact Calls.call_len_list pl.isList (by simp only [List.size_toArray] <;> omega) ⟨.int ys.length,H,I.tok _,⟨s.toks+1,by rw [List.size_toArray,hlen]⟩,q⟩
 ·obtain⟨its,r',pl,hz⟩:=I.tuple hq
  have hlen:=r'.length
  exact len_tuple pl (by simp only [List.size_toArray] <;> omega) ⟨.int ys.length,H,I.tok _,⟨s.toks+1,by rw [List.size_toArray,hlen]⟩,q⟩
theorem call_len_str:CallR X (.builtin "len") (fun xs H Q=>∃z,xs=[.str z]/\z.length<=sizeLine/\Q (.int z.length) H):=by
 intro pins s σ H xs us Q I r h
 obtain⟨z,rfl,hz,q⟩:=h
 obtain⟨u,rfl,t,rfl⟩:=vals1 r
 have hn:=line63
 exact len_str (by omega) ⟨.int z.length,H,I.tok _,⟨_,rfl⟩,q⟩
theorem call_tuple_of:CallR X (.type "tuple") (fun xs H Q=>∃p ys,xs=[.ref p]/\((SqL X.K H p ys/\∀l,H l=none->Q (.ref l) (upd H l (.tup ys)))\/(SqT X.K H p ys/\Q (.ref p) H))):=by
 intro pins s σ H xs us Q I r h
 obtain⟨p,ys,rfl,h⟩:=h
 obtain⟨u,rfl,rx⟩:=vals1 r
 cases rx
 rcases h with⟨hq,q⟩ | ⟨hq,q⟩
 ·obtain⟨its,r',pl,hz⟩:=I.list hq
  have hlen:=r'.length
  refine call_tuple_list pl.isList (fun h' kp=>?_) (by simp only [List.size_toArray] <;> omega)
  have I1:Inv X pins σ H { s with heap:=h' }:=I.kept (t':=s.toks) kp
  have I2:Inv X pins σ (upd H h'.objs.size (.tup ys)) { s with heap:=h'.push { cls:=.type "tuple",data:=.seq its.toArray } } :=
   I1.laid (t':=s.toks) (fun b o e=>Heap.get?_push_of_some _ e) (Nat.le_refl _) (show ObjOk X.prog X.w _ _ _ (.tup ys) from⟨hz,its,r',IsTup.new _ _⟩)
  exact⟨.ref h'.objs.size,_,I2,rfl,q _ (I1.hok.fresh (Nat.le_refl _))⟩
 ·obtain⟨its,r',pl,hz⟩:=I.tuple hq
  exact call_tuple_same pl ⟨.ref p,H,I,rfl,q⟩
def tyV(K:PySem.W.Frag)(T:String)(x:V)(H:Hp):Prop:=match x with
 | .str _=>T = "str"
 | .int _=>T = "int"
 | .ref p=>(T = "list" /\ ∃xs,SqL K H p xs)\/(T = "tuple" /\ ∃o,K.lookup p=some o/\o.cls=.type "tuple" /\ o.dict=none) \/
   (T = "dict" /\ ((∃kvs,H p=some (.dK kvs))\/∃kvs,H p=some (.dT kvs)))\/(T = "set" /\ ∃S n,H p=some (.set S n))
 | _=>False
theorem tyV_is{pins:List (Addr×Obj)}{σ:St}{H:Hp}{s:Shared}{T:String}{x:V}{v:Value}(I:Inv X pins σ H s)(r:RelV x v)(ty:tyV X.K T x H) :
  s.TypeIs v T/\∀a,v=.ref a->∃ob,s.heap.get? a=some ob/\ob.dict=none:=by
 cases x with
 | str z =>
  obtain⟨t,rfl⟩:=r
  cases (show T = "str" from ty)
  exact⟨typeIs_str s z t,fun _ e=>nomatch e⟩
 | int i =>
  obtain⟨t,rfl⟩:=r
  cases (show T = "int" from ty)
  exact⟨typeIs_int s i t,fun _ e=>nomatch e⟩
 | ref p =>
  cases r
  rcases ty with⟨rfl,xs,hq⟩ | ⟨rfl,o,hk,hc,hd⟩ | ⟨rfl,hk⟩ | ⟨rfl,S,n,hk⟩
  ·obtain⟨its,_,pl,_⟩:=I.list hq
   refine⟨pl.isList.typeIs,fun a e=>?_⟩
   cases e
   obtain⟨o,n,e,c,hd,_⟩:=pl
   exact⟨o,e,hd⟩
  ·refine⟨⟨o,I.kIn p o hk,hc⟩,fun a e=>?_⟩
   cases e
   exact⟨o,I.kIn _ o hk,hd⟩
  ·have z:∃o,s.heap.get? p=some o/\o.ExactDict:=by
    rcases hk with⟨kvs,hk⟩ | ⟨kvs,hk⟩
    ·obtain⟨_,_,_,_,o,_,_,e,ex,_⟩:=I.hok p _ hk
     exact⟨o,e,ex⟩
    ·obtain⟨_,_,_,_,o,_,_,e,ex,_⟩:=I.hok p _ hk
     exact⟨o,e,ex⟩
   obtain⟨o,e,ex⟩:=z
   refine⟨⟨o,e,ex.1⟩,fun a e2=>?_⟩
   cases e2
   exact⟨o,e,ex.2.1⟩
  ·obtain⟨o,_,_,_,e,ex,_⟩:=I.hok p _ hk
   refine⟨⟨o,e,ex.1⟩,fun a e2=>?_⟩
   cases e2
   exact⟨o,e,ex.2.1⟩
 | _=>exact False.elim ty
def tBM(K:PySem.W.Frag)(T:String)(r:V->List V->Hp->VK->Prop)(to:TE)(t:TA):TE:=fun σ H Q=>to σ H fun x H1=>tyV K T x H1/\t σ H1 fun xs H2=>r x xs H2 Q
variable {o e:Expr}{es:List Expr}{to:TE}{t:TA}{name:Str}{apos cpos:Pos}{T id:String}{r:V->List V->Hp->VK->Prop}
theorem pe_bm(pa:PlainAttrs T)(slot:Slot T name id)(hty:typeOf (.builtin id)=pure (.type "method_descriptor")) (hm:MtR X id r) (ho:PE X o to) (ha:PA X (e :: es) t)
  (hbase:attributeBase o name X.env (eval o X.env)=eval o X.env:=by rfl)
  (hfew:((backTo cpos (starEach (e :: es) X.env)).all (fun x=>!x.1) && (backToKw cpos (keywordEach [] X.env)).all (fun x=>x.1.isSome)
   && decide ((e :: es).length+([]:List Keyword).length+(if([]:List Keyword).isEmpty then 0 else 1) < 30))=true:=by rfl)
  (hline:(apos.endLine==cpos.line)=true:=by rfl) (hs:starEach (e :: es) X.env=(false,eval e X.env) :: starEach es X.env:=by rfl) (hplain:(backTo cpos (starEach es X.env)).any (·.1)=false:=by rfl) :
  PE X (.Call (.Attribute o name apos) (e :: es) [] cpos) (tBM X.K T r to t):=by
 intro pins s σ H Q I h
 refine wpAny_Call_method_late hbase hfew hline rfl (thn (ho pins s σ H _ I h) fun v s1 zz514=>?_)
 obtain⟨x,H1,I1,r1,ty,q1⟩:=zz514
 obtain⟨h1,h2⟩:=tyV_is I1 r1 ty
 refine⟨T,id,pa,slot,hty,h1,h2,?_⟩
 have hA:=ha cpos pins s1 σ H1 _ I1 q1
 rw [hs]at hA ⊢
 refine Calls.callWith_builtin (by show(false || (backTo cpos (starEach es X.env)).any (·.1))=false;rw [hplain] <;> rfl) (Calls.evalArgs_plain ?_)
 exact thn hA fun us s2 zz257=>ex23 zz257 fun vs H2 I2 r2 q2=>hm pins s2 σ H2 x vs v us Q I2 r1 r2 q2
end
end L2
namespace L2
open PySem PySem.Spec PyProof.Rows
def MtM(X:Cx)(id:String)(r:V->List V->Hp->VK->Prop):Prop :=
 ∀(pins:List (Addr×Obj)) (s:Shared) (σ:St) (H:Hp) (x:V) (xs:List V) (v:Value) (us:List Value) (Q:VK),Inv X pins σ H s->RelV x v->Vals xs us->r x xs H Q ->
  wpAny (model X.prog X.w) X.A (call (.builtin id) (v :: us)) (EP X pins σ Q) X.xe s
theorem Vals.one:∀{x:V} {us:List Value},Vals [x] us->∃u,us=[u]/\RelV x u
 | _,_,.cons r .nil=>⟨_,rfl,r⟩
theorem Vals.eraseIdx:∀{xs:List V} {us:List Value} (i:Nat),Vals xs us->Vals (xs.eraseIdx i) (us.eraseIdx i)
 | _,_,_,.nil=>.nil
 | _,_,0,.cons _ t=>t
 | _,_,i+1,.cons r t=>.cons r (Vals.eraseIdx i t)
theorem len_erase{α:Type}:∀(l:List α) (i:Nat),(l.eraseIdx i).length<=l.length
 | [],_=>Nat.le_refl _
 | _ :: _,0=>Nat.le_succ _
 | _ :: r,i+1=>Nat.succ_le_succ (len_erase r i)
section
variable {X:Cx}{pins:List (Addr×Obj)}{σ:St}{H:Hp}{s:Shared}{l b:Addr}{xs ys zs:List V}
theorem Inv.lset{its its':List Value}{n:Nat}{f:Array Value->Array Value}{t':Nat}(I:Inv X pins σ H s)(hH:H l=some (.lst xs))
  (e:s.heap.get? l=some { cls:=.type "list",data:=.seq its.toArray n }) (hf:f its.toArray=its'.toArray) (hv:Vals ys its') (hz:ys.length<=sizeLine) :
  Inv X pins σ (upd H l (.lst ys)) { s with heap:=s.heap.update l (Obj.mapSeq f),toks:=t' }:=by
 have q:=PySem.IsL.update e f
 rw [hf]at q
 refine I.write (x:=l) (e:=l) (by rw [hH];exact trivial) (.inl rfl) (fun b' u hb hu=>(Heap.get?_update_other s.heap (Obj.mapSeq f) (Ne.symm hb)).trans hu) ⟨_,q⟩ ?_
 exact⟨hz,its',_,hv,q⟩
theorem Inv.lnew{its:List Value}{t':Nat}(I:Inv X pins σ H s)(hv:Vals ys its)(hz:ys.length<=sizeLine) :
  Inv X pins σ (upd H s.heap.objs.size (.lst ys)) { s with heap:=s.heap.push { cls:=.type "list",data:=.seq its.toArray },toks:=t' } :=
 I.laid (fun _ _ q=>Heap.get?_push_of_some _ q) (Nat.le_refl _) ⟨hz,its,0,hv,Heap.get?_push_size _ rfl⟩
theorem Inv.fresh(I:Inv X pins σ H s):H s.heap.objs.size=none:=I.hok.fresh (Nat.le_refl _)
theorem Inv.lstM(I:Inv X pins σ H s)(hH:H l=some (.lst xs)):xs.length<=sizeLine/\∃(its:List Value) (n:Nat),Vals xs its/\xs.length=its.length/\s.heap.get? l=some { cls:=.type "list",data:=.seq its.toArray n }:=by
 obtain⟨z,its,n,r,e⟩:=I.hok l _ hH
 exact⟨z,its,n,r,r.length,e⟩
theorem notLongL{n:Nat}(h:n<=sizeLine):Builtin.List.listTooLong n=false:=by
 unfold Builtin.List.listTooLong
 exact decide_eq_false (by omega)
end
section
variable {X:Cx}
def rAppend:V->List V->Hp->VK->Prop:=fun x vs H Q=>∃l xs y,x=.ref l/\vs=[y]/\H l=some (.lst xs)/\xs.length < sizeLine/\Q .non (upd H l (.lst (xs++[y])))
theorem mt_append:MtM X "list.append" rAppend:=by
 intro pins s σ H x vs v us Q I rx rv h
 obtain⟨l,xs,y,rfl,rfl,hH,hz,q⟩:=h
 cases rx
 obtain⟨u,rfl,ru⟩:=rv.one
 obtain⟨z,its,n,r,hl,e⟩:=I.lstM hH
 refine call_meets F.slot_list_append ⟨_,e,rfl⟩ F.entry_list_append (F.args_list_append_2 _ _) (PySem.list_append l its.toArray n u (by rw [List.size_toArray];omega)) ⟨e,?_⟩
 refine⟨.non,_,I.lset (its':=its++[u]) hH e (by simp) (r.append (.cons ru .nil)) ?_,rfl,q⟩
 rw [List.length_append,List.length_singleton]
 omega
def rExtend:V->List V->Hp->VK->Prop:=fun x vs H Q=>∃l b xs zs,x=.ref l/\vs=[.ref b]/\H l=some (.lst xs)/\H b=some (.lst zs)/\xs.length+zs.length<=sizeLine/\Q .non (upd H l (.lst (xs++zs)))
theorem mt_extend:MtM X "list.extend" rExtend:=by
 intro pins s σ H x vs v us Q I rx rv h
 obtain⟨l,b,xs,zs,rfl,rfl,hH,hB,hz,q⟩:=h
 cases rx
 obtain⟨u,rfl,ru⟩:=rv.one
 cases ru
 obtain⟨z,its,n,r,hl,e⟩:=I.lstM hH
 obtain⟨z2,its2,n2,r2,hl2,e2⟩:=I.lstM hB
 have hsz:its.toArray.size+its2.toArray.size<=sizeLine:=by rw [List.size_toArray,List.size_toArray];omega
 have hlong:¬(!its.toArray.isEmpty && Builtin.List.listTooLong (its.toArray.size+its2.toArray.size))=true:=by
  rw [notLongL hsz,Bool.and_false]
  exact Bool.false_ne_true
 refine call_meets F.slot_list_extend ⟨_,e,rfl⟩ F.entry_list_extend (F.args_list_extend_2 _ _)
  (AutoSeq1.list_extend_list_list_0 l its.toArray n b its2.toArray n2 hlong (by rw [List.size_toArray];omega) (by omega)) ⟨e,e2,?_⟩
 refine⟨.non,_,I.lset (its':=its++its2) hH e (by simp) (r.append r2) ?_,rfl,q⟩
 rw [List.length_append]
 omega
def rPopAt:V->List V->Hp->VK->Prop:=fun x vs H Q=>∃l xs i k y,x=.ref l/\vs=[.int i]/\H l=some (.lst xs)/\-(2 ^ 63)<=i/\i < 2 ^ 63/\seqIndex? i xs.length=some k/\xs[k]?=some y/\Q y (upd H l (.lst (xs.eraseIdx k)))
theorem mt_popAt:MtM X "list.pop" rPopAt:=by
 intro pins s σ H x vs v us Q I rx rv h
 obtain⟨l,xs,i,k,y,rfl,rfl,hH,h1,h2,hk,hy,q⟩:=h
 cases rx
 obtain⟨u,rfl,ru⟩:=rv.one
 obtain⟨t,rfl⟩:=ru
 obtain⟨z,its,n,r,hl,e⟩:=I.lstM hH
 obtain⟨w,hw,rw'⟩:=r.get hy
 refine call_meets F.slot_list_pop ⟨_,e,rfl⟩ F.entry_list_pop (F.args_list_pop_2 _ _)
  (MeetsSeq.list_pop_at l its.toArray n i t k w (fitsIndex_both h1 h2) (by rw [List.size_toArray,<- hl];exact hk) (by rw [<- Array.getElem?_toList];exact hw) (by rw [List.size_toArray];omega)) ⟨e,?_⟩
 refine⟨y,_,I.lset (its':=its.eraseIdx k) hH e ?_ (r.eraseIdx k) ?_,rw',q⟩
 ·show its.toArray.eraseIdxIfInBounds k=(its.eraseIdx k).toArray
  rw [List.eraseIdxIfInBounds_toArray]
 ·have:=len_erase xs k
  omega
def rCat:R2:=fun x y H Q=>∃l b xs zs,x=.ref l/\y=.ref b/\H l=some (.lst xs)/\H b=some (.lst zs)/\xs.length+zs.length<=sizeLine/\∀p,H p=none->Q (.ref p) (upd H p (.lst (xs++zs)))
theorem op_cat:OpR X (binaryOp .Add) rCat:=by
 intro pins s σ H x y v u Q I rx ry h
 obtain⟨l,b,xs,zs,rfl,rfl,hH,hB,hz,q⟩:=h
 cases rx
 cases ry
 obtain⟨z,its,n,r,hl,e⟩:=I.lstM hH
 obtain⟨z2,its2,n2,r2,hl2,e2⟩:=I.lstM hB
 refine PySem.P.add_list e e2 ?_ (by rw [List.size_toArray,List.size_toArray];omega)
 have ea:its.toArray++its2.toArray=(its++its2).toArray:=by simp
 rw [ea]
 exact⟨.ref _,_,I.lnew (t':=s.toks) (r.append r2) (by rw [List.length_append];omega),rfl,q _ I.fresh⟩
end
section
variable {prog:Program}{w:World}{A:Around}{E:Value->Shared->Prop}{s:Shared}
end
section
variable {X:Cx}
end
end L2
namespace L2
open PySem PySem.Spec PyProof.Rows
section
variable {κ:Type} [DecidableEq κ]
def valV(kvs:List (κ×V))(k:κ):Option V:=(kvs.find? fun kv=>decide (kv.1=k)).map (·.2)
def putK(kvs:List (κ×V))(k:κ)(v:V):List (κ×V) :=
 if(kvs.any fun kv=>decide (kv.1=k))=true then kvs.map (fun kv=>if kv.1=k then(kv.1,v) else kv) else kvs++[(k,v)]
theorem valV_pos{p:κ×V}{r:List (κ×V)}{k:κ}(e:p.1=k):valV (p :: r) k=some p.2:=by simp [valV,List.find?_cons,e]
theorem valV_neg{p:κ×V}{r:List (κ×V)}{k:κ}(e:¬p.1=k):valV (p :: r) k=valV r k:=by simp [valV,List.find?_cons,e]
theorem valV_any(k:κ):∀kvs:List (κ×V),(kvs.any fun kv=>decide (kv.1=k))=(valV kvs k).isSome
 | []=>rfl
 | p :: r=>by
  rw [List.any_cons]
  by_cases e:p.1=k
  ·simp only [valV_pos e,decide_eq_true e,Bool.true_or,Option.isSome_some]
  ·rw [valV_neg e,decide_eq_false e,Bool.false_or];exact valV_any k r
theorem length_putK(kvs:List (κ×V))(k:κ)(v:V):(putK kvs k v).length<=kvs.length+1:=by
 unfold putK
 split
 ·rw [List.length_map];omega
 ·rw [List.length_append,List.length_cons,List.length_nil];omega
theorem RelO.isSome_eq{o:Option V}{u:Option Value}(r:RelO o u):o.isSome=u.isSome:=by
 cases o with
 | none=>cases u with
  | none=>rfl
  | some _=>exact(show False from r).elim
 | some _=>cases u with
  | none=>exact(show False from r).elim
  | some _=>rfl
theorem KV.val{kvs:List (κ×V)}{vs:List (κ×Value)}(r:KV kvs vs)(k:κ):RelO (valV kvs k) (valueAt vs k):=by
 unfold KV at r
 induction r with
 | nil=>exact True.intro
 | @cons p q ps qs h t ih =>
  obtain⟨h1,h2⟩:=h
  by_cases e:p.1=k
  ·have e':q.1=k:=h1.symm.trans e
   have b:valueAt (q :: qs) k=some q.2:=by simp [valueAt,List.find?_cons,e']
   rw [valV_pos e,b];exact h2
  ·have e':¬q.1=k:=fun z=>e (h1.trans z)
   have b:valueAt (q :: qs) k=valueAt qs k:=by simp [valueAt,List.find?_cons,e']
   rw [valV_neg e,b];exact ih
theorem KV.any{kvs:List (κ×V)}{vs:List (κ×Value)}(r:KV kvs vs)(k:κ):(kvs.any fun kv=>decide (kv.1=k))=vs.any fun kv=>decide (kv.1=k):=by
 unfold KV at r
 induction r with
 | nil=>rfl
 | cons h t ih=>rw [List.any_cons,List.any_cons,ih,h.1]
theorem KV.repl{kvs:List (κ×V)}{vs:List (κ×Value)}(r:KV kvs vs)(k:κ){y:V}{u:Value}(ry:RelV y u) :
  KV (kvs.map fun kv=>if kv.1=k then(kv.1,y) else kv) (vs.map fun kv=>if kv.1=k then(kv.1,u) else kv):=by
 unfold KV at r ⊢
 induction r with
 | nil=>exact .nil
 | @cons p q ps qs h t ih =>
  rw [List.map_cons,List.map_cons]
  refine .cons ?_ ih
  obtain⟨h1,h2⟩:=h
  by_cases e:p.1=k
  ·rw [if_pos e,if_pos (h1.symm.trans e)];exact⟨h1,ry⟩
  ·rw [if_neg e,if_neg (fun z=>e (h1.trans z))];exact⟨h1,h2⟩
theorem KV.put{kvs:List (κ×V)}{vs:List (κ×Value)}(r:KV kvs vs)(k:κ){y:V}{u:Value}(ry:RelV y u):KV (putK kvs k y) (stored vs k u):=by
 unfold putK stored
 rw [r.any k]
 by_cases e:(vs.any fun kv=>decide (kv.1=k))=true
 ·rw [if_pos e,if_pos e];exact r.repl k ry
 ·rw [if_neg e,if_neg e];exact Paired.snoc r ⟨rfl,ry⟩
theorem KV.length{kvs:List (κ×V)}{vs:List (κ×Value)}(r:KV kvs vs):kvs.length=vs.length:=Paired.length r
end
theorem kV_is{P:Program}{w:World}{k:Key}{u:Value}(r:RelV (kV k) u):(mixKind P w).is k u=true:=by
 cases k with
 | inl i=>obtain⟨t,e⟩:=(show ∃t,u=Value.int i t from r);subst e;exact mixKind_int P w i t
 | inr x=>obtain⟨t,e⟩:=(show ∃t,u=Value.str x t from r);subst e;exact mixKind_str P w x t
theorem items_are{P:Program}{w:World}:∀{ks:List Key} {us:List Value},Vals (ks.map kV) us->ItemsAre (mixKind P w) ks us
 | [],_,r=>by rw [List.map_nil]at r;cases r;exact .nil
 | k :: ks,_,r=>by
  rw [List.map_cons]at r
  cases r with
  | cons h t=>exact .cons (kV_is h) (items_are t)
abbrev KT(H:Hp):List (List Key×V)->List (List Key×Addr×Value)->Prop:=Paired fun p q=>p.1=q.1/\H q.2.1=some (.tup (p.1.map kV))/\RelV p.2 q.2.2
theorem KT.val{H:Hp}{kvs:List (List Key×V)}{xs:List (List Key×Addr×Value)}(r:KT H kvs xs)(k:List Key):RelO (valV kvs k) ((atKey xs k).map (·.2)):=by
 induction r with
 | nil=>exact True.intro
 | @cons p q ps qs h t ih =>
  obtain⟨h1,_,h2⟩:=h
  by_cases e:p.1=k
  ·have e':q.1=k:=h1.symm.trans e
   have b:atKey (q :: qs) k=some q.2:=by simp [atKey,List.find?_cons,e']
   rw [valV_pos e,b];exact h2
  ·have e':¬q.1=k:=fun z=>e (h1.trans z)
   have b:atKey (q :: qs) k=atKey qs k:=by simp [atKey,List.find?_cons,e']
   rw [valV_neg e,b];exact ih
theorem KT.repl{H:Hp}{kvs:List (List Key×V)}{xs:List (List Key×Addr×Value)}(r:KT H kvs xs)(k:List Key){y:V}{u:Value}(ry:RelV y u) :
  KT H (kvs.map fun kv=>if kv.1=k then(kv.1,y) else kv) (xs.map (putAt k u)):=by
 induction r with
 | nil=>exact .nil
 | @cons p q ps qs h t ih =>
  rw [List.map_cons,List.map_cons]
  refine .cons ?_ ih
  obtain⟨h1,h2,h3⟩:=h
  unfold putAt
  by_cases e:p.1=k
  ·rw [if_pos e,if_pos (h1.symm.trans e)];exact⟨h1,h2,ry⟩
  ·rw [if_neg e,if_neg (fun z=>e (h1.trans z))];exact⟨h1,h2,h3⟩
theorem KT.put{H:Hp}{kvs:List (List Key×V)}{xs:List (List Key×Addr×Value)}(r:KT H kvs xs)(k:List Key){b:Addr}{y:V}{u:Value}(hb:H b=some (.tup (k.map kV)))(ry:RelV y u) :
  KT H (putK kvs k y) (storedH xs k b u):=by
 have e:(kvs.any fun kv=>decide (kv.1=k))=(atKey xs k).isSome:=by
  rw [valV_any,(r.val k).isSome_eq,Option.isSome_map]
 unfold putK storedH
 rw [e]
 by_cases q:(atKey xs k).isSome=true
 ·rw [if_pos q,if_pos q];exact r.repl k ry
 ·rw [if_neg q,if_neg q];exact Paired.snoc r ⟨rfl,hb,ry⟩
theorem KT.keeps{H H':Hp}{kvs:List (List Key×V)}{xs:List (List Key×Addr×Value)}(r:KT H kvs xs)(ht:∀b ys,H b=some (.tup ys)->H' b=some (.tup ys)):KT H' kvs xs :=
 Paired.mapP r fun _ _ z=>⟨z.1,ht _ _ z.2.1,z.2.2⟩
section
variable {P:Program}{w:World}{H:Hp}{h:Heap}{a:Addr}
theorem rd_of{u:HO}(ok:HOk P w H h)(e:Rd H a u):ObjOk P w H h a u:=e.ok ok
theorem dk_rd{kvs:List (Key×V)}(ok:HOk P w H h)(e:Rd H a (.dK kvs)):kvs.length<=sizeLine/\(a==sysModules)=false/\∃vs,KV kvs vs/\h.DictOf (mixKind P w) a vs :=
 show ObjOk P w H h a (.dK kvs) from rd_of ok e
theorem dk_of{kvs:List (Key×V)}(ok:HOk P w H h)(e:H a=some (.dK kvs)):kvs.length<=sizeLine/\(a==sysModules)=false/\∃vs,KV kvs vs/\h.DictOf (mixKind P w) a vs:=dk_rd ok (.inl e)
theorem key_of{ks:List Key}(ok:HOk P w H h)(e:H a=some (.tup (ks.map kV))):(tupleKind (mixKind P w)).is h ks a:=by
 obtain⟨_,its,r,o,h1,h2,n,h3⟩:=(show ObjOk P w H h a (.tup (ks.map kV)) from ok a _ e)
 exact⟨o,its.toArray,n,h1,h2,h3,by simpa using items_are r⟩
theorem dt_rd{kvs:List (List Key×V)}(ok:HOk P w H h)(e:Rd H a (.dT kvs)):kvs.length<=sizeLine/\(a==sysModules)=false /\
  ∃xs,KT H kvs xs/\h.DictOfH (tupleKind (mixKind P w)) a xs:=by
 obtain⟨z,y,xs,r,o,es,ep,h1,h2,h3,h4,h5⟩:=(show ObjOk P w H h a (.dT kvs) from rd_of ok e)
 refine⟨z,y,xs,r,o,es,ep,h1,h2,h3,h4,fun x hx=>?_,h5⟩
 have all:∀{l:List (List Key×V)} {m:List (List Key×Addr×Value)},KT H l m->∀x∈m,(tupleKind (mixKind P w)).is h x.1 x.2.1:=by
  intro l m q
  induction q with
  | nil=>intro x hx;exact nomatch hx
  | @cons p q ps qs hq t ih =>
   intro x hx
   rcases List.mem_cons.mp hx with e | hx
   ·subst e
    exact key_of ok (by rw [<- hq.1];exact hq.2.1)
   ·exact ih x hx
 exact all r x hx
theorem dt_of{kvs:List (List Key×V)}(ok:HOk P w H h)(e:H a=some (.dT kvs)):kvs.length<=sizeLine/\(a==sysModules)=false /\
  ∃xs,KT H kvs xs/\h.DictOfH (tupleKind (mixKind P w)) a xs:=dt_rd ok (.inl e)
end
def DGet(H:Hp)(a:Addr)(y:V)(r:Option V):Prop :=
 (∃kvs k,Rd H a (.dK kvs)/\y=kV k/\r=valV kvs k)\/∃kvs k b,Rd H a (.dT kvs)/\y=.ref b/\H b=some (.tup (k.map kV))/\r=valV kvs k
def DPut(H:Hp)(a:Addr)(y v:V)(H':Hp):Prop :=
 (∃kvs k,H a=some (.dK kvs)/\y=kV k/\kvs.length < sizeLine/\H'=upd H a (.dK (putK kvs k v))) \/
 ∃kvs k b,H a=some (.dT kvs)/\y=.ref b/\H b=some (.tup (k.map kV))/\kvs.length < sizeLine/\H'=upd H a (.dT (putK kvs k v))
theorem DGet.k{H:Hp}{a:Addr}{kvs:List (Key×V)}{k:Key}(e:H a=some (.dK kvs)):DGet H a (kV k) (valV kvs k):=.inl ⟨kvs,k,.inl e,rfl,rfl⟩
theorem DGet.t{H:Hp}{a b:Addr}{kvs:List (List Key×V)}{k:List Key}(e:H a=some (.dT kvs))(eb:H b=some (.tup (k.map kV))):DGet H a (.ref b) (valV kvs k):=.inr ⟨kvs,k,b,.inl e,rfl,eb,rfl⟩
theorem DPut.k{H:Hp}{a:Addr}{kvs:List (Key×V)}{k:Key}{v:V}(e:H a=some (.dK kvs))(hl:kvs.length < sizeLine):DPut H a (kV k) v (upd H a (.dK (putK kvs k v))):=.inl ⟨kvs,k,e,rfl,hl,rfl⟩
theorem DPut.t{H:Hp}{a b:Addr}{kvs:List (List Key×V)}{k:List Key}{v:V}(e:H a=some (.dT kvs))(eb:H b=some (.tup (k.map kV)))(hl:kvs.length < sizeLine) :
  DPut H a (.ref b) v (upd H a (.dT (putK kvs k v))):=.inr ⟨kvs,k,b,e,rfl,eb,hl,rfl⟩
section
variable {X:Cx}{pins:List (Addr×Obj)}{σ:St}{H:Hp}{s:Shared}{a:Addr}{y v:V}{u r:Value}{o:Option V}{A:Around}{E:Value->Shared->Prop}
theorem Inv.big(I:Inv X pins σ H s):sysModules < s.heap.objs.size:=by
 have h:mainGlobals < s.heap.objs.size:=(I.mod.glob.keeps I.bk).lt
 exact Nat.lt_trans (by decide) h
theorem d_in{Q:Value->Shared->Prop}(hu:A.units+1 < cLine)(I:Inv X pins σ H s)(g:DGet H a y o)(ry:RelV y u)(h:∀s',Inv X pins σ H s'->Q (.bool o.isSome) s') :
  wpAny (model X.prog X.w) A (compareOp .In u (.ref a)) Q E s:=by
 rcases g with⟨kvs,k,e,ey,l⟩ | ⟨kvs,k,b,e,ey,eb,l⟩
 ·subst ey
  obtain⟨z,hd,vs,rel,dd⟩:=dk_rd I.hok e
  refine wpAny_in_of (kV_is ry) hd dd.mapOf ?_
  rw [<- (rel.val k).isSome_eq,<- l]
  exact h _ (I.tok _)
 ·subst ey
  cases (show u=Value.ref b from ry)
  obtain⟨z,hd,xs,rel,dd⟩:=dt_rd I.hok e
  refine wpAny_in_heap (tupleKind_room_in1 hu) (key_of I.hok eb) hd dd ?_
  have q:=(rel.val k).isSome_eq
  rw [Option.isSome_map]at q
  rw [<- q,<- l]
  exact h _ (I.tok _)
theorem d_write{h':Heap}{t':Nat}{ob:HO}(I:Inv X pins σ H s)(mu:Mut (H a))(hs:Heap.SameBut a s.heap h')(he:∃q,h'.get? a=some q)(new:ObjOk X.prog X.w (upd H a ob) h' a ob) :
  Inv X pins σ (upd H a ob) { s with heap:=h',toks:=t' } :=
 I.write (x:=a) (e:=a) mu (.inl rfl) (fun b q hb z=>(hs.2 b hb).trans z) he new
theorem dk_new{P:Program}{w:World}{H':Hp}{h':Heap}{kvs:List (Key×V)}{vs:List (Key×Value)}(z:kvs.length<=sizeLine)(hd:(a==sysModules)=false)(rel:KV kvs vs)(dd:h'.DictOf (mixKind P w) a vs) :
  ObjOk P w H' h' a (.dK kvs):=⟨z,hd,vs,rel,dd⟩
theorem d_setItem{H':Hp}{Q:Unit->Shared->Prop}(hu:A.units+1 < cLine)(I:Inv X pins σ H s)(g:DPut H a y v H')(ry:RelV y u)(rv:RelV v r)(h:∀s',Inv X pins σ H' s'->Q () s') :
  wpAny (model X.prog X.w) A (setItem (.ref a) u r) Q E s:=by
 rcases g with⟨kvs,k,e,ey,l,eH⟩ | ⟨kvs,k,b,e,ey,eb,l,eH⟩
 ·subst ey eH
  obtain⟨z,hd,vs,rel,dd⟩:=dk_of I.hok e
  have hz:vs.length<=sizeLine:=by rw [<- rel.length];exact z
  have hl:(putK kvs k v).length<=sizeLine:=by have:=length_putK kvs k v;omega
  refine wpAny_setItem_pairs (hsz:=hz) (kV_is ry) dd fun h' dd' hs=>h _ ?_
  have he:∃q,h'.get? a=some q:=let⟨q,_,_,hq,_⟩:=dd';⟨q,hq⟩
  exact d_write I (by rw [e];exact True.intro) hs he (dk_new hl hd (rel.put k rv) dd')
 ·subst ey eH
  cases (show u=Value.ref b from ry)
  obtain⟨z,hd,xs,rel,dd⟩:=dt_of I.hok e
  have hz:xs.length<=sizeLine:=by rw [<- Paired.length rel];exact z
  have hl:(putK kvs k v).length<=sizeLine:=by have:=length_putK kvs k v;omega
  refine wpAny_setItem_heap (hsz:=hz) (tupleKind_room_in1 hu) (key_of I.hok eb) dd fun h' dd' hs=>h _ ?_
  obtain⟨q,es,ep,hq,h2,h3,h4,_,h5⟩:=dd'
  refine d_write I (by rw [e];exact True.intro) hs ⟨q,hq⟩ ⟨hl,hd,_,(rel.put k eb rv).keeps fun c ys ec=>?_,q,es,ep,hq,h2,h3,h4,h5⟩
  rw [upd_ne (ne_of ec e (fun z=>nomatch z))]
  exact ec
end
section
variable {X:Cx}{pins:List (Addr×Obj)}{σ:St}{H:Hp}{s:Shared}{a:Addr}{kvs:List (Key×V)}{k:Key}{u:Value}{A:Around}{E:Value->Shared->Prop}
theorem d_len{Q:Value->Shared->Prop}(I:Inv X pins σ H s)(e:Rd H a (.dK kvs))(h:∀t s',Inv X pins σ H s'->Q (.int kvs.length t) s'):wpAny (model X.prog X.w) A (call (.builtin "len") [.ref a]) Q E s:=by
 obtain⟨z,hd,vs,rel,dd⟩:=dk_rd I.hok e
 refine call_len_dict hd dd (by rw [<- rel.length];rw [sizeLine_eq]at z;omega) ?_
 rw [<- rel.length]
 exact h _ _ (I.tok _)
end
def tDIn(ty td:TE):TE:=fun σ H Q=>ty σ H fun y H1=>td σ H1 fun x H2=>∃a o,x=.ref a/\DGet H2 a y o/\Q (.bl o.isSome) H2
def sDPut(td ty tv:TE):TS:=fun D σ H=>tv σ H fun v H1=>td σ H1 fun x H2=>ty σ H2 fun y H3=>∃a H4,x=.ref a/\DPut H3 a y v H4/\D.nx σ H4
section
variable {X:Cx}{o i e value:Expr}{pos pos' tpos:Pos}{td ty tv:TE}
theorem pc_din(hu:X.A.units+1 < cLine)(hi:PE X i ty)(ho:PE X o td):PC X .In i o (tDIn ty td):=by
 intro pins s σ H Q I h
 refine thn (hi pins s σ H _ I h) fun iv s1 zz259=>ex23 zz259 fun y H1 I1 ry q1=>thn (ho pins s1 σ H1 _ I1 q1) fun u s2 zz516=>?_
 obtain⟨x,H2,I2,rx,a,ov,ex,g,q2⟩:=zz516
 subst ex
 obtain rfl:u=Value.ref a:=rx
 exact d_in hu I2 g ry fun s3 I3=>⟨.bl ov.isSome,H2,I3,rfl,q2⟩
theorem ps_dput(hu:X.A.units+1 < cLine)(ho:PE X o td)(hi:PE X i ty)(hv:PE X value tv)(hs:swapsWith value (some (.Subscript o i pos')) pos.line X.env=pure false) :
  PS X (.Assign [.Subscript o i pos'] value pos) (sDPut td ty tv):=by
 intro pins s σ H D I h
 refine wpAny_Assign_Subscript (thn (hv pins s σ H _ I h) fun r s1 zz261=>ex23 zz261 fun v H1 I1 rv q1=>thn (ho pins s1 σ H1 _ I1 q1) fun u s2 zz262=>ex23 zz262 fun x H2 I2 rx q2=>thn (hi pins s2 σ H2 _ I2 q2) fun iv s3 zz518=>?_) hs
 obtain⟨y,H3,I3,ry,a,H4,ex,g,q3⟩:=zz518
 subst ex
 obtain rfl:u=Value.ref a:=rx
 exact d_setItem hu I3 g ry rv fun s4 I4=>⟨σ,H4,I4,q3⟩
end
theorem dk_empty{P:Program}{w:World}{H:Hp}(h:Heap)(hb:sysModules < h.objs.size):ObjOk P w H (h.push { cls:=.type "dict",data:=.dict #[] }) h.objs.size (.dK []) :=
 ⟨Nat.zero_le _,beq_eq_false_iff_ne.mpr (Ne.symm (Nat.ne_of_lt hb)),[],.nil,Heap.DictOf.new h⟩
def tDNewK:TE:=fun _ H Q=>∀p,H p=none->Q (.ref p) (upd H p (.dK []))
section
variable {X:Cx}{pos:Pos}
theorem pe_dnewK:PE X (.Dict [] [] pos) tDNewK:=fun pins s σ H Q I h =>
 wpAny_Dict_empty ⟨.ref s.heap.objs.size,_,I.laid (a:=s.heap.objs.size) (o:=.dK []) (t':=s.toks) (fun _ _ q=>Heap.get?_push_of_some _ q) (Nat.le_refl _) (dk_empty s.heap I.big),rfl,h _ (I.hok.fresh (Nat.le_refl _))⟩
end
structure M1(X:Cx)(o:Expr)(m:Str)(apos:Pos)(e:Expr)(cpos:Pos):Prop where
 base:attributeBase o m X.env (eval o X.env)=eval o X.env
 few:((backTo cpos (starEach [e] X.env)).all (fun x=>!x.1) && (backToKw cpos (keywordEach [] X.env)).all (fun x=>x.1.isSome)
  && decide (([e]:List Expr).length+([]:List Keyword).length+(if([]:List Keyword).isEmpty then 0 else 1) < 30))=true
 line:(apos.endLine==cpos.line)=true
 trees:backTo cpos (starEach [e] X.env)=[(false,eval e X.env)]
structure M2(X:Cx)(o:Expr)(m:Str)(apos:Pos)(e f:Expr)(cpos:Pos):Prop where
 base:attributeBase o m X.env (eval o X.env)=eval o X.env
 few:((backTo cpos (starEach [e,f] X.env)).all (fun x=>!x.1) && (backToKw cpos (keywordEach [] X.env)).all (fun x=>x.1.isSome)
  && decide (([e,f]:List Expr).length+([]:List Keyword).length+(if([]:List Keyword).isEmpty then 0 else 1) < 30))=true
 line:(apos.endLine==cpos.line)=true
 trees:backTo cpos (starEach [e,f] X.env)=[(false,eval e X.env),(false,eval f X.env)]
section
variable {X:Cx}{pins:List (Addr×Obj)}{σ:St}{H:Hp}{s:Shared}{a:Addr}{y d:V}{u r:Value}{o:Option V}{A:Around}{E:Value->Shared->Prop}
end
section
variable {X:Cx}{o e f:Expr}{apos cpos:Pos}{td ty tx:TE}
end
section
variable {X:Cx}{pins:List (Addr×Obj)}{σ:St}{H:Hp}{s:Shared}{a:Addr}{kvs:List (Key×V)}{A:Around}{E:Value->Shared->Prop}
end
section
variable {X:Cx}{pins:List (Addr×Obj)}{σ:St}{H:Hp}{s:Shared}{a:Addr}{y:V}{u:Value}{A:Around}{E:Value->Shared->Prop}
end
end L2
namespace Att
open PySem PySem.W PySem.Calls PyProof.Rows
theorem ints_of_wellAll{P:Params}{h:Heap}:∀(ns:List Int) (vs:List Value),WellAll P h vs (ns.map WData.int)->IntsAre vs ns:=by
 intro ns
 induction ns with
 | nil =>
  intro vs w
  rw [List.map_nil]at w
  cases w
  exact .nil
 | cons n ns ih =>
  intro vs w
  rw [List.map_cons]at w
  cases w with
  | cons a b =>
   cases a
   exact .cons _ _ (ih _ b)
theorem script_of{l:OpenLaw}{n:Nat}(hn:l.most=some n){P:Params}{h:Heap}{args:List WData}{vals:List Value}
  (hpre:l.row.toRowW.claim.pre args=true) (hwl:WellAll P h vals args) :
  ∃a vs ns,vals=[Value.ref a]/\args=[WData.list (ns.map WData.int)]/\h.get? a=some { cls:=.type "list",data:=.seq vs.toArray }/\IntsAre vs ns/\ns.length<=n:=by
 have hsh:WShape.hasAll [] args [.list .int]=true:=(pre_splitW hpre).1
 have hc:l.pre.holds [] { args:=args }=true:=(pre_splitW hpre).2
 obtain⟨d,r,rfl,h1,h2⟩:=hasAllW_cons hsh
 obtain rfl:=hasAllW_nil h2
 obtain⟨xs,rfl,h3⟩:=hasW_list h1
 obtain⟨ns,rfl⟩:=items_int h3
 have hlen:ns.length<=n:=by
  unfold OpenLaw.pre at hc
  have h4:(WTm.not (.lt (.lit (.int (n:Int))) (.len (.arg 0)))).holds [] { args:=[.list (ns.map .int)] }=true:=by
   have h4:=(holds_andW hc).1
   rw [hn]at h4
   exact h4
  have h5:=condW_of h4 (w_not (w_lt w_lit (w_len_list (w_arg rfl))))
  rw [List.length_map]at h5
  refine Nat.le_of_not_lt fun q=>?_
  have q':(n:Int) < ((ns.length:Nat):Int):=by omega
  first
   | (rw [decide_eq_true q']at h5;exact absurd h5 (by decide))
   | (simp at h5;omega)
 cases hwl with
 | cons w1 w2 =>
  cases w2
  cases w1 with
  | list ho hall=>exact⟨_,_,ns,rfl,rfl,ho,ints_of_wellAll ns _ hall,hlen⟩
theorem post_true(l:OpenLaw)(args:List WData):l.row.toRowW.claim.post args (.bool true) args=true :=
 postW_of (r:=l.row.toRowW) (X:=(true==true))
  (show WShape.has [] (.bool true) .bool=true by first | rfl | decide | simp [WShape.has,WShape.arms,WShape.armsAll])
  (show(WTm.eq .res (.lit (.bool true))).value [] { args:=args,res:=some (.bool true),after:=args }=some (.bool (true==true)) from w_eq_bool (w_res rfl) w_lit) rfl
theorem attach_call{l:OpenLaw}{n:Nat}{q:Program}{loose:List Str}{XP:(Str->Option Value)->Heap->Prop}{YP:World->Heap->Prop}{d:DefRec}
  (hn:l.most=some n) (hdf:d.params.defaults=[])
  (call:∀(w:World) (s₀ s₁:Shared) (mg mb:Str->Option Value) (fa:Addr) (o:Obj) (pm cd doc:Value) (a:Addr) (vs:List Value) (ns:List Int),
   Ground q loose [] XP w s₀ mg mb s₁.heap->YP w s₁.heap ->
   s₁.heap.get? fa=some o->o.data=.func (docDef d.name d.params d.body d.scope pm cd doc)->s₁.heap.CodeRec cd d.name->mg d.name=some (.ref fa) ->
   s₁.heap.get? a=some { cls:=.type "list",data:=.seq vs.toArray }->IntsAre vs ns->ns.length<=n->s₁.gens=#[] ->
   codeAny (model l.prog w) callerA (.call (.ref fa) ⟨[.ref a],[]⟩) (fun r s'=>r=.ok (.ret (.bool true))/\OldK s₁.heap s'.heap/\s'.os=s₁.os/\AllBare s'.gens) s₁) :
  WalkO q loose XP YP l.row.toRowW d [] (fun f vs=>PySem.call f vs):=by
 intro w s₀ s₁ mg mb G Y fa o pm cd doc dV kV ho hd hcd hD hmg hg args vals as hpre hlay hrd hwl hlo
 obtain rfl:dV=.none:=Dflts.none hD hdf
 obtain rfl:kV=.none:=Dflts.noKw hD
 obtain⟨a,vs,ns,rfl,rfl,hobj,hints,hlen⟩:=script_of hn hpre hwl
 refine enter_call (codeAny_mono (call w s₀ s₁ mg mb fa o pm cd doc a vs ns G Y ho (fd_plain hd) hcd hmg hobj hints hlen hg) fun r s' hq=>?_)
 obtain⟨rfl,h2,h3,h4⟩:=hq
 exact⟨.inl ⟨.bool true,.bool true,[],rfl,fun _=>rfl,.bool true,post_true l _,fun _=>⟨List.Pairwise.nil,fun _ hm=>(nomatch hm)⟩⟩,h2,h3,h4⟩
section
variable {prog:Program}{w:World}{A:Around}{E:Value->Shared->Prop}{s:Shared}{K:Frag}
end
end Att
namespace L2
open PySem PySem.Spec PyProof.Rows
theorem vals_ints:∀{vs:List Value} {ns:List Int},IntsAre vs ns->Vals (ns.map V.int) vs
 | _,_,.nil=>.nil
 | _,_,.cons n t h=>.cons ⟨t,rfl⟩ (vals_ints h)
def Only(H:Hp):Prop:=∀b,H b=none\/∃o xs,H b=some (.frz o (.lst xs))
theorem law_call{P:Program}{w:World}{K:PySem.W.Frag}{mg mb:Str->Option Value}{CX:CXT}{k:Nat}{fa a:Addr}{fd:FuncData}{x:Str}{sp:Sp}{s₁:Shared}{vs:List Value}{ns:List Int}
  (KX:K.In s₁.heap) (hns:s₁.heap.Ns mainGlobals mg) (hb:s₁.heap.Ns builtinsNs mb) (hbb:∀x:Str,x ≠ "__name__" -> mb x=bootBuiltins x) (hlim:s₁.heap.NoLimit) (hg:s₁.gens=#[])
  (ha:s₁.heap.get? a=some { cls:=.type "list",data:=.seq vs.toArray }) (hi:IntsAre vs ns) (hl:ns.length<=sizeLine) (hr:Room k callerA)
  (F:∀base:Heap,K.In base->base.Ns mainGlobals mg->FnOk P w K mg base CX k fa fd [x] sp) (hbind:∀(s:Shared) (u:Value),BindsTo s fd ⟨[u],[]⟩ [(x,u)])
  (hsp:∀H:Hp,Only H->SqL K H a (ns.map V.int)->sp [.ref a] H (fun v _=>v=.bl true) fun _ _ _=>False)
  (hCX:∀H e s',CX [] H s₁ (fun _ _ _=>False) e s'->False) :
  codeAny (model P w) callerA (.call (.ref fa) ⟨[.ref a],[]⟩) (fun r s'=>r=.ok (.ret (.bool true))/\OldK s₁.heap s'.heap/\s'.os=s₁.os/\AllBare s'.gens) s₁:=by
 have rv:=vals_ints hi
 have lenV:=hi.length
 have core:∀H:Hp,Only H->SqL K H a (ns.map V.int)->HOk P w H s₁.heap->(∀b,H b≠none->b=a)->(H a≠none->K.lookup a=none) ->
   codeAny (model P w) callerA (.call (.ref fa) ⟨[.ref a],[]⟩) (fun r s'=>r=.ok (.ret (.bool true))/\OldK s₁.heap s'.heap/\s'.os=s₁.os/\AllBare s'.gens) s₁:=by
  intro H hO hS hok hA hK
  have base_of:∀{b:Addr} {o:Obj},s₁.heap.get? b=some o->H b=none->(hidT s₁.heap H).get? b=some o:=fun e n=>hidT_get e n
  have noA:∀{b:Addr} {o:Obj} {es:Array DictEntry} {ep:Nat},s₁.heap.get? b=some o->o.data=.dict es ep->H b=none:=fun {b o es ep} e d=>by
   cases q:H b with
   | none=>rfl
   | some u =>
    have e':b=a:=hA b (by rw [q];simp)
    subst e'
    rw [ha]at e;cases e
    have d':Data.seq vs.toArray _=Data.dict es ep:=d
    cases d'
  have nsK:∀{b:Addr} {m:Str->Option Value},s₁.heap.Ns b m->(hidT s₁.heap H).Ns b m:=fun {b m} ⟨o,es,ep,e,d,r⟩=>⟨o,es,ep,base_of e (noA e d),d,r⟩
  have hKb:K.In (hidT s₁.heap H):=fun b o e=>base_of (KX b o e) (by
   cases q:H b with
   | none=>rfl
   | some u =>
    have e':b=a:=hA b (by rw [q];simp)
    subst e'
    rw [hK (by rw [q];simp)]at e;cases e)
  have hM:Mod K mg (hidT s₁.heap H):=⟨hKb,nsK hns,⟨mb,nsK hb,hbb⟩,let⟨mc,h1,h2⟩:=hlim;⟨mc,nsK h1,h2⟩⟩
  have e0:Env0 P w K mg (hidT s₁.heap H) callerA [] s₁ H:=⟨rfl,hM,fun b o e=>of_hidT e,Nat.le_of_eq (hidT_size _ _),trivial,fun b hb=>absurd (show b∈([]:List Addr) from hb) (by simp),hok,.of_eq hg⟩
  refine codeAny_mono ((F _ hKb (nsK hns)).run callerA [] s₁ H ⟨[.ref a],[]⟩ [.ref a] [.ref a] _ _ hr e0 (hbind s₁ (.ref a)) (.cons rfl .nil) (hsp H hO hS)) fun r s' h=>?_
  cases r with
  | error e=>exact(hCX H e s' h).elim
  | ok fl =>
   cases fl with
   | next=>exact False.elim h
   | brk=>exact False.elim h
   | cont=>exact False.elim h
   | ret u =>
    obtain⟨v,H',os,bare,un,hok',r',q⟩:=h
    have q':v=.bl true:=q
    subst q'
    obtain rfl:u=Value.bool true:=r'
    refine⟨rfl,OldK.of_keep fun b o e=>?_,os,bare⟩
    cases q:H b with
    | none=>exact un.keep b o e q (by intro z;exact absurd (show b∈([]:List Addr) from z) (by simp)) (by simp)
    | some u =>
     rcases hO b with z | ⟨ob,xs,z⟩
     ·rw [q]at z;cases z
     ·have z2:=un.frzs b ob _ z
      obtain⟨e1,_⟩:=hok b _ z
      obtain⟨e2,_⟩:=hok' b _ z2
      rw [e]at e1;cases e1
      exact e2
 cases hk:K.lookup a with
 | some o =>
  have e:=KX a o hk
  rw [ha]at e
  cases e
  refine core (fun _=>none) (fun _=>.inl rfl) (.inr ⟨_,vs.toArray,_,hk,rfl,rfl,rfl,by rw [List.size_toArray,lenV];exact hl,by simpa using rv⟩) (fun b u z=>by have z':(none:Option HO)=some u:=z;cases z') (fun b z=>absurd rfl z) fun z=>absurd rfl z
 | none =>
  refine core (fun b=>if b=a then some (.frz { cls:=.type "list",data:=.seq vs.toArray } (.lst (ns.map V.int))) else none) (fun b=>?_) (.inl (.inr ⟨{ cls:=.type "list",data:=.seq vs.toArray },if_pos rfl⟩)) (fun b u z=>?_) (fun b z=>?_) fun _=>hk
  ·by_cases hb:b=a
   ·exact .inr ⟨_,_,if_pos hb⟩
   ·exact .inl (if_neg hb)
  ·by_cases hb:b=a
   ·have z':=(if_pos hb).symm.trans z
    cases z'
    subst hb
    exact⟨ha,by rw [List.length_map];exact hl,vs,_,rv,ha⟩
   ·have z':=(if_neg hb).symm.trans z
    cases z'
  ·by_cases hb:b=a
   ·exact hb
   ·exact absurd (if_neg hb) z
end L2
namespace L2
open PySem PySem.Spec PyProof.Rows
theorem walk_of{l:PySem.W.OpenLaw}{n k:Nat}{q:Program}{loose:List Str}{XP:(Str->Option Value)->Heap->Prop}{YP:World->Heap->Prop}{d:DefRec}{K:Params->PySem.W.Frag}{CX:World->CXT}{sp:World->Sp}{x:Str}
  (hn:l.most=some n) (hn2:n<=sizeLine) (hdf:d.params.defaults=[]) (hr:Room k callerA)
  (hY:∀(w:World) (h:Heap),YP w h->(K w.params).In h)
  (F:∀(w:World) (mg:Str->Option Value) (fa:Addr) (h:Heap),(K w.params).In h->h.Ns mainGlobals mg->mg d.name=some (.ref fa) ->
   ∃fd:FuncData,(∀(s:Shared) (u:Value),BindsTo s fd ⟨[u],[]⟩ [(x,u)]) /\
    ∀base:Heap,(K w.params).In base->base.Ns mainGlobals mg->FnOk l.prog w (K w.params) mg base (CX w) k fa fd [x] (sp w))
  (hsp:∀(w:World) (H:Hp) (a:Addr) (ns:List Int),ns.length<=n->Only H->SqL (K w.params) H a (ns.map V.int)->sp w [.ref a] H (fun v _=>v=.bl true) fun _ _ _=>False)
  (hCX:∀(w:World) (H:Hp) (s:Shared) (e:Value) (s':Shared),CX w [] H s (fun _ _ _=>False) e s'->False) :
  PySem.W.WalkO q loose XP YP l.row.toRowW d [] (fun f vs=>PySem.call f vs):=by
 refine Att.attach_call hn hdf fun w s₀ s₁ mg mb fa o pm cd doc a vs ns G Y ho hd hcd hmg hobj hints hlen hg=>?_
 have KX:=hY w _ Y
 obtain⟨fd,hb,hF⟩:=F w mg fa _ KX G.T.g hmg
 exact law_call KX G.T.g G.T.b G.T.builtins G.T.nolimit hg hobj hints (Nat.le_trans hlen hn2) hr hF hb (fun H hO hS=>hsp w H a ns hlen hO hS) fun H e s'=>hCX w H s₁ e s'
end L2
namespace L2
open PySem PySem.Spec PyProof.Rows
def defArgs(s:Stmt):Arguments:=match s with
 | .FunctionDef _ a _ _ _ _ _ _ _ _=>a
 | _=>{ posonlyargs:=[],args:=[],vararg:=none,kwonlyargs:=[],kw_defaults:=[],kwarg:=none,defaults:=[] }
def defBody(s:Stmt):List Stmt:=match s with
 | .FunctionDef _ _ b _ _ _ _ _ _ _=>b
 | _=>[]
def defScope(s:Stmt):Scope:=match s with
 | .FunctionDef _ _ _ _ _ _ sc _ _ _=>sc
 | _=>{ kind:=.function,names:=[],isGenerator:=false,isCoroutine:=false }
abbrev CX0:CXT:=fun _ _ _ _ _ _=>False
abbrev E0:XK:=fun _ _ _=>False
theorem pass0{X:Cx}:Passes CX0 X E0:=fun _ _ _ _ _ _ _ h=>h.elim
structure Fun(K:PySem.W.Frag)(x qual:Str)(st:Stmt)(f:Addr)(fd:FuncData):Prop where
 ex:∃(oc:Value) (od:Option Addr) (kV doc pm:Value) (an:Option Addr) (cdv ct:Value) (osl:Array (Option Value)),
  fd=PySem.W.fnOf x qual (defArgs st) (defBody st) (defScope st) .none kV doc pm an cdv ct/\K.lookup f=some ⟨oc,od,.func fd,osl⟩/\PySem.W.codeIn K cdv qual=true
 kp:PySem.W.keepIn K (.ref f)=true
section
variable {P:Program}{w:World}{K:PySem.W.Frag}{mg:Str->Option Value}{base:Heap}
theorem Fun.ok{x qual:Str}{st:Stmt}{f:Addr}{fd:FuncData}{N ps:List Str}{k:Nat}{sp:Sp}(F:Fun K x qual st f fd)(S:FnScope N ps (defScope st))(len:∀vs H Q E,sp vs H Q E->vs.length=ps.length)
  (hbody:∀(cdv:Value) (A:Around) (outer:List Env) (s:Shared) (H:Hp) (vs:List V) (Q:VK) (E:XK),Room k (A.deeper (envOfC qual (defScope st) s.heap.objs.size f cdv))->sp vs H Q E ->
   ∃t,PSs (cxOf CX0 P w K mg base N qual (defScope st) f cdv A outer s H E).nox (defBody st) t/\t { nx:=fun _ H'=>Q .non H',rt:=Q } (start N vs) H):FnOk P w K mg base CX0 (k+1) f fd ps sp:=by
 obtain⟨oc,od,kV,doc,pm,an,cdv,ct,osl,rfl,lk,hcd⟩:=F.ex
 refine fn_of lk hcd S len fun A outer s H vs Q E hr hsp=>?_
 obtain⟨t,h,q⟩:=hbody cdv A outer s H vs Q E hr hsp
 exact⟨t,h.nox,q⟩
theorem Fun.binds{x qual:Str}{st:Stmt}{f:Addr}{fd:FuncData}{ps:List Str}(F:Fun K x qual st f fd)
  (h:∀(kV doc pm:Value) (an:Option Addr) (cdv ct:Value) (us:List Value),us.length=ps.length->bindArgs (PySem.W.fnOf x qual (defArgs st) (defBody st) (defScope st) .none kV doc pm an cdv ct) ⟨us,[]⟩=pure (ps.zip us)):Binds K fd ps []:=by
 obtain⟨oc,od,kV,doc,pm,an,cdv,ct,osl,rfl,lk,hcd⟩:=F.ex
 exact .all (h kV doc pm an cdv ct)
theorem fun_mk{x qual:Str}{st:Stmt}{f:Addr}{oc:Value}{od an:Option Addr}{osl:Array (Option Value)}{kV doc pm cdv ct:Value}(l:K.lookup f=some ⟨oc,od,.func (PySem.W.fnOf x qual (defArgs st) (defBody st) (defScope st) .none kV doc pm an cdv ct),osl⟩)
  (c:PySem.W.codeIn K cdv qual=true) (k:PySem.W.keepIn K (.ref f)=true):Fun K x qual st f (PySem.W.fnOf x qual (defArgs st) (defBody st) (defScope st) .none kV doc pm an cdv ct):=⟨⟨oc,od,kV,doc,pm,an,cdv,ct,osl,rfl,l,c⟩,k⟩
end
theorem hu_of{A:Around}{k:Nat}(hr:Room k A):A.units+1 < cLine:=Nat.lt_of_le_of_lt (Nat.add_le_add_left (by decide:1<=64) _) hr.units
theorem small1000{n:Nat}(h:n<=1000):n < sizeLine:=Nat.lt_of_le_of_lt h (by decide)
section
variable {X:Cx}
theorem call_lenD:CallR X (.builtin "len") (fun xs H Q=>∃a kvs,xs=[V.ref a]/\H a=some (.dK kvs)/\Q (.int kvs.length) H):=by
 intro pins s σ H xs us Q I r h
 obtain⟨a,kvs,rfl,ha,q⟩:=h
 obtain⟨u,rfl,ru⟩:=vals1 r
 cases ru
 exact d_len I (.inl ha) fun t s' I'=>⟨.int kvs.length,H,I',⟨t,rfl⟩,q⟩
end
section
variable {κ:Type} [DecidableEq κ]
end
end L2
set_option maxHeartbeats 4000000
namespace L2
open PySem
def clOf(cells:List (Str×Addr)):List (Str×NameKind)->List (Str×Addr)->List (Str×Addr)
 | [],acc=>acc
 | (n,k) :: r,acc=>if k=NameKind.free then clOf cells r ((n,(cells.lookup n).getD 0) :: acc) else clOf cells r acc
theorem closureFor_of{scope:Scope}{env:Env}(h:∀x∈scope.names,x.2=.free->∃c,env.cells.lookup x.1=some c) :
  closureFor scope env=pure (clOf env.cells scope.names []):=by
 have key:∀(names:List (Str×NameKind)) (acc:List (Str×Addr)),(∀x∈names,x.2=.free->∃c,env.cells.lookup x.1=some c) ->
   (do
     let mut cs:=acc
     for (name,kind) in names do
      if kind==.free then cs:=(name,<- cellOf env name) :: cs
     return cs:Sem (List (Str×Addr)))=pure (clOf env.cells names acc):=by
  intro names
  induction names with
  | nil=>intro acc _;rfl
  | cons x r ih =>
   intro acc h
   obtain⟨n,k⟩:=x
   have hr:∀y∈r,y.2=.free->∃c,env.cells.lookup y.1=some c:=fun y hy=>h y (List.mem_cons_of_mem _ hy)
   by_cases hk:k=.free
   ·subst hk
    obtain⟨c,hc⟩:=h (n,.free) List.mem_cons_self rfl
    have e:cellOf env n=pure c:=by unfold cellOf;rw [hc]
    have q:=ih ((n,c) :: acc) hr
    simp only [List.forIn_cons,beq_self_eq_true,if_true,e]
    unfold clOf
    rw [if_pos rfl,hc]
    exact q
   ·have hb:(k==NameKind.free)=false:=by simpa using hk
    have q:=ih acc hr
    simp only [List.forIn_cons,hb,Bool.false_eq_true,if_false]
    unfold clOf
    rw [if_neg hk]
    exact q
 exact key scope.names [] h
theorem clOf_sub{cells:List (Str×Addr)}:∀{names:List (Str×NameKind)} {acc:List (Str×Addr)},
  (∀x∈names,x.2=.free->∃c,cells.lookup x.1=some c)->(∀x c,acc.lookup x=some c->cells.lookup x=some c) ->
  ∀x c,(clOf cells names acc).lookup x=some c->cells.lookup x=some c
 | [],_,_,h,x,c,e=>h x c e
 | (n,k) :: r,acc,hf,h,x,c,e=>by
  unfold clOf at e
  have hr:∀y∈r,y.2=.free->∃c,cells.lookup y.1=some c:=fun y hy=>hf y (List.mem_cons_of_mem _ hy)
  by_cases hk:k=.free
  ·rw [if_pos hk]at e
   refine clOf_sub hr (fun y d q=>?_) x c e
   obtain⟨c',hc'⟩:=hf (n,k) List.mem_cons_self hk
   have hc':cells.lookup n=some c':=hc'
   rw [List.lookup_cons]at q
   cases hy:y==n with
   | true =>
    rw [hy,hc']at q
    have e1:y=n:=by simpa using hy
    rw [e1,hc']
    exact q
   | false=>rw [hy]at q;exact h y d q
  ·rw [if_neg hk]at e
   exact clOf_sub hr h x c e
theorem clOf_keeps{cells:List (Str×Addr)}{x:Str}:∀{names:List (Str×NameKind)} {acc:List (Str×Addr)},
  (∃c,acc.lookup x=some c)->∃c,(clOf cells names acc).lookup x=some c
 | [],_,h=>h
 | (n,k) :: r,acc,⟨c,h⟩=>by
  unfold clOf
  split
  ·refine clOf_keeps ?_
   rw [List.lookup_cons]
   cases x==n with
   | true=>exact⟨_,rfl⟩
   | false=>exact⟨c,h⟩
  ·exact clOf_keeps ⟨c,h⟩
theorem clOf_has{cells:List (Str×Addr)}{x:Str}:∀{names:List (Str×NameKind)} {acc:List (Str×Addr)},
  (x,NameKind.free)∈names->∃c,(clOf cells names acc).lookup x=some c
 | (n,k) :: r,acc,h=>by
  unfold clOf
  rcases List.mem_cons.mp h with e | e
  ·cases e
   rw [if_pos rfl]
   refine clOf_keeps ?_
   rw [List.lookup_cons,beq_self_eq_true]
   exact⟨_,rfl⟩
  ·split
   ·exact clOf_has e
   ·exact clOf_has e
end L2
namespace PySem
open Sem (wp)
section
variable {prog:Program}{w:World}{A:Around}{E:Value->Shared->Prop}{R:Result->Shared->Prop}{s:Shared}
theorem L2_compLoop{elt target iter:Expr}{ifs:List Expr}{scope:Scope}{pos:Pos}{it acc:Value}{env:Env}(I:Nat->Shared->Prop)
  (turn:∀n s,I n s->wpAny (model prog w) A (pyNext it) (fun r s₁=>match r with
   | none=>R (.ok .next) s₁
   | some v=>wpAny (model prog w) A (letOwnedTupleGo target it v) (fun _ s₁'=>wpAny (model prog w) A (assign target env v) (fun _ s₂ =>
     wpAny (model prog w) A (forIn ifs true fun c r=>if r=true then do let ok <- isTrue c env (eval c env);pure (ForInStep.yield ok) else pure (ForInStep.yield r)) (fun ok s₃ =>
      if ok=true then wpAny (model prog w) A (eval elt env) (fun x s₄ =>
       wpAny (model prog w) A (call (.builtin "list.append") [acc,x]) (fun _ s₅=>∃m,m < n/\I m s₅) (fun _ _=>False) s₄) (fun _ _=>False) s₃
      else ∃m,m < n/\I m s₃) (fun _ _=>False) s₂) (fun _ _=>False) s₁') (fun _ _=>False) s₁) (fun _ _=>False) s)
  (n:Nat) (h:I n s) :
  codeAny (model prog w) A (.compLoop (.ListComp elt [⟨target,iter,ifs,0⟩] scope pos) 0 it acc env) R s:=by
 refine codeAny_loop rfl I (fun n s hI=>?_) n h
 show wpAny _ A ((compTurn (.ListComp elt [⟨target,iter,ifs,0⟩] scope pos) 0 it acc env).onRaise (fun x=>do noteFrame x env;theTreesLotGoes x)) _ _ s
 refine wpAny_noted ?_
 rw [compTurn_list]
 refine wpAny_bind (wpAny_standAt (wpAny_bind (wpAny_mono (turn n s hI) (fun r s₁ h₁=>?_) fun _ _ h'=>h'.elim)))
 cases r with
 | none=>exact wpAny_pure h₁
 | some v =>
  refine wpAny_bind (wpAny_mono h₁ (fun _ s₁' h₁'=>?_) fun _ _ h'=>h'.elim)
  refine wpAny_bind (wpAny_mono h₁' (fun _ s₂ h₂=>wpAny_bind (wpAny_mono h₂ (fun ok s₃ h₃=>?_) fun _ _ h'=>h'.elim)) fun _ _ h'=>h'.elim)
  cases ok with
  | false=>exact wpAny_pure ⟨rfl,h₃⟩
  | true =>
   exact wpAny_bind (wpAny_bind (wpAny_mono h₃ (fun x s₄ h₄=>wpAny_bind (wpAny_mono h₄ (fun _ s₅ h₅=>wpAny_pure (wpAny_pure ⟨rfl,h₅⟩)) fun _ _ h'=>h'.elim)) fun _ _ h'=>h'.elim))
end
end PySem
namespace L2
open PySem PySem.Spec PyProof.Rows
def subS(mp:List (Option Nat))(σ:St):St:=mp.map fun o=>match o with | some i=>(σ[i]?).join | none=>none
def visB(pn:List (Str×NameKind))(x:Str):Bool:=decide (pn.lookup x=some .cell) || decide (pn.lookup x=some .free)
def compOk(N:List Str)(pn cn:List (Str×NameKind))(N':List Str)(mp:List (Option Nat)):Bool :=
 decide (N'.length=mp.length) && decide N'.Nodup &&
 (List.range N'.length).all (fun k=>match mp[k]?,N'[k]? with
  | some (some i),some x=>decide (N[i]?=some x) && visB pn x && decide ((x,NameKind.free)∈cn) && decide (cn.lookup x=some .free)
  | _,_=>true) &&
 cn.all (fun p=>decide (p.2≠.cell)) && cn.all (fun p=>decide (p.2≠.free) || visB pn p.1) && cn.all (fun p=>decide (p.2≠.local) || decide (cn.lookup p.1=some .local))
structure CompOk(N:List Str)(pn cn:List (Str×NameKind))(N':List Str)(mp:List (Option Nat)):Prop where
 len:N'.length=mp.length
 nd:N'.Nodup
 map:∀(k i:Nat) (x:Str),mp[k]?=some (some i)->N'[k]?=some x->N[i]?=some x/\(pn.lookup x=some .cell\/pn.lookup x=some .free)/\(x,NameKind.free)∈cn/\cn.lookup x=some .free
 nocell:∀p∈cn,p.2≠.cell
 free:∀p∈cn,p.2=.free->(pn.lookup p.1=some .cell\/pn.lookup p.1=some .free)
 loc:∀p∈cn,p.2=.local->cn.lookup p.1=some .local
theorem visB_iff{pn:List (Str×NameKind)}{x:Str}(h:visB pn x=true):pn.lookup x=some .cell\/pn.lookup x=some .free:=by
 unfold visB at h
 rcases(Bool.or_eq_true _ _).mp h with h | h
 ·exact .inl (of_decide_eq_true h)
 ·exact .inr (of_decide_eq_true h)
theorem compOk_of{N:List Str}{pn cn:List (Str×NameKind)}{N':List Str}{mp:List (Option Nat)}(h:compOk N pn cn N' mp=true):CompOk N pn cn N' mp:=by
 unfold compOk at h
 obtain⟨h,h6⟩:=(Bool.and_eq_true _ _).mp h
 obtain⟨h,h5⟩:=(Bool.and_eq_true _ _).mp h
 obtain⟨h,h4⟩:=(Bool.and_eq_true _ _).mp h
 obtain⟨h,h3⟩:=(Bool.and_eq_true _ _).mp h
 obtain⟨h1,h2⟩:=(Bool.and_eq_true _ _).mp h
 refine⟨of_decide_eq_true h1,of_decide_eq_true h2,fun k i x e1 e2=>?_,fun p hp=>of_decide_eq_true (List.all_eq_true.mp h4 p hp),fun p hp e=>?_,fun p hp e=>?_⟩
 ·have hk:k < N'.length:=(List.getElem?_eq_some_iff.mp e2).1
  have q:=List.all_eq_true.mp h3 k (List.mem_range.mpr hk)
  simp only [e1,e2]at q
  obtain⟨q,q4⟩:=(Bool.and_eq_true _ _).mp q
  obtain⟨q,q3⟩:=(Bool.and_eq_true _ _).mp q
  obtain⟨q1,q2⟩:=(Bool.and_eq_true _ _).mp q
  exact⟨of_decide_eq_true q1,visB_iff q2,of_decide_eq_true q3,of_decide_eq_true q4⟩
 ·rcases(Bool.or_eq_true _ _).mp (List.all_eq_true.mp h5 p hp) with z | z
  ·exact absurd e (of_decide_eq_true z)
  ·exact visB_iff z
 ·rcases(Bool.or_eq_true _ _).mp (List.all_eq_true.mp h6 p hp) with z | z
  ·exact absurd e (of_decide_eq_true z)
  ·exact of_decide_eq_true z
theorem relabel_free{env:Env}:∀{names:List (Str×NameKind)} {x:Str},names.lookup x=some .free ->
  (names.map fun(n,k)=>if(k==NameKind.free && env.scope.kind==.function && env.kindOf n==some .cell) then(n,NameKind.cell) else(n,k)).lookup x=some .cell \/
  (names.map fun(n,k)=>if(k==NameKind.free && env.scope.kind==.function && env.kindOf n==some .cell) then(n,NameKind.cell) else(n,k)).lookup x=some .free
 | [],_,h=>by simp at h
 | (n,k) :: r,x,h=>by
  have ih:=@relabel_free env r x
  rw [List.map_cons]
  cases hx:x==n with
  | true =>
   simp only [List.lookup_cons,hx]at h
   cases h
   by_cases hc:(NameKind.free==NameKind.free && env.scope.kind==.function && env.kindOf n==some .cell)=true
   ·refine .inl ?_
    simp only [hc,if_true,List.lookup_cons,hx]
   ·refine .inr ?_
    simp only [if_neg hc,List.lookup_cons,hx]
  | false =>
   simp only [List.lookup_cons,hx]at h
   by_cases hc:(k==NameKind.free && env.scope.kind==.function && env.kindOf n==some .cell)=true
   ·simp only [hc,if_true,List.lookup_cons,hx];exact ih h
   ·simp only [if_neg hc,List.lookup_cons,hx];exact ih h
theorem relabel_back{env:Env}:∀{names:List (Str×NameKind)} {x:Str},(∀p∈names,p.2≠.cell) ->
  ((names.map fun(n,k)=>if(k==NameKind.free && env.scope.kind==.function && env.kindOf n==some .cell) then(n,NameKind.cell) else(n,k)).lookup x=some .cell \/
  (names.map fun(n,k)=>if(k==NameKind.free && env.scope.kind==.function && env.kindOf n==some .cell) then(n,NameKind.cell) else(n,k)).lookup x=some .free)->(x,NameKind.free)∈names
 | [],_,_,h=>by simp at h
 | (n,k) :: r,x,hn,h=>by
  have ih:=@relabel_back env r x fun p hp=>hn p (List.mem_cons_of_mem _ hp)
  rw [List.map_cons]at h
  cases hx:x==n with
  | true =>
   have e:x=n:=by simpa using hx
   subst e
   have hk:=hn (x,k) List.mem_cons_self
   by_cases hc:(k==NameKind.free && env.scope.kind==.function && env.kindOf x==some .cell)=true
   ·have:k=.free:=by
     simp only [Bool.and_eq_true]at hc
     simpa using hc.1.1
    rw [this];exact List.mem_cons_self
   ·simp only [if_neg hc,List.lookup_cons,hx]at h
    rcases h with h | h
    ·exact absurd (Option.some.inj h) hk
    ·rw [Option.some.inj h];exact List.mem_cons_self
  | false =>
   by_cases hc:(k==NameKind.free && env.scope.kind==.function && env.kindOf n==some .cell)=true
   ·simp only [hc,if_true,List.lookup_cons,hx]at h;exact List.mem_cons_of_mem _ (ih h)
   ·simp only [if_neg hc,List.lookup_cons,hx]at h;exact List.mem_cons_of_mem _ (ih h)
end L2
namespace PySem
open Sem (wp)
section
variable {prog:Program}{w:World}{A:Around}{E:Value->Shared->Prop}{R:Result->Shared->Prop}{s:Shared}
variable {I:Addr}{fp wr:List Addr}{G:Array GenState->Array GenState->Prop}{n:Nat}{P:Nat->Value->Prop}{St:Nat->Shared->Prop}
end
end PySem
namespace L2
open PySem PySem.Spec PyProof.Rows
def cxComp(X:Cx)(N':List Str)(scope:Scope)(C:Addr)(s:Shared)(H:Hp)(fp:List Addr):Cx :=
 { X with N:=N',s₀:=s,H₀:=H,env:=compEnvC scope (clOf X.env.cells scope.names []) C X.env,outer:=X.stack,stack:=X.stack,ex:=fp,fn:=fun _=>false,pn:=[],xe:=fun _ _=>False }
def PIfs(X:Cx)(ifs:List Expr)(t:TT):Prop :=
 ∀(pins:List (Addr×Obj)) (s:Shared) (σ:St) (H:Hp) (Q:Bool->Hp->Prop),Inv X pins σ H s->t σ H Q ->
  wpAny (model X.prog X.w) X.A (forIn ifs true fun c r=>if r=true then do let ok <- isTrue c X.env (eval c X.env);pure (ForInStep.yield ok) else pure (ForInStep.yield r)) (TP X pins σ Q) X.xe s
def tYes:TT:=fun _ H Q=>Q true H
theorem pifs_nil{X:Cx}:PIfs X [] tYes:=fun _ _ _ H _ I h=>wpAny_tests_nil ⟨H,I,h⟩
theorem pifs_one{X:Cx}{c:Expr}{t:TT}(h:PT X c t):PIfs X [c] t:=fun pins s σ H Q I hw=>wpAny_tests_one (h pins s σ H Q I hw)
def CompW(p:Addr)(J:It)(g:TG)(tst:TT)(te:TE)(Q:Hp->Prop)(σ:St)(H:Hp):Prop :=
 ∃W:Nat->Nat->List V->St->Hp->Prop,(∃m,W 0 m [] σ H)/\∀i m acc σ' H',W i m acc σ' H' ->
  (J.stop i H'/\Q H')\/(J.go i H'/\∃N:List V->St->Hp->Prop,(∀acc σ H,N acc σ H->∃m',m' < m/\W (i+1) m' acc σ H)/\∀x H2,J.yld i H' x H2->g x σ' H2 fun σ3 H3=>tst σ3 H3 fun b H4 =>
   if b=true then te σ3 H4 fun v H5=>∃ac,H5 p=some (.lst ac)/\ac.length < sizeLine/\N (ac++[v]) σ3 (upd H5 p (.lst (ac++[v])))
   else N acc σ3 H4)
def tComp(mp:List (Option Nat))(wi:TI)(g:TG)(tst:TT)(te:TE):TE:=fun σ H Q=>wi σ H fun J H1=>∀p,H1 p=none ->
 CompW p J g tst te (fun H'=>Q (.ref p) H') (subS mp σ) (upd H1 p (.lst []))
section
variable {X:Cx}{N':List Str}{mp:List (Option Nat)}{elt tg iter:Expr}{ifs:List Expr}{scope:Scope}{pos:Pos}{wi:TI}{g:TG}{tst:TT}{te:TE}
theorem Inv.comp0{pins:List (Addr×Obj)}{σ:St}{H:Hp}{s:Shared}{fp:List Addr}{tn:Heap->Prop}{h₁:Heap}{tk:Nat}{C:Addr}(ok:CompOk X.N X.env.scope.names scope.names N' mp)(hk:scope.kind=.function)
  (I:Inv X pins σ H s) (hf:∀b∈fp,FpOk X pins H b) (hob:∀b∈fp,∃o,s.heap.get? b=some o) (hC:C=s.heap.objs.size+1)
  (hns:∃m,h₁.Ns C m) (keep:∀b o,s.heap.get? b=some o->h₁.get? b=some o) (hacc:∃n,h₁.get? s.heap.objs.size=some { cls:=.type "list",data:=.seq #[] n }) :
  Inv (cxComp X N' scope C s H fp) [] (subS mp σ) (upd H s.heap.objs.size (.lst [])) { s with heap:=h₁,toks:=tk }:=by
 subst hC
 have hcl:∀x∈scope.names,x.2=.free->∃c,X.env.cells.lookup x.1=some c:=fun x hx e=>I.ok.has x.1 (ok.free x hx e)
 have sub:∀x c,(clOf X.env.cells scope.names []).lookup x=some c->X.env.cells.lookup x=some c:=clOf_sub hcl (fun x c e=>by simp at e)
 have hlt:∀b∈fp,b < s.heap.objs.size:=fun b hb=>let⟨_,e⟩:=hob b hb;Heap.lt_size e
 have hnC:H (s.heap.objs.size+1)=none:=I.hok.fresh (Nat.le_succ _)
 have hnp:H s.heap.objs.size=none:=I.hok.fresh (Nat.le_refl _)
 have fpfs:∀b∈fp,b∉frs X.stack:=fun b hb z=>by
  obtain⟨_,f1,f2,_⟩:=hf b hb
  rcases List.mem_cons.mp (I.stkSub b z) with e | e
  ·exact f1 e
  ·exact f2 e
 refine⟨⟨I.ok.mod,hk,I.ok.glob,I.ok.blt,Nat.le_succ _,fun x y c e1 e2=>I.ok.inj x y c (sub x c e1) (sub y c e2),fun x e=>?_,fun x c e=>(nomatch e),I.ok.hd,I.ok.frames,.inl rfl,fun b hb=>⟨?_,fun x c e=>?_⟩,I.bs,Nat.le_trans I.ok.bsz I.sz,fun b o e hb=>?_,fpfs,I.stack,I.stkFree⟩,
  rfl,I.bare,Un.laid keep (Nat.le_refl _) hnp,?_,fun x c e=>?_,?_,fun x c e=>?_,fun p hp=>(nomatch hp),I.hok.laid keep (Nat.le_refl _) ?_,?_⟩
 ·exact clOf_has (relabel_back ok.nocell e)
 ·exact Nat.ne_of_lt (Nat.lt_succ_of_lt (hlt b hb))
 ·exact(hf b hb).2.2.2.2.1 x c (sub x c e)
 ·rcases(hf b hb).2.2.2.1 with z | z
  ·exact I.ok.noex b o e z
  ·exact absurd (Nat.lt_of_lt_of_le (Heap.lt_size e) (Nat.le_trans I.ok.bsz z)) (Nat.lt_irrefl _)
 ·obtain⟨m,hm⟩:=hns
  refine⟨m,hm,fun i x v e1 e2 e3=>?_⟩
  have e2':(subS mp σ)[i]?=some (some v):=e2
  unfold subS at e2'
  rw [List.getElem?_map]at e2'
  cases hmp:mp[i]? with
  | none=>rw [hmp]at e2';cases e2'
  | some o =>
   rw [hmp]at e2'
   cases o with
   | none=>cases e2'
   | some j =>
    have e4:σ[j]?=some (some v):=by
     have q:(σ[j]?).join=some v:=Option.some.inj e2'
     cases hj:σ[j]? with
     | none=>rw [hj]at q;cases q
     | some y=>rw [hj]at q;exact congrArg some q
    obtain⟨a1,a2,a3,a4⟩:=ok.map i j x hmp e1
    obtain⟨m0,hn0,hl0⟩:=I.loc
    obtain⟨u,r,l⟩:=hl0 j x v a1 e4 (a2.elim (fun z=>.inr (.inl z)) fun z=>.inr (.inr z))
    refine⟨u,r,.inr ⟨?_,?_⟩⟩
    ·exact relabel_free a4
    ·rcases l with⟨l1,_⟩ | ⟨_,c,l2,l3⟩
     ·have l1:X.env.scope.names.lookup x=some .local:=l1
      rcases a2 with a2 | a2 <;> rw [a2]at l1 <;> cases l1
     ·obtain⟨c',hc'⟩:∃c',(clOf X.env.cells scope.names []).lookup x=some c':=clOf_has a3
      have:c'=c:=Option.some.inj ((sub x c' hc').symm.trans l2)
      subst this
      exact⟨c',hc',l3.keeps keep⟩
 ·obtain⟨v,z⟩:=I.cell x c (sub x c e)
  exact⟨v,z.keeps keep⟩
 ·show upd H s.heap.objs.size (.lst []) (s.heap.objs.size+1)=none
  rw [upd_ne (Nat.succ_ne_self _)];exact hnC
 ·obtain⟨v,z⟩:=I.cell x c (sub x c e)
  show upd H s.heap.objs.size (.lst []) c=none
  rw [upd_ne (Nat.ne_of_lt z.lt)];exact I.freeC x c (sub x c e)
 ·obtain⟨n,e⟩:=hacc
  exact⟨Nat.zero_le _,[],n,.nil,e⟩
 ·show(subS mp σ).length=N'.length
  unfold subS
  rw [List.length_map,ok.len]
theorem comp_run{pins:List (Addr×Obj)}{σ:St}{H:Hp}{s:Shared}{it:Addr}{fp:List Addr}{tn:Nat->Heap->Prop}{J:It}{Q:Addr->Hp->Prop}{E:Value->Shared->Prop}{RR:Value->Addr->Result->Shared->Prop}
  (ok:CompOk X.N X.env.scope.names scope.names N' mp) (hk:scope.kind=.function) (hc:X.calm=true) (I:Inv X pins σ H s) (T:Turn X.prog X.w X.K tg J fp it tn) (st:tn 0 s.heap) (hf:∀b∈fp,FpOk X pins H b)
  (hg:∀C s H fp,PG (cxComp X N' scope C s H fp) tg g) (ht:∀C s H fp,PIfs (cxComp X N' scope C s H fp) ifs tst) (he:∀C s H fp,PE (cxComp X N' scope C s H fp) elt te)
  (h:∀p,H p=none->CompW p J g tst te (Q p) (subS mp σ) (upd H p (.lst [])))
  (hRR:∀C s' H',Inv X pins σ H' s'->(∃m,s'.heap.Ns C m)->H' C=none->X.s₀.heap.objs.size<=C->C≠X.env.locals->(∀x c,X.env.cells.lookup x=some c->c≠C)->(∀q∈X.pn++pins,q.1≠C)->Q s.heap.objs.size H'->RR (.ref s.heap.objs.size) C (.ok .next) s') :
  wpAny (model X.prog X.w) X.A (newList []) (fun acc s₃=>wpAny (model X.prog X.w) X.A (newFunctionEnv scope X.env.globals (clOf X.env.cells scope.names []) [] X.env.qual none .none (some X.env)) (fun cenv s₄ =>
   codeAny (model X.prog X.w) X.A (.compStart (.ListComp elt [⟨tg,iter,ifs,0⟩] scope pos) 0 (.ref it) acc { cenv with scope:=relabel scope X.env }) (RR acc cenv.locals) s₄) E s₃) E s:=by
 refine wpAny_newObj_type (wpAny_newFunctionEnv ok.nocell (by intro y hy;simp at hy) (fun h₁ hns₁ hsb₁=>?_) hk)
 dsimp only at hns₁ hsb₁ ⊢
 generalize hH2:s.heap.push { cls:=.type "list",dict:=none,data:=.seq ([]:List Value).toArray }=H2 at hns₁ hsb₁ ⊢
 have hC:H2.objs.size=s.heap.objs.size+1:=by rw [<- hH2,Heap.size_push]
 have keep:∀b o,s.heap.get? b=some o->h₁.get? b=some o:=fun b o e =>
  hsb₁.extBut b o (by rw [hC];exact Nat.ne_of_lt (Nat.lt_succ_of_lt (Heap.lt_size e))) (Heap.get?_push_of_some _ (hH2 ▸ Heap.get?_push_of_some _ e))
 have hacc:∃n,h₁.get? s.heap.objs.size=some { cls:=.type "list",data:=.seq #[] n } :=
  ⟨_,hsb₁.extBut _ _ (by rw [hC];exact Nat.ne_of_lt (Nat.lt_succ_self _)) (Heap.get?_push_of_some _ (hH2 ▸ Heap.get?_push_size _ rfl))⟩
 have hob:∀b∈fp,∃o,s.heap.get? b=some o:=fun b hb=>let⟨o,e,_⟩:=T.obj _ _ st b hb;⟨o,e⟩
 have hltC:s.heap.objs.size<=H2.objs.size:=by rw [hC];exact Nat.le_succ _
 have I0:=I.comp0 (tn:=tn 0) (C:=H2.objs.size) (tk:=s.toks+([]:List (Str×Value)).length) ok hk hf hob hC ⟨_,hns₁⟩ keep hacc
 have st0:tn 0 h₁:=T.keep _ _ _ st fun b hb o e=>keep b o e
 obtain⟨W,⟨m0,w0⟩,turn⟩:=h _ (I.hok.fresh (Nat.le_refl _))
 have fpfs:∀b∈fp,b∉frs X.stack:=I0.ok.exfs
 have stat:∀{H':Hp},(∀b∈fp,H' b=none)->∀b∈fp,FpOk (cxComp X N' scope H2.objs.size s H fp) [] H' b:=fun hn b hb =>
  ⟨hn b hb,(I0.ok.exf b hb).1,fpfs b hb,.inl hb,(I0.ok.exf b hb).2,fun q hq=>(nomatch hq)⟩
 have loop:∀s₃:Shared,s₃={ s with heap:=h₁,toks:=s.toks+([]:List (Str×Value)).length } ->
   codeAny (model X.prog X.w) X.A (.compLoop (.ListComp elt [⟨tg,iter,ifs,0⟩] scope pos) 0 (.ref it) (.ref s.heap.objs.size) (compEnvC scope (clOf X.env.cells scope.names []) H2.objs.size X.env)) (RR (.ref s.heap.objs.size) H2.objs.size) s₃:=by
  rintro s₃ rfl
  refine L2_compLoop (fun n s'=>∃i acc σ' H',Inv (cxComp X N' scope H2.objs.size s H fp) [] σ' H' s'/\tn i s'.heap/\(∀b∈fp,H' b=none)/\W i n acc σ' H') ?_ m0
   ⟨0,[],_,_,I0,st0,fun b hb=>by rw [upd_ne (Nat.ne_of_lt (let⟨_,e⟩:=hob b hb;Heap.lt_size e))];exact(hf b hb).1,w0⟩
  rintro n s3 ⟨i,acc,σ3,H3,I3,st3,fr3,w3⟩
  rcases turn i n acc σ3 H3 w3 with⟨stop,qn⟩ | ⟨go,N,hN,step⟩
  ·refine thn (T.done (cxComp X N' scope H2.objs.size s H fp) rfl rfl rfl hc i [] s3 σ3 H3 _ I3 (stat fr3) st3 stop) fun r s4 ⟨hr,I4⟩=>?_
   subst hr
   refine hRR _ s4 H3 ?_ (let⟨m,hm,_⟩:=I4.loc;⟨m,hm⟩) I4.free (Nat.le_trans I.sz hltC) (Nat.ne_of_gt (Nat.lt_of_lt_of_le I.lt hltC)) (fun x c e=>?_) (fun q hq=>?_) qn
   ·exact I.call' I4.os I4.base I4.hok I4.bare fun b hb=>let⟨_,f1,_,f3,f4,f5⟩:=hf b hb;⟨f3,f1,f4,f5⟩
   ·obtain⟨v,z⟩:=I.cell x c e
    exact Nat.ne_of_lt (Nat.lt_of_lt_of_le z.lt hltC)
   ·exact Nat.ne_of_lt (Nat.lt_of_lt_of_le (Heap.lt_size (I.pin q hq).1) hltC)
  ·refine thn (T.item (cxComp X N' scope H2.objs.size s H fp) rfl rfl rfl hc i [] s3 σ3 H3 _ I3 (stat fr3) st3 go) fun r s4 ⟨u,hr,h4⟩=>?_
   subst hr
   refine thn h4 fun _ s5 zz529=>?_
   obtain⟨x,H5,I5,r5,y5,st5,fr5⟩:=zz529
   have I5':=I5.pinned (stat fr5) (T.obj _ _ st5)
   refine thn (hg _ _ _ _ _ s5 σ3 H5 x u _ I5' r5 (step x H5 y5)) fun _ s6 zz530=>?_
   obtain⟨σ6,H6,I6,q6⟩:=zz530
   refine thn (ht _ _ _ _ _ s6 σ6 H6 _ I6 q6) fun b s7 ⟨H7,I7,q7⟩=>?_
   have again:∀{σ8:St} {H8:Hp} {acc8:List V} {s8:Shared},Inv (cxComp X N' scope H2.objs.size s H fp) ([]++pinsAt fp s5.heap) σ8 H8 s8->(∃m',m' < n/\W (i+1) m' acc8 σ8 H8) ->
     ∃m,m < n/\∃i acc σ' H',Inv (cxComp X N' scope H2.objs.size s H fp) [] σ' H' s8/\tn i s8.heap/\(∀b∈fp,H' b=none)/\W i m acc σ' H':=fun {σ8 H8 acc8 s8} I8 hw=>by
    obtain⟨m',hm,w8⟩:=hw
    refine⟨m',hm,i+1,acc8,σ8,H8,I8.unpinned,T.keep _ _ _ st5 fun b hb o e=>(I8.pin (b,o) (List.mem_append_right _ (List.mem_append_right _ (mem_pinsAt hb e)))).1,fun b hb=>?_,w8⟩
    obtain⟨o,e,d⟩:=T.obj _ _ st5 b hb
    exact(I8.pin (b,o) (List.mem_append_right _ (List.mem_append_right _ (mem_pinsAt hb e)))).2.1
   cases b with
   | false =>
    rw [if_neg Bool.false_ne_true]
    rw [if_neg Bool.false_ne_true]at q7
    exact again I7 (hN _ _ _ q7)
   | true =>
    rw [if_pos rfl]
    rw [if_pos rfl]at q7
    refine thn (he _ _ _ _ _ s7 σ6 H7 _ I7 q7) fun y s8 zz531=>?_
    obtain⟨v,H8,I8,r8,ac,e8,z8,w8⟩:=zz531
    refine thn (mt_append (X:=cxComp X N' scope H2.objs.size s H fp) _ s8 σ6 H8 (.ref s.heap.objs.size) [v] (.ref s.heap.objs.size) [y] (fun _ H9=>H9=upd H8 s.heap.objs.size (.lst (ac++[v]))) I8 rfl (.cons r8 .nil) ⟨_,ac,v,rfl,rfl,e8,z8,rfl⟩) fun _ s9 zz532=>?_
    obtain⟨_,H9,I9,_,e9⟩:=zz532
    subst e9
    exact again I9 (hN _ _ _ w8)
 exact codeAny_compStart_list (loop _ rfl) (T.self _ 0 _ _ _ st0 (loop _ rfl))
theorem Inv.letgo{pins:List (Addr×Obj)}{σ:St}{H:Hp}{s:Shared}{C:Addr}{h':Heap}(I:Inv X pins σ H s)(hn:H C=none)(h1:X.s₀.heap.objs.size<=C)(hL:C≠X.env.locals)(h2:∀x c,X.env.cells.lookup x=some c->c≠C)
  (h3:∀q∈X.pn++pins,q.1≠C) (hs:Heap.SameBut C s.heap h'):Inv X pins σ H { s with heap:=h' } :=
 I.turned (t':=s.toks) (fun b o hb e=>(hs.2 b hb).trans e) hn hL (.inr h1) h2 h3
theorem pe_comp(hc:X.calm=true)(hi:PI X tg iter wi)(hg:∀C s H fp,PG (cxComp X N' scope C s H fp) tg g)(ht:∀C s H fp,PIfs (cxComp X N' scope C s H fp) ifs tst)(he:∀C s H fp,PE (cxComp X N' scope C s H fp) elt te)
  (ok:CompOk X.N X.env.scope.names scope.names N' mp) (hk:scope.kind=.function:=by rfl) (hs:∀x,foldedSetIterable iter X.env x=pure x:=by intro _;rfl) :
  PE X (.ListComp elt [⟨tg,iter,ifs,0⟩] scope pos) (tComp mp wi g tst te):=by
 intro pins s σ H Q I h
 rw [eval_ListComp]
 refine wpAny_comprehension_free (use:=none) rfl hs (closureFor_of fun x hx e=>I.ok.has x.1 (ok.free x hx e)) hk ok.loc (thn (hi pins s σ H _ I h) fun v s1 h1=>thn h1 fun itv s2 h2=>?_)
 obtain⟨it,fp,tn,J,H2,e,I2,T,st2,f2,hw⟩:=h2
 subst e
 refine comp_run (Q:=fun p H'=>Q (.ref p) H') (RR:=fun acc C=>compPost (model X.prog X.w) X.A X.xe none (EP X pins σ Q) acc C) ok hk hc I2 T st2 f2 hg ht he hw ?_
 intro C s' H' I' hns hn h1 hL hcl hpin q
 obtain⟨m,hm⟩:=hns
 exact⟨m,hm,fun h' hs'=>⟨.ref s2.heap.objs.size,H',I'.letgo hn h1 hL hcl hpin hs',rfl,q⟩⟩
theorem ps_setC{i:Nat}{y:Str}{py spos:Pos}(hc:X.calm=true)(hN:X.N.Nodup)(hi':X.N[i]?=some y)(hy:X.env.scope.names.lookup y=some .local)
  (hi:PI X tg iter wi) (hg:∀C s H fp,PG (cxComp X N' scope C s H fp) tg g) (ht:∀C s H fp,PIfs (cxComp X N' scope C s H fp) ifs tst) (he:∀C s H fp,PE (cxComp X N' scope C s H fp) elt te)
  (ok:CompOk X.N X.env.scope.names scope.names N' mp) (hsw:swapsWith (.ListComp elt [⟨tg,iter,ifs,0⟩] scope pos) (some (.Name y py)) spos.line X.env=pure true:=by rfl)
  (hk:scope.kind=.function:=by rfl) (hs:∀x,foldedSetIterable iter X.env x=pure x:=by intro _;rfl) :
  PS X (.Assign [.Name y py] (.ListComp elt [⟨tg,iter,ifs,0⟩] scope pos) spos) (tAsg (tComp mp wi g tst te) (gName i)):=by
 intro pins s σ H D I h
 rw [exec_Assign_Name_used _ _ _ _ hsw]
 refine wpAny_bind (wpAny_standAt (wpAny_bind ?_))
 show wpAny _ _ (do let _ <- comprehension (.ListComp elt [⟨tg,iter,ifs,0⟩] scope pos) scope X.env _ (newList []) false (eval iter X.env) (some (assign (.Name y py) X.env))) _ _ s
 refine wpAny_bind (wpAny_mono (wpAny_comprehension_free (use:=some (assign (.Name y py) X.env)) (Q:=fun _ s'=>SP X pins D .next s') rfl hs (closureFor_of fun x hx e=>I.ok.has x.1 (ok.free x hx e)) hk ok.loc
  (thn (hi pins s σ H _ I h) fun v s1 h1=>thn h1 fun itv s2 h2=>?_)) (fun _ s' hq=>wpAny_pure (wpAny_pure hq)) fun _ _ e=>e)
 obtain⟨it,fp,tn,J,H2,e,I2,T,st2,f2,hw⟩:=h2
 subst e
 refine comp_run (Q:=fun p H'=>D.nx (σ.set i (some (.ref p))) H') (RR:=fun acc C=>compPost (model X.prog X.w) X.A X.xe (some (assign (.Name y py) X.env)) (fun _ s'=>SP X pins D .next s') acc C) ok hk hc I2 T st2 f2 hg ht he hw ?_
 intro C s' H' I' hns hn h1 hL hcl hpin q
 obtain⟨m,hm⟩:=hns
 show wpAny _ _ (assign (.Name y py) X.env (.ref s2.heap.objs.size)) _ _ s'
 refine wpAny_assign_Name (store_ok2 I' hN hi' (.inl hy) (v:=.ref s2.heap.objs.size) rfl (fun s'' I'' hch=>?_) (.inr hy))
 obtain⟨a,hsb,ha⟩:=hch
 have hCa:C≠a:=by
  rcases ha with rfl | ha
  ·exact hL
  ·exact(hcl _ _ ha).symm
 refine⟨m,hm.sameBut hsb hCa,fun h' hs'=>?_⟩
 exact⟨_,H',I''.letgo hn h1 hL hcl hpin hs',q⟩
end
section
variable {K:PySem.W.Frag}{a p:Addr}{xs:List V}{g:TG}{tst:TT}{te:TE}{Q:Hp->Prop}{σ:St}{H:Hp}
theorem comp_of{J:It}(n:Nat)(Pv:Nat->List V->St->Hp->Prop)(h0:Pv 0 [] σ H)
  (hgo:∀i acc σ H,i < n->Pv i acc σ H->J.go i H) (hstop:∀acc σ H,Pv n acc σ H->J.stop n H/\Q H)
  (hs:∀i x acc σ H H2,i < n->Pv i acc σ H->J.yld i H x H2->g x σ H2 fun σ3 H3=>tst σ3 H3 fun b H4 =>
   if b=true then te σ3 H4 fun v H5=>∃ac,H5 p=some (.lst ac)/\ac.length < sizeLine/\Pv (i+1) (ac++[v]) σ3 (upd H5 p (.lst (ac++[v]))) else Pv (i+1) acc σ3 H4) :
  CompW p J g tst te Q σ H:=by
 refine⟨fun i m acc σ H=>m=n - i/\i<=n/\Pv i acc σ H,⟨n,by simp,Nat.zero_le _,h0⟩,?_⟩
 rintro i m acc σ H ⟨rfl,hi,pv⟩
 by_cases hlt:i < n
 ·exact .inr ⟨hgo i acc σ H hlt pv,Pv (i+1),fun acc σ H q=>⟨n - (i+1),by omega,rfl,hlt,q⟩,fun x H2 y=>hs i x acc σ H H2 hlt pv y⟩
 ·have e:i=n:=by omega
  subst e
  exact .inl (hstop acc σ H pv)
end
end L2
namespace L2
open PySem PySem.Spec PyProof.Rows
section
variable {X:Cx}
def rSlS:V->Option Int->Option Int->Hp->VK->Prop:=fun x lo hi H Q=>∃z,x=.str z/\z.length<=sizeLine/\Q (.str (Txt.slice z lo hi)) H
theorem sl_str:SlR X rSlS:=by
 intro pins s σ H x v vl vu lo hi sl Q I rx hs pl pu h
 obtain⟨z,rfl,hz,q⟩:=h
 obtain⟨t,rfl⟩:=rx
 refine⟨"str",_,F.slot_str_getitem.lookup,typeIs_str _ _ _,?_⟩
 have fin:∀t' k,EP X pins σ Q (.str (Txt.slice z lo hi) t') { s with toks:=k }:=fun t' k=>⟨.str _,H,I.tok _,⟨_,rfl⟩,q⟩
 cases pl with
 | none =>
  cases pu with
  | none=>exact wpAny_getItem_str_slice (l:=none) (u:=none) (st:=none) hs rfl (post_val_or_str ⟨Nat.le_trans (Txt.slice_le z _ _) hz,fin⟩)
  | int j tj=>exact wpAny_getItem_str_slice (l:=none) (u:=some (j,tj)) (st:=none) hs rfl (post_val_or_str ⟨Nat.le_trans (Txt.slice_le z _ _) hz,fin⟩)
 | int i ti =>
  cases pu with
  | none=>exact wpAny_getItem_str_slice (l:=some (i,ti)) (u:=none) (st:=none) hs rfl (post_val_or_str ⟨Nat.le_trans (Txt.slice_le z _ _) hz,fin⟩)
  | int j tj=>exact wpAny_getItem_str_slice (l:=some (i,ti)) (u:=some (j,tj)) (st:=none) hs rfl (post_val_or_str ⟨Nat.le_trans (Txt.slice_le z _ _) hz,fin⟩)
theorem call_all(hc:X.calm=true):CallR X (.builtin "all") (fun xs H Q=>∃(p:Addr) (bs:List Bool),xs=[.ref p]/\SqL X.K H p (bs.map V.bl)/\Q (.bl (bs.all id)) H):=by
 intro pins s σ H xs us Q I r h
 obtain⟨p,bs,rfl,hq,q⟩:=h
 obtain⟨u,rfl,rx⟩:=vals1 r
 cases rx
 obtain⟨its,r',pl,hz⟩:=I.list hq
 have hlen:=r'.length
 rw [List.length_map]at hlen
 refine call_all_walk (wpAny_pyIter_list pl.isList ?_)
 have hne:p≠s.heap.objs.size:=Nat.ne_of_lt (let⟨_,ho,_⟩:=pl.isList;Heap.lt_size ho)
 refine⟨s.heap.objs.size,_,_,_,_,_,fun i=>bs.getD i true,rfl,Walks.list (show X.A.in1.handled=none from I.ok.hd hc) s.heap.objs.size p hne its.toArray,?_,?_,fun h' tk k=>?_⟩
 ·exact⟨⟨_,Heap.get?_push_size _ rfl,rfl,rfl⟩,pl.isList.at fun o e=>Heap.get?_push_of_some _ e⟩
 ·intro i v s' Q' E' hP hQ'
  have hv:its[i]?=some v:=by simpa using hP
  have hi:i < bs.length:=by rw [hlen];exact(List.getElem?_eq_some_iff.mp hv).1
  obtain⟨u,hu,ru⟩:=r'.get (i:=i) (x:=V.bl bs[i]) (by simp [hi])
  rw [hv]at hu
  cases hu
  cases (show v=Value.bool bs[i] from ru)
  refine wpAny_truthy_bool ?_
  have e:bs.getD i true=bs[i]:=by simp [hi]
  have hQ2:Q' (bs.getD i true) s':=hQ'
  rw [e]at hQ2
  exact hQ2
 ·have e:(List.range its.toArray.size).all (fun i=>bs.getD i true)=bs.all id:=by
   rw [List.size_toArray,<- hlen]
   rw [Bool.eq_iff_iff,List.all_eq_true,List.all_eq_true]
   constructor
   ·intro a x hx
    obtain⟨i,hi,rfl⟩:=List.mem_iff_getElem.mp hx
    have:=a i (List.mem_range.mpr hi)
    simpa [hi] using this
   ·intro a i hi
    have hi:=List.mem_range.mp hi
    have:=a bs[i] (List.getElem_mem hi)
    simpa [hi] using this
  rw [e]
  exact⟨.bl _,H,I.kept fun b o e=>k b o (by
   intro hb
   have:b=s.heap.objs.size:=by simpa using hb
   exact absurd (Heap.lt_size e) (by rw [this];exact Nat.lt_irrefl _)) (Heap.get?_push_of_some _ e),rfl,q⟩
end
end L2
namespace L2
open PySem PySem.Spec PyProof.Rows
section
variable {H H':Hp}{d l p:Addr}{s n:Int}{ns:List Int}{o:HO}
end
theorem seven{n:Nat}(h:n<=1000):n<=sizeLine:=Nat.le_of_lt (small1000 h)
end L2
namespace PySem
open Sem (wp)
open AutoSeq1 (wpAny_loadPart')
set_option maxRecDepth 100000
section
variable {prog:Program}{w:World}{A:Around}{E:Value->Shared->Prop}{s:Shared}
theorem L2_nextOf_tuple_item{it t:Addr}{i:Nat}{items}{x:Value}{Q:Value->Shared->Prop}(hit:s.heap.IsTupleIter it t i)
  (ht:s.heap.IsTuple t items) (hx:items[i]?=some x)
  (hQ:∀h',h'.IsTupleIter it t (i+1)->Heap.SameBut it s.heap h'->Q x { s with heap:=h' }) :
  wpAny (model prog w) A (Builtin.SmallTypes.nextOf (.ref it)) Q E s:=by
 obtain⟨o,ho,hc,hd⟩:=id hit
 obtain⟨ol,hol,_,nl,hdl⟩:=ht
 unfold Builtin.SmallTypes.nextOf
 refine wpAny_bind (wpAny_callSpecial?_slot (name:=Str.ofString "__next__") hit.typeIs F.slot_tuple_iterator_next
  (wpAny_call_entry F.slot_tuple_iterator_next hit.typeIs F.entry_tuple_iterator_next ?_ (F.args_tuple_iterator_next_1 _)))
 show wpAny _ _ (field (.ref it) 0 >>= _) _ _ s
 refine wpAny_bind (wpAny_field ho hd (x:=.ref t) rfl ?_)
 show wpAny _ _ (if(Value.ref t==Value.none)=true then _ else _) _ _ s
 rw [if_neg (show ¬((Value.ref t==Value.none)=true) from Bool.false_ne_true)]
 show wpAny _ _ (field (.ref it) 1 >>= _) _ _ s
 refine wpAny_bind (wpAny_field ho hd (x:=.int i 0) rfl ?_)
 show wpAny _ _ (seqItems? (.ref t) >>= _) _ _ s
 refine wpAny_bind (wpAny_seqItems hol hdl ?_)
 simp only [Int.toNat_natCast,hx]
 refine wpAny_bind (wpAny_setField ho hd (by simp) (wpAny_pure ⟨x,rfl,wpAny_pure (hQ _ ?_ (Heap.SameBut.update ..))⟩))
 exact⟨_,Heap.get?_update_self _ ho (Obj.isFreed_of_fields (Obj.data_mapFields hd _)),(Obj.cls_mapFields ..).trans hc,by
  rw [Obj.data_mapFields hd];simp [rawInt]⟩
theorem L2_nextOf_tuple_end{it t:Addr}{i:Nat}{items}{Q:Value->Shared->Prop}(hh:A.handled=none)
  (hit:s.heap.IsTupleIter it t i) (ht:s.heap.IsTuple t items) (hx:items[i]?=none)
  (hE:∀h' e,Heap.ExtBut it s.heap h'->(∃o,h'.get? e=some o/\o.cls=.type "StopIteration")->E (.ref e) { s with heap:=h' }) :
  wpAny (model prog w) A (Builtin.SmallTypes.nextOf (.ref it)) Q E s:=by
 obtain⟨o,ho,hc,hd⟩:=id hit
 obtain⟨ol,hol,_,nl,hdl⟩:=ht
 unfold Builtin.SmallTypes.nextOf
 refine wpAny_bind (wpAny_callSpecial?_slot (name:=Str.ofString "__next__") hit.typeIs F.slot_tuple_iterator_next
  (wpAny_call_entry F.slot_tuple_iterator_next hit.typeIs F.entry_tuple_iterator_next ?_ (F.args_tuple_iterator_next_1 _)))
 show wpAny _ _ (field (.ref it) 0 >>= _) _ _ s
 refine wpAny_bind (wpAny_field ho hd (x:=.ref t) rfl ?_)
 show wpAny _ _ (if(Value.ref t==Value.none)=true then _ else _) _ _ s
 rw [if_neg (show ¬((Value.ref t==Value.none)=true) from Bool.false_ne_true)]
 show wpAny _ _ (field (.ref it) 1 >>= _) _ _ s
 refine wpAny_bind (wpAny_field ho hd (x:=.int i 0) rfl ?_)
 show wpAny _ _ (seqItems? (.ref t) >>= _) _ _ s
 refine wpAny_bind (wpAny_seqItems hol hdl ?_)
 simp only [Int.toNat_natCast,hx]
 refine wpAny_bind (wpAny_rule (wpAny_bind (wpAny_setField ho hd (by simp) ?_)))
 show wpAny _ _ (newExc (.type "StopIteration") [] >>= _) _ _ _
 refine wpAny_bind ?_
 simp only [newExc,newTuple]
 refine wpAny_bind (wpAny_newObj_type ?_ (by size_fits))
 refine wpAny_bind (m:=firstArgMember _ _) (wpAny_of_eq (a:=Value.none) (by first | rfl | (simp only [firstArgMember];rfl)) ?_)
 refine wpAny_newObj_type ?_ (by size_fits)
 simp only [raiseNew]
 refine wpAny_bind (wpAny_handled ?_)
 first | rw [show A.in1.handled=none from hh] | rw [hh]
 refine wpAny_bind (wpAny_pure (wpAny_throw ?_))
 exact hE _ _ (((Heap.SameBut.update ..).extBut.push _).push _) ⟨_,Heap.get?_push_size _ rfl,rfl⟩
end
theorem L2_draws_tuple{prog:Program}{w:World}{A:Around}(hh:A.handled=none)(it l:Addr)(hne:l≠it)(items:Array Value) :
  Draws prog w A it [it,l] items.size (fun i v=>items[i]?=some v) (fun i h=>h.IsTupleIter it l i/\h.IsTuple l items) where
 live:=fun _ _ st=>let⟨o,ho,_⟩:=st.1;⟨o,ho⟩
 frame:=fun _ _ _ st hk=>⟨st.1.at fun o e=>hk it (by simp) o e,st.2.at fun o e=>hk l (by simp) o e⟩
 item:=fun i s Q E hi st hQ=>by
  refine L2_nextOf_tuple_item st.1 st.2 (x:=items[i]) (by simp [hi]) fun h' hit' hs'=>?_
  exact hQ _ h' s.toks (by simp [hi]) ⟨hit',st.2.extBut hs'.extBut hne⟩ hs'
 done:=fun s Q E st hE=>L2_nextOf_tuple_end hh st.1 st.2 (by simp) hE
theorem L2_meets_enum_tuple(l:Addr)(items:Array Value)(n:Nat)(dct:Option Addr)(sl:Array (Option Value)) :
  Meets (Builtin.«enumerate.__new__» ⟨[.type "enumerate",.ref l],[]⟩) (fun _ R s=>s.heap.get? l=some { cls:=.type "tuple",dict:=dct,data:=.seq items n,slots:=sl } /\
   R (.ok (.ret (.ref (s.heap.push { cls:=.type "tuple_iterator",data:=.fields #[.ref l,.int 0 0] }).objs.size)))
    { s with heap:=(s.heap.push { cls:=.type "tuple_iterator",data:=.fields #[.ref l,.int 0 0] }).push { cls:=.type "enumerate",data:=.fields #[.none,.bool false,.ref s.heap.objs.size,rawInt 0,.none,.none] } }) :=
 .of_wp fun prog w A R s h=>by
  obtain⟨hp,g,d,tk,os⟩:=s;obtain⟨hl,h⟩:=h
  have hsub:=sub_enumerate
  have hL:Heap.IsTuple (Shared.heap ⟨hp,g,d,tk,os⟩) l items:=⟨_,hl,rfl,n,rfl⟩
  wp_walk using wpAny_loadPart' hl
  refine wpAny_stack_any fun st=>wpAny_pure ?_
  split
  ·rename_i c _ _ _ _ _
   cases (c==Value.type "enumerate")
   ·wp_walk using wpAny_loadPart' hl,wpAny_pyIter_tuple hL
    exact⟨_,rfl,h⟩
   ·wp_walk using wpAny_loadPart' hl,wpAny_pyIter_tuple hL
    exact⟨_,rfl,h⟩
  ·wp_walk using wpAny_loadPart' hl,wpAny_pyIter_tuple hL
   exact⟨_,rfl,h⟩
section
variable {prog:Program}{w:World}{A:Around}{E:Value->Shared->Prop}{s:Shared}
theorem L2_call_enum_tuple{l:Addr}{items:Array Value}{Q:Value->Shared->Prop}(hL:s.heap.IsTuple l items)
  (h:∀h',IsEnum h' (s.heap.objs.size+1) s.heap.objs.size 0 .none->h'.IsTupleIter s.heap.objs.size l 0->h'.objs.size=s.heap.objs.size+2 ->
   (∀b o,s.heap.get? b=some o->h'.get? b=some o)->Q (.ref (s.heap.objs.size+1)) { s with heap:=h' }) :
  wpAny (model prog w) A (call (.type "enumerate") [.ref l]) Q E s:=by
 obtain⟨⟨c,dct,dt,sl⟩,hl,hc,n,hd⟩:=hL
 replace hc:c=.type "tuple" := hc
 replace hd:dt=.seq items n:=hd
 subst hc hd
 refine callType_new F.called_enumerate (by decide) (F.typeCall_enumerate_1 _) (F.newCall_enumerate_1 _) (fun obj=>F.args_object_init_2 obj _) F.entry_enumerate_new
  (L2_meets_enum_tuple l items n dct sl) ⟨hl,?_⟩
 have hz:(s.heap.push { cls:=.type "tuple_iterator",data:=.fields #[.ref l,.int 0 0] }).objs.size=s.heap.objs.size+1:=Heap.size_push ..
 show _/\_
 rw [hz]
 have he:IsEnum ((s.heap.push { cls:=.type "tuple_iterator",data:=.fields #[.ref l,.int 0 0] }).push
   { cls:=.type "enumerate",data:=.fields #[.none,.bool false,.ref s.heap.objs.size,rawInt 0,.none,.none] }) (s.heap.objs.size+1) s.heap.objs.size 0 .none:=by
  have:=Heap.get?_push_size (s.heap.push { cls:=.type "tuple_iterator",data:=.fields #[.ref l,.int 0 0] })
   (o:={ cls:=.type "enumerate",data:=.fields #[.none,.bool false,.ref s.heap.objs.size,rawInt 0,.none,.none] }) rfl
  rw [hz]at this;exact this
 refine⟨⟨_,he,rfl⟩,h _ he ⟨_,Heap.get?_push_of_some _ (Heap.get?_push_size _ rfl),rfl,rfl⟩ (by rw [Heap.size_push,hz]) fun b o x=>Heap.get?_push_of_some _ (Heap.get?_push_of_some _ x)⟩
end
end PySem
namespace L2
open PySem PySem.Spec PyProof.Rows
def cutD(ds:List PyData)(lo hi:Option Int):List PyData:=(ds.drop (HT.sIx ds.length 0 lo)).take (HT.sIx ds.length ds.length hi - HT.sIx ds.length 0 lo)
section
variable {X:Cx}{k:Nat}
noncomputable def eqR(h:Heap)(e:PyData)(u:Value):Bool:=@decide (∃d as,Reads h u d as/\d.canLay0=true/\PyData.eqv d e=true) (Classical.propDecidable _)
theorem eqR_of{h:Heap}{e d:PyData}{u:Value}{as:List Addr}(r:Reads h u d as)(c:d.canLay0=true):eqR h e u=PyData.eqv d e:=by
 unfold eqR
 cases q:PyData.eqv d e with
 | true=>exact @decide_eq_true _ (Classical.propDecidable _) ⟨d,as,r,c,q⟩
 | false =>
  refine @decide_eq_false _ (Classical.propDecidable _) fun zz536=>?_
  obtain⟨d',as',r',_,q'⟩:=zz536
  rw [SeqAt.Reads.unique d d' u as as' c r r',q']at q
  cases q
theorem items_eqR{A:Around}{s:Shared}{e:PyData}{v:Value}{bs:List Addr}(rv:Reads s.heap v e bs)(ce:e.canLay0=true)(hu:A.units+64 < cLine):∀{ds:List PyData} {us:List Value} {as:List Addr},ReadsAll s.heap us ds as ->
  PyData.canLayAll0 ds=true->PyData.depthAll ds<=64->(∀u∈us,SeqAt.EqAt A s u v (eqR s.heap e u))/\us.any (eqR s.heap e)=ds.any fun d=>PyData.eqv d e
 | [],_,_,r,_,_=>by
  cases r
  exact⟨(fun _ z=>nomatch z),rfl⟩
 | d :: ds,_,_,r,c,dp=>by
  cases r with
  | cons r1 r2 =>
   simp only [PyData.canLayAll0,Bool.and_eq_true]at c
   simp only [PyData.depthAll]at dp
   obtain⟨i1,i2⟩:=items_eqR rv ce hu r2 c.2 (by omega)
   have e1:=eqR_of (e:=e) r1 c.1
   refine⟨fun u hu'=>?_,?_⟩
   ·rcases List.mem_cons.mp hu' with rfl | z
    ·rw [e1]
     exact SeqAt.eqAt_reads d e A s _ v _ _ r1 rv c.1 ce (by omega)
    ·exact i1 u z
   ·rw [List.any_cons,List.any_cons,e1,i2]
end
end L2
namespace L2
open PySem PySem.Spec PyProof.Rows
section
variable {X:Cx}{pins:List (Addr×Obj)}{σ:St}{H:Hp}{s:Shared}{h':Heap}
theorem Inv.turnedL{t':Nat}{fp:List Addr}(I:Inv X pins σ H s)(k:∀b o,b∉fp->s.heap.get? b=some o->h'.get? b=some o)(hf:∀b∈fp,FpOk X pins H b):Inv X pins σ H { s with heap:=h',toks:=t' }:=by
 have nit:∀b u,H b=some u->b∉fp:=fun b u e z=>by rw [(hf b z).1]at e;cases e
 have nL:X.env.locals∉fp:=fun z=>(hf _ z).2.1 rfl
 refine I.step (g':=s.gens) (d':=s.drawn) (ch:=fp) (fun b hb=>?_) (fun b o _ _ hc e _=>k b o hc e) (fun b o _ _ hc e _=>⟨o.slots,k b o hc e⟩) (fun _ _ _ _ n=>n)
  (fun b o hc e=>⟨o,k b o hc e⟩) (fun _ _ e=>e) (fun _ _ _ e=>e) (fun b ps e=>⟨#[],by rw [e];simp⟩) (fun m hm=>?_) (fun b u e=>?_) I.bare
 ·obtain⟨_,f1,_,f3,f4,f5⟩:=hf b hb
  exact⟨f3,f1,f4,f5⟩
 ·obtain⟨o,es,ep,ho,r⟩:=hm
  exact⟨o,es,ep,k _ o nL ho,r⟩
 ·refine(I.hok b u e).stay (fun c v hc q=>k c v ?_ q) (fun _ q=>q) fun _ _ q=>q
  rcases hc with z | z
  ·rw [z];exact nit b u e
  ·exact nit c _ z
theorem Inv.track{T:Addr}{o:HO}(I:Inv X pins σ H s)(hT:FpOk X pins H T)(new:ObjOk X.prog X.w (upd H T o) s.heap T o):Inv X pins σ (upd H T o) s:=by
 obtain⟨f0,f1,_,f3,f4,f5⟩:=hT
 have nT:∀b u,H b=some u->b≠T:=fun b u e z=>by rw [z,f0]at e;cases e
 refine I.step (H':=upd H T o) (h':=s.heap) (g':=s.gens) (d':=s.drawn) (t':=s.toks) (ch:=[T]) (fun b hb=>?_) (fun b o _ _ _ e _=>e) (fun b o _ _ _ e _=>⟨o.slots,e⟩)
  (fun b u hc _ n=>by rw [upd_ne (fun z=>hc (by simp [z]))];exact n) (fun b o _ e=>⟨o,e⟩) (fun b xs e=>by rw [upd_ne (nT b _ e)];exact e) (fun b u v e=>by rw [upd_ne (nT b _ e)];exact e)
  (fun b ps e=>⟨#[],by rw [upd_ne (nT b _ e),e];simp⟩) (fun m hm=>hm) (fun b u e=>?_) I.bare
 ·have e:b=T:=by simpa using hb
  subst e
  exact⟨f3,f1,f4,f5⟩
 ·by_cases hb:b=T
  ·subst hb
   rw [upd_same]at e
   cases e
   exact new
  ·rw [upd_ne hb]at e
   exact(I.hok b u e).stay (fun _ _ _ q=>q) (fun c q=>by rw [upd_ne (nT c _ q)];exact q) fun c xs q=>by rw [upd_ne (nT c _ q)];exact q
end
def Ien(K:PySem.W.Frag)(a:Addr):It :=
 ⟨fun i H => ∃ xs x, SqT K H a xs /\ xs[i]? = some x,
  fun i H v H' => ∃ T x, H T = none /\ v = .ref T /\ H' = upd H T (.tup [.int i, x]) /\ ∀ xs, SqT K H a xs -> xs[i]? = some x,
  fun i H => ∃ xs, SqT K H a xs /\ xs.length = i⟩
theorem turn_enum{P:Program}{w:World}{K:PySem.W.Frag}{elts:List Expr}{k:Nat}{pos:Pos}(a e it:Addr)(hei:e≠it) :
  Turn P w K (.Tuple elts k pos) (Ien K a) [e,it] e (fun i h=>(∃old,IsEnum h e it i old)/\h.IsTupleIter it a i) where
 mem:=by simp
 obj:=fun i h st b hb=>by
  rcases List.mem_cons.mp hb with rfl | hb
  ·obtain⟨⟨old,he⟩,_⟩:=st
   exact⟨_,he,fun v z=>nomatch z⟩
  ·have q:b=it:=by simpa using hb
   subst q
   obtain⟨_,o,e,c,d⟩:=st
   exact⟨o,e,fun v z=>by rw [d]at z;cases z⟩
 keep:=fun i h h' st k=>⟨let⟨old,he⟩:=st.1;⟨old,k e (by simp) _ he⟩,st.2.at fun o q=>k it (by simp) o q⟩
 item:=by
  intro X hP hw hK hc i pins s σ H E I hf st hg
  subst hP hw hK
  obtain⟨xs,x,hq,hx⟩:=hg
  obtain⟨its,rv,p,hz⟩:=I.tuple hq
  obtain⟨u,hu,ru⟩:=rv.get hx
  obtain⟨⟨old,he⟩,hit⟩:=id st
  have hae:a≠e:=by
   intro z;subst z
   obtain⟨o,ho,hcl,_⟩:=p
   rw [he]at ho;cases ho
   exact absurd hcl (by intro z;injection z with z;exact absurd z (by decide))
  have hai:a≠it:=by
   intro z;subst z
   obtain⟨o,ho,hcl,_⟩:=p
   obtain⟨o',ho',hcl',_⟩:=hit
   rw [ho]at ho';cases ho'
   rw [hcl]at hcl'
   exact absurd hcl' (by intro z;injection z with z;exact absurd z (by decide))
  have W:=WalksT.enumerateD (prog:=X.prog) (w:=X.w) (A:=X.A) (L2_draws_tuple (A:=X.A.in1) (I.ok.hd hc) it a hai its.toArray) e hei (by simp [hei,Ne.symm hae]) (by simp)
  refine W.item i s _ _ (by rw [List.size_toArray];exact(List.getElem?_eq_some_iff.mp hu).1) ⟨⟨old,he⟩,hit,p⟩ fun T vals h' tk hv hT ht hm kk=>?_
  have apart:=W.apart i T h' hm
  refine⟨_,rfl,W.go elts k pos i T _ _ _ hm fun h'' st'' kk''=>?_⟩
  obtain⟨t,x',hx',rfl⟩:=hv
  have hxu:x'=u:=by
   have:its[i]?=some x':=by simpa using hx'
   rw [hu]at this;exact(Option.some.inj this).symm
  subst hxu
  have I1:Inv X pins σ H { s with heap:=h',toks:=tk }:=I.turnedL kk hf
  have I2:Inv X pins σ H { s with heap:=h'',toks:=tk }:=I1.turnedL (s:={ s with heap:=h',toks:=tk }) (t':=tk) kk'' hf
  have fT:FpOk X pins H T:=I.fpOk hT (I.hok.fresh hT)
  have ht'':IsTup h'' T #[.int i t,x']:=let⟨o,ho,r⟩:=ht;⟨o,kk'' T o apart ho,r⟩
  refine⟨.ref T,upd H T (.tup [.int i,x]),I2.track fT ⟨by show 2<=sizeLine;decide,[.int i t,x'],.cons ⟨t,rfl⟩ (.cons ru .nil),ht''⟩,rfl,⟨T,x,fT.1,rfl,rfl,fun ys hy=>by rw [I.tuple_inj hy hq];exact hx⟩,⟨st''.1,st''.2.1⟩,fun b hb=>?_⟩
  have hb':b≠T:=by
   rcases List.mem_cons.mp hb with rfl | hb
   ·exact Nat.ne_of_lt (Nat.lt_of_lt_of_le (Heap.lt_size he) hT)
   ·have q:b=it:=by simpa using hb
    subst q
    obtain⟨o,ho,_⟩:=hit
    exact Nat.ne_of_lt (Nat.lt_of_lt_of_le (Heap.lt_size ho) hT)
  rw [upd_ne hb']
  exact(hf b hb).1
 done:=by
  intro X hP hw hK hc i pins s σ H E I hf st hg
  subst hP hw hK
  obtain⟨xs,hq,hl⟩:=hg
  obtain⟨its,rv,p,hz⟩:=I.tuple hq
  obtain⟨⟨old,he⟩,hit⟩:=id st
  have hae:a≠e:=by
   intro z;subst z
   obtain⟨o,ho,hcl,_⟩:=p
   rw [he]at ho;cases ho
   exact absurd hcl (by intro z;injection z with z;exact absurd z (by decide))
  have hai:a≠it:=by
   intro z;subst z
   obtain⟨o,ho,hcl,_⟩:=p
   obtain⟨o',ho',hcl',_⟩:=hit
   rw [ho]at ho';cases ho'
   rw [hcl]at hcl'
   exact absurd hcl' (by intro z;injection z with z;exact absurd z (by decide))
  have W:=WalksT.enumerateD (prog:=X.prog) (w:=X.w) (A:=X.A) (L2_draws_tuple (A:=X.A.in1) (I.ok.hd hc) it a hai its.toArray) e hei (by simp [hei,Ne.symm hae]) (by simp)
  have hn:its.toArray.size=i:=by rw [List.size_toArray,<- rv.length];exact hl
  subst hn
  exact W.done s _ _ ⟨⟨old,he⟩,hit,p⟩ fun h' tk kk=>⟨rfl,I.turnedL kk hf⟩
 self:=fun A i s Q E st h=>let⟨⟨_,he⟩,_⟩:=st;wpAny_pyIter_enum he h
section
variable {X:Cx}
theorem for_of{J:It}{g:TG}{tb:TS}{D:Ends}{σ:St}{H:Hp}(n:Nat)(Pv:Nat->St->Hp->Prop)(h0:Pv 0 σ H)(hgo:∀i σ H,i < n->Pv i σ H->J.go i H)(hstop:∀ σ H,Pv n σ H->J.stop n H/\D.nx σ H)
  (hs:∀i x σ H H2,i < n->Pv i σ H->J.yld i H x H2->g x σ H2 fun σ2 H3=>tb { D with nx:=Pv (i+1),ct:=Pv (i+1),bk:=D.nx } σ2 H3) :
  ∃W:Nat->Nat->St->Hp->Prop,(∃m,W 0 m σ H)/\∀i m σ H,W i m σ H ->
   (J.stop i H/\D.nx σ H)\/(J.go i H/\∃N:St->Hp->Prop,(∀ σ' H',N σ' H'->∃m',m' < m/\W (i+1) m' σ' H')/\∀x H',J.yld i H x H'->g x σ H' fun σ2 H2=>tb { D with nx:=N,ct:=N,bk:=D.nx } σ2 H2):=by
 refine⟨fun i m σ H=>m=n - i/\i<=n/\Pv i σ H,⟨n,by simp,Nat.zero_le _,h0⟩,?_⟩
 rintro i m σ H ⟨rfl,hi,p⟩
 by_cases hlt:i < n
 ·exact .inr ⟨hgo i σ H hlt p,Pv (i+1),fun σ' H' p'=>⟨n - (i+1),by omega,rfl,hlt,p'⟩,fun x H' y=>hs i x σ H H' hlt p y⟩
 ·have e:i=n:=by omega
  subst e
  exact .inl (hstop σ H p)
theorem op_mul_str01:OpR X (binaryOp .Mult) (fun x y H Q=>∃z n,x=.str z/\y=.int n/\(n=0\/n=1)/\Q (.str (if n=0 then Str.empty else z)) H):=by
 intro pins s σ H x y v u Q I rx ry h
 obtain⟨z,n,rfl,rfl,hn,q⟩:=h
 obtain⟨t,rfl⟩:=rx
 obtain⟨t',rfl⟩:=ry
 rcases hn with rfl | rfl
 ·exact P.mul_str_none (by decide) (by decide) ⟨.str Str.empty,H,I.tok _,⟨_,rfl⟩,by simpa using q⟩
 ·refine P.mul_str (by decide) (fun _ z=>by simp at z) (fun _ z=>by simp at z) ?_
  rw [if_neg (by decide),if_pos (by simp)]
  exact⟨.str z,H,I,⟨_,rfl⟩,by simpa using q⟩
end
end L2
namespace L2
open PySem PySem.Spec PyProof.Rows
section
variable {X:Cx}
end
end L2
namespace HT
open PySem PySem.Spec PyProof.Rows
section
variable {prog:Program}{w:World}{A:Around}{E:Value->Shared->Prop}{s:Shared}
theorem getItem_tuple_all{t sl:Addr}{items:Array Value}{vl vu:Value}{lo hi:Option Int}{Q:Value->Shared->Prop}(ht:IsTup s.heap t items)(hs:s.heap.IsSliceOf sl vl vu .none)(pl:IsPart vl lo)(pu:IsPart vu hi)
  (hw:sIx items.size 0 lo=0/\sIx items.size items.size hi=items.size)
  (h:Q (.ref t) s):wpAny (model prog w) A (getItem (.ref t) (.ref sl)) Q E s:=by
 obtain⟨os,hos,hcs,hds⟩:=id hs
 have hTs:s.TypeIs (.ref sl) "slice" := ⟨os,hos,hcs⟩
 unfold getItem
 try with_reducible refine wpAny_holding ?_
 first | refine wpAny_bind (wpAny_pure ?_) | skip
 refine wpAny_bind (wpAny_sequenceKey ht.typeIs (by decide) ?_)
 refine wpAny_bind (wpAny_callSpecial?_slot (name:=Str.ofString "__getitem__") ht.typeIs PyProof.Rows.slot_tuple_getitem
  (wpAny_call_entry PyProof.Rows.slot_tuple_getitem ht.typeIs entry_tuple_getitem ?_ (args_tuple_getitem _ _)))
 show wpAny _ _ (Builtin.Tuple.tupleItemsOf (.ref t) >>= _) _ _ s
 refine wpAny_bind (tupleItemsOf_ ht ?_)
 refine wpAny_bind (wpAny_typeOf hTs ?_)
 rw [if_pos (by decide)]
 refine wpAny_bind (sliceApplied_gen hs pl pu ?_)
 have hyes:(((sIx items.size 0 lo:Nat):Int)==0 && (1:Int)==1 && (sIx items.size items.size hi - sIx items.size 0 lo)==items.size)=true:=by
  rw [hw.1,hw.2];simp
 show wpAny _ _ (if(((sIx items.size 0 lo:Nat):Int)==0 && (1:Int)==1 && (sIx items.size items.size hi - sIx items.size 0 lo)==items.size)=true then _ else _) _ _ s
 rw [if_pos hyes]
 unfold Builtin.Tuple.tupleIsExact
 refine wpAny_bind (wpAny_bind (wpAny_typeOf ht.typeIs (wpAny_pure ?_)))
 rw [if_pos (by decide)]
 refine wpAny_bind (wpAny_rule ?_)
 first
  | exact wpAny_pure ⟨_,rfl,wpAny_pure h⟩
  | exact wpAny_bind (wpAny_pure (wpAny_pure ⟨_,rfl,wpAny_pure h⟩))
  | exact wpAny_bind (wpAny_pure ⟨_,rfl,wpAny_pure h⟩)
end
end HT
namespace L2
open PySem PySem.Spec PyProof.Rows
section
variable {X:Cx}
theorem cutD_all{ds:List PyData}{lo hi:Option Int}(h:HT.sIx ds.length 0 lo=0/\HT.sIx ds.length ds.length hi=ds.length):cutD ds lo hi=ds:=by
 unfold cutD
 rw [h.1,h.2,List.drop_zero,Nat.sub_zero,List.take_of_length_le (Nat.le_refl _)]
end
end L2
namespace L2
open PySem PySem.Spec PyProof.Rows
section
variable {X:Cx}
def Iel(K:PySem.W.Frag)(a:Addr):It :=
 ⟨fun i H => ∃ xs x, SqL K H a xs /\ xs[i]? = some x,
  fun i H v H' => ∃ T x, H T = none /\ v = .ref T /\ H' = upd H T (.tup [.int i, x]) /\ ∀ xs, SqL K H a xs -> xs[i]? = some x,
  fun i H => ∃ xs, SqL K H a xs /\ xs.length = i⟩
theorem turn_enumL{P:Program}{w:World}{K:PySem.W.Frag}{elts:List Expr}{k:Nat}{pos:Pos}(a e it:Addr)(hei:e≠it) :
  Turn P w K (.Tuple elts k pos) (Iel K a) [e,it] e (fun i h=>(∃old,IsEnum h e it i old)/\h.IsListIter it a i) where
 mem:=by simp
 obj:=fun i h st b hb=>by
  rcases List.mem_cons.mp hb with rfl | hb
  ·obtain⟨⟨old,he⟩,_⟩:=st
   exact⟨_,he,fun v z=>nomatch z⟩
  ·have q:b=it:=by simpa using hb
   subst q
   obtain⟨_,o,e,c,d⟩:=st
   exact⟨o,e,fun v z=>by rw [d]at z;cases z⟩
 keep:=fun i h h' st k=>⟨let⟨old,he⟩:=st.1;⟨old,k e (by simp) _ he⟩,st.2.at fun o q=>k it (by simp) o q⟩
 item:=by
  intro X hP hw hK hc i pins s σ H E I hf st hg
  subst hP hw hK
  obtain⟨xs,x,hq,hx⟩:=hg
  obtain⟨its,rv,p,hz⟩:=I.list hq
  obtain⟨u,hu,ru⟩:=rv.get hx
  obtain⟨⟨old,he⟩,hit⟩:=id st
  have hae:a≠e:=by
   intro z;subst z
   obtain⟨o,ho,hcl,_⟩:=p.isList
   rw [he]at ho;cases ho
   exact absurd hcl (by intro z;injection z with z;exact absurd z (by decide))
  have hai:a≠it:=by
   intro z;subst z
   obtain⟨o,ho,hcl,_⟩:=p.isList
   obtain⟨o',ho',hcl',_⟩:=hit
   rw [ho]at ho';cases ho'
   rw [hcl]at hcl'
   exact absurd hcl' (by intro z;injection z with z;exact absurd z (by decide))
  have W:=WalksT.enumerateD (prog:=X.prog) (w:=X.w) (A:=X.A) (Draws.list (A:=X.A.in1) (I.ok.hd hc) it a hai its.toArray) e hei (by simp [hei,Ne.symm hae]) (by simp)
  refine W.item i s _ _ (by rw [List.size_toArray];exact(List.getElem?_eq_some_iff.mp hu).1) ⟨⟨old,he⟩,hit,p.isList⟩ fun T vals h' tk hv hT ht hm kk=>?_
  have apart:=W.apart i T h' hm
  refine⟨_,rfl,W.go elts k pos i T _ _ _ hm fun h'' st'' kk''=>?_⟩
  obtain⟨t,x',hx',rfl⟩:=hv
  have hxu:x'=u:=by
   have:its[i]?=some x':=by simpa using hx'
   rw [hu]at this;exact(Option.some.inj this).symm
  subst hxu
  have I1:Inv X pins σ H { s with heap:=h',toks:=tk }:=I.turnedL kk hf
  have I2:Inv X pins σ H { s with heap:=h'',toks:=tk }:=I1.turnedL (s:={ s with heap:=h',toks:=tk }) (t':=tk) kk'' hf
  have fT:FpOk X pins H T:=I.fpOk hT (I.hok.fresh hT)
  have ht'':IsTup h'' T #[.int i t,x']:=let⟨o,ho,r⟩:=ht;⟨o,kk'' T o apart ho,r⟩
  refine⟨.ref T,upd H T (.tup [.int i,x]),I2.track fT ⟨by show 2<=sizeLine;decide,[.int i t,x'],.cons ⟨t,rfl⟩ (.cons ru .nil),ht''⟩,rfl,⟨T,x,fT.1,rfl,rfl,fun ys hy=>by rw [I.list_inj hy hq];exact hx⟩,⟨st''.1,st''.2.1⟩,fun b hb=>?_⟩
  have hb':b≠T:=by
   rcases List.mem_cons.mp hb with rfl | hb
   ·exact Nat.ne_of_lt (Nat.lt_of_lt_of_le (Heap.lt_size he) hT)
   ·have q:b=it:=by simpa using hb
    subst q
    obtain⟨o,ho,_⟩:=hit
    exact Nat.ne_of_lt (Nat.lt_of_lt_of_le (Heap.lt_size ho) hT)
  rw [upd_ne hb']
  exact(hf b hb).1
 done:=by
  intro X hP hw hK hc i pins s σ H E I hf st hg
  subst hP hw hK
  obtain⟨xs,hq,hl⟩:=hg
  obtain⟨its,rv,p,hz⟩:=I.list hq
  obtain⟨⟨old,he⟩,hit⟩:=id st
  have hae:a≠e:=by
   intro z;subst z
   obtain⟨o,ho,hcl,_⟩:=p.isList
   rw [he]at ho;cases ho
   exact absurd hcl (by intro z;injection z with z;exact absurd z (by decide))
  have hai:a≠it:=by
   intro z;subst z
   obtain⟨o,ho,hcl,_⟩:=p.isList
   obtain⟨o',ho',hcl',_⟩:=hit
   rw [ho]at ho';cases ho'
   rw [hcl]at hcl'
   exact absurd hcl' (by intro z;injection z with z;exact absurd z (by decide))
  have W:=WalksT.enumerateD (prog:=X.prog) (w:=X.w) (A:=X.A) (Draws.list (A:=X.A.in1) (I.ok.hd hc) it a hai its.toArray) e hei (by simp [hei,Ne.symm hae]) (by simp)
  have hn:its.toArray.size=i:=by rw [List.size_toArray,<- rv.length];exact hl
  subst hn
  exact W.done s _ _ ⟨⟨old,he⟩,hit,p.isList⟩ fun h' tk kk=>⟨rfl,I.turnedL kk hf⟩
 self:=fun A i s Q E st h=>let⟨⟨_,he⟩,_⟩:=st;wpAny_pyIter_enum he h
end
end L2
namespace PySem
open Sem (wp)
open AutoSeq1 (wpAny_loadPart')
set_option maxRecDepth 100000
section
variable {prog:Program}{w:World}{K:Type} [DecidableEq K]
end
end PySem
namespace L2
open PySem PySem.Spec PyProof.Rows
section
variable {X:Cx}
end
end L2
namespace L2
open PySem PySem.Spec PyProof.Rows
section
variable {X:Cx}{K:PySem.W.Frag}
variable {o e:Expr}{es:List Expr}{to:TE}{t:TA}{name:Str}{apos cpos:Pos}{T id:String}{r:V->List V->Hp->VK->Prop}
end
end L2
namespace L2
open PySem PySem.Spec PyProof.Rows
def Cal(P:Program)(w:World)(K:PySem.W.Frag)(mg:Str->Option Value)(base:Heap)(n:Nat)(x:Str)(ps:List Str)(sp:Sp):Prop :=
 ∃g gd,FnOk P w K mg base CX0 n g gd ps sp/\Binds K gd ps []/\PySem.W.keepIn K (.ref g)=true/\mg x=some (.ref g)
theorem Cal.mono{P:Program}{w:World}{K:PySem.W.Frag}{mg:Str->Option Value}{base:Heap}{n m:Nat}{x:Str}{ps:List Str}{sp:Sp}(c:Cal P w K mg base n x ps sp)(h:n<=m):Cal P w K mg base m x ps sp :=
 let⟨g,gd,G,r⟩:=c;⟨g,gd,G.mono h,r⟩
end L2
namespace L2
open PySem PySem.Spec PySem.Calls PyProof.Rows
section
variable {prog:Program}{w:World}{A:Around}{E:Value->Shared->Prop}{s:Shared}{K:PySem.W.Frag}{x C:Addr}{ox:Obj}{od:Option Obj}{name:Str}
end
end L2
namespace L2
open PySem PySem.Spec PySem.Calls PyProof.Rows
abbrev bmV:List Value:=[.type "ValueError",.type "Exception",.type "BaseException",.type "object"]
def xcAt(K:PySem.W.Frag)(C:Addr)(cd:ClassData)(sl:Array (Option Value)):Bool:=cd.mro.head?==some (.ref C) && !cd.hasDel && PySem.W.tailIn K bmV cd.mro.tail && sl.size==6 && sl[4]?==some (some (.builtin "ValueError.__new__"))
theorem six_at{sl:Array (Option Value)}{v:Option Value}(h:sl.size=6)(e:sl[4]?=some v):∃k0 k1 k2 k3 k5,sl=#[k0,k1,k2,k3,v,k5]:=by
 obtain⟨l⟩:=sl
 match l,h with
 | [k0,k1,k2,k3,k4,k5],_ =>
  have:k4=v:=by simpa using e
  subst this
  exact⟨k0,k1,k2,k3,k5,rfl⟩
section
variable {prog:Program}{w:World}{A:Around}{E:Value->Shared->Prop}{h:Heap}{g:Array GenState}{d:Drawn}{t:Nat}{os:OsState}{K:PySem.W.Frag}{C:Addr}
end
section
open Builtin Builtin.ObjectAttr
variable {prog:Program}{w:World}{A:Around}{E:Value->Shared->Prop}{s:Shared}{K:PySem.W.Frag}{x C:Addr}{ox:Obj}{od:Option Obj}{name:Str}{v:Value}{R:Result->Shared->Prop}
end
end L2
namespace L2
open PySem PySem.Spec PySem.Calls PyProof.Rows
def XD(dx:Addr)(fs:List (Str×V)):HO:=.ext fun h=>∃mA,h.Ns1 dx mA/\(∀f,RelO (fs.lookup f) (mA f))/\PySem.Within mA (fs.map (·.1))
section
variable {P:Program}{w:World}{H:Hp}{h:Heap}{e C t dx:Addr}{d:Option Addr}{fs:List (Str×V)}
end
section
variable {X:Cx}{pins:List (Addr×Obj)}{σ:St}{H:Hp}{s:Shared}{e C t dx:Addr}{fs:List (Str×V)}{f:Str}{v:V}{A:Around}{E:Value->Shared->Prop}
end
end L2
namespace L2
open PySem PySem.Spec PySem.Calls PyProof.Rows
section
variable {X:Cx}{CX:CXT}{k:Nat}{f C:Addr}{fd:FuncData}{ps:List Str}{sp:Sp}{E:XK}{x:Str}{p pos pos' apos:Pos}{e o value:Expr}{es:List Expr}{t:TA}{ta tv:TE}{fl:Str}
end
section
variable {X:Cx}
end
end L2
namespace L2
open PySem PySem.Spec PySem.Calls PyProof.Rows
section
variable {M:Model}{A:Around}{E:Value->Shared->Prop}{s:Shared}{base:Heap}{env:Env}{outer:List Env}{L e:Addr}{cls:Value}{d:Option Addr}{vs:Array Value}
end
end L2
namespace L2
open PySem PySem.Spec PySem.Calls PyProof.Rows
section
variable {prog:Program}{w:World}{A:Around}{E:Value->Shared->Prop}{s:Shared}{K:PySem.W.Frag}{env:Env}{e C:Addr}{d:Option Addr}{vs:Array Value}
end
end L2
namespace L2
open PySem PySem.Spec PySem.Calls PyProof.Rows
def XR(e C:Addr)(d:Option Addr):HO:=.ext fun h=>∃vs:Array Value,h.get? e=some ⟨.ref C,d,.fields vs,#[]⟩/\vs.size=6
section
variable {X:Cx}{pins:List (Addr×Obj)}{σ:St}{H:Hp}{s:Shared}{a C:Addr}{d:Option Addr}{h':Heap}
end
end L2
namespace L2
open PySem PySem.Spec PySem.Calls PyProof.Rows
section
variable {M:Model}{A:Around}{E:Value->Shared->Prop}{s:Shared}{base:Heap}{env:Env}{outer:List Env}{L e:Addr}{cls:Value}{d:Option Addr}{vs:Array Value}
end
section
variable {prog:Program}{w:World}{A:Around}{E:Value->Shared->Prop}{s:Shared}{K:PySem.W.Frag}{e C D:Addr}{d:Option Addr}{vs:Array Value}
end
end L2
namespace L2
open PySem PySem.Spec PySem.Calls PyProof.Rows
section
variable {X:Cx}{pins:List (Addr×Obj)}{σ:St}{H:Hp}{s:Shared}
end
end L2
namespace L2
open PySem PySem.Spec PyProof.Rows
inductive AV where
 | D (d:PyData) | R (a:Addr) | C (ds:List PyData) | X (C:Addr) (fs:List (Str×PyData))
 deriving Inhabited
mutual
def Cano:PyData->Bool
 | .int _=>true
 | .str _=>true
 | .tuple xs=>CanoAll xs
 | _=>false
def CanoAll:List PyData->Bool
 | []=>true
 | x :: xs=>Cano x && CanoAll xs
end
structure KeyTree(d:PyData):Prop where
 can:Cano d=true
 lay:d.canLay0=true
 dep:d.depth<=6
def FzL(K:PySem.W.Frag)(H:Hp)(a:Addr)(xs:List V):Prop :=
 (∃o,H a=some (.frz o (.lst xs))) \/
  ∃(o:Obj) (its:Array Value) (n:Nat),K.lookup a=some o/\o.cls=.type "list" /\ o.dict=none/\o.data=.seq its n/\its.size<=sizeLine/\Vals xs its.toList
theorem FzL.sq{K:PySem.W.Frag}{H:Hp}{a:Addr}{xs:List V}(h:FzL K H a xs):SqL K H a xs:=by
 rcases h with⟨o,h⟩ | h
 ·exact .inl (.inr ⟨o,h⟩)
 ·exact .inr h
def Lit:List PyData->Bool
 | .str _ :: _=>true
 | .tuple _ :: _=>true
 | _=>false
def FzT(K:PySem.W.Frag)(H:Hp)(a:Addr)(ds:List PyData)(xs:List V):Prop :=
 H a=some (.tup xs)\/(Lit ds=true/\∃(o:Obj) (its:Array Value) (n:Nat),K.lookup a=some o/\o.cls=.type "tuple" /\ o.data=.seq its n/\its.size<=sizeLine/\Vals xs its.toList)
theorem FzT.sq{K:PySem.W.Frag}{H:Hp}{a:Addr}{ds:List PyData}{xs:List V}(h:FzT K H a ds xs):SqT K H a xs:=by
 rcases h with h | h
 ·exact SqT.of h
 ·exact .inr h.2
mutual
def Dk(K:PySem.W.Frag)(H:Hp):PyData->V->Prop
 | .none,x=>x=.non
 | .bool b,x=>x=.bl b
 | .int i,x=>x=.int i
 | .str z,x=>x=.str z
 | .list ds,x=>∃a xs,x=.ref a/\FzL K H a xs/\DkAll K H ds xs
 | .tuple ds,x=>∃a xs,x=.ref a/\FzT K H a ds xs/\DkAll K H ds xs
 | .dict _,_=>False
def DkAll(K:PySem.W.Frag)(H:Hp):List PyData->List V->Prop
 | [],xs=>xs=[]
 | d :: ds,xs=>∃x r,xs=x :: r/\Dk K H d x/\DkAll K H ds r
end
structure Kp(H H':Hp):Prop where
 t:∀b xs,H b=some (.tup xs)->H' b=some (.tup xs)
 f:∀b o u,H b=some (.frz o u)->H' b=some (.frz o u)
theorem Kp.refl{H:Hp}:Kp H H:=⟨fun _ _ h=>h,fun _ _ _ h=>h⟩
theorem Kp.trans{H H1 H2:Hp}(a:Kp H H1)(b:Kp H1 H2):Kp H H2:=⟨fun c xs h=>b.t c xs (a.t c xs h),fun c o u h=>b.f c o u (a.f c o u h)⟩
theorem Kp.new{H:Hp}{p:Addr}(h:H p=none)(o:HO):Kp H (upd H p o) :=
 ⟨fun b xs e=>by rw [upd_ne (ne_of_none e h)];exact e,fun b o' u e=>by rw [upd_ne (ne_of_none e h)];exact e⟩
def Mt:HO->Prop
 | .lst _=>True
 | .dK _=>True
 | .dT _=>True
 | .dd _=>True
 | _=>False
theorem Kp.put{H:Hp}{p:Addr}{o0:HO}(h:H p=some o0)(m:Mt o0)(o:HO):Kp H (upd H p o) :=
 ⟨fun b xs e=>by rw [upd_ne (ne_of e h (by intro z;subst z;exact m))];exact e,fun b o' u e=>by rw [upd_ne (ne_of e h (by intro z;subst z;exact m))];exact e⟩
theorem FzL.kp{K:PySem.W.Frag}{H H':Hp}{a:Addr}{xs:List V}(S:Kp H H')(h:FzL K H a xs):FzL K H' a xs:=by
 rcases h with⟨o,h⟩ | h
 ·exact .inl ⟨o,S.f _ _ _ h⟩
 ·exact .inr h
theorem FzT.kp{K:PySem.W.Frag}{H H':Hp}{a:Addr}{ds:List PyData}{xs:List V}(S:Kp H H')(h:FzT K H a ds xs):FzT K H' a ds xs:=by
 rcases h with h | h
 ·exact .inl (S.t _ _ h)
 ·exact .inr h
section
variable {K:PySem.W.Frag}{H H':Hp}
mutual
theorem Dk.kp(S:Kp H H'):∀(d:PyData) (x:V),Dk K H d x->Dk K H' d x
 | .none,x,h=>by simp only [Dk]at h ⊢;exact h
 | .bool b,x,h=>by simp only [Dk]at h ⊢;exact h
 | .int i,x,h=>by simp only [Dk]at h ⊢;exact h
 | .str z,x,h=>by simp only [Dk]at h ⊢;exact h
 | .list ds,x,h=>by
  simp only [Dk]at h ⊢
  obtain⟨a,xs,e,q,r⟩:=h
  exact⟨a,xs,e,q.kp S,DkAll.kp S ds xs r⟩
 | .tuple ds,x,h=>by
  simp only [Dk]at h ⊢
  obtain⟨a,xs,e,q,r⟩:=h
  exact⟨a,xs,e,q.kp S,DkAll.kp S ds xs r⟩
 | .dict _,x,h=>by simp only [Dk]at h
theorem DkAll.kp(S:Kp H H'):∀(ds:List PyData) (xs:List V),DkAll K H ds xs->DkAll K H' ds xs
 | [],xs,h=>by simp only [DkAll]at h ⊢;exact h
 | d :: ds,xs,h=>by
  simp only [DkAll]at h ⊢
  obtain⟨x,r,e,h1,h2⟩:=h
  exact⟨x,r,e,Dk.kp S d x h1,DkAll.kp S ds r h2⟩
end
theorem dk_int{i:Int}:Dk K H (.int i) (.int i):=by simp only [Dk]
theorem dk_bl{b:Bool}:Dk K H (.bool b) (.bl b):=by simp only [Dk]
theorem dk_str{z:Str}:Dk K H (.str z) (.str z):=by simp only [Dk]
theorem dk_non:Dk K H .none .non:=by simp only [Dk]
theorem Dk.int{x:V}{i:Int}(h:Dk K H (.int i) x):x=.int i:=by simp only [Dk]at h;exact h
theorem Dk.bl{x:V}{i:Bool}(h:Dk K H (.bool i) x):x=.bl i:=by simp only [Dk]at h;exact h
theorem Dk.str{x:V}{i:Str}(h:Dk K H (.str i) x):x=.str i:=by simp only [Dk]at h;exact h
theorem Dk.non{x:V}(h:Dk K H .none x):x=.non:=by simp only [Dk]at h;exact h
theorem Dk.tup{x:V}{ds:List PyData}(h:Dk K H (.tuple ds) x):∃a xs,x=.ref a/\FzT K H a ds xs/\DkAll K H ds xs:=by simp only [Dk]at h;exact h
theorem Dk.lst{x:V}{ds:List PyData}(h:Dk K H (.list ds) x):∃a xs,x=.ref a/\FzL K H a xs/\DkAll K H ds xs:=by simp only [Dk]at h;exact h
theorem dk_tup{a:Addr}{xs:List V}{ds:List PyData}(h:H a=some (.tup xs))(r:DkAll K H ds xs):Dk K H (.tuple ds) (.ref a):=by simp only [Dk];exact⟨a,xs,rfl,.inl h,r⟩
theorem dk_tupK{a:Addr}{xs:List V}{ds:List PyData}{o:Obj}{its:Array Value}{n:Nat}(hl:Lit ds=true)(h1:K.lookup a=some o)(h2:o.cls=.type "tuple") (h3:o.data=.seq its n) (h4:its.size<=sizeLine) (h5:Vals xs its.toList) (r:DkAll K H ds xs):Dk K H (.tuple ds) (.ref a):=by
 simp only [Dk];exact⟨a,xs,rfl,.inr ⟨hl,o,its,n,h1,h2,h3,h4,h5⟩,r⟩
theorem dk_lst{a:Addr}{xs:List V}{ds:List PyData}(h:FzL K H a xs)(r:DkAll K H ds xs):Dk K H (.list ds) (.ref a):=by simp only [Dk];exact⟨a,xs,rfl,h,r⟩
theorem dks_nil:DkAll K H [] []:=by simp only [DkAll]
theorem dks_cons{d:PyData}{ds:List PyData}{x:V}{xs:List V}(h:Dk K H d x)(r:DkAll K H ds xs):DkAll K H (d :: ds) (x :: xs):=by simp only [DkAll];exact⟨x,xs,rfl,h,r⟩
theorem DkAll.cons{d:PyData}{ds:List PyData}{xs:List V}(h:DkAll K H (d :: ds) xs):∃x r,xs=x :: r/\Dk K H d x/\DkAll K H ds r:=by simp only [DkAll]at h;exact h
theorem DkAll.nil{xs:List V}(h:DkAll K H [] xs):xs=[]:=by simp only [DkAll]at h;exact h
theorem DkAll.length:∀{ds:List PyData} {xs:List V},DkAll K H ds xs->xs.length=ds.length
 | [],_,h=>by rw [h.nil];rfl
 | _ :: ds,_,h=>by
  obtain⟨x,r,rfl,_,h2⟩:=h.cons
  rw [List.length_cons,List.length_cons,DkAll.length h2]
theorem DkAll.get:∀{ds:List PyData} {xs:List V} {i:Nat} {d:PyData},DkAll K H ds xs->ds[i]?=some d->∃x,xs[i]?=some x/\Dk K H d x
 | [],_,_,_,_,e=>by simp at e
 | _ :: ds,_,0,d,h,e=>by
  obtain⟨x,r,rfl,h1,_⟩:=h.cons
  simp at e;subst e
  exact⟨x,rfl,h1⟩
 | _ :: ds,_,i+1,d,h,e=>by
  obtain⟨x,r,rfl,_,h2⟩:=h.cons
  obtain⟨y,e1,e2⟩:=DkAll.get (i:=i) (d:=d) h2 (by simpa using e)
  exact⟨y,by simpa using e1,e2⟩
theorem DkAll.append:∀{ds es:List PyData} {xs ys:List V},DkAll K H ds xs->DkAll K H es ys->DkAll K H (ds++es) (xs++ys)
 | [],_,_,_,h,k=>by rw [h.nil];exact k
 | _ :: ds,_,_,_,h,k=>by
  obtain⟨x,r,rfl,h1,h2⟩:=h.cons
  exact dks_cons h1 (DkAll.append h2 k)
theorem DkAll.drop:∀(n:Nat) {ds:List PyData} {xs:List V},DkAll K H ds xs->DkAll K H (ds.drop n) (xs.drop n)
 | 0,_,_,h=>h
 | _+1,[],_,h=>by rw [h.nil];exact dks_nil
 | n+1,_ :: ds,_,h=>by
  obtain⟨x,r,rfl,_,h2⟩:=h.cons
  exact DkAll.drop n h2
theorem DkAll.take:∀(n:Nat) {ds:List PyData} {xs:List V},DkAll K H ds xs->DkAll K H (ds.take n) (xs.take n)
 | 0,_,_,_=>dks_nil
 | _+1,[],_,h=>by rw [h.nil];exact dks_nil
 | n+1,_ :: ds,_,h=>by
  obtain⟨x,r,rfl,h1,h2⟩:=h.cons
  exact dks_cons h1 (DkAll.take n h2)
theorem DkAll.cut{ds:List PyData}{xs:List V}(h:DkAll K H ds xs)(lo hi:Option Int):DkAll K H (cutD ds lo hi) (cutV xs lo hi):=by
 unfold cutD cutV
 rw [h.length]
 exact(h.drop _).take _
theorem DkAll.atI{ds:List PyData}{xs:List V}{i:Int}{d:PyData}(h:DkAll K H ds xs)(e:atI ds i=some d):∃x,L2.atI xs i=some x/\Dk K H d x:=by
 unfold L2.atI at e ⊢
 rw [h.length]
 cases q:ixN ds.length i with
 | none=>rw [q]at e;cases e
 | some j =>
  rw [q]at e
  obtain⟨x,hx,hd⟩:=h.get (show ds[j]?=some d from e)
  exact⟨x,hx,hd⟩
def FsOk(K:PySem.W.Frag)(H:Hp):List (Str×PyData)->List (Str×V)->Prop:=Paired fun p q=>p.1=q.1/\Dk K H p.2 q.2
theorem FsOk.kp{fs:List (Str×PyData)}{vs:List (Str×V)}(S:Kp H H')(h:FsOk K H fs vs):FsOk K H' fs vs:=Paired.mapP h fun p q r=>⟨r.1,Dk.kp S _ _ r.2⟩
def XFs(K:PySem.W.Frag)(H:Hp)(d:Option Addr)(fs:List (Str×PyData)):Prop:=match d with
 | none=>fs=[]
 | some d=>∃od kvs,H d=some (.frz od (XD d kvs))/\FsOk K H fs kvs
theorem XFs.kp{d:Option Addr}{fs:List (Str×PyData)}(S:Kp H H')(h:XFs K H d fs):XFs K H' d fs:=by
 cases d with
 | none=>exact h
 | some d=>obtain⟨od,kvs,q,r⟩:=h;exact⟨od,kvs,S.f _ _ _ q,r.kp S⟩
def RelA(K:PySem.W.Frag)(H:Hp):AV->V->Prop
 | .D d,v=>Dk K H d v
 | .R a,v=>v=.ref a
 | .C ds,v=>∃a xs,v=.ref a/\(∀H,SqT K H a xs)/\DkAll K H ds xs
 | .X C fs,v=>∃a o d,v=.ref a/\H a=some (.frz o (XR a C d))/\XFs K H d fs
theorem ra_int{i:Int}:RelA K H (.D (.int i)) (.int i):=dk_int (K:=K) (H:=H)
theorem ra_bl{i:Bool}:RelA K H (.D (.bool i)) (.bl i):=dk_bl (K:=K) (H:=H)
theorem ra_str{i:Str}:RelA K H (.D (.str i)) (.str i):=dk_str (K:=K) (H:=H)
theorem ra_non:RelA K H (.D .none) .non:=dk_non (K:=K) (H:=H)
theorem RelA.int{x:V}{i:Int}(h:RelA K H (.D (.int i)) x):x=.int i:=Dk.int (K:=K) (H:=H) h
theorem RelA.bl{x:V}{i:Bool}(h:RelA K H (.D (.bool i)) x):x=.bl i:=Dk.bl (K:=K) (H:=H) h
theorem RelA.str{x:V}{i:Str}(h:RelA K H (.D (.str i)) x):x=.str i:=Dk.str (K:=K) (H:=H) h
theorem RelA.non{x:V}(h:RelA K H (.D .none) x):x=.non:=Dk.non (K:=K) (H:=H) h
theorem RelA.tup{x:V}{ds:List PyData}(h:RelA K H (.D (.tuple ds)) x):∃a xs,x=.ref a/\FzT K H a ds xs/\DkAll K H ds xs:=Dk.tup (K:=K) (H:=H) h
theorem RelA.lst{x:V}{ds:List PyData}(h:RelA K H (.D (.list ds)) x):∃a xs,x=.ref a/\FzL K H a xs/\DkAll K H ds xs:=Dk.lst (K:=K) (H:=H) h
theorem RelA.ref{x:V}{a:Addr}(h:RelA K H (.R a) x):x=.ref a:=h
theorem ra_ref{a:Addr}:RelA K H (.R a) (.ref a):=rfl
theorem ra_D{d:PyData}{v:V}(h:Dk K H d v):RelA K H (.D d) v:=h
theorem ra_tup{a:Addr}{xs:List V}{ds:List PyData}(h:H a=some (.tup xs))(r:DkAll K H ds xs):RelA K H (.D (.tuple ds)) (.ref a):=dk_tup (K:=K) (H:=H) h r
abbrev RelAs(K:PySem.W.Frag)(H:Hp):List AV->List V->Prop:=Paired (RelA K H)
theorem RelA.kp(S:Kp H H'):∀{x:AV} {v:V},RelA K H x v->RelA K H' x v
 | .D d,v,h=>Dk.kp S d v h
 | .R a,_,h=>h
 | .C ds,v,⟨a,xs,e,q,r⟩=>⟨a,xs,e,q,DkAll.kp S ds xs r⟩
 | .X C fs,v,⟨a,o,d,e,q,r⟩=>⟨a,o,d,e,S.f _ _ _ q,r.kp S⟩
theorem RelAs.kp(S:Kp H H'){xs:List AV}{vs:List V}(h:RelAs K H xs vs):RelAs K H' xs vs:=Paired.mapP h fun _ _ q=>q.kp S
theorem RelAs.length{xs:List AV}{vs:List V}(h:RelAs K H xs vs):xs.length=vs.length:=Paired.length h
theorem RelAs.append{xs ys:List AV}{us ws:List V}(h:RelAs K H xs us)(s:RelAs K H ys ws):RelAs K H (xs++ys) (us++ws):=by
 induction h with
 | nil=>exact s
 | cons r t ih=>exact .cons r ih
theorem RelAs.get:∀{xs:List AV} {us:List V} {i:Nat} {x:AV},RelAs K H xs us->xs[i]?=some x->∃u,us[i]?=some u/\RelA K H x u
 | _,_,_,_,.nil,e=>by simp at e
 | _,_,0,_,.cons r _,e=>by simp at e;subst e;exact⟨_,rfl,r⟩
 | _,_,i+1,x,.cons _ t,e=>by
  obtain⟨u,h1,h2⟩:=RelAs.get (i:=i) (x:=x) t (by simpa using e)
  exact⟨u,by simpa using h1,h2⟩
theorem RelAs.set{x:AV}{u:V}(r:RelA K H x u):∀{xs:List AV} {us:List V} (i:Nat),RelAs K H xs us->RelAs K H (xs.set i x) (us.set i u)
 | _,_,_,.nil=>.nil
 | _,_,0,.cons _ t=>.cons r t
 | _,_,i+1,.cons q t=>.cons q (RelAs.set r i t)
theorem RelAs.drop:∀{xs:List AV} {us:List V} (n:Nat),RelAs K H xs us->RelAs K H (xs.drop n) (us.drop n)
 | _,_,0,r=>r
 | _,_,_+1,.nil=>.nil
 | _,_,n+1,.cons _ t=>RelAs.drop n t
theorem RelAs.take:∀{xs:List AV} {us:List V} (n:Nat),RelAs K H xs us->RelAs K H (xs.take n) (us.take n)
 | _,_,0,_=>.nil
 | _,_,_+1,.nil=>.nil
 | _,_,n+1,.cons r t=>.cons r (RelAs.take n t)
theorem RelAs.eraseIdx:∀{xs:List AV} {us:List V} (n:Nat),RelAs K H xs us->RelAs K H (xs.eraseIdx n) (us.eraseIdx n)
 | _,_,_,.nil=>by simp;exact .nil
 | _,_,0,.cons _ t=>t
 | _,_,n+1,.cons r t=>.cons r (RelAs.eraseIdx n t)
def cutA(xs:List AV)(lo hi:Option Int):List AV:=(xs.drop (HT.sIx xs.length 0 lo)).take (HT.sIx xs.length xs.length hi - HT.sIx xs.length 0 lo)
theorem RelAs.cut{xs:List AV}{us:List V}(h:RelAs K H xs us)(lo hi:Option Int):RelAs K H (cutA xs lo hi) (cutV us lo hi):=by
 unfold cutA cutV
 rw [h.length]
 exact(h.drop _).take _
theorem RelAs.atI{xs:List AV}{us:List V}{i:Int}{x:AV}(h:RelAs K H xs us)(e:atI xs i=some x):∃u,L2.atI us i=some u/\RelA K H x u:=by
 unfold L2.atI at e ⊢
 rw [<- h.length]
 cases q:ixN xs.length i with
 | none=>rw [q]at e;cases e
 | some j =>
  rw [q]at e
  obtain⟨x,hx,hd⟩:=h.get (show xs[j]?=some x from e)
  exact⟨x,hx,hd⟩
def dats:List AV->Option (List PyData)
 | []=>some []
 | .D d :: r=>match dats r with
  | some ds=>some (d :: ds)
  | none=>none
 | .R _ :: _=>none
 | .C _ :: _=>none
 | .X _ _ :: _=>none
@[simp] theorem dats_nil:dats []=some []:=rfl
theorem dats_map:∀(ds:List PyData),dats (ds.map .D)=some ds
 | []=>rfl
 | d :: ds=>by simp only [List.map_cons,dats,dats_map ds]
theorem dats_eq:∀{xs:List AV} {ds:List PyData},dats xs=some ds->xs=ds.map .D
 | [],ds,h=>by cases h;rfl
 | .D d :: r,ds,h=>by
  simp only [dats]at h
  cases q:dats r with
  | none=>rw [q]at h;cases h
  | some es=>rw [q]at h;cases h;rw [dats_eq q];rfl
 | .R _ :: _,_,h=>by simp [dats]at h
 | .C _ :: _,_,h=>by simp [dats]at h
 | .X _ _ :: _,_,h=>by simp [dats]at h
theorem RelAs.dk:∀{ds:List PyData} {vs:List V},RelAs K H (ds.map .D) vs->DkAll K H ds vs
 | [],_,h=>by cases h;exact dks_nil
 | _ :: _,_,h=>by
  rw [List.map_cons]at h
  cases h with
  | cons r t=>exact dks_cons r (RelAs.dk t)
theorem DkAll.rel:∀{ds:List PyData} {vs:List V},DkAll K H ds vs->RelAs K H (ds.map .D) vs
 | [],_,h=>by rw [h.nil];exact .nil
 | _ :: _,_,h=>by
  obtain⟨x,r,rfl,h1,h2⟩:=h.cons
  exact .cons h1 (DkAll.rel h2)
theorem RelAs.dats{xs:List AV}{vs:List V}{ds:List PyData}(h:RelAs K H xs vs)(e:dats xs=some ds):DkAll K H ds vs:=by rw [dats_eq e]at h;exact h.dk
inductive MO where
 | lst (xs:List AV) | dk (kvs:List (Key×AV)) | dt (kvs:List (List Key×AV)) | dd (kvs:List (PyData×AV))
abbrev M:=Addr->Option MO
def updM(μ:M)(a:Addr)(m:MO):M:=fun b=>if b=a then some m else μ b
theorem updM_same{μ:M}{a:Addr}{m:MO}:updM μ a m a=some m:=by unfold updM;rw [if_pos rfl]
theorem updM_ne{μ:M}{a b:Addr}{m:MO}(h:b≠a):updM μ a m b=μ b:=by unfold updM;rw [if_neg h]
theorem updM_updM{μ:M}{a:Addr}{m n:MO}:updM (updM μ a m) a n=updM μ a n:=by funext b;unfold updM;split <;> rfl
def RelK{κ:Type}(K:PySem.W.Frag)(H:Hp):List (κ×AV)->List (κ×V)->Prop:=Paired fun p q=>p.1=q.1/\RelA K H p.2 q.2
theorem RelK.kp{κ:Type}(S:Kp H H'){xs:List (κ×AV)}{vs:List (κ×V)}(h:RelK K H xs vs):RelK K H' xs vs:=Paired.mapP h fun _ _ q=>⟨q.1,q.2.kp S⟩
def RelD(K:PySem.W.Frag)(H:Hp):List (PyData×AV)->List (PyData×Addr×Value)->Prop:=Paired fun p q=>p.1=q.1/\KeyTree p.1/\Dk K H p.1 (.ref q.2.1)/\∃v,RelA K H p.2 v/\RelV v q.2.2
theorem RelD.kp(S:Kp H H'){xs:List (PyData×AV)}{vs:List (PyData×Addr×Value)}(h:RelD K H xs vs):RelD K H' xs vs:=Paired.mapP h fun _ _ ⟨a,b,c,v,r,q⟩=>⟨a,b,Dk.kp S _ _ c,v,r.kp S,q⟩
def RelM(K:PySem.W.Frag)(H:Hp):MO->HO->Prop
 | .lst xs,o=>∃vs,o=.lst vs/\RelAs K H xs vs
 | .dk kvs,o=>∃vs,o=.dK vs/\RelK K H kvs vs
 | .dt kvs,o=>∃vs,o=.dT vs/\RelK K H kvs vs
 | .dd kvs,o=>∃xs,o=.dd xs/\RelD K H kvs xs
theorem RelM.kp(S:Kp H H'){m:MO}{o:HO}(h:RelM K H m o):RelM K H' m o:=by
 cases m with
 | lst xs=>obtain⟨vs,e,r⟩:=h;exact⟨vs,e,r.kp S⟩
 | dk xs=>obtain⟨vs,e,r⟩:=h;exact⟨vs,e,r.kp S⟩
 | dt xs=>obtain⟨vs,e,r⟩:=h;exact⟨vs,e,r.kp S⟩
 | dd xs=>obtain⟨vs,e,r⟩:=h;exact⟨vs,e,r.kp S⟩
theorem rm_lst{xs:List AV}{vs:List V}(h:RelAs K H xs vs):RelM K H (.lst xs) (.lst vs):=⟨vs,rfl,h⟩
def Cn(K:PySem.W.Frag)(μ:M)(H:Hp):Prop:=∀a m,μ a=some m->∃o,H a=some o/\RelM K H m o
theorem Cn.none{μ:M}{p:Addr}(c:Cn K μ H)(h:H p=none):μ p=none:=by
 cases q:μ p with
 | none=>rfl
 | some m=>obtain⟨o,e,_⟩:=c p m q;rw [h]at e;cases e
theorem Cn.over{μ:M}{p:Addr}{o:HO}(c:Cn K μ H)(h:H p=Option.none):Cn K μ (upd H p o):=fun a m e=>by
 obtain⟨o',e',r⟩:=c a m e
 exact⟨o',by rw [upd_ne (ne_of_none e' h)];exact e',r.kp (Kp.new h o)⟩
theorem Cn.new{μ:M}{p:Addr}{m:MO}{o:HO}(c:Cn K μ H)(h:H p=Option.none)(r:RelM K H m o):Cn K (updM μ p m) (upd H p o):=fun a m' e=>by
 by_cases ha:a=p
 ·subst ha;rw [updM_same]at e;cases e;exact⟨o,upd_same,r.kp (Kp.new h o)⟩
 ·rw [updM_ne ha]at e;exact c.over h a m' e
theorem Cn.put{μ:M}{p:Addr}{m:MO}{o o0:HO}(c:Cn K μ H)(h:H p=some o0)(hm:Mt o0)(r:RelM K H m o):Cn K (updM μ p m) (upd H p o):=fun a m' e=>by
 by_cases ha:a=p
 ·subst ha;rw [updM_same]at e;cases e;exact⟨o,upd_same,r.kp (Kp.put h hm o)⟩
 ·rw [updM_ne ha]at e
  obtain⟨o',e',r'⟩:=c a m' e
  exact⟨o',by rw [upd_ne ha];exact e',r'.kp (Kp.put h hm o)⟩
def Sub(μ ν:M):Prop:=∀a m,μ a=some m->ν a=some m
theorem Sub.refl{μ:M}:Sub μ μ:=fun _ _ h=>h
theorem Sub.new{μ ν:M}{p:Addr}{m:MO}(h:Sub μ ν)(e:μ p=none):Sub μ (updM ν p m):=fun a m' e'=>by
 rw [updM_ne (by intro z;subst z;rw [e]at e';cases e')];exact h a m' e'
theorem Sub.none{μ ν:M}{p:Addr}(h:Sub μ ν)(e:ν p=none):μ p=none:=by
 cases q:μ p with
 | none=>rfl
 | some m=>rw [h p m q]at e;cases e
theorem Cn.sub{μ ν:M}(c:Cn K ν H)(h:Sub μ ν):Cn K μ H:=fun a m e=>c a m (h a m e)
abbrev ASt:=List (Option AV)
def RelSl(K:PySem.W.Frag)(H:Hp)(a:Option AV)(b:Option V):Prop:=∀x,a=some x->∃v,b=some v/\RelA K H x v
abbrev StA(K:PySem.W.Frag)(H:Hp):ASt->St->Prop:=Paired (RelSl K H)
theorem RelSl.kp{a:Option AV}{b:Option V}(S:Kp H H')(h:RelSl K H a b):RelSl K H' a b:=fun x e=>let⟨v,e2,r⟩:=h x e;⟨v,e2,r.kp S⟩
theorem StA.kp{τ:ASt}{σ:St}(S:Kp H H')(h:StA K H τ σ):StA K H' τ σ:=Paired.mapP h fun _ _ q=>q.kp S
theorem StA.get:∀{τ:ASt} {σ:St} {i:Nat} {x:AV},StA K H τ σ->τ[i]?=some (some x)->∃v,σ[i]?=some (some v)/\RelA K H x v
 | _,_,_,_,.nil,e=>by simp at e
 | _,_,0,_,.cons r _,e=>by simp at e;subst e;obtain⟨v,rfl,q⟩:=r _ rfl;exact⟨v,rfl,q⟩
 | _,_,i+1,x,.cons _ t,e=>by
  obtain⟨u,h1,h2⟩:=StA.get (i:=i) (x:=x) t (by simpa using e)
  exact⟨u,by simpa using h1,h2⟩
theorem relSl_some{x:AV}{v:V}(r:RelA K H x v):RelSl K H (some x) (some v):=fun y e=>by cases e;exact⟨v,rfl,r⟩
theorem relSl_none{b:Option V}:RelSl K H none b:=fun y e=>nomatch e
theorem StA.set{x:AV}{v:V}(r:RelA K H x v):∀{τ:ASt} {σ:St} (i:Nat),StA K H τ σ->StA K H (τ.set i (some x)) (σ.set i (some v))
 | _,_,_,.nil=>.nil
 | _,_,0,.cons _ t=>.cons (relSl_some r) t
 | _,_,i+1,.cons q t=>.cons q (StA.set r i t)
def startA(N:List Str)(xs:List AV):ASt:=xs.map some++List.replicate (N.length - xs.length) none
theorem StA.rep:∀(n:Nat),StA K H (List.replicate n none) (List.replicate n none)
 | 0=>.nil
 | n+1=>.cons relSl_none (StA.rep n)
theorem StA.somes:∀{xs:List AV} {vs:List V},RelAs K H xs vs->StA K H (xs.map some) (vs.map some)
 | _,_,.nil=>.nil
 | _,_,.cons r t=>.cons (relSl_some r) (StA.somes t)
theorem StA.append{τ τ':ASt}{σ σ':St}(h:StA K H τ σ)(s:StA K H τ' σ'):StA K H (τ++τ') (σ++σ'):=by
 induction h with
 | nil=>exact s
 | cons r t ih=>exact .cons r ih
theorem StA.begin{N:List Str}{xs:List AV}{vs:List V}(h:RelAs K H xs vs):StA K H (startA N xs) (start N vs):=by
 unfold startA start
 rw [h.length]
 exact(StA.somes h).append (StA.rep _)
def subA(mp:List (Option Nat))(τ:ASt):ASt:=mp.map fun o=>match o with
 | none=>none
 | some j=>match τ[j]? with
  | some x=>x
  | none=>none
theorem StA.sub{τ:ASt}{σ:St}(h:StA K H τ σ):∀(mp:List (Option Nat)),StA K H (subA mp τ) (subS mp σ)
 | []=>.nil
 | none :: mp=>.cons relSl_none (StA.sub h mp)
 | some j :: mp=>by
  refine .cons (fun x e=>?_) (StA.sub h mp)
  have e':τ[j]?=some (some x):=by
   dsimp only at e
   cases q:τ[j]? with
   | none=>rw [q]at e;cases e
   | some y=>rw [q]at e;exact congrArg some e
  obtain⟨v,hv,r⟩:=h.get e'
  refine⟨v,?_,r⟩
  show(σ[j]?).join=some v
  rw [hv];rfl
end
end L2
namespace L2
open PySem PySem.Spec PyProof.Rows
abbrev AE:=ASt->M->(AV->M->Prop)->Prop
abbrev AT:=ASt->M->(Bool->M->Prop)->Prop
abbrev AA:=ASt->M->(List AV->M->Prop)->Prop
abbrev AO:=ASt->M->(Option Int->M->Prop)->Prop
abbrev AS:=(ASt->M->Prop)->(AV->M->Prop)->(ASt->M->Prop)->(ASt->M->Prop)->ASt->M->Prop
abbrev AG:=AV->ASt->M->(ASt->M->Prop)->Prop
abbrev AGs:=List AV->ASt->M->(ASt->M->Prop)->Prop
abbrev A2:=AV->AV->M->(AV->M->Prop)->Prop
abbrev AC:=List AV->M->(AV->M->Prop)->Prop
@[irreducible] def brP (b:Bool) (T F:Prop):Prop:=match b with
 | true=>T
 | false=>F
@[irreducible] def opt {α:Type} (o:Option α) (k:α->Prop):Prop:=match o with
 | some x=>k x
 | none=>False
theorem br{b:Bool}{T F:Prop}(h1:b=true->T)(h2:b=false->F):brP b T F:=by
 unfold brP;cases b with
 | true=>exact h1 rfl
 | false=>exact h2 rfl
theorem brT{b:Bool}{T F:Prop}(hb:b=true)(h:T):brP b T F:=by subst hb;unfold brP;exact h
theorem brF{b:Bool}{T F:Prop}(hb:b=false)(h:F):brP b T F:=by subst hb;unfold brP;exact h
theorem brP_true{T F:Prop}:brP true T F=T:=by unfold brP;rfl
theorem br_e{b:Bool}{T F:Prop}(h:brP b T F):(b=true/\T)\/(b=false/\F):=by
 unfold brP at h;cases b with
 | true=>exact .inl ⟨rfl,h⟩
 | false=>exact .inr ⟨rfl,h⟩
theorem opt_i{α:Type}{o:Option α}{x:α}{k:α->Prop}(h:o=some x)(q:k x):opt o k:=by subst h;unfold opt;exact q
theorem opt_e{α:Type}{o:Option α}{k:α->Prop}(h:opt o k):∃x,o=some x/\k x:=by
 unfold opt at h;cases o with
 | none=>exact h.elim
 | some x=>exact⟨x,rfl,h⟩
theorem dif{p:Prop} [Decidable p]{T F:Prop}(h1:p->T)(h2:¬p->F):brP (decide p) T F:=br (fun h=>h1 (of_decide_eq_true h)) (fun h=>h2 (of_decide_eq_false h))
def LV(K:PySem.W.Frag)(H:Hp)(R:AV->M->Prop)(Q:VK):Prop:=∀x μ v H',Kp H H'->Cn K μ H'->RelA K H' x v->R x μ->Q v H'
def LB(K:PySem.W.Frag)(H:Hp)(R:Bool->M->Prop)(Q:Bool->Hp->Prop):Prop:=∀b μ H',Kp H H'->Cn K μ H'->R b μ->Q b H'
def LA(K:PySem.W.Frag)(n:Nat)(H:Hp)(R:List AV->M->Prop)(Q:List V->Hp->Prop):Prop:=∀xs μ vs H',Kp H H'->Cn K μ H'->RelAs K H' xs vs->xs.length=n->R xs μ->Q vs H'
def LO(K:PySem.W.Frag)(H:Hp)(R:Option Int->M->Prop)(Q:Option Int->Hp->Prop):Prop:=∀b μ H',Kp H H'->Cn K μ H'->R b μ->Q b H'
def LS(K:PySem.W.Frag)(H:Hp)(R:ASt->M->Prop)(Q:St->Hp->Prop):Prop:=∀ τ μ σ H',Kp H H'->StA K H' τ σ->Cn K μ H'->R τ μ->Q σ H'
theorem LV.kp{K:PySem.W.Frag}{H H':Hp}{R:AV->M->Prop}{Q:VK}(h:LV K H R Q)(S:Kp H H'):LV K H' R Q:=fun x μ v H2 S2=>h x μ v H2 (S.trans S2)
theorem LB.kp{K:PySem.W.Frag}{H H':Hp}{R:Bool->M->Prop}{Q:Bool->Hp->Prop}(h:LB K H R Q)(S:Kp H H'):LB K H' R Q:=fun x μ H2 S2=>h x μ H2 (S.trans S2)
theorem LS.kp{K:PySem.W.Frag}{H H':Hp}{R:ASt->M->Prop}{Q:St->Hp->Prop}(h:LS K H R Q)(S:Kp H H'):LS K H' R Q:=fun x μ v H2 S2=>h x μ v H2 (S.trans S2)
structure LE'(K:PySem.W.Frag)(H:Hp)(k:ASt->M->Prop)(r:AV->M->Prop)(b c:ASt->M->Prop)(D:Ends):Prop where
 nx:LS K H k D.nx
 rt:LV K H r D.rt
 bk:LS K H b D.bk
 ct:LS K H c D.ct
theorem LE'.kp{K:PySem.W.Frag}{H H':Hp}{k:ASt->M->Prop}{r:AV->M->Prop}{b c:ASt->M->Prop}{D:Ends}(h:LE' K H k r b c D)(S:Kp H H'):LE' K H' k r b c D:=⟨h.nx.kp S,h.rt.kp S,h.bk.kp S,h.ct.kp S⟩
def cE(K:PySem.W.Frag)(t:AE):TE:=fun σ H Q=>∃ τ μ R,StA K H τ σ/\Cn K μ H/\t τ μ R/\LV K H R Q
def cT(K:PySem.W.Frag)(t:AT):TT:=fun σ H Q=>∃ τ μ R,StA K H τ σ/\Cn K μ H/\t τ μ R/\LB K H R Q
def cA(K:PySem.W.Frag)(n:Nat)(t:AA):TA:=fun σ H Q=>∃ τ μ R,StA K H τ σ/\Cn K μ H/\t τ μ R/\LA K n H R Q
def cO(K:PySem.W.Frag)(t:AO):TO:=fun σ H Q=>∃ τ μ R,StA K H τ σ/\Cn K μ H/\t τ μ R/\LO K H R Q
def cS(K:PySem.W.Frag)(t:AS):TS:=fun D σ H=>∃ τ μ k r b c,StA K H τ σ/\Cn K μ H/\t k r b c τ μ/\LE' K H k r b c D
def cG(K:PySem.W.Frag)(t:AG):TG:=fun v σ H Q=>∃x τ μ R,RelA K H x v/\StA K H τ σ/\Cn K μ H/\t x τ μ R/\LS K H R Q
def cGs(K:PySem.W.Frag)(t:AGs):TGs:=fun vs σ H Q=>∃xs τ μ R,RelAs K H xs vs/\StA K H τ σ/\Cn K μ H/\t xs τ μ R/\LS K H R Q
def cR(K:PySem.W.Frag)(r:A2):R2:=fun x y H Q=>∃a b μ R,RelA K H a x/\RelA K H b y/\Cn K μ H/\r a b μ R/\LV K H R Q
def cC(K:PySem.W.Frag)(r:AC):List V->Hp->VK->Prop:=fun xs H Q=>∃as μ R,RelAs K H as xs/\Cn K μ H/\r as μ R/\LV K H R Q
def cM(K:PySem.W.Frag)(r:AV->AC):V->List V->Hp->VK->Prop:=fun x xs H Q=>∃a as μ R,RelA K H a x/\RelAs K H as xs/\Cn K μ H/\r a as μ R/\LV K H R Q
def VE(X:Cx)(e:Expr)(t:AE):Prop:=PE X e (cE X.K t)
def VT(X:Cx)(e:Expr)(t:AT):Prop:=PT X e (cT X.K t)
def VW(X:Cx)(e:Expr)(t:AT):Prop:=PW X e (cT X.K t)
def VA(X:Cx)(es:List Expr)(t:AA):Prop:=PA X es (cA X.K es.length t)
def VO(X:Cx)(e:Option Expr)(t:AO):Prop:=PO X e (cO X.K t)
def VS(X:Cx)(st:Stmt)(t:AS):Prop:=PS X st (cS X.K t)
def VSs(X:Cx)(st:List Stmt)(t:AS):Prop:=PSs X st (cS X.K t)
def VG(X:Cx)(e:Expr)(t:AG):Prop:=PG X e (cG X.K t)
def VGs(X:Cx)(es:List Expr)(t:AGs):Prop:=PGs X es (cGs X.K t)
def VOp(X:Cx)(f:Value->Value->Sem Value)(r:A2):Prop:=OpR X f (cR X.K r)
def VIx(X:Cx)(r:A2):Prop:=IxR X (cR X.K r)
def VCall(X:Cx)(f:Value)(r:AC):Prop:=CallR X f (cC X.K r)
def VMt(X:Cx)(id:String)(r:AV->AC):Prop:=MtR X id (cM X.K r)
section
variable {X:Cx}
theorem PE.imp{e:Expr}{t u:TE}(h:PE X e t)(i:∀ σ H Q,u σ H Q->t σ H Q):PE X e u:=fun pins s σ H Q I q=>h pins s σ H Q I (i σ H Q q)
theorem PT.imp{e:Expr}{t u:TT}(h:PT X e t)(i:∀ σ H Q,u σ H Q->t σ H Q):PT X e u:=fun pins s σ H Q I q=>h pins s σ H Q I (i σ H Q q)
theorem PW.imp{e:Expr}{t u:TT}(h:PW X e t)(i:∀ σ H Q,u σ H Q->t σ H Q):PW X e u:=fun wh pins s σ H Q I q=>h wh pins s σ H Q I (i σ H Q q)
theorem PA.imp{e:List Expr}{t u:TA}(h:PA X e t)(i:∀ σ H Q,u σ H Q->t σ H Q):PA X e u:=fun pos pins s σ H Q I q=>h pos pins s σ H Q I (i σ H Q q)
theorem PO.imp{e:Option Expr}{t u:TO}(h:PO X e t)(i:∀ σ H Q,u σ H Q->t σ H Q):PO X e u:=fun pins s σ H Q I q=>h pins s σ H Q I (i σ H Q q)
theorem PS.imp{e:Stmt}{t u:TS}(h:PS X e t)(i:∀D σ H,u D σ H->t D σ H):PS X e u:=fun pins s σ H D I q=>h pins s σ H D I (i D σ H q)
theorem PSs.imp{e:List Stmt}{t u:TS}(h:PSs X e t)(i:∀D σ H,u D σ H->t D σ H):PSs X e u:=fun pins s σ H D I q=>h pins s σ H D I (i D σ H q)
theorem PG.imp{e:Expr}{t u:TG}(h:PG X e t)(i:∀v σ H Q,u v σ H Q->t v σ H Q):PG X e u:=fun pins s σ H v w Q I r q=>h pins s σ H v w Q I r (i v σ H Q q)
theorem PGs.imp{e:List Expr}{t u:TGs}(h:PGs X e t)(i:∀v σ H Q,u v σ H Q->t v σ H Q):PGs X e u:=fun pins s σ H v w Q I r q=>h pins s σ H v w Q I r (i v σ H Q q)
def vVar(i:Nat):AE:=fun τ μ R=>match τ[i]? with
 | some (some x)=>R x μ
 | _=>False
theorem vVar_imp{K:PySem.W.Frag}{i:Nat}{σ:St}{H:Hp}{Q:VK}(h:cE K (vVar i) σ H Q):tVar i σ H Q:=by
 obtain⟨τ,μ,R,hs,hc,h,hq⟩:=h
 unfold vVar at h
 split at h
 ·rename_i x e
  obtain⟨v,ev,r⟩:=hs.get e
  exact⟨v,ev,hq _ _ _ _ Kp.refl hc r h⟩
 ·exact h.elim
theorem vv(i:Nat){x:Str}{pos:Pos}(hN:X.N[i]?=some x:=by rfl)(hv:Vis X.env.scope x:=by first | exact Or.inl rfl | exact Or.inr (Or.inl rfl) | exact Or.inr (Or.inr rfl))(hd:(x==("__debug__" : Str))=false:=by decide)
  (hcd:(x==("__classdict__" : Str))=false:=by decide):VE X (.Name x pos) (vVar i):=(pe_var hN hv hd hcd).imp fun _ _ _ h=>vVar_imp h
def vC(x:AV):AE:=fun _ μ R=>R x μ
theorem ve_const{e:Expr}{v:V}{d:PyData}(h:PE X e (tC v))(r:∀H,Dk X.K H d v):VE X e (vC (.D d)):=h.imp fun σ H Q zz1=>ex34 zz1 fun τ μ R hs hc h hq=>hq _ _ _ _ Kp.refl hc (ra_D (r H)) h
theorem ve_int{i j pos}:VE X (.Constant (.int i) j pos) (vC (.D (.int i))):=ve_const pe_int fun _=>dk_int
theorem ve_bl{b j pos}:VE X (.Constant (.bool b) j pos) (vC (.D (.bool b))):=ve_const pe_bl fun _=>dk_bl
theorem ve_non{j pos}:VE X (.Constant .none j pos) (vC (.D .none)):=ve_const pe_non fun _=>dk_non
theorem ve_str{x j pos}:VE X (.Constant (.str x) j pos) (vC (.D (.str x))):=ve_const pe_str fun _=>dk_str
theorem ve_glob{x:Str}{v:V}{u:Value}{d:PyData}{pos:Pos}(hg:Gl X x)(hm:X.mg x=some u)(r:RelV v u)(hd:∀H,Dk X.K H d v)(h1:(x==("__debug__" : Str))=false:=by decide):VE X (.Name x pos) (vC (.D d)):=ve_const (pe_glob hg hm r h1) hd
def vOp(r:A2)(ta tb:AE):AE:=fun τ μ R=>ta τ μ fun x μ1=>tb τ μ1 fun y μ2=>r x y μ2 R
theorem vOp_imp{K:PySem.W.Frag}{r:A2}{ta tb:AE}{σ:St}{H:Hp}{Q:VK}(h:cE K (vOp r ta tb) σ H Q):tOp (cR K r) (cE K ta) (cE K tb) σ H Q:=by
 obtain⟨τ,μ,R,hs,hc,h,hq⟩:=h
 exact⟨τ,μ,_,hs,hc,h,fun x μ1 v H1 S1 c1 rx hx=>⟨τ,μ1,_,hs.kp S1,c1,hx,fun y μ2 u H2 S2 c2 ry hy=>⟨x,y,μ2,R,rx.kp S2,ry,c2,hy,hq.kp (S1.trans S2)⟩⟩⟩
variable {a b c:Expr}{ta tb tc:AE}{pos:Pos}
theorem ve_op{op:Operator}{r:A2}(ho:VOp X (binaryOp op) r)(ha:VE X a ta)(hb:VE X b tb):VE X (.BinOp a op b pos) (vOp r ta tb):=(pe_op ho ha hb).imp fun _ _ _ h=>vOp_imp h
theorem ve_cmp{op:CmpOp}{r:A2}(ho:VOp X (compareOp op) r)(ha:VE X a ta)(hb:VE X b tb)(hm:behindInMarks op b=false):VE X (.Compare a [op] [b] pos) (vOp r ta tb):=(pe_cmpR ho ha hb hm).imp fun _ _ _ h=>vOp_imp h
def vTest(t:AE):AT:=fun τ μ R=>t τ μ fun x μ1=>match x with
 | .D (.bool k)=>R k μ1
 | _=>False
theorem vTest_imp{K:PySem.W.Frag}{t:AE}{u:TE}(hu:∀ σ H Q,cE K t σ H Q->u σ H Q){σ:St}{H:Hp}{Q:Bool->Hp->Prop}(h:cT K (vTest t) σ H Q):tTest u σ H Q:=by
 obtain⟨τ,μ,R,hs,hc,h,hq⟩:=h
 refine hu _ _ _ ⟨τ,μ,_,hs,hc,h,fun x μ1 v H1 S1 c1 rx hx=>?_⟩
 split at hx
 ·cases RelA.bl rx
  exact⟨_,rfl,hq _ _ _ S1 c1 hx⟩
 ·exact hx.elim
theorem vt_cmp{op:CmpOp}{r:A2}(ho:VOp X (compareOp op) r)(ha:VE X a ta)(hb:VE X b tb)(hm:behindInMarks op b=false):VT X (.Compare a [op] [b] pos) (vTest (vOp r ta tb)) :=
 (pt_cmpR ho ha hb hm).imp fun _ _ _ h=>vTest_imp (fun _ _ _ q=>vOp_imp q) h
theorem vt_val{e:Expr}{t:AE}(h:VE X e t)(he:∀whole,isTrue e X.env whole=(do let v <- whole;standAt e.pos;holding [v] (truthy v)):=by intro _;rfl):VT X e (vTest t) :=
 (pt_val h he).imp fun _ _ _ h=>by
  have h:=vTest_imp (fun _ _ _ q=>q) h
  exact h
def vAnd(t u:AT):AT:=fun τ μ R=>t τ μ fun k μ1=>brP k (u τ μ1 R) (R false μ1)
def vOr(t u:AT):AT:=fun τ μ R=>t τ μ fun k μ1=>brP k (R true μ1) (u τ μ1 R)
theorem VW.pt{e:Expr}{t:AT}(h:VW X e t):VT X e t:=PW.pt h
variable {rest:List Expr}{tA tB':AT}
theorem vw_and1(ha:VT X a tA):VW X (.BoolOp .And [a] pos) tA:=pw_and1 ha
theorem vw_or1(ha:VT X a tA):VW X (.BoolOp .Or [a] pos) tA:=pw_or1 ha
theorem vw_and(ha:VT X a tA)(hb:VW X (.BoolOp .And (b :: rest) pos) tB'):VW X (.BoolOp .And (a :: b :: rest) pos) (vAnd tA tB') :=
 (pw_and ha hb).imp fun σ H Q zz3=>ex34 zz3 fun τ μ R hs hc h hq=>⟨τ,μ,_,hs,hc,h,fun k μ1 H1 S1 c1 hk=>by
  rcases br_e hk with⟨rfl,hk'⟩ | ⟨rfl,hk'⟩
  ·exact⟨τ,μ1,R,hs.kp S1,c1,hk',hq.kp S1⟩
  ·exact hq _ _ _ S1 c1 hk'⟩
theorem vw_or(ha:VT X a tA)(hb:VW X (.BoolOp .Or (b :: rest) pos) tB'):VW X (.BoolOp .Or (a :: b :: rest) pos) (vOr tA tB') :=
 (pw_or ha hb).imp fun σ H Q zz4=>ex34 zz4 fun τ μ R hs hc h hq=>⟨τ,μ,_,hs,hc,h,fun k μ1 H1 S1 c1 hk=>by
  rcases br_e hk with⟨rfl,hk'⟩ | ⟨rfl,hk'⟩
  ·exact hq _ _ _ S1 c1 hk'
  ·exact⟨τ,μ1,R,hs.kp S1,c1,hk',hq.kp S1⟩⟩
theorem ve_one{op}{t:AE}(h:VE X a t):VE X (.BoolOp op [a] pos) t:=pe_one h
def vAndV(ta tb:AE):AE:=fun τ μ R=>ta τ μ fun x μ1=>match x with
 | .D (.bool k)=>brP k (tb τ μ1 R) (R (.D (.bool false)) μ1)
 | _=>False
theorem ve_and(ha:VE X a ta)(hb:VE X (.BoolOp .And (b :: rest) pos) tb):VE X (.BoolOp .And (a :: b :: rest) pos) (vAndV ta tb) :=
 (pe_and ha hb).imp fun σ H Q zz6=>ex34 zz6 fun τ μ R hs hc h hq=>⟨τ,μ,_,hs,hc,h,fun x μ1 v H1 S1 c1 rx hk=>by
  split at hk
  ·cases RelA.bl rx
   rcases br_e hk with⟨rfl,hk'⟩ | ⟨rfl,hk'⟩
   ·exact⟨true,rfl,⟨τ,μ1,R,hs.kp S1,c1,hk',hq.kp S1⟩⟩
   ·exact⟨false,rfl,hq _ _ _ _ S1 c1 ra_bl hk'⟩
  ·exact hk.elim⟩
def vIf(t:AT)(ta tb:AE):AE:=fun τ μ R=>t τ μ fun k μ1=>brP k (ta τ μ1 R) (tb τ μ1 R)
theorem ve_ifExp(hc:VT X c tA)(ha:VE X a ta)(hb:VE X b tb):VE X (.IfExp c a b pos) (vIf tA ta tb) :=
 (pe_ifExp hc ha hb).imp fun σ H Q zz9=>ex34 zz9 fun τ μ R hs hc h hq=>⟨τ,μ,_,hs,hc,h,fun k μ1 H1 S1 c1 hk=>by
  rcases br_e hk with⟨rfl,hk'⟩ | ⟨rfl,hk'⟩
  ·exact⟨τ,μ1,R,hs.kp S1,c1,hk',hq.kp S1⟩
  ·exact⟨τ,μ1,R,hs.kp S1,c1,hk',hq.kp S1⟩⟩
def vNil:AA:=fun _ μ R=>R [] μ
def vCons(ta:AE)(tr:AA):AA:=fun τ μ R=>ta τ μ fun x μ1=>tr τ μ1 fun xs μ2=>R (x :: xs) μ2
theorem va_nil:VA X [] vNil:=pa_nil.imp fun σ H Q zz10=>ex34 zz10 fun τ μ R hs hc h hq=>hq [] μ [] H Kp.refl hc .nil rfl h
theorem va_cons{e:Expr}{es:List Expr}{te:AE}{t:AA}(ha:VE X e te)(hr:VA X es t)(hs:starEach (e :: es) X.env=(false,eval e X.env) :: starEach es X.env:=by rfl):VA X (e :: es) (vCons te t) :=
 (pa_cons ha hr hs).imp fun σ H Q zz11=>ex34 zz11 fun τ μ R hs hc h hq=>⟨τ,μ,_,hs,hc,h,fun x μ1 v H1 S1 c1 rx hx=>⟨τ,μ1,_,hs.kp S1,c1,hx,fun xs μ2 vs H2 S2 c2 rs hl hxs =>
  hq (x :: xs) μ2 (v :: vs) H2 (S1.trans S2) c2 (.cons (rx.kp S2) rs) (by rw [List.length_cons,hl];rfl) hxs⟩⟩
def vTup(t:AA):AE:=fun τ μ R=>t τ μ fun xs μ1=>match dats xs with
 | some ds=>R (.D (.tuple ds)) μ1
 | none=>False
def vLst(t:AA):AE:=fun τ μ R=>t τ μ fun xs μ1=>∀p,μ1 p=none->R (.R p) (updM μ1 p (.lst xs))
variable {es:List Expr}{t:AA}
theorem ve_tup{k:Nat}(h:VA X es t)(hn:es.length<=sizeLine:=by decide):VE X (.Tuple es k pos) (vTup t) :=
 (pe_tup h).imp fun σ H Q zz12=>ex34 zz12 fun τ μ R hs hc h hq=>⟨τ,μ,_,hs,hc,h,fun xs μ1 vs H1 S1 c1 rs hl hx=>⟨by rw [<- rs.length,hl];exact hn,fun p hp=>by
  split at hx
  ·rename_i ds e
   refine hq _ _ _ _ (S1.trans (Kp.new hp _)) (c1.over hp) ?_ hx
   exact dk_tup upd_same (DkAll.kp (Kp.new hp _) _ _ (rs.dats e))
  ·exact hx.elim⟩⟩
theorem ve_lst(h:VA X es t)(hn:es.length<=sizeLine:=by decide):VE X (.List es pos) (vLst t) :=
 (pe_lst h).imp fun σ H Q zz13=>ex34 zz13 fun τ μ R hs hc h hq=>⟨τ,μ,_,hs,hc,h,fun xs μ1 vs H1 S1 c1 rs hl hx=>⟨by rw [<- rs.length,hl];exact hn,fun p hp =>
  hq _ _ _ _ (S1.trans (Kp.new hp _)) (c1.new hp (rm_lst (rs))) ra_ref (hx p (c1.none hp))⟩⟩
mutual
theorem Dk.reads{pins:List (Addr×Obj)}{σ:St}{H:Hp}{s:Shared}(I:Inv X pins σ H s):∀(d:PyData) (x:V) (u:Value),Dk X.K H d x->RelV x u->∃as,Reads s.heap u d as
 | .none,x,u,h,r=>by cases h.non;cases r;exact⟨_,.none⟩
 | .bool b,x,u,h,r=>by cases h.bl;cases r;exact⟨_,.bool b⟩
 | .int i,x,u,h,r=>by cases h.int;obtain⟨t,rfl⟩:=r;exact⟨_,.int i t⟩
 | .str z,x,u,h,r=>by cases h.str;obtain⟨t,rfl⟩:=r;exact⟨_,.str z t⟩
 | .list ds,x,u,h,r=>by
  obtain⟨a,xs,rfl,q,k⟩:=h.lst
  cases r
  obtain⟨its,rv,⟨o,n,e,c,_,d⟩,_⟩:=I.list q.sq
  obtain⟨as,ra⟩:=DkAll.reads I ds xs its k rv
  exact⟨_,.list e c d (by simpa using ra)⟩
 | .tuple ds,x,u,h,r=>by
  obtain⟨a,xs,rfl,q,k⟩:=h.tup
  cases r
  obtain⟨its,rv,⟨o,e,c,n,d⟩,_⟩:=I.tuple q.sq
  obtain⟨as,ra⟩:=DkAll.reads I ds xs its k rv
  exact⟨_,.tuple e c d (by simpa using ra)⟩
 | .dict _,x,u,h,_=>by simp only [Dk]at h
theorem DkAll.reads{pins:List (Addr×Obj)}{σ:St}{H:Hp}{s:Shared}(I:Inv X pins σ H s):∀(ds:List PyData) (xs:List V) (us:List Value),DkAll X.K H ds xs->Vals xs us->∃as,ReadsAll s.heap us ds as
 | [],xs,us,h,r=>by
  have e:=h.nil
  subst e
  cases r
  exact⟨_,.nil⟩
 | d :: ds,xs,us,h,r=>by
  obtain⟨x,xr,rfl,h1,h2⟩:=h.cons
  cases r with
  | cons r1 r2 =>
   obtain⟨as,ra⟩:=Dk.reads I d x _ h1 r1
   obtain⟨bs,rb⟩:=DkAll.reads I ds xr _ h2 r2
   exact⟨_,.cons ra rb⟩
end
def see(μ:M):AV->Option PyData
 | .X _ _=>none
 | .D d=>some d
 | .C ds=>some (.tuple ds)
 | .R a=>match μ a with
  | some (.lst xs)=>match dats xs with
   | some ds=>some (.list ds)
   | none=>none
  | _=>none
@[simp] theorem see_D {μ:M} {d:PyData}:see μ (.D d)=some d:=rfl
theorem see_reads{pins:List (Addr×Obj)}{σ:St}{H:Hp}{s:Shared}{μ:M}{x:AV}{v:V}{u:Value}{d:PyData}(I:Inv X pins σ H s)(hc:Cn X.K μ H)(rx:RelA X.K H x v)(r:RelV v u)(e:see μ x=some d):∃as,Reads s.heap u d as:=by
 cases x with
 | X C fs=>cases e
 | D d'=>cases e;exact Dk.reads I _ _ _ rx r
 | C ds =>
  cases e
  obtain⟨a,xs,rfl,q,k⟩:=rx
  cases r
  obtain⟨its,rv,⟨o,e,c,n,d⟩,_⟩:=I.tuple (q H)
  obtain⟨as,ra⟩:=DkAll.reads I ds xs its k rv
  exact⟨_,.tuple e c d (by simpa using ra)⟩
 | R a =>
  dsimp only [see]at e
  split at e
  ·rename_i xs ex
   split at e
   ·rename_i ds ed
    cases e
    cases (show v=.ref a from rx)
    cases r
    obtain⟨o,ho,vs,rfl,rs⟩:=hc a _ ex
    obtain⟨its,rv,⟨o,n,e,c,_,dd⟩,_⟩:=I.list (SqL.of ho)
    obtain⟨as,ra⟩:=DkAll.reads I ds vs its (rs.dats ed) rv
    exact⟨_,.list e c dd (by simpa using ra)⟩
   ·cases e
  ·cases e
def EqOk(d:PyData):Prop:=d.canLay0=true/\d.depth<=64
def aEq:A2:=fun x y μ R=>match x,y with
 | .D d,.D e=>EqOk d/\EqOk e/\R (.D (.bool (PyData.eqv d e))) μ
 | x,y=>opt (see μ x) fun d=>opt (see μ y) fun e=>EqOk d/\EqOk e/\R (.D (.bool (PyData.eqv d e))) μ
theorem aEq_opt{x y:AV}{μ:M}{R:AV->M->Prop}(h:aEq x y μ R):∃d e,see μ x=some d/\see μ y=some e/\EqOk d/\EqOk e/\R (.D (.bool (PyData.eqv d e))) μ:=by
 have g:∀(h:opt (see μ x) fun d=>opt (see μ y) fun e=>EqOk d/\EqOk e/\R (.D (.bool (PyData.eqv d e))) μ),∃d e,see μ x=some d/\see μ y=some e/\EqOk d/\EqOk e/\R (.D (.bool (PyData.eqv d e))) μ:=by
  intro h
  obtain⟨d,ed,h⟩:=opt_e h
  obtain⟨e,ee,h⟩:=opt_e h
  exact⟨d,e,ed,ee,h⟩
 cases x with
 | D d =>
  cases y with
  | D e=>exact⟨_,_,rfl,rfl,h⟩
  | _=>exact g h
 | _=>exact g h
def aNe:A2:=fun x y μ R=>match x,y with
 | .D d,.D e=>EqOk d/\EqOk e/\R (.D (.bool (!PyData.eqv d e))) μ
 | x,y=>opt (see μ x) fun d=>opt (see μ y) fun e=>EqOk d/\EqOk e/\R (.D (.bool (!PyData.eqv d e))) μ
theorem aNe_opt{x y:AV}{μ:M}{R:AV->M->Prop}(h:aNe x y μ R):∃d e,see μ x=some d/\see μ y=some e/\EqOk d/\EqOk e/\R (.D (.bool (!PyData.eqv d e))) μ:=by
 unfold aNe at h
 split at h
 ·exact⟨_,_,rfl,rfl,h⟩
 ·obtain⟨d,ed,h⟩:=opt_e h
  obtain⟨e,ee,h⟩:=opt_e h
  exact⟨d,e,ed,ee,h⟩
variable {k:Nat}
theorem o_eq(hr:Room k X.A):VOp X (compareOp .Eq) aEq:=by
 intro pins s σ H x y v u Q I rx ry zz14
 refine ex45 zz14 fun a b μ R ra rb hc h hq=>?_
 obtain⟨d,e,ed,ee,h⟩:=aEq_opt h
 ·obtain⟨as,r1⟩:=see_reads I hc ra rx ed
  obtain⟨bs,r2⟩:=see_reads I hc rb ry ee
  have hu:=hr.un
  have:=h.1.2
  exact SeqAt.compareEq_reads r1 r2 h.1.1 h.2.1.1 (by omega) ⟨.bl _,H,I,rfl,hq _ _ _ _ Kp.refl hc ra_bl h.2.2⟩
theorem o_ne(hr:Room k X.A):VOp X (compareOp .NotEq) aNe:=by
 intro pins s σ H x y v u Q I rx ry zz15
 refine ex45 zz15 fun a b μ R ra rb hc h hq=>?_
 obtain⟨d,e,ed,ee,h⟩:=aNe_opt h
 ·obtain⟨as,r1⟩:=see_reads I hc ra rx ed
  obtain⟨bs,r2⟩:=see_reads I hc rb ry ee
  have hu:=hr.un
  have:=h.1.2
  exact SeqAt.compareNe_reads r1 r2 h.1.1 h.2.1.1 (by omega) ⟨.bl _,H,I,rfl,hq _ _ _ _ Kp.refl hc ra_bl h.2.2⟩
def keyOf:PyData->Option Key
 | .int i=>some (.inl i)
 | .str z=>some (.inr z)
 | _=>none
def items(μ:M):AV->Option (List AV)
 | .D (.tuple ds)=>some (ds.map .D)
 | .C ds=>some (ds.map .D)
 | .D (.list ds)=>some (ds.map .D)
 | .R a=>match μ a with
  | some (.lst xs)=>some xs
  | _=>none
 | _=>none
theorem items_seq{H:Hp}{μ:M}{x:AV}{v:V}{xs:List AV}(hc:Cn X.K μ H)(rx:RelA X.K H x v)(e:items μ x=some xs):∃p vs,v=.ref p/\(SqL X.K H p vs\/SqT X.K H p vs)/\RelAs X.K H xs vs:=by
 unfold items at e
 split at e
 ·cases e;obtain⟨a,vs,rfl,q,r⟩:=RelA.tup rx;exact⟨a,vs,rfl,.inr q.sq,r.rel⟩
 ·cases e;obtain⟨a,vs,rfl,q,r⟩:=rx;exact⟨a,vs,rfl,.inr (q H),r.rel⟩
 ·cases e;obtain⟨a,vs,rfl,q,r⟩:=RelA.lst rx;exact⟨a,vs,rfl,.inl q.sq,r.rel⟩
 ·split at e
  ·rename_i ys ey
   cases e
   obtain⟨o,ho,vs,rfl,rs⟩:=hc _ _ ey
   exact⟨_,vs,rx,.inl (SqL.of ho),rs⟩
  ·cases e
 ·cases e
def isT:AV->Bool
 | .D (.tuple _)=>true
 | .C _=>true
 | _=>false
theorem items_kind{H:Hp}{μ:M}{x:AV}{v:V}{xs:List AV}(hc:Cn X.K μ H)(rx:RelA X.K H x v)(e:items μ x=some xs):∃p vs,v=.ref p/\((isT x=false/\SqL X.K H p vs)\/(isT x=true/\SqT X.K H p vs))/\RelAs X.K H xs vs:=by
 unfold items at e
 split at e
 ·cases e;obtain⟨a,vs,rfl,q,r⟩:=RelA.tup rx;exact⟨a,vs,rfl,.inr ⟨rfl,q.sq⟩,r.rel⟩
 ·cases e;obtain⟨a,vs,rfl,q,r⟩:=rx;exact⟨a,vs,rfl,.inr ⟨rfl,q H⟩,r.rel⟩
 ·cases e;obtain⟨a,vs,rfl,q,r⟩:=RelA.lst rx;exact⟨a,vs,rfl,.inl ⟨rfl,q.sq⟩,r.rel⟩
 ·split at e
  ·rename_i ys ey
   cases e
   obtain⟨o,ho,vs,rfl,rs⟩:=hc _ _ ey
   exact⟨_,vs,rx,.inl ⟨rfl,SqL.of ho⟩,rs⟩
  ·cases e
 ·cases e
def aIn(nb:Bool->Bool):A2:=fun x y μ R=>match y with
 | .D (.str j)=>match x with
  | .D (.str i)=>R (.D (.bool (nb (!(Builtin.Str.occurrences j i 0 j.length 1).isEmpty)))) μ
  | _=>False
 | .C ds=>opt (see μ x) fun d=>EqOk d/\EqOk (.tuple ds)/\R (.D (.bool (nb (ds.any fun e=>PyData.eqv e d)))) μ
 | .D (.tuple ds)=>opt (see μ x) fun d=>EqOk d/\EqOk (.tuple ds)/\R (.D (.bool (nb (ds.any fun e=>PyData.eqv e d)))) μ
 | y=>opt (see μ x) fun d=>opt (items μ y) fun ys=>opt (dats ys) fun ds=>EqOk d/\EqOk (.tuple ds)/\R (.D (.bool (nb (ds.any fun e=>PyData.eqv e d)))) μ
theorem aIn_opt{nb:Bool->Bool}{x y:AV}{μ:M}{R:AV->M->Prop}(h:aIn nb x y μ R)(hn:∀z,y≠.D (.str z)):∃d ys ds,see μ x=some d/\items μ y=some ys/\dats ys=some ds/\EqOk d/\EqOk (.tuple ds)/\R (.D (.bool (nb (ds.any fun e=>PyData.eqv e d)))) μ:=by
 unfold aIn at h
 split at h
 ·exact absurd rfl (hn _)
 ·obtain⟨d,ed,h⟩:=opt_e h
  exact⟨d,_,_,ed,rfl,dats_map _,h⟩
 ·obtain⟨d,ed,h⟩:=opt_e h
  exact⟨d,_,_,ed,rfl,dats_map _,h⟩
 ·obtain⟨d,ed,h⟩:=opt_e h
  obtain⟨ys,ey,h⟩:=opt_e h
  obtain⟨ds,eds,h⟩:=opt_e h
  exact⟨d,ys,ds,ed,ey,eds,h⟩
theorem eqOk_all{ds:List PyData}(h:EqOk (.tuple ds)):PyData.canLayAll0 ds=true/\PyData.depthAll ds<=64:=by
 obtain⟨h1,h2⟩:=h
 simp only [PyData.canLay0]at h1
 simp only [PyData.depth]at h2
 exact⟨h1,by omega⟩
theorem o_in(hr:Room k X.A):VOp X (compareOp .In) (aIn fun b=>b):=by
 intro pins s σ H x y v u Q I rx ry zz16
 refine ex45 zz16 fun a b μ R ra rb hc h hq=>?_
 by_cases hb:∃z,b=.D (.str z)
 ·obtain⟨z,rfl⟩:=hb
  unfold aIn at h
  dsimp only at h
  split at h
  ·cases RelA.str ra;cases RelA.str rb
   exact op_in_str pins s σ H _ _ v u Q I rx ry ⟨_,_,rfl,rfl,hq _ _ _ _ Kp.refl hc ra_bl h⟩
  ·exact h.elim
 ·obtain⟨d,ys,ds,ed,ey,eds,h⟩:=aIn_opt h fun z e=>hb ⟨z,e⟩
  ·skip
   obtain⟨ok1,ok2,h⟩:=h
   obtain⟨as,r1⟩:=see_reads I hc ra rx ed
   obtain⟨p,vs,rfl,hp,rs⟩:=items_seq hc rb ey
   cases ry
   obtain⟨c1,c2⟩:=eqOk_all ok2
   have hs:=rs.dats eds
   have hu:=hr.un
   have q:=hq _ _ _ _ Kp.refl hc ra_bl h
   rcases hp with hp | hp
   ·obtain⟨its,r,pl,hz⟩:=I.list hp
    obtain⟨bs,rb⟩:=DkAll.reads I ds vs its hs r
    have e:=fun A=>items_eqR (A:=A) r1 ok1.1
    refine SeqAt.in_listAt (eqR s.heap d) pl.isList (fun w hw=>(e _ (by first | (show X.A.units+64 < _;omega) | (show X.A.units+1+64 < _;omega) | (show X.A.units+1+1+64 < _;omega)) rb c1 c2).1 w (by simpa using hw)) ⟨.bl _,H,I,rfl,?_⟩
    rw [show its.toArray.any (eqR s.heap d)=its.any (eqR s.heap d) by simp,(e X.A (by omega) rb c1 c2).2]
    exact q
   ·obtain⟨its,r,pl,hz⟩:=I.tuple hp
    obtain⟨bs,rb⟩:=DkAll.reads I ds vs its hs r
    have e:=fun A=>items_eqR (A:=A) r1 ok1.1
    refine SeqAt.in_tupleAt (eqR s.heap d) pl (fun w hw=>(e _ (by first | (show X.A.units+64 < _;omega) | (show X.A.units+1+64 < _;omega) | (show X.A.units+1+1+64 < _;omega)) rb c1 c2).1 w (by simpa using hw)) ⟨.bl _,H,I,rfl,?_⟩
    rw [show its.toArray.any (eqR s.heap d)=its.any (eqR s.heap d) by simp,(e X.A (by omega) rb c1 c2).2]
    exact q
def aIsN:A2:=fun x y μ R=>match x,y with
 | .D .none,.D .none=>R (.D (.bool true)) μ
 | _,.D .none=>R (.D (.bool false)) μ
 | _,_=>False
def aNotN:A2:=fun x y μ R=>match x,y with
 | .D .none,.D .none=>R (.D (.bool false)) μ
 | _,.D .none=>R (.D (.bool true)) μ
 | _,_=>False
theorem relA_non{K:PySem.W.Frag}{H:Hp}{x:AV}(h:RelA K H x .non):x=.D .none:=by
 cases x with
 | R a=>cases (show V.non=.ref a from h)
 | C ds=>obtain⟨_,_,e,_⟩:=h;cases e
 | X C fs=>obtain⟨_,_,_,e,_⟩:=h;cases e
 | D d =>
  cases d with
  | none=>rfl
  | bool b=>cases RelA.bl h
  | int b=>cases RelA.int h
  | str b=>cases RelA.str h
  | list b=>obtain⟨_,_,e,_⟩:=RelA.lst h;cases e
  | tuple b=>obtain⟨_,_,e,_⟩:=RelA.tup h;cases e
  | dict b=>exact absurd h (by simp only [RelA,Dk];exact id)
theorem o_isN:VOp X (compareOp .Is) aIsN:=by
 intro pins s σ H x y v u Q I rx ry zz18
 refine ex45 zz18 fun a b μ R ra rb hc h hq=>?_
 unfold aIsN at h
 split at h
 ·cases RelA.non ra;cases RelA.non rb
  exact op_isN pins s σ H _ _ v u Q I rx ry ⟨rfl,hq _ _ _ _ Kp.refl hc ra_bl h⟩
 ·rename_i ne
  cases RelA.non rb
  refine op_isN pins s σ H _ _ v u Q I rx ry ⟨rfl,hq _ _ _ _ Kp.refl hc ?_ h⟩
  have:x≠.non:=by intro e;subst e;exact ne (relA_non ra)
  rw [decide_eq_false this];exact ra_bl
 ·exact h.elim
theorem o_notN:VOp X (compareOp .IsNot) aNotN:=by
 intro pins s σ H x y v u Q I rx ry zz19
 refine ex45 zz19 fun a b μ R ra rb hc h hq=>?_
 unfold aNotN at h
 split at h
 ·cases RelA.non ra;cases RelA.non rb
  exact op_notN pins s σ H _ _ v u Q I rx ry ⟨rfl,hq _ _ _ _ Kp.refl hc ra_bl h⟩
 ·rename_i ne
  cases RelA.non rb
  refine op_notN pins s σ H _ _ v u Q I rx ry ⟨rfl,hq _ _ _ _ Kp.refl hc ?_ h⟩
  have:x≠.non:=by intro e;subst e;exact ne (relA_non ra)
  rw [decide_eq_false this];exact ra_bl
 ·exact h.elim
def aI(C:Int->Int->Prop)(g:Int->Int->PyData):A2:=fun x y μ R=>match x,y with
 | .D (.int i),.D (.int j)=>C i j/\R (.D (g i j)) μ
 | _,_=>False
def aI0(g:Int->Int->PyData):A2:=fun x y μ R=>match x,y with
 | .D (.int i),.D (.int j)=>R (.D (g i j)) μ
 | _,_=>False
theorem o_I{f:Value->Value->Sem Value}{C:Int->Int->Prop}{g:Int->Int->V}{g':Int->Int->PyData}(h:OpR X f (rI C g))(hg:∀i j H,Dk X.K H (g' i j) (g i j)):VOp X f (aI C g'):=by
 intro pins s σ H x y v u Q I rx ry zz20
 refine ex45 zz20 fun a b μ R ra rb hc h' hq=>?_
 cases a with
 | D d =>
  cases d with
  | int i =>
   cases b with
   | D e =>
    cases e with
    | int j =>
     cases RelA.int ra;cases RelA.int rb
     exact h pins s σ H _ _ v u Q I rx ry ⟨_,_,rfl,rfl,h'.1,hq _ _ _ _ Kp.refl hc (ra_D (hg _ _ _)) h'.2⟩
    | _=>exact False.elim h'
   | _=>exact False.elim h'
  | _=>exact False.elim h'
 | _=>exact False.elim h'
theorem o_I0{f:Value->Value->Sem Value}{g:Int->Int->V}{g':Int->Int->PyData}(h:OpR X f (rI0 g))(hg:∀i j H,Dk X.K H (g' i j) (g i j)):VOp X f (aI0 g'):=by
 intro pins s σ H x y v u Q I rx ry zz21
 refine ex45 zz21 fun a b μ R ra rb hc h' hq=>?_
 cases a with
 | D d =>
  cases d with
  | int i =>
   cases b with
   | D e =>
    cases e with
    | int j =>
     cases RelA.int ra;cases RelA.int rb
     exact h pins s σ H _ _ v u Q I rx ry ⟨_,_,rfl,rfl,hq _ _ _ _ Kp.refl hc (ra_D (hg _ _ _)) h'⟩
    | _=>exact False.elim h'
   | _=>exact False.elim h'
  | _=>exact False.elim h'
 | _=>exact False.elim h'
abbrev aSub:A2:=aI0 fun i j=>.int (i - j)
abbrev aFdiv:A2:=aI CDiv fun i j=>.int (i / j)
abbrev aMod:A2:=aI (fun _ j=>0 < j) fun i j=>.int (i % j)
abbrev aPow:A2:=aI CPow fun i j=>.int (i ^ j.toNat)
abbrev aLt:A2:=aI0 fun i j=>.bool (decide (i < j))
abbrev aGt:A2:=aI0 fun i j=>.bool (decide (j < i))
abbrev aGe:A2:=aI0 fun i j=>.bool (decide (j<=i))
theorem o_sub:VOp X (binaryOp .Sub) aSub:=o_I0 op_sub fun _ _ _=>dk_int
theorem o_fdiv:VOp X (binaryOp .FloorDiv) aFdiv:=o_I op_fdiv fun _ _ _=>dk_int
theorem o_mod:VOp X (binaryOp .Mod) aMod:=o_I op_mod fun _ _ _=>dk_int
theorem o_pow:VOp X (binaryOp .Pow) aPow:=o_I op_pow fun _ _ _=>dk_int
theorem o_lt:VOp X (compareOp .Lt) aLt:=o_I0 op_lt fun _ _ _=>dk_bl
theorem o_gt:VOp X (compareOp .Gt) aGt:=o_I0 op_gt fun _ _ _=>dk_bl
theorem o_ge:VOp X (compareOp .GtE) aGe:=o_I0 op_ge fun _ _ _=>dk_bl
def aMul:A2:=fun x y μ R=>match x,y with
 | .D (.int i),.D (.int j)=>CMul i j/\R (.D (.int (i * j))) μ
 | .D (.str z),.D (.int n)=>(n=0\/n=1)/\R (.D (.str (if n=0 then Str.empty else z))) μ
 | _,_=>False
theorem o_mul:VOp X (binaryOp .Mult) aMul:=by
 intro pins s σ H x y v u Q I rx ry zz22
 refine ex45 zz22 fun a b μ R ra rb hc h hq=>?_
 cases a with
 | D d =>
  cases d with
  | int i =>
   cases b with
   | D e =>
    cases e with
    | int j =>
     cases RelA.int ra;cases RelA.int rb
     exact op_mul pins s σ H _ _ v u Q I rx ry ⟨_,_,rfl,rfl,h.1,hq _ _ _ _ Kp.refl hc ra_int h.2⟩
    | _=>exact False.elim h
   | _=>exact False.elim h
  | str z =>
   cases b with
   | D e =>
    cases e with
    | int j =>
     cases RelA.str ra;cases RelA.int rb
     exact op_mul_str01 pins s σ H _ _ v u Q I rx ry ⟨_,_,rfl,rfl,h.1,hq _ _ _ _ Kp.refl hc ra_str h.2⟩
    | _=>exact False.elim h
   | _=>exact False.elim h
  | _=>exact False.elim h
 | _=>exact False.elim h
def aAdd:A2:=fun x y μ R=>match x,y with
 | .D (.int i),.D (.int j)=>R (.D (.int (i+j))) μ
 | .D (.str i),.D (.str j)=>i.length+j.length<=sizeLine/\R (.D (.str (i++j))) μ
 | .D (.tuple i),.D (.tuple j)=>i.length+j.length<=sizeLine/\R (.D (.tuple (i++j))) μ
 | .R i,.R j=>opt (μ i) fun m=>opt (μ j) fun n=>match m,n with
  | .lst xs,.lst ys=>xs.length+ys.length<=sizeLine/\∀p,μ p=none->R (.R p) (updM μ p (.lst (xs++ys)))
  | _,_=>False
 | _,_=>False
theorem catK{K:PySem.W.Frag}{pins:List (Addr×Obj)}{σ:St}{H:Hp}{s:Shared}{v u:Value}{x y:V}{ds es:List PyData}{Q:VK}(hK:X.K=K)(I:Inv X pins σ H s)(rx:RelV x v)(ry:RelV y u)(hx:Dk K H (.tuple ds) x)(hy:Dk K H (.tuple es) y)
  (hz:ds.length+es.length<=sizeLine) (q:∀z H',Kp H H'->(∀ μ,Cn K μ H->Cn K μ H')->Dk K H' (.tuple (ds++es)) z->Q z H'):wpAny (model X.prog X.w) X.A (binaryOp .Add v u) (EP X pins σ Q) X.xe s:=by
 subst hK
 obtain⟨a,xs,rfl,ha,hxs⟩:=hx.tup
 obtain⟨b,ys,rfl,hb,hys⟩:=hy.tup
 cases rx
 cases ry
 obtain⟨its,r1,p1,_⟩:=I.tuple ha.sq
 obtain⟨its2,r2,p2,_⟩:=I.tuple hb.sq
 have l1:=hxs.length
 have l2:=hys.length
 by_cases hv:xs=[]
 ·subst hv
  have e:its=[]:=r1.nil_iff.mpr rfl
  subst e
  have ed:ds=[]:=List.length_eq_zero_iff.mp l1.symm
  subst ed
  obtain⟨⟨cls,dd,data,sl⟩,ho,hc,n,hd⟩:=id p1
  obtain⟨⟨cls2,dd2,data2,sl2⟩,ho2,hc2,n2,hd2⟩:=id p2
  simp only at hc hd hc2 hd2
  subst hc hd hc2 hd2
  exact concat_meets ⟨_,ho,rfl⟩ ⟨_,ho2,rfl⟩ noFill_tuple_add seq_tuple_add PySem.F.slot_tuple_add PySem.F.entry_tuple_add (PySem.F.args_tuple_add_2 _ _)
   (tuple_addW0 a b [].toArray its2.toArray n n2 dd dd2 sl sl2 rfl) ⟨ho,ho2,.ref b,H,I,rfl,q _ _ Kp.refl (fun _ c=>c) (by simpa using hy)⟩
 ·refine HT.cat_tup p1 p2 (fun z=>hv (r1.nil_iff.mp z)) (fun z=>⟨.ref a,H,I,rfl,q _ _ Kp.refl (fun _ c=>c) ?_⟩) (fun z=>?_) (by rw [<- r1.length,<- r2.length,l1,l2];exact hz)
  ·have e:ys=[]:=r2.nil_iff.mp z
   subst e
   have ed:es=[]:=List.length_eq_zero_iff.mp l2.symm
   subst ed
   simpa using hx
  ·have hf:=I.hok.fresh (Nat.le_refl s.heap.objs.size)
   refine⟨.ref s.heap.objs.size,_,I.laid (t':=s.toks) (o:=.tup (xs++ys)) (fun b ob q=>Heap.get?_push_of_some _ q) (Nat.le_refl _) ?_,rfl,q _ _ (Kp.new hf _) (fun _ c=>c.over hf) ?_⟩
   ·exact⟨by rw [List.length_append,l1,l2];exact hz,_,r1.append r2,IsTup.new _ _⟩
   ·exact dk_tup upd_same (DkAll.kp (Kp.new hf _) _ _ (hxs.append hys))
theorem o_add:VOp X (binaryOp .Add) aAdd:=by
 intro pins s σ H x y v u Q I rx ry zz23
 refine ex45 zz23 fun a b μ R ra rb hc h hq=>?_
 cases a with
 | D d =>
  cases d with
  | int i =>
   cases b with
   | D e =>
    cases e with
    | int j =>
     cases RelA.int ra;cases RelA.int rb
     exact op_add pins s σ H _ _ v u Q I rx ry ⟨_,_,rfl,rfl,hq _ _ _ _ Kp.refl hc ra_int h⟩
    | _=>exact False.elim h
   | _=>exact False.elim h
  | str z =>
   cases b with
   | D e =>
    cases e with
    | str j =>
     cases RelA.str ra;cases RelA.str rb
     exact op_add_str pins s σ H _ _ v u Q I rx ry ⟨_,_,rfl,rfl,h.1,hq _ _ _ _ Kp.refl hc ra_str h.2⟩
    | _=>exact False.elim h
   | _=>exact False.elim h
  | tuple ds =>
   cases b with
   | D e =>
    cases e with
    | tuple es=>exact catK rfl I rx ry ra rb h.1 fun z H' S c hd=>hq _ _ _ _ S (c _ hc) (ra_D hd) h.2
    | _=>exact False.elim h
   | _=>exact False.elim h
  | _=>exact False.elim h
 | R i =>
  cases b with
  | R j =>
   obtain⟨m,ei,h⟩:=opt_e h
   obtain⟨n,ej,h⟩:=opt_e h
   cases m with
   | lst xs =>
    cases n with
    | lst ys =>
     cases (show x=.ref i from ra);cases (show y=.ref j from rb)
     obtain⟨o,ho,vs,rfl,rs⟩:=hc i _ ei
     obtain⟨o',ho',ws,rfl,rs'⟩:=hc j _ ej
     exact op_cat pins s σ H _ _ v u Q I rx ry ⟨i,j,vs,ws,rfl,rfl,ho,ho',by rw [<- rs.length,<- rs'.length];exact h.1,fun p hp=>hq _ _ _ _ (Kp.new hp _) (hc.new hp (rm_lst (rs.append rs'))) ra_ref (h.2 p (hc.none hp))⟩
    | _=>exact False.elim h
   | _=>exact False.elim h
  | _=>exact False.elim h
 | _=>exact False.elim h
end
end L2
namespace L2
open PySem PySem.Spec PyProof.Rows
section
variable {X:Cx}{a b c:Expr}{ta tb tc:AE}{pos:Pos}
def aIx:A2:=fun x y μ R=>match x,y with
 | .D (.str z),.D (.int i)=>z.length<=sizeLine/\opt (atI z.cps.toList i) fun c=>R (.D (.str ⟨#[c]⟩)) μ
 | .D (.tuple ds),.D (.int i)=>opt (atI ds i) fun d=>R (.D d) μ
 | .D (.list ds),.D (.int i)=>opt (atI ds i) fun d=>R (.D d) μ
 | .R a,.D (.int i)=>opt (μ a) fun m=>match m with
  | .lst xs=>opt (atI xs i) fun w=>R w μ
  | _=>False
 | _,_=>False
theorem aIx_int{x y:AV}{μ:M}{R:AV->M->Prop}(h:aIx x y μ R):∃i,y=.D (.int i):=by
 have no:(∀d,aIx (.D d) y μ R->False)->(∀a,aIx (.R a) y μ R->False)->False:=fun h1 h2=>by
  cases x with
  | D d=>exact h1 d h
  | R a=>exact h2 a h
  | _=>exact h
 cases y with
 | D e =>
  cases e with
  | int i=>exact⟨i,rfl⟩
  | _=>exact(no (fun d q=>by cases d <;> exact q) fun a q=>q).elim
 | _=>exact(no (fun d q=>by cases d <;> exact q) fun a q=>q).elim
theorem i_ix:VIx X aIx:=by
 intro value slice pins s σ H x y v u Q I rx ry zq hs
 refine ex45 zq fun a b μ R ra rb hc h hq=>?_
 obtain⟨i,rfl⟩:=aIx_int h
 cases RelA.int rb
 cases a with
 | D d =>
  cases d with
  | str z =>
   cases RelA.str ra
   obtain⟨h1,h⟩:=h
   obtain⟨c,e,h⟩:=opt_e h
   exact ix_str value slice pins s σ H _ _ v u Q I rx ry ⟨_,_,_,rfl,rfl,h1,e,hq _ _ _ _ Kp.refl hc ra_str h⟩ hs
  | tuple ds =>
   obtain⟨d,ed,h⟩:=opt_e h
   obtain⟨p,vs,rfl,hp,rs⟩:=RelA.tup ra
   obtain⟨z,ez,rz⟩:=rs.atI ed
   exact ix_tup value slice pins s σ H _ _ v u Q I rx ry ⟨_,_,_,_,rfl,rfl,hp.sq,ez,hq _ _ _ _ Kp.refl hc (ra_D rz) h⟩ hs
  | list ds =>
   obtain⟨d,ed,h⟩:=opt_e h
   obtain⟨p,vs,rfl,hp,rs⟩:=RelA.lst ra
   obtain⟨z,ez,rz⟩:=rs.atI ed
   exact ix_list value slice pins s σ H _ _ v u Q I rx ry ⟨_,_,_,_,rfl,rfl,hp.sq,ez,hq _ _ _ _ Kp.refl hc (ra_D rz) h⟩ hs
  | _=>exact False.elim h
 | R a =>
  obtain⟨m,em,h⟩:=opt_e h
  cases m with
  | lst xs =>
   obtain⟨w,ew,h⟩:=opt_e h
   obtain⟨o,ho,vs,rfl,rs⟩:=hc _ _ em
   cases (show x=.ref _ from ra)
   obtain⟨z,ez,rz⟩:=rs.atI ew
   exact ix_list value slice pins s σ H _ _ v u Q I rx ry ⟨_,_,_,_,rfl,rfl,SqL.of ho,ez,hq _ _ _ _ Kp.refl hc rz h⟩ hs
  | _=>exact False.elim h
 | _=>exact False.elim h
theorem ve_ix{r:A2}(hr:VIx X r)(ha:VE X a ta)(hb:VE X b tb)(hs:PlainIx b:=by intro _ _;rfl):VE X (.Subscript a b pos) (vOp r ta tb):=(pe_ix hr ha hb hs).imp fun _ _ _ h=>vOp_imp h
def vNoPart:AO:=fun _ μ R=>R none μ
def vPart(t:AE):AO:=fun τ μ R=>t τ μ fun x μ1=>match x with
 | .D (.int i)=>R (some i) μ1
 | _=>False
theorem vo_none:VO X none vNoPart:=po_none.imp fun σ H Q zz24=>ex34 zz24 fun τ μ R hs hc h hq=>hq _ _ _ Kp.refl hc h
theorem vo_some(h:VE X a ta):VO X (some a) (vPart ta):=(po_some h).imp fun σ H Q zz25=>ex34 zz25 fun τ μ R hs hc h hq=>⟨τ,μ,_,hs,hc,h,fun x μ1 v H1 S1 c1 rx hx=>by
 split at hx
 ·cases RelA.int rx
  exact⟨_,rfl,hq _ _ _ S1 c1 hx⟩
 ·exact hx.elim⟩
def aSl(x:AV)(lo hi:Option Int):M->(AV->M->Prop)->Prop:=fun μ R=>match x with
 | .D (.str z)=>z.length<=sizeLine/\R (.D (.str (Txt.slice z lo hi))) μ
 | .D (.tuple ds)=>R (.D (.tuple (cutD ds lo hi))) μ
 | .C _=>False
 | x=>opt (items μ x) fun xs=>∀p,μ p=none->R (.R p) (updM μ p (.lst (cutA xs lo hi)))
def cSl(K:PySem.W.Frag):V->Option Int->Option Int->Hp->VK->Prop:=fun x lo hi H Q=>∃a μ R,RelA K H a x/\Cn K μ H/\aSl a lo hi μ R/\LV K H R Q
theorem s_sl:SlR X (cSl X.K):=by
 intro pins s σ H x v vl vu lo hi sl Q I rx hs pl pu ⟨a,μ,R,ra,hc,h,hq⟩
 unfold aSl at h
 split at h
 ·cases RelA.str ra
  exact sl_str pins s σ H _ v vl vu lo hi sl Q I rx hs pl pu ⟨_,rfl,h.1,hq _ _ _ _ Kp.refl hc ra_str h.2⟩
 ·rename_i ds
  by_cases hw:HT.sIx ds.length 0 lo=0/\HT.sIx ds.length ds.length hi=ds.length
  ·obtain⟨a,xs,rfl,ha,hx⟩:=RelA.tup ra
   cases rx
   obtain⟨its,r,ht,hz⟩:=I.tuple ha.sq
   have hlen:its.toArray.size=ds.length:=by rw [List.size_toArray,<- r.length,hx.length]
   refine⟨"tuple",_,PyProof.Rows.slot_tuple_getitem.lookup,ht.typeIs,?_⟩
   refine HT.getItem_tuple_all ht hs pl pu (by rw [hlen];exact hw) ⟨.ref a,H,I,rfl,hq _ _ _ _ Kp.refl hc ?_ h⟩
   rw [cutD_all hw]
   exact ra
  ·obtain⟨a,xs,rfl,ha,hx⟩:=RelA.tup ra
   refine sl_tup pins s σ H (.ref a) v vl vu lo hi sl Q I rx hs pl pu ⟨a,xs,rfl,ha.sq,by rw [hx.length];exact hw,fun p hp=>?_⟩
   exact hq _ _ _ _ (Kp.new hp _) (hc.over hp) (ra_tup upd_same (DkAll.kp (Kp.new hp _) _ _ (hx.cut lo hi))) h
 ·exact h.elim
 ·rename_i n1 n2 n3
  obtain⟨xs,ex,h⟩:=opt_e h
  ·obtain⟨p,vs,rfl,hp,rs⟩:=items_kind hc ra ex
   rcases hp with⟨_,hp⟩ | ⟨ht,hp⟩
   ·exact sl_list pins s σ H _ v vl vu lo hi sl Q I rx hs pl pu ⟨_,_,rfl,hp,fun p hp=>hq _ _ _ _ (Kp.new hp _) (hc.new hp (rm_lst (rs.cut lo hi))) ra_ref (h p (hc.none hp))⟩
   ·exfalso
    unfold isT at ht
    split at ht
    ·exact n2 _ rfl
    ·exact n3 _ rfl
    ·cases ht
def vSl(te:AE)(tl th:AO):AE:=fun τ μ R=>te τ μ fun x μ1=>tl τ μ1 fun l μ2=>th τ μ2 fun u μ3=>aSl x l u μ3 R
theorem ve_slice{lo hi:Option Expr}{tl th:AO}{p2:Pos}(he:VE X a ta)(hl:VO X lo tl)(hu:VO X hi th):VE X (.Subscript a (.Slice lo hi none p2) pos) (vSl ta tl th) :=
 (pe_slice s_sl he hl hu).imp fun σ H Q zz26=>ex34 zz26 fun τ μ R hs hc h hq=>⟨τ,μ,_,hs,hc,h,fun x μ1 v H1 S1 c1 rx hx=>⟨τ,μ1,_,hs.kp S1,c1,hx,fun l μ2 H2 S2 c2 hl=>⟨τ,μ2,_,hs.kp (S1.trans S2),c2,hl,fun u μ3 H3 S3 c3 hu =>
  ⟨x,μ3,R,rx.kp (S2.trans S3),c3,hu,hq.kp (S1.trans (S2.trans S3))⟩⟩⟩⟩
variable {x:Str}{p:Pos}{e:Expr}{es:List Expr}{t:AA}{fid T:String}{r:AC}
def vCB(r:AC)(t:AA):AE:=fun τ μ R=>t τ μ fun xs μ1=>r xs μ1 R
theorem vCB_imp{K:PySem.W.Frag}{n:Nat}{r:AC}{t:AA}{σ:St}{H:Hp}{Q:VK}(h:cE K (vCB r t) σ H Q):tCB (cC K r) (cA K n t) σ H Q:=by
 obtain⟨τ,μ,R,hs,hc,h,hq⟩:=h
 exact⟨τ,μ,_,hs,hc,h,fun xs μ1 vs H1 S1 c1 rs hl hx=>⟨xs,μ1,R,rs,c1,hx,hq.kp S1⟩⟩
theorem ve_callB(hc:VCall X (.builtin fid) r)(hg:Gl X x)(hm:X.mg x=none)(hv:bootBuiltins x=some (.builtin fid))(ha:VA X (e :: es) t)(hn:x ≠ "__name__" := by decide) (hd:(x==("__debug__" : Str))=false:=by decide)
  (hst:starEach (e :: es) X.env=(false,eval e X.env) :: starEach es X.env:=by rfl) (hpl:(backTo pos (starEach es X.env)).any (·.1)=false:=by rfl):VE X (.Call (.Name x p) (e :: es) [] pos) (vCB r t) :=
 (pe_callB hc hg hm hv ha hn hd hst hpl).imp fun _ _ _ h=>vCB_imp h
theorem ve_callTy(hc:VCall X (.type T) r)(hg:Gl X x)(hm:X.mg x=none)(hv:bootBuiltins x=some (.type T))(ha:VA X (e :: es) t)(hn:x ≠ "__name__" := by decide) (hd:(x==("__debug__" : Str))=false:=by decide)
  (hst:starEach (e :: es) X.env=(false,eval e X.env) :: starEach es X.env:=by rfl) (hpl:(backTo pos (starEach es X.env)).any (·.1)=false:=by rfl):VE X (.Call (.Name x p) (e :: es) [] pos) (vCB r t) :=
 (pe_callTy hc hg hm hv ha hn hd hst hpl).imp fun _ _ _ h=>vCB_imp h
def aLen:AC:=fun xs μ R=>match xs with
 | [.D (.str z)]=>z.length<=sizeLine/\R (.D (.int z.length)) μ
 | [.D (.tuple ds)]=>R (.D (.int ds.length)) μ
 | [.D (.list ds)]=>R (.D (.int ds.length)) μ
 | [.R a]=>opt (μ a) fun m=>match m with
  | .lst ys=>R (.D (.int ys.length)) μ
  | .dk kvs=>R (.D (.int kvs.length)) μ
  | _=>False
 | _=>False
theorem c_len:VCall X (.builtin "len") aLen:=by
 intro pins s σ H xs us Q I r zz27
 refine ex34 zz27 fun as μ R ra hc h hq=>?_
 have no:∀{y:AV} {t:List AV} {x:AV},aLen (x :: y :: t) μ R->False:=fun {y t x} q=>by
  cases x with
  | D d=>cases d <;> exact q
  | _=>exact q
 cases ra with
 | nil=>exact False.elim h
 | @cons x v xs' vs' r1 r2 =>
  cases r2 with
  | cons _ _=>exact(no h).elim
  | nil =>
   cases x with
   | D d =>
    cases d with
    | str z =>
     cases RelA.str r1
     exact call_len_str pins s σ H _ us Q I r ⟨_,rfl,h.1,hq _ _ _ _ Kp.refl hc ra_int h.2⟩
    | tuple ds =>
     obtain⟨p,vs,rfl,hp,rs⟩:=RelA.tup r1
     refine call_len_seq pins s σ H _ us Q I r ⟨p,vs,rfl,.inr hp.sq,hq _ _ _ _ Kp.refl hc ?_ h⟩
     rw [rs.length];exact ra_int
    | list ds =>
     obtain⟨p,vs,rfl,hp,rs⟩:=RelA.lst r1
     refine call_len_seq pins s σ H _ us Q I r ⟨p,vs,rfl,.inl hp.sq,hq _ _ _ _ Kp.refl hc ?_ h⟩
     rw [rs.length];exact ra_int
    | _=>exact False.elim h
   | R a =>
    obtain⟨m,em,h⟩:=opt_e h
    cases (show _=V.ref _ from r1)
    obtain⟨o,ho,rm⟩:=hc _ _ em
    cases m with
    | lst ys =>
     obtain⟨vs,rfl,rs⟩:=rm
     refine call_len_seq pins s σ H _ us Q I r ⟨_,vs,rfl,.inl (SqL.of ho),hq _ _ _ _ Kp.refl hc ?_ h⟩
     rw [rs.length];exact ra_int
    | dk kvs =>
     obtain⟨vs,rfl,rs⟩:=rm
     refine call_lenD pins s σ H _ us Q I r ⟨_,vs,rfl,ho,hq _ _ _ _ Kp.refl hc ?_ h⟩
     rw [Paired.length rs];exact ra_int
    | _=>exact False.elim h
   | _=>exact False.elim h
def aTuple:AC:=fun xs μ R=>match xs with
 | [.D (.tuple ds)]=>R (.D (.tuple ds)) μ
 | [.C _]=>False
 | [y]=>opt (items μ y) fun ys=>opt (dats ys) fun ds=>R (.D (.tuple ds)) μ
 | _=>False
theorem aTuple_one{x:AV}{t:List AV}{μ:M}{R:AV->M->Prop}(h:aTuple (x :: t) μ R):t=[]:=by
 cases t with
 | nil=>rfl
 | cons y t =>
  refine False.elim ?_
  cases x with
  | D d=>cases d <;> exact h
  | _=>exact h
theorem aTuple_ns{x:AV}{μ:M}{R:AV->M->Prop}(ht:isT x=false)(h:aTuple [x] μ R):opt (items μ x) fun ys=>opt (dats ys) fun ds=>R (.D (.tuple ds)) μ:=by
 cases x with
 | D d=>cases d <;> first | exact h | cases ht
 | C ds=>cases ht
 | _=>exact h
theorem aTuple_t{x:AV}{μ:M}{R:AV->M->Prop}(ht:isT x=true)(h:aTuple [x] μ R):∃ds,x=.D (.tuple ds)/\R (.D (.tuple ds)) μ:=by
 cases x with
 | D d =>
  cases d with
  | tuple ds=>exact⟨ds,rfl,h⟩
  | _=>cases ht
 | C ds=>exact False.elim h
 | _=>cases ht
theorem c_tuple:VCall X (.type "tuple") aTuple:=by
 intro pins s σ H xs us Q I r zz28
 refine ex34 zz28 fun as μ R ra hc h hq=>?_
 cases ra with
 | nil=>exact False.elim h
 | @cons y v ys' vs' r1 r2 =>
  have hn:=aTuple_one h
  subst hn
  cases r2
  cases ht:isT y with
  | true =>
   obtain⟨ds,rfl,h⟩:=aTuple_t ht h
   obtain⟨p,vs,rfl,hp,rs⟩:=RelA.tup r1
   exact call_tuple_of pins s σ H _ us Q I r ⟨p,vs,rfl,.inr ⟨hp.sq,hq _ _ _ _ Kp.refl hc r1 h⟩⟩
  | false =>
   obtain⟨ys,ey,h⟩:=opt_e (aTuple_ns ht h)
   obtain⟨ds,ed,h⟩:=opt_e h
   obtain⟨p,vs,rfl,hp,rs⟩:=items_kind hc r1 ey
   rcases hp with⟨_,hp⟩ | ⟨ht2,_⟩
   ·exact call_tuple_of pins s σ H _ us Q I r ⟨p,vs,rfl,.inl ⟨hp,fun l hl=>hq _ _ _ _ (Kp.new hl _) (hc.over hl) (ra_tup upd_same (DkAll.kp (Kp.new hl _) _ _ (rs.dats ed))) h⟩⟩
   ·rw [ht]at ht2;cases ht2
def bools:List AV->Option (List Bool)
 | []=>some []
 | .D (.bool b) :: r=>match bools r with
  | some bs=>some (b :: bs)
  | none=>none
 | _ :: _=>none
theorem bools_map:∀(bs:List Bool),bools (bs.map fun b=>.D (.bool b))=some bs
 | []=>rfl
 | b :: bs=>by simp only [List.map_cons,bools,bools_map bs]
theorem RelAs.bools{K:PySem.W.Frag}{H:Hp}{xs:List AV}{vs:List V}{bs:List Bool}(h:RelAs K H xs vs)(e:L2.bools xs=some bs):vs=bs.map V.bl:=by
 induction h generalizing bs with
 | nil=>cases e;rfl
 | @cons x v xs vs r t ih =>
  cases x with
  | D d =>
   cases d with
   | bool b =>
    simp only [L2.bools]at e
    cases q:L2.bools xs with
    | none=>rw [q]at e;cases e
    | some cs=>rw [q]at e;cases e;cases RelA.bl r;rw [ih q];rfl
   | _=>simp [L2.bools]at e
  | _=>simp [L2.bools]at e
def aAll:AC:=fun xs μ R=>match xs with
 | [.R a]=>opt (μ a) fun m=>match m with
  | .lst ys=>opt (bools ys) fun bs=>R (.D (.bool (bs.all id))) μ
  | _=>False
 | _=>False
theorem c_all(hcm:X.calm=true):VCall X (.builtin "all") aAll:=by
 intro pins s σ H xs us Q I r zz30
 refine ex34 zz30 fun as μ R ra hc h hq=>?_
 unfold aAll at h
 split at h
 ·cases ra with
  | cons r1 r2 =>
   cases r2
   obtain⟨m,em,h⟩:=opt_e h
   split at h
   ·obtain⟨bs,eb,h⟩:=opt_e h
    obtain⟨o,ho,vs,rfl,rs⟩:=hc _ _ em
    cases (show _=V.ref _ from r1)
    exact call_all hcm pins s σ H _ us Q I r ⟨_,bs,rfl,SqL.of (by rw [ho,rs.bools eb]),hq _ _ _ _ Kp.refl hc ra_bl h⟩
   ·exact h.elim
 ·exact h.elim
variable {o:Expr}{to:AE}{name:Str}{apos cpos:Pos}{m:AV->AC}
def isLst(μ:M):AV->Prop
 | .R a=>opt (μ a) fun m=>match m with
  | .lst _=>True
  | _=>False
 | .D (.list _)=>True
 | _=>False
theorem isLst.ty{H:Hp}{μ:M}{x:AV}{v:V}(hc:Cn X.K μ H)(rx:RelA X.K H x v)(h:isLst μ x):tyV X.K "list" v H:=by
 unfold isLst at h
 split at h
 ·obtain⟨m,e,h⟩:=opt_e h
  split at h
  ·obtain⟨o,ho,vs,rfl,_⟩:=hc _ _ e
   cases (show v=.ref _ from rx)
   exact .inl ⟨rfl,vs,SqL.of ho⟩
  ·exact h.elim
 ·obtain⟨a,xs,rfl,q,_⟩:=RelA.lst rx
  exact .inl ⟨rfl,xs,q.sq⟩
 ·exact h.elim
def vBL(m:AV->AC)(to:AE)(t:AA):AE:=fun τ μ R=>to τ μ fun x μ1=>isLst μ1 x/\t τ μ1 fun xs μ2=>m x xs μ2 R
theorem ve_ml(slot:Slot "list" name fid) (hty:typeOf (.builtin fid)=pure (.type "method_descriptor")) (hm:VMt X fid m) (ho:VE X o to) (ha:VA X (e :: es) t)
  (hbase:attributeBase o name X.env (eval o X.env)=eval o X.env:=by rfl)
  (hfew:((backTo cpos (starEach (e :: es) X.env)).all (fun x=>!x.1) && (backToKw cpos (keywordEach [] X.env)).all (fun x=>x.1.isSome)
   && decide ((e :: es).length+([]:List Keyword).length+(if([]:List Keyword).isEmpty then 0 else 1) < 30))=true:=by rfl)
  (hline:(apos.endLine==cpos.line)=true:=by rfl) (hs:starEach (e :: es) X.env=(false,eval e X.env) :: starEach es X.env:=by rfl) (hplain:(backTo cpos (starEach es X.env)).any (·.1)=false:=by rfl) :
  VE X (.Call (.Attribute o name apos) (e :: es) [] cpos) (vBL m to t) :=
 (pe_bm PySem.F.plainAttrs_list slot hty hm ho ha hbase hfew hline hs hplain).imp fun σ H Q zz34=>ex34 zz34 fun τ μ R hs hc h hq=>⟨τ,μ,_,hs,hc,h,fun x μ1 v H1 S1 c1 rx hx=>⟨hx.1.ty c1 rx,τ,μ1,_,hs.kp S1,c1,hx.2,fun xs μ2 vs H2 S2 c2 rs hl hxs =>
  ⟨x,xs,μ2,R,rx.kp S2,rs,c2,hxs,hq.kp (S1.trans S2)⟩⟩⟩
def mAppend:AV->AC:=fun x xs μ R=>match x,xs with
 | .R a,[y]=>opt (μ a) fun m=>match m with
  | .lst ys=>ys.length < sizeLine/\R (.D .none) (updM μ a (.lst (ys++[y])))
  | _=>False
 | _,_=>False
theorem m_append:VMt X "list.append" mAppend:=by
 intro pins s σ H x xs v us Q I rx r zz36
 refine ex45 zz36 fun a as μ R ra rs hc h hq=>?_
 unfold mAppend at h
 split at h
 ·rename_i a y
  obtain⟨m,ey,h⟩:=opt_e h
  split at h
  ·cases rs with
   | cons r1 r2 =>
    cases r2
    obtain⟨o,ho,vs,rfl,rl⟩:=hc _ _ ey
    cases (show x=.ref a from ra)
    exact mt_append pins s σ H _ _ v us Q I rx r ⟨a,vs,_,rfl,rfl,ho,by rw [<- rl.length];exact h.1,hq _ _ _ _ (Kp.put ho trivial _) (hc.put ho trivial (rm_lst (rl.append (.cons r1 .nil)))) ra_non h.2⟩
  ·exact h.elim
 ·exact h.elim
def mExtend:AV->AC:=fun x xs μ R=>match x,xs with
 | .R a,[.R b]=>opt (μ a) fun m=>opt (μ b) fun n=>match m,n with
  | .lst ys,.lst zs=>ys.length+zs.length<=sizeLine/\R (.D .none) (updM μ a (.lst (ys++zs)))
  | _,_=>False
 | _,_=>False
theorem m_extend:VMt X "list.extend" mExtend:=by
 intro pins s σ H x xs v us Q I rx r zz37
 refine ex45 zz37 fun a as μ R ra rs hc h hq=>?_
 unfold mExtend at h
 split at h
 ·rename_i a b
  obtain⟨m,ey,h⟩:=opt_e h
  obtain⟨n,ez,h⟩:=opt_e h
  split at h
  ·cases rs with
   | cons r1 r2 =>
    cases r2
    obtain⟨o,ho,vs,rfl,rl⟩:=hc _ _ ey
    obtain⟨o',ho',ws,rfl,rl'⟩:=hc _ _ ez
    cases (show x=.ref a from ra)
    cases (show _=V.ref b from r1)
    exact mt_extend pins s σ H _ _ v us Q I rx r ⟨a,b,vs,ws,rfl,rfl,ho,ho',by rw [<- rl.length,<- rl'.length];exact h.1,hq _ _ _ _ (Kp.put ho trivial _) (hc.put ho trivial (rm_lst (rl.append rl'))) ra_non h.2⟩
  ·exact h.elim
 ·exact h.elim
def mPopAt:AV->AC:=fun x xs μ R=>match x,xs with
 | .R a,[.D (.int i)]=>opt (μ a) fun m=>match m with
  | .lst ys=>(-(2 ^ 63)<=i/\i < 2 ^ 63)/\opt (seqIndex? i ys.length) fun k=>opt ys[k]? fun y=>R y (updM μ a (.lst (ys.eraseIdx k)))
  | _=>False
 | _,_=>False
theorem m_popAt:VMt X "list.pop" mPopAt:=by
 intro pins s σ H x xs v us Q I rx r zz39
 refine ex45 zz39 fun a as μ R ra rs hc h hq=>?_
 unfold mPopAt at h
 split at h
 ·rename_i a i
  obtain⟨m,ey,h⟩:=opt_e h
  split at h
  ·obtain⟨⟨h1,h2⟩,h⟩:=h
   obtain⟨k,ek,h⟩:=opt_e h
   obtain⟨y,e1,h⟩:=opt_e h
   cases rs with
   | cons r1 r2 =>
    cases r2
    cases RelA.int r1
    obtain⟨o,ho,vs,rfl,rl⟩:=hc _ _ ey
    cases (show x=.ref a from ra)
    obtain⟨z,ez,rz⟩:=rl.get e1
    exact mt_popAt pins s σ H _ _ v us Q I rx r ⟨a,vs,i,k,z,rfl,rfl,ho,h1,h2,by rw [<- rl.length];exact ek,ez,hq _ _ _ _ (Kp.put ho trivial _) (hc.put ho trivial (rm_lst (rl.eraseIdx k))) (rz.kp (Kp.put ho trivial _)) h⟩
  ·exact h.elim
 ·exact h.elim
end
end L2
namespace L2
open PySem PySem.Spec PyProof.Rows
section
variable {X:Cx}{a b c:Expr}{ta tb tc:AE}{pos:Pos}
abbrev ASp:=List AV->M->(AV->M->Prop)->Prop
def cSp(K:PySem.W.Frag)(n:Nat)(sp:ASp):Sp:=fun vs H Q _=>∃xs μ R,xs.length=n/\RelAs K H xs vs/\Cn K μ H/\sp xs μ R/\LV K H R Q
def VCal(P:Program)(w:World)(K:PySem.W.Frag)(mg:Str->Option Value)(base:Heap)(k:Nat)(x:Str)(ps:List Str)(sp:ASp):Prop:=Cal P w K mg base k x ps (cSp K ps.length sp)
def vCall(n:Nat)(sp:ASp)(t:AA):AE:=fun τ μ R=>t τ μ fun xs μ1=>sp xs μ1 R
variable {x:Str}{p:Pos}{e:Expr}{es:List Expr}{t:AA}{k:Nat}{ps:List Str}{sp:ASp}
theorem ve_call(F:VCal X.prog X.w X.K X.mg X.base k x ps sp)(hr:Room k X.A)(hg:Gl X x)(ha:VA X (e :: es) t)(hl:(e :: es).length=ps.length:=by rfl)(hdb:(x==("__debug__" : Str))=false:=by decide)
  (hst:starEach (e :: es) X.env=(false,eval e X.env) :: starEach es X.env:=by rfl) (hpl:(backTo pos (starEach es X.env)).any (·.1)=false:=by rfl):VE X (.Call (.Name x p) (e :: es) [] pos) (vCall ps.length sp t):=by
 obtain⟨g,gd,G,gb,gk,gm⟩:=F
 refine PE.imp (pe_call (E:=E0) G hr hg gm gk gb .nil pass0 ha (hdb:=hdb) (he:=hst) (hpl:=hpl)) fun σ H Q zz41=>ex34 zz41 fun τ μ R hs hc h hq=>?_
 exact⟨τ,μ,_,hs,hc,h,fun xs μ1 vs H1 S1 c1 rs hn hx=>⟨xs,μ1,R,hn.trans hl,by rw [List.append_nil];exact rs,c1,hx,hq.kp S1⟩⟩
def vNext:AS:=fun k _ _ _ τ μ=>k τ μ
def vSeq(t u:AS):AS:=fun k r b c τ μ=>t (u k r b c) r b c τ μ
variable {st:Stmt}{rest:List Stmt}{s1 s2:AS}
theorem vss_nil:VSs X [] vNext:=pss_nil.imp fun D σ H zz43=>ex64 zz43 fun τ μ nk nr nb nc hs hc h hq=>hq.nx _ _ _ _ Kp.refl hs hc h
theorem vss_cons(h1:VS X st s1)(h2:VSs X rest s2):VSs X (st :: rest) (vSeq s1 s2):=(pss_cons h1 h2).imp fun D σ H zz44=>ex64 zz44 fun τ μ nk nr nb nc hs hc h hq =>
 ⟨τ,μ,_,_,_,_,hs,hc,h,⟨fun τ' μ' σ' H' S' hs' hc' h'=>⟨τ',μ',nk,nr,nb,nc,hs',hc',h',hq.kp S'⟩,hq.rt,hq.bk,hq.ct⟩⟩
theorem vss_one(h1:VS X st s1):VSs X [st] s1:=pss_one h1
def vDrop(te:AE):AS:=fun k _ _ _ τ μ=>te τ μ fun _ μ1=>k τ μ1
theorem vs_expr(he:VE X a ta)(hs:swapsWith a none pos.line X.env=pure false:=by rfl):VS X (.Expr a pos) (vDrop ta):=(ps_expr he hs).imp fun D σ H zz48=>ex64 zz48 fun τ μ nk nr nb nc hs hc h hq =>
 ⟨τ,μ,_,hs,hc,h,fun x μ1 v H1 S1 c1 rx hx=>hq.nx _ _ _ _ S1 (hs.kp S1) c1 hx⟩
def vRet(te:AE):AS:=fun _ r _ _ τ μ=>te τ μ r
theorem vs_ret(he:VE X a ta):VS X (.Return (some a) pos) (vRet ta):=(ps_ret he).imp fun D σ H zz49=>ex64 zz49 fun τ μ nk nr nb nc hs hc h hq=>⟨τ,μ,_,hs,hc,h,hq.rt⟩
def vIfS(ct:AT)(t u:AS):AS:=fun k r b c τ μ=>ct τ μ fun x μ1=>brP x (t k r b c τ μ1) (u k r b c τ μ1)
theorem vs_if{c:Expr}{a b:List Stmt}{tc:AT}(hc:VT X c tc)(ha:VSs X a s1)(hb:VSs X b s2):VS X (.If c a b pos) (vIfS tc s1 s2):=(ps_if hc ha hb).imp fun D σ H zz51=>ex64 zz51 fun τ μ nk nr nb nc hs hc h hq =>
 ⟨τ,μ,_,hs,hc,h,fun k μ1 H1 S1 c1 hk=>by
  rcases br_e hk with⟨rfl,hk'⟩ | ⟨rfl,hk'⟩
  ·exact⟨τ,μ1,nk,nr,nb,nc,hs.kp S1,c1,hk',hq.kp S1⟩
  ·exact⟨τ,μ1,nk,nr,nb,nc,hs.kp S1,c1,hk',hq.kp S1⟩⟩
def wName(i:Nat):AG:=fun v τ μ R=>R (τ.set i (some v)) μ
theorem vg_name{i:Nat}{x:Str}(hN:X.N.Nodup)(hi:X.N[i]?=some x)(hx:Loc X.env.scope x)(hf:X.fn x=true\/X.env.scope.names.lookup x=some .local:=by first | exact .inl rfl | exact .inr rfl | assumption):VG X (.Name x pos) (wName i) :=
 (pg_name hN hi hx hf).imp fun v σ H Q zz54=>ex45 zz54 fun x τ μ R rx hs hc h hq=>hq _ _ _ _ Kp.refl (hs.set rx i) hc h
def wNil:AGs:=fun vs τ μ R=>match vs with
 | []=>R τ μ
 | _ :: _=>False
def wCons(t:AG)(u:AGs):AGs:=fun vs τ μ R=>match vs with
 | []=>False
 | v :: r=>t v τ μ fun τ' μ'=>u r τ' μ' R
theorem vgs_nil:VGs X [] wNil:=pgs_nil.imp fun vs σ H Q zz55=>ex45 zz55 fun xs τ μ R rx hs hc h hq=>by
 cases rx with
 | nil=>exact⟨rfl,hq _ _ _ _ Kp.refl hs hc h⟩
 | cons=>exact h.elim
theorem vgs_cons{e:Expr}{es:List Expr}{t:AG}{u:AGs}(h1:VG X e t)(h2:VGs X es u)
  (hs:(assignEach (e :: es) X.env).map (·.2)=assign e X.env :: (assignEach es X.env).map (·.2):=by rfl):VGs X (e :: es) (wCons t u):=(pgs_cons h1 h2 hs).imp fun vs σ H Q zz56=>ex45 zz56 fun xs τ μ R rx hs hc h hq=>by
 cases rx with
 | nil=>exact h.elim
 | cons r1 r2=>exact⟨_,_,rfl,_,τ,μ,_,r1,hs,hc,h,fun τ' μ' σ' H' S' hs' hc' h'=>⟨_,τ',μ',R,RelAs.kp S' r2,hs',hc',h',hq.kp S'⟩⟩
def wTup(n:Nat)(t:AGs):AG:=fun v τ μ R=>match v with
 | .D (.tuple ds)=>ds.length=n/\t (ds.map .D) τ μ R
 | _=>False
theorem vg_tup{es:List Expr}{k:Nat}{t:AGs}{n:Nat}(hcm:X.calm=true)(h:VGs X es t)
  (hn:(assignEach es X.env).length=n:=by rfl) (hst:(assignEach es X.env).findIdx? (·.1)=none:=by rfl):VG X (.Tuple es k pos) (wTup n t):=(pg_tup hcm h hn hst).imp fun v σ H Q zz57=>ex45 zz57 fun x τ μ R rx hs hc h hq=>by
 unfold wTup at h
 split at h
 ·obtain⟨a,vs,rfl,q,r⟩:=RelA.tup rx
  exact⟨a,vs,rfl,q.sq,by rw [r.length];exact h.1,_,τ,μ,R,r.rel,hs,hc,h.2,hq⟩
 ·exact h.elim
def aSet(o i v:AV)(μ:M)(R:M->Prop):Prop:=match o,i with
 | .R a,.D (.int k)=>opt (μ a) fun m=>match m with
  | .lst xs=>opt (ixN xs.length k) fun j=>R (updM μ a (.lst (xs.set j v)))
  | _=>False
 | _,_=>False
def cSet(K:PySem.W.Frag):TSet:=fun o i v H Q=>∃a b c μ R,RelA K H a o/\RelA K H b i/\RelA K H c v/\Cn K μ H/\aSet a b c μ R/\∀ μ' H',Kp H H'->Cn K μ' H'->R μ'->Q H'
theorem s_set:PSet X (cSet X.K):=by
 intro pins s σ H o i v ov iv u Q I r1 r2 r3 ⟨a,b,c,μ,R,ra,rb,rc,hc,h,hq⟩
 unfold aSet at h
 split at h
 ·rename_i q k
  obtain⟨m,ex,h⟩:=opt_e h
  split at h
  ·obtain⟨j,ej,h⟩:=opt_e h
   ·obtain⟨o',ho,vs,rfl,rs⟩:=hc _ _ ex
    cases (show o=.ref q from ra)
    cases RelA.int rb
    exact set_list pins s σ H _ _ v ov iv u Q I r1 r2 r3 ⟨q,vs,k,j,rfl,rfl,ho,by rw [<- rs.length];exact ej,hq _ _ (Kp.put ho trivial _) (hc.put ho trivial (rm_lst (rs.set rc j))) h⟩
  ·exact h.elim
 ·exact h.elim
def wSub(to ti:AE):AG:=fun v τ μ R=>to τ μ fun o μ1=>ti τ μ1 fun i μ2=>aSet o i v μ2 fun μ3=>R τ μ3
theorem vg_sub{o i:Expr}{to ti:AE}(ho:VE X o to)(hi:VE X i ti)
  (ha:∀v,assign (.Subscript o i pos) X.env v=(do
   let ov <- holding [v] (eval o X.env)
   let iv <- holding [v,ov] (eval i X.env)
   standAt pos
   holding [v,ov,iv] (setItem ov iv v)
   release [v,ov,iv] []):=by intro _;rfl):VG X (.Subscript o i pos) (wSub to ti):=(pg_sub ho hi s_set ha).imp fun v σ H Q zz58=>ex45 zz58 fun x τ μ R rx hs hc h hq =>
 ⟨τ,μ,_,hs,hc,h,fun o μ1 ov H1 S1 c1 ro h1=>⟨τ,μ1,_,hs.kp S1,c1,h1,fun i μ2 iv H2 S2 c2 ri h2=>⟨o,i,x,μ2,_,ro.kp S2,ri,rx.kp (S1.trans S2),c2,h2,fun μ3 H3 S3 c3 h3=>hq _ _ _ _ (S1.trans (S2.trans S3)) (hs.kp (S1.trans (S2.trans S3))) c3 h3⟩⟩⟩
def vAsg(te:AE)(g:AG):AS:=fun k _ _ _ τ μ=>te τ μ fun x μ1=>g x τ μ1 k
theorem vAsg_imp{K:PySem.W.Frag}{te:AE}{g:AG}{D:Ends}{σ:St}{H:Hp}(h:cS K (vAsg te g) D σ H):tAsg (cE K te) (cG K g) D σ H:=by
 obtain⟨τ,μ,nk,nr,nb,nc,hs,hc,h,hq⟩:=h
 exact⟨τ,μ,_,hs,hc,h,fun x μ1 v H1 S1 c1 rx hx=>⟨x,τ,μ1,_,rx,hs.kp S1,c1,hx,hq.nx.kp S1⟩⟩
theorem vs_asg{tg:Expr}{g:AG}(he:VE X a ta)(hg:VG X tg g)(hs:swapsWithSole [tg] a pos.line X.env=pure false:=by rfl)(hw:swappedStores [tg] a X.env=pure none:=by rfl)
  (h1:(assignEach [tg] X.env).map (·.2)=[assign tg X.env]:=by rfl):VS X (.Assign [tg] a pos) (vAsg ta g):=(ps_asg he hg hs hw h1).imp fun _ _ _ h=>vAsg_imp h
theorem vs_set{i:Nat}{x:Str}{pos':Pos}(hN:X.N.Nodup)(hi:X.N[i]?=some x)(hx:Loc X.env.scope x)(he:VE X a ta)(hs:swapsWith a (some (.Name x pos')) pos.line X.env=pure false:=by rfl)(hf:X.fn x=true\/X.env.scope.names.lookup x=some .local:=by first | exact .inl rfl | exact .inr rfl | assumption) :
  VS X (.Assign [.Name x pos'] a pos) (vAsg ta (wName i)):=(ps_set hN hi hx he hs hf).imp fun D σ H zz59=>ex64 zz59 fun τ μ nk nr nb nc hs hc h hq =>
 ⟨τ,μ,_,hs,hc,h,fun x μ1 v H1 S1 c1 rx hx=>hq.nx _ _ _ _ S1 ((hs.kp S1).set rx i) c1 hx⟩
def vPar(i j:Nat)(t:AA):AS:=fun k _ _ _ τ μ=>t τ μ fun xs μ1=>match xs with
 | [v,w]=>k ((τ.set i (some v)).set j (some w)) μ1
 | _=>False
theorem vs_par{i j:Nat}{x y:Str}{t:AA}{px py pt:Pos}{kt k2 pt2}(hc:X.calm=true)(hN:X.N.Nodup)(hi:X.N[i]?=some x)(hj:X.N[j]?=some y)(hij:i≠j)(hx:X.env.scope.names.lookup x=some .local)(hy:X.env.scope.names.lookup y=some .local)(ha:VA X [a,b] t)
  (hw:swappedStores [.Tuple [.Name x px,.Name y py] kt pt] (.Tuple [a,b] k2 pt2) X.env=pure (some [x,y])) (hs:swapsWithSole [.Tuple [.Name x px,.Name y py] kt pt] (.Tuple [a,b] k2 pt2) pos.line X.env=pure false:=by rfl) :
  VS X (.Assign [.Tuple [.Name x px,.Name y py] kt pt] (.Tuple [a,b] k2 pt2) pos) (vPar i j t):=(ps_par hc hN hi hj hij hx hy ha hw hs).imp fun D σ H zz60=>ex64 zz60 fun τ μ nk nr nb nc hs hc h hq =>
 ⟨τ,μ,_,hs,hc,h,fun xs μ1 vs H1 S1 c1 rs hl hx=>by
  split at hx
  ·cases rs with
   | cons r1 r2 =>
    cases r2 with
    | cons r2 r3 =>
     cases r3
     exact⟨_,_,rfl,hq.nx _ _ _ _ S1 (((hs.kp S1).set r1 i).set r2 j) c1 hx⟩
  ·exact hx.elim⟩
def wl(c:AT)(tb:AS)(k:ASt->M->Prop)(r:AV->M->Prop):Nat->ASt->M->Prop
 | 0=>fun _ _=>False
 | n+1=>fun τ μ=>c τ μ fun x μ1=>brP x (tb (wl c tb k r n) r k (wl c tb k r n) τ μ1) (k τ μ1)
def vWhile(c:AT)(tb:AS):AS:=fun k r _ _ τ μ=>∃n,wl c tb k r n τ μ
theorem vs_while{c:Expr}{body:List Stmt}{tc:AT}{tb:AS}(hp:PassesOwn (model X.prog X.w) X.A X.env X.xe)(hc:VT X c tc)(hb:VSs X body tb):VS X (.While c body [] pos) (vWhile tc tb):=(ps_while hp hc hb).imp fun D σ H zw=>ex64 zw fun τ μ nk nr nb nc hs hc zh hq=>by
 obtain⟨n,h⟩:=zh
 refine⟨fun m σ1 H1=>∃ τ1 μ1,Kp H H1/\StA X.K H1 τ1 σ1/\Cn X.K μ1 H1/\wl tc tb nk nr m τ1 μ1,⟨n,τ,μ,Kp.refl,hs,hc,h⟩,?_⟩
 rintro m σ1 H1 ⟨τ1,μ1,S1,hs1,hc1,h1⟩
 cases m with
 | zero=>exact h1.elim
 | succ m =>
  refine⟨τ1,μ1,_,hs1,hc1,h1,fun k μ2 H2 S2 c2 hk=>?_⟩
  rcases br_e hk with⟨rfl,hk'⟩ | ⟨rfl,hk'⟩
  ·rw [if_pos rfl]
   refine⟨fun σ' H'=>∃ τ' μ',Kp H H'/\StA X.K H' τ' σ'/\Cn X.K μ' H'/\wl tc tb nk nr m τ' μ',fun σ' H' ⟨τ',μ',q⟩=>⟨m,Nat.lt_succ_self _,τ',μ',q⟩,τ1,μ2,_,_,_,_,hs1.kp S2,c2,hk',?_⟩
   have S:=S1.trans S2
   exact⟨fun τ' μ' σ' H' S' hs' hc' h'=>⟨τ',μ',S.trans S',hs',hc',h'⟩,hq.rt.kp S,hq.nx.kp S,fun τ' μ' σ' H' S' hs' hc' h'=>⟨τ',μ',S.trans S',hs',hc',h'⟩⟩
  ·rw [if_neg Bool.false_ne_true]
   exact hq.nx _ _ _ _ (S1.trans S2) (hs1.kp S2) c2 hk'
structure ItOk(K:PySem.W.Frag)(H0:Hp)(J:It)(xs:List AV)(kp:M->Prop):Prop where
 go:∀i H μ,Kp H0 H->Cn K μ H->kp μ->i < xs.length->J.go i H
 yld:∀i H μ v H' x,Kp H0 H->Cn K μ H->kp μ->xs[i]?=some x->J.yld i H v H'->Kp H H'/\Cn K μ H'/\RelA K H' x v
 stop:∀H μ,Kp H0 H->Cn K μ H->kp μ->J.stop xs.length H
abbrev AI:=ASt->M->(List AV->(M->Prop)->M->Prop)->Prop
def cI(K:PySem.W.Frag)(wi:AI):TI:=fun σ H R=>∃ τ μ R',StA K H τ σ/\Cn K μ H/\wi τ μ R'/\∀xs kp μ' J H',Kp H H'->Cn K μ' H'->ItOk K H' J xs kp->R' xs kp μ'->R J H'
def VI(X:Cx)(tg iter:Expr)(wi:AI):Prop:=PI X tg iter (cI X.K wi)
theorem PI.imp{tg e:Expr}{t u:TI}(h:PI X tg e t)(i:∀ σ H Q,u σ H Q->t σ H Q):PI X tg e u:=fun pins s σ H Q I q=>h pins s σ H Q I (i σ H Q q)
theorem itOk_list{K:PySem.W.Frag}{H0:Hp}{a:Addr}{xs:List AV}{kp:M->Prop}(h:∀H μ,Kp H0 H->Cn K μ H->kp μ->∃vs,SqL K H a vs/\RelAs K H xs vs):ItOk K H0 (Itl K a) xs kp:=by
 refine⟨fun i H μ S c k hi=>?_,fun i H μ v H' x S c k e y=>?_,fun H μ S c k=>?_⟩
 ·obtain⟨vs,q,r⟩:=h H μ S c k
  exact⟨vs,vs[i]'(by rw [<- r.length];exact hi),q,List.getElem?_eq_getElem _⟩
 ·obtain⟨vs,q,r⟩:=h H μ S c k
  obtain⟨rfl,y⟩:=y
  obtain⟨u,eu,ru⟩:=r.get e
  rw [y vs q]at eu
  cases eu
  exact⟨Kp.refl,c,ru⟩
 ·obtain⟨vs,q,r⟩:=h H μ S c k
  exact⟨vs,q,by rw [r.length];exact Nat.le_refl _⟩
theorem itOk_tup{K:PySem.W.Frag}{H0:Hp}{a:Addr}{xs:List AV}{kp:M->Prop}(h:∀H μ,Kp H0 H->Cn K μ H->kp μ->∃vs,SqT K H a vs/\RelAs K H xs vs):ItOk K H0 (Itt K a) xs kp:=by
 refine⟨fun i H μ S c k hi=>?_,fun i H μ v H' x S c k e y=>?_,fun H μ S c k=>?_⟩
 ·obtain⟨vs,q,r⟩:=h H μ S c k
  exact⟨vs,vs[i]'(by rw [<- r.length];exact hi),q,List.getElem?_eq_getElem _⟩
 ·obtain⟨vs,q,r⟩:=h H μ S c k
  obtain⟨rfl,y⟩:=y
  obtain⟨u,eu,ru⟩:=r.get e
  rw [y vs q]at eu
  cases eu
  exact⟨Kp.refl,c,ru⟩
 ·obtain⟨vs,q,r⟩:=h H μ S c k
  exact⟨vs,q,by rw [r.length];exact Nat.le_refl _⟩
variable {tg:Expr}
def rngA(lo:Int):Nat->List AV
 | 0=>[]
 | n+1=>.D (.int lo) :: rngA (lo+1) n
theorem rngA_length:∀(n:Nat) (lo:Int),(rngA lo n).length=n
 | 0,_=>rfl
 | n+1,lo=>by rw [rngA,List.length_cons,rngA_length n]
theorem rngA_get:∀(n:Nat) (lo:Int) (i:Nat) {x:AV},(rngA lo n)[i]?=some x->x=.D (.int (lo+i))
 | 0,_,_,_,h=>by simp [rngA]at h
 | n+1,lo,0,_,h=>by simp [rngA]at h;rw [<- h];simp
 | n+1,lo,i+1,_,h=>by
  rw [rngA,List.getElem?_cons_succ]at h
  rw [rngA_get n (lo+1) i h]
  congr 2
  omega
theorem itOk_rng{K:PySem.W.Frag}{H0:Hp}{lo:Int}{n:Nat}:ItOk K H0 (Itr lo n) (rngA lo n) (fun _=>True):=by
 refine⟨fun i H μ S c k hi=>?_,fun i H μ v H' x S c k e y=>?_,fun H μ S c k=>?_⟩
 ·show i < n
  rw [rngA_length]at hi;exact hi
 ·obtain⟨rfl,rfl⟩:=y
  rw [rngA_get n lo i e]
  exact⟨Kp.refl,c,ra_int⟩
 ·show n<=_
  rw [rngA_length];exact Nat.le_refl _
def jRng1(t:AA):AI:=fun τ μ R=>t τ μ fun xs μ1=>match xs with
 | [.D (.int j)]=>-(2 ^ 62)<=j/\j < 2 ^ 62/\R (rngA 0 j.toNat) (fun _=>True) μ1
 | _=>False
theorem vi_range1{t:AA}{p:Pos}(hg:Gl X "range") (hm:X.mg "range" = none) (ha:VA X [a] t) (hs:starEach [a] X.env=[(false,eval a X.env)]:=by rfl):VI X tg (.Call (.Name "range" p) [a] [] pos) (jRng1 t) :=
 (pi_range1 hg hm ha hs).imp fun σ H Q zz62=>ex34 zz62 fun τ μ R hs hc h hq=>⟨τ,μ,_,hs,hc,h,fun xs μ1 vs H1 S1 c1 rs hl hx=>by
  split at hx
  ·cases rs with
   | cons r1 r2 =>
    cases r2
    cases RelA.int r1
    exact⟨_,rfl,hx.1,hx.2.1,hq _ _ _ _ _ S1 c1 itOk_rng hx.2.2⟩
  ·exact hx.elim⟩
def fl(g:AG)(tb:AS)(k:ASt->M->Prop)(r:AV->M->Prop)(kp:M->Prop):List AV->ASt->M->Prop
 | []=>fun τ μ=>kp μ/\k τ μ
 | x :: xs=>fun τ μ=>kp μ/\g x τ μ fun τ2 μ2=>tb (fl g tb k r kp xs) r k (fl g tb k r kp xs) τ2 μ2
def vFor(wi:AI)(g:AG)(tb:AS):AS:=fun k r _ _ τ μ=>wi τ μ fun xs kp μ1=>fl g tb k r kp xs τ μ1
theorem fl_kp{g:AG}{tb:AS}{k:ASt->M->Prop}{r:AV->M->Prop}{kp:M->Prop}{xs:List AV}{τ:ASt}{μ:M}(h:fl g tb k r kp xs τ μ):kp μ:=by
 cases xs with
 | nil=>exact h.1
 | cons x xs=>exact h.1
theorem vs_for{iter:Expr}{body:List Stmt}{wi:AI}{g:AG}{tb:AS}(hp:PassesOwn (model X.prog X.w) X.A X.env X.xe)(hcm:X.calm=true)(hi:VI X tg iter wi)(hg:VG X tg g)(hb:VSs X body tb)(hfs:∀x,foldedSetIterable iter X.env x=pure x:=by intro _;rfl) :
  VS X (.For tg iter body [] pos) (vFor wi g tb):=(ps_for hp hcm hi hg hb hfs).imp fun D σ H zz64=>ex64 zz64 fun τ μ nk nr nb nc hs hc h hq=>by
 refine⟨τ,μ,_,hs,hc,h,fun xs kp μ0 J H0 S0 c0 it h0=>?_⟩
 refine for_of xs.length (fun i σ1 H1=>∃ τ1 μ1,Kp H0 H1/\StA X.K H1 τ1 σ1/\Cn X.K μ1 H1/\fl g tb nk nr kp (xs.drop i) τ1 μ1) ⟨τ,μ0,Kp.refl,hs.kp S0,c0,h0⟩ ?_ ?_ ?_
 ·rintro i σ1 H1 hi ⟨τ1,μ1,S1,hs1,hc1,h1⟩
  exact it.go i H1 μ1 S1 hc1 (fl_kp h1) hi
 ·rintro σ1 H1 ⟨τ1,μ1,S1,hs1,hc1,h1⟩
  rw [List.drop_length]at h1
  exact⟨it.stop H1 μ1 S1 hc1 h1.1,hq.nx _ _ _ _ (S0.trans S1) hs1 hc1 h1.2⟩
 ·rintro i v σ1 H1 H2 hi ⟨τ1,μ1,S1,hs1,hc1,h1⟩ y
  rw [List.drop_eq_getElem_cons hi]at h1
  obtain⟨hk,h1⟩:=h1
  obtain⟨S2,c2,rx⟩:=it.yld i H1 μ1 v H2 _ S1 hc1 hk (List.getElem?_eq_getElem hi) y
  refine⟨_,τ1,μ1,_,rx,hs1.kp S2,c2,h1,fun τ3 μ3 σ3 H3 S3 hs3 hc3 h3=>⟨τ3,μ3,_,_,_,_,hs3,hc3,h3,?_⟩⟩
  have S:Kp H0 H3:=S1.trans (S2.trans S3)
  exact⟨fun τ' μ' σ' H' S' hs' hc' h'=>⟨τ',μ',S.trans S',hs',hc',h'⟩,hq.rt.kp (S0.trans S),hq.nx.kp (S0.trans S),fun τ' μ' σ' H' S' hs' hc' h'=>⟨τ',μ',S.trans S',hs',hc',h'⟩⟩
def VIfs(X:Cx)(ifs:List Expr)(t:AT):Prop:=PIfs X ifs (cT X.K t)
def vYes:AT:=fun _ μ R=>R true μ
theorem vifs_nil:VIfs X [] vYes:=fun pins s σ H Q I zz65=>ex34 zz65 fun τ μ R hs hc h hq=>pifs_nil pins s σ H Q I (hq _ _ _ Kp.refl hc h)
theorem vifs_one{t:AT}(h:VT X a t):VIfs X [a] t:=pifs_one h
def cl(p:Addr)(g:AG)(tst:AT)(te:AE)(kp:M->Prop)(R:M->Prop):List AV->List AV->ASt->M->Prop
 | []=>fun _ _ μ=>kp μ/\R μ
 | x :: xs=>fun acc τ μ=>kp μ/\g x τ μ fun τ1 μ1=>tst τ1 μ1 fun k μ2 =>
  brP k (te τ1 μ2 fun v μ3=>μ3 p=some (.lst acc)/\acc.length < sizeLine/\cl p g tst te kp R xs (acc++[v]) τ1 (updM μ3 p (.lst (acc++[v])))) (cl p g tst te kp R xs acc τ1 μ2)
def vComp(mp:List (Option Nat))(wi:AI)(g:AG)(tst:AT)(te:AE):AE:=fun τ μ R=>wi τ μ fun xs kp μ1=>∀p,μ1 p=none->cl p g tst te kp (fun μ2=>R (.R p) μ2) xs [] (subA mp τ) (updM μ1 p (.lst []))
theorem cl_kp{p:Addr}{g:AG}{tst:AT}{te:AE}{kp:M->Prop}{R:M->Prop}{xs acc:List AV}{τ:ASt}{μ:M}(h:cl p g tst te kp R xs acc τ μ):kp μ:=by
 cases xs with
 | nil=>exact h.1
 | cons x xs=>exact h.1
theorem vComp_imp{K:PySem.W.Frag}{mp:List (Option Nat)}{wi:AI}{g:AG}{tst:AT}{te:AE}{σ:St}{H:Hp}{Q:VK}(h:cE K (vComp mp wi g tst te) σ H Q):tComp mp (cI K wi) (cG K g) (cT K tst) (cE K te) σ H Q:=by
 obtain⟨τ,μ,R,hs,hc,h,hq⟩:=h
 refine⟨τ,μ,_,hs,hc,h,fun xs kp μ0 J H0 S0 c0 it h0=>?_⟩
 intro p hp
 have h0:=h0 p (c0.none hp)
 have c0':Cn K (updM μ0 p (.lst [])) (upd H0 p (.lst [])):=c0.new hp (rm_lst (.nil))
 have S0':Kp H0 (upd H0 p (.lst [])):=Kp.new hp _
 refine comp_of xs.length (fun i acc σ1 H1=>∃ τ1 μ1 as,Kp H0 H1/\StA K H1 τ1 σ1/\Cn K μ1 H1/\RelAs K H1 as acc/\cl p g tst te kp (fun μ2=>R (.R p) μ2) (xs.drop i) as τ1 μ1) ⟨_,_,[],S0',((hs.kp S0).kp S0').sub mp,c0',.nil,h0⟩ ?_ ?_ ?_
 ·rintro i acc σ1 H1 hi ⟨τ1,μ1,as,S1,hs1,hc1,ra,h1⟩
  exact it.go i H1 μ1 S1 hc1 (cl_kp h1) hi
 ·rintro acc σ1 H1 ⟨τ1,μ1,as,S1,hs1,hc1,ra,h1⟩
  rw [List.drop_length]at h1
  exact⟨it.stop H1 μ1 S1 hc1 h1.1,hq _ _ _ _ (S0.trans S1) hc1 ra_ref h1.2⟩
 ·rintro i v acc σ1 H1 H2 hi ⟨τ1,μ1,as,S1,hs1,hc1,ra,h1⟩ y
  rw [List.drop_eq_getElem_cons hi]at h1
  obtain⟨hk,h1⟩:=h1
  obtain⟨S2,c2,rx⟩:=it.yld i H1 μ1 v H2 _ S1 hc1 hk (List.getElem?_eq_getElem hi) y
  refine⟨_,τ1,μ1,_,rx,hs1.kp S2,c2,h1,fun τ3 μ3 σ3 H3 S3 hs3 hc3 h3=>⟨τ3,μ3,_,hs3,hc3,h3,fun k μ4 H4 S4 c4 h4=>?_⟩⟩
  rcases br_e h4 with⟨rfl,h4'⟩ | ⟨rfl,h4'⟩
  ·rw [if_pos rfl]
   refine⟨τ3,μ4,_,hs3.kp S4,c4,h4',fun w μ5 u H5 S5 c5 rw h5=>?_⟩
   obtain⟨e5,hl,h5⟩:=h5
   obtain⟨o,ho,vs,rfl,rs⟩:=c5 _ _ e5
   have S:Kp H1 H5:=S2.trans (S3.trans (S4.trans S5))
   exact⟨vs,ho,by rw [<- rs.length];exact hl,τ3,_,_,(S1.trans S).trans (Kp.put ho trivial _),(hs3.kp (S4.trans S5)).kp (Kp.put ho trivial _),c5.put ho trivial (rm_lst (rs.append (.cons rw .nil))),(rs.append (.cons rw .nil)).kp (Kp.put ho trivial _),h5⟩
  ·rw [if_neg Bool.false_ne_true]
   have S:Kp H1 H4:=S2.trans (S3.trans S4)
   exact⟨τ3,μ4,as,S1.trans S,hs3.kp S4,c4,ra.kp S,h4'⟩
variable {N':List Str}{mp:List (Option Nat)}{elt iter:Expr}{ifs:List Expr}{scope:Scope}{wi:AI}{g:AG}{tst:AT}{te:AE}
theorem ve_comp(hc:X.calm=true)(hi:VI X tg iter wi)(hg:∀C s H fp,VG (cxComp X N' scope C s H fp) tg g)(ht:∀C s H fp,VIfs (cxComp X N' scope C s H fp) ifs tst)(he:∀C s H fp,VE (cxComp X N' scope C s H fp) elt te)
  (ok:CompOk X.N X.env.scope.names scope.names N' mp) (hk:scope.kind=.function:=by rfl) (hs:∀x,foldedSetIterable iter X.env x=pure x:=by intro _;rfl) :
  VE X (.ListComp elt [⟨tg,iter,ifs,0⟩] scope pos) (vComp mp wi g tst te):=(pe_comp (g:=cG X.K g) (tst:=cT X.K tst) (te:=cE X.K te) hc hi (fun C s H fp=>hg C s H fp) (fun C s H fp=>ht C s H fp) (fun C s H fp=>he C s H fp) ok hk hs).imp fun _ _ _ h=>vComp_imp h
theorem vs_setC{i:Nat}{y:Str}{py spos:Pos}(hc:X.calm=true)(hN:X.N.Nodup)(hi':X.N[i]?=some y)(hy:X.env.scope.names.lookup y=some .local)
  (hi:VI X tg iter wi) (hg:∀C s H fp,VG (cxComp X N' scope C s H fp) tg g) (ht:∀C s H fp,VIfs (cxComp X N' scope C s H fp) ifs tst) (he:∀C s H fp,VE (cxComp X N' scope C s H fp) elt te)
  (ok:CompOk X.N X.env.scope.names scope.names N' mp) (hsw:swapsWith (.ListComp elt [⟨tg,iter,ifs,0⟩] scope pos) (some (.Name y py)) spos.line X.env=pure true:=by rfl)
  (hk:scope.kind=.function:=by rfl) (hs:∀x,foldedSetIterable iter X.env x=pure x:=by intro _;rfl) :
  VS X (.Assign [.Name y py] (.ListComp elt [⟨tg,iter,ifs,0⟩] scope pos) spos) (vAsg (vComp mp wi g tst te) (wName i)):=(ps_setC (g:=cG X.K g) (tst:=cT X.K tst) (te:=cE X.K te) hc hN hi' hy hi (fun C s H fp=>hg C s H fp) (fun C s H fp=>ht C s H fp) (fun C s H fp=>he C s H fp) ok hsw hk hs).imp fun D σ H zz66=>ex64 zz66 fun τ μ nk nr nb nc hs hc h hq =>
 vComp_imp (K:=X.K) ⟨τ,μ,_,hs,hc,h,fun x μ1 v H1 S1 c1 rx hx=>hq.nx _ _ _ _ S1 ((hs.kp S1).set rx i) c1 hx⟩
end
section
variable {P:Program}{w:World}{K:PySem.W.Frag}{mg:Str->Option Value}{base:Heap}
def aNx(R:AV->M->Prop):ASt->M->Prop:=fun _ μ'=>∃ ν,Sub ν μ'/\R (.D .none) ν
def aRt(R:AV->M->Prop):AV->M->Prop:=fun v μ'=>∃ ν,Sub ν μ'/\R v ν
def aNo:ASt->M->Prop:=fun _ _=>False
theorem Fun.vok{x qual:Str}{st:Stmt}{f:Addr}{fd:FuncData}{N ps:List Str}{k:Nat}{sp:ASp}(F:Fun K x qual st f fd)(S:FnScope N ps (defScope st))
  (hbody:∀(cdv:Value) (A:Around) (outer:List Env) (s:Shared) (H:Hp) (E:XK),Room k (A.deeper (envOfC qual (defScope st) s.heap.objs.size f cdv)) ->
   ∃t,VSs (cxOf CX0 P w K mg base N qual (defScope st) f cdv A outer s H E).nox (defBody st) t/\∀xs μ R,xs.length=ps.length->sp xs μ R->t (aNx R) (aRt R) aNo aNo (startA N xs) μ):FnOk P w K mg base CX0 (k+1) f fd ps (cSp K ps.length sp):=by
 refine F.ok S (fun vs H Q E h=>?_) (fun cdv A outer s H vs Q E hr h=>?_)
 ·obtain⟨xs,μ,R,hl,rs,_⟩:=h
  rw [<- rs.length];exact hl
 ·obtain⟨xs,μ,R,hl,rs,hc,hsp,hq⟩:=h
  obtain⟨t,ht,h⟩:=hbody cdv A outer s H E hr
  refine⟨_,ht,startA N xs,μ,_,_,_,_,StA.begin rs,hc,h xs μ R hl hsp,⟨fun τ μ' σ H' S' _ c zz67=>ex12 zz67 fun ν hν r=>?_,fun v μ' u H' S' c rv zz68=>ex12 zz68 fun ν hν r=>?_,fun _ _ _ _ _ _ _ h=>h.elim,fun _ _ _ _ _ _ _ h=>h.elim⟩⟩
  ·exact hq _ _ _ _ S' (c.sub hν) ra_non r
  ·exact hq _ _ _ _ S' (c.sub hν) rv r
end
end L2
namespace L2
open PySem PySem.Spec PyProof.Rows
section
variable {X:Cx}{a b c:Expr}{ta tb tc:AE}{pos:Pos}{tg:Expr}
def jSeq(t:AE):AI:=fun τ μ R=>t τ μ fun x μ1=>opt (items μ1 x) fun xs=>R xs (fun μ=>items μ x=some xs) μ1
theorem vi_seq(hl:VE X a ta):VI X tg a (jSeq ta):=by
 intro pins s σ H R I zz69
 refine ex34 zz69 fun τ μ R' hs hc h hq=>?_
 refine thn (hl pins s σ H (fun v H1=>∃x μ1 xs,Kp H H1/\Cn X.K μ1 H1/\RelA X.K H1 x v/\items μ1 x=some xs/\R' xs (fun μ=>items μ x=some xs) μ1) I ⟨τ,μ,_,hs,hc,h,fun x μ1 v H1 S1 c1 rx hx=>?_⟩) fun v s1 zz702=>?_
 ·obtain⟨xs,e,hx⟩:=opt_e hx
  exact⟨x,μ1,xs,S1,c1,rx,e,hx⟩
 obtain⟨xv,H1,I1,r1,x,μ1,xs,S1,c1,rx,e,hx⟩:=zz702
 obtain⟨p,vs,rfl,hp,rs⟩:=items_kind c1 rx e
 cases r1
 rcases hp with⟨k,hp⟩ | ⟨k,hp⟩
 ·obtain⟨its,rv,pl,hz⟩:=I1.list hp
  refine wpAny_pyIter_list pl.isList ?_
  refine⟨s1.heap.objs.size,[s1.heap.objs.size],_,_,H1,rfl,I1.kept (t':=s1.toks) fun b o e=>Heap.get?_push_of_some _ e,turn_list p _,⟨_,Heap.get?_push_size _ rfl,rfl,rfl⟩,fun b hb=>?_,hq _ _ _ _ _ S1 c1 (itOk_list fun H μ S c k2=>?_) hx⟩
  ·have e:b=s1.heap.objs.size:=by simpa using hb
   subst e
   exact I1.fpOk (Nat.le_refl _) (I1.hok.fresh (Nat.le_refl _))
  ·obtain⟨q,ws,e,hw,rw⟩:=items_kind c (rx.kp S) k2
   cases e
   rcases hw with⟨_,hw⟩ | ⟨k3,_⟩
   ·exact⟨ws,hw,rw⟩
   ·rw [k]at k3;cases k3
 ·obtain⟨its,rv,pl,hz⟩:=I1.tuple hp
  refine wpAny_pyIter_tuple (show s1.heap.IsTuple p its.toArray from pl) ?_
  refine⟨s1.heap.objs.size,[s1.heap.objs.size],_,_,H1,rfl,I1.kept (t':=s1.toks) fun b o e=>Heap.get?_push_of_some _ e,turn_tuple p _,⟨_,Heap.get?_push_size _ rfl,rfl,rfl⟩,fun b hb=>?_,hq _ _ _ _ _ S1 c1 (itOk_tup fun H μ S c k2=>?_) hx⟩
  ·have e:b=s1.heap.objs.size:=by simpa using hb
   subst e
   exact I1.fpOk (Nat.le_refl _) (I1.hok.fresh (Nat.le_refl _))
  ·obtain⟨q,ws,e,hw,rw⟩:=items_kind c (rx.kp S) k2
   cases e
   rcases hw with⟨k3,_⟩ | ⟨_,hw⟩
   ·rw [k]at k3;cases k3
   ·exact⟨ws,hw,rw⟩
end
section
variable {c:AT}{g:AG}{tb:AS}{k:ASt->M->Prop}{r:AV->M->Prop}{bb cc:ASt->M->Prop}{tst:AT}{te:AE}
theorem while_i{τ:ASt}{μ:M}(I:Nat->ASt->M->Prop)(m:Nat)(h0:I m τ μ)
  (step:∀m τ μ (W:ASt->M->Prop),I m τ μ->(∀m' τ' μ',m' < m->I m' τ' μ'->W τ' μ')->c τ μ fun x μ1=>brP x (tb W r k W τ μ1) (k τ μ1)):∃n,wl c tb k r n τ μ:=by
 have key:∀n m τ μ,m < n->I m τ μ->wl c tb k r n τ μ:=by
  intro n
  induction n with
  | zero=>intro m τ μ h _;omega
  | succ n ih=>intro m τ μ h hI;exact step m τ μ (wl c tb k r n) hI fun m' τ' μ' hm hI'=>ih m' τ' μ' (by omega) hI'
 exact⟨m+1,key (m+1) m τ μ (Nat.lt_succ_self _) h0⟩
theorem seq_i{t u:AS}{τ:ASt}{μ:M}(J:ASt->M->Prop)(h1:∀W:ASt->M->Prop,(∀ τ' μ',J τ' μ'->W τ' μ')->t W r bb cc τ μ)(h2:∀ τ' μ',J τ' μ'->u k r bb cc τ' μ'):vSeq t u k r bb cc τ μ:=h1 (u k r bb cc) h2
theorem seq_d{t u:AS}{τ:ASt}{μ:M}(h:t (u k r bb cc) r bb cc τ μ):vSeq t u k r bb cc τ μ:=h
theorem asg_c{x:AV}{i:Nat}{τ:ASt}{μ:M}(h:k (τ.set i (some x)) μ):vAsg (vC x) (wName i) k r bb cc τ μ:=h
theorem for_i{kp:M->Prop}{xs:List AV}{τ:ASt}{μ:M}(I:Nat->ASt->M->Prop)(h0:I 0 τ μ)(hk:∀i τ μ,I i τ μ->kp μ)
  (step:∀i x τ μ (W:ASt->M->Prop),xs[i]?=some x->I i τ μ->(∀ τ' μ',I (i+1) τ' μ'->W τ' μ')->g x τ μ fun τ2 μ2=>tb W r k W τ2 μ2)
  (done:∀ τ μ,I xs.length τ μ->k τ μ):fl g tb k r kp xs τ μ:=by
 have key:∀n i τ μ,n+i=xs.length->I i τ μ->fl g tb k r kp (xs.drop i) τ μ:=by
  intro n
  induction n with
  | zero =>
   intro i τ μ h hI
   have e:i=xs.length:=by omega
   subst e
   rw [List.drop_length]
   exact⟨hk _ _ _ hI,done τ μ hI⟩
  | succ n ih =>
   intro i τ μ h hI
   have hi:i < xs.length:=by omega
   rw [List.drop_eq_getElem_cons hi]
   exact⟨hk _ _ _ hI,step i _ τ μ _ (List.getElem?_eq_getElem hi) hI fun τ' μ' q=>ih (i+1) τ' μ' (by omega) q⟩
 exact key xs.length 0 τ μ rfl h0
theorem comp_i{p:Addr}{kp:M->Prop}{R:M->Prop}{xs:List AV}{τ:ASt}{μ:M}(I:Nat->List AV->ASt->M->Prop)(h0:I 0 [] τ μ)(hk:∀i acc τ μ,I i acc τ μ->kp μ)
  (step:∀i x acc τ μ (W:List AV->ASt->M->Prop),xs[i]?=some x->I i acc τ μ->(∀acc' τ' μ',I (i+1) acc' τ' μ'->W acc' τ' μ')->g x τ μ fun τ1 μ1=>tst τ1 μ1 fun k μ2 =>
   brP k (te τ1 μ2 fun v μ3=>μ3 p=some (.lst acc)/\acc.length < sizeLine/\W (acc++[v]) τ1 (updM μ3 p (.lst (acc++[v])))) (W acc τ1 μ2))
  (done:∀acc τ μ,I xs.length acc τ μ->R μ):cl p g tst te kp R xs [] τ μ:=by
 have key:∀n i acc τ μ,n+i=xs.length->I i acc τ μ->cl p g tst te kp R (xs.drop i) acc τ μ:=by
  intro n
  induction n with
  | zero =>
   intro i acc τ μ h hI
   have e:i=xs.length:=by omega
   subst e
   rw [List.drop_length]
   exact⟨hk _ _ _ _ hI,done acc τ μ hI⟩
  | succ n ih =>
   intro i acc τ μ h hI
   have hi:i < xs.length:=by omega
   rw [List.drop_eq_getElem_cons hi]
   exact⟨hk _ _ _ _ hI,step i _ acc τ μ (fun acc' τ' μ'=>cl p g tst te kp R (xs.drop (i+1)) acc' τ' μ') (List.getElem?_eq_getElem hi) hI fun acc' τ' μ' q=>ih (i+1) acc' τ' μ' (by omega) q⟩
 exact key xs.length 0 [] τ μ rfl h0
end
theorem eqOk_str{z:Str}(h:PyData.canLay0 (.str z)=true):EqOk (.str z):=⟨h,by simp [PyData.depth]⟩
theorem eqOk_none:EqOk .none:=⟨rfl,by simp [PyData.depth]⟩
theorem eqOk_int(i:Int):EqOk (.int i):=⟨rfl,by simp [PyData.depth]⟩
theorem eqv_int(i j:Int):PyData.eqv (.int i) (.int j)=decide (i=j):=by
 rw [PyData.eqv];exact Bool.eq_iff_iff.mpr (by simp)
theorem ieq{i j:Int}{T F:Prop}(h1:i=j->T)(h2:i≠j->F):EqOk (.int i)/\EqOk (.int j)/\brP (PyData.eqv (.int i) (.int j)) T F:=by
 refine⟨eqOk_int _,eqOk_int _,?_⟩
 rw [eqv_int]
 exact dif h1 h2
theorem items_R{μ:M}{p:Addr}{xs:List AV}(h:μ p=some (.lst xs)):items μ (.R p)=some xs:=by
 show(match μ p with | some (.lst xs)=>some xs | _=>none)=_
 rw [h]
theorem cut1{d:PyData}{ds:List PyData}:cutD (d :: ds) (some 1) none=ds:=by
 unfold cutD
 have e1:HT.sIx (d :: ds).length 0 (some 1)=1:=by
  show min (1:Int).toNat (d :: ds).length=1
  simp
 rw [e1,HT.sIx_none,List.drop_succ_cons,List.drop_zero,List.take_of_length_le (by simp)]
end L2
namespace L2
open PySem PySem.Spec PyProof.Rows
def valA{κ:Type} [DecidableEq κ](kvs:List (κ×AV))(k:κ):Option AV:=(kvs.find? fun kv=>decide (kv.1=k)).map (·.2)
def putA{κ:Type} [DecidableEq κ](kvs:List (κ×AV))(k:κ)(v:AV):List (κ×AV) :=
 if(kvs.any fun kv=>decide (kv.1=k))=true then kvs.map fun kv=>if kv.1=k then(kv.1,v) else kv else kvs++[(k,v)]
def keysOf:List PyData->Option (List Key)
 | []=>some []
 | d :: ds=>match keyOf d,keysOf ds with
  | some k,some ks=>some (k :: ks)
  | _,_=>none
def keysT(ds:List PyData):Option (List Key):=match Lit ds with
 | true=>none
 | false=>keysOf ds
theorem keysT_e{ds:List PyData}{ks:List Key}(h:keysT ds=some ks):Lit ds=false/\keysOf ds=some ks:=by
 unfold keysT at h
 cases c:Lit ds with
 | true=>rw [c]at h;cases h
 | false=>rw [c]at h;exact⟨rfl,h⟩
theorem FzT.heap{K:PySem.W.Frag}{H:Hp}{a:Addr}{ds:List PyData}{xs:List V}(h:FzT K H a ds xs)(hl:Lit ds=false):H a=some (.tup xs):=by
 rcases h with h | h
 ·exact h
 ·rw [hl]at h;cases h.1
def dget(m:MO)(d:PyData):Option (Option AV):=match m with
 | .dk kvs=>(keyOf d).map (valA kvs)
 | .dt kvs=>match d with
  | .tuple ds=>(keysT ds).map (valA kvs)
  | _=>none
 | .lst _=>none
 | .dd _=>none
def dput(m:MO)(d:PyData)(v:AV):Option MO:=match m with
 | .dk kvs=>(keyOf d).map fun k=>.dk (putA kvs k v)
 | .dt kvs=>match d with
  | .tuple ds=>(keysT ds).map fun k=>.dt (putA kvs k v)
  | _=>none
 | .lst _=>none
 | .dd _=>none
def dsize:MO->Nat
 | .dk kvs=>kvs.length
 | .dt kvs=>kvs.length
 | .lst xs=>xs.length
 | .dd kvs=>kvs.length
section
variable {X:Cx}{K:PySem.W.Frag}{H:Hp}
def RelOA(K:PySem.W.Frag)(H:Hp):Option AV->Option V->Prop
 | some x,some v=>RelA K H x v
 | none,none=>True
 | _,_=>False
theorem RelK.val{κ:Type} [DecidableEq κ]{kvs:List (κ×AV)}{vs:List (κ×V)}(h:RelK K H kvs vs)(k:κ):RelOA K H (valA kvs k) (valV vs k):=by
 unfold RelK at h
 induction h with
 | nil=>exact trivial
 | @cons p q l₁ l₂ r t ih =>
  obtain⟨p1,p2⟩:=p
  obtain⟨q1,q2⟩:=q
  obtain⟨e,r⟩:=r
  dsimp only at e
  subst e
  unfold valA valV at ih ⊢
  by_cases hk:p1=k
  ·simp only [List.find?_cons,decide_eq_true hk];exact r
  ·simp only [List.find?_cons,decide_eq_false hk];exact ih
theorem RelK.put{κ:Type} [DecidableEq κ]{kvs:List (κ×AV)}{vs:List (κ×V)}(h:RelK K H kvs vs)(k:κ){x:AV}{v:V}(r:RelA K H x v):RelK K H (putA kvs k x) (putK vs k v):=by
 have hn:(kvs.any fun kv=>decide (kv.1=k))=(vs.any fun kv=>decide (kv.1=k)):=by
  unfold RelK at h
  induction h with
  | nil=>rfl
  | @cons p q l₁ l₂ rr t ih=>rw [List.any_cons,List.any_cons,ih,rr.1]
 have hm:RelK K H (kvs.map fun kv=>if kv.1=k then(kv.1,x) else kv) (vs.map fun kv=>if kv.1=k then(kv.1,v) else kv):=by
  clear hn
  unfold RelK at h ⊢
  induction h with
  | nil=>exact .nil
  | @cons p q l₁ l₂ rr t ih =>
   refine .cons ?_ ih
   obtain⟨e,rr⟩:=rr
   dsimp only
   by_cases hk:p.1=k
   ·rw [if_pos hk,if_pos (e ▸ hk)];exact⟨e,r⟩
   ·rw [if_neg hk,if_neg (e ▸ hk)];exact⟨e,rr⟩
 have ha:RelK K H (kvs++[(k,x)]) (vs++[(k,v)]):=by
  clear hn hm
  unfold RelK at h ⊢
  exact Paired.snoc h ⟨rfl,r⟩
 unfold putA putK
 rw [hn]
 split
 ·exact hm
 ·exact ha
theorem keyOf_v{d:PyData}{k:Key}{v:V}(h:Dk K H d v)(e:keyOf d=some k):v=kV k:=by
 unfold keyOf at e
 split at e
 ·cases e;exact h.int
 ·cases e;exact h.str
 ·cases e
theorem keysOf_v:∀{ds:List PyData} {ks:List Key} {vs:List V},DkAll K H ds vs->keysOf ds=some ks->vs=ks.map kV
 | [],ks,vs,h,e=>by cases e;exact h.nil
 | d :: ds,ks,vs,h,e=>by
  obtain⟨x,r,rfl,h1,h2⟩:=h.cons
  simp only [keysOf]at e
  split at e
  ·rename_i k ks' e1 e2
   cases e
   rw [keyOf_v h1 e1,keysOf_v h2 e2];rfl
  ·cases e
theorem dget_ok{μ:M}{a:Addr}{m:MO}{d:PyData}{v:V}{o:Option AV}(hc:Cn K μ H)(hm:μ a=some m)(hd:Dk K H d v)(e:dget m d=some o):∃r,DGet H a v r/\RelOA K H o r:=by
 obtain⟨ob,ho,rm⟩:=hc a m hm
 unfold dget at e
 split at e
 ·obtain⟨k,ek,rfl⟩:=Option.map_eq_some_iff.mp e
  obtain⟨vs,rfl,rs⟩:=rm
  rw [keyOf_v hd ek]
  exact⟨_,DGet.k ho,rs.val k⟩
 ·split at e
  ·obtain⟨ks,ek,rfl⟩:=Option.map_eq_some_iff.mp e
   obtain⟨vs,rfl,rs⟩:=rm
   obtain⟨b,xs,rfl,hb,hx⟩:=hd.tup
   obtain⟨e0,ek⟩:=keysT_e ek
   have hb:=hb.heap e0
   rw [keysOf_v hx ek]at hb
   exact⟨_,DGet.t ho hb,rs.val ks⟩
  ·cases e
 ·cases e
 ·cases e
theorem dput_ok{μ:M}{a:Addr}{m m':MO}{d:PyData}{v w:V}{x:AV}(hc:Cn K μ H)(hm:μ a=some m)(hd:Dk K H d v)(hx:RelA K H x w)(e:dput m d x=some m')(hs:dsize m < sizeLine):∃H',DPut H a v w H'/\Kp H H'/\Cn K (updM μ a m') H':=by
 obtain⟨ob,ho,rm⟩:=hc a m hm
 unfold dput at e
 split at e
 ·obtain⟨k,ek,rfl⟩:=Option.map_eq_some_iff.mp e
  obtain⟨vs,rfl,rs⟩:=rm
  rw [keyOf_v hd ek]
  exact⟨_,DPut.k ho (by rw [<- Paired.length rs];exact hs),Kp.put ho trivial _,hc.put ho trivial ⟨_,rfl,rs.put k hx⟩⟩
 ·split at e
  ·obtain⟨ks,ek,rfl⟩:=Option.map_eq_some_iff.mp e
   obtain⟨vs,rfl,rs⟩:=rm
   obtain⟨b,xs,rfl,hb,hxs⟩:=hd.tup
   obtain⟨e0,ek⟩:=keysT_e ek
   have hb:=hb.heap e0
   rw [keysOf_v hxs ek]at hb
   exact⟨_,DPut.t ho hb (by rw [<- Paired.length rs];exact hs),Kp.put ho trivial _,hc.put ho trivial ⟨_,rfl,rs.put ks hx⟩⟩
  ·cases e
 ·cases e
 ·cases e
variable {o i e value:Expr}{pos pos':Pos}{td ty tv tx:AE}
def vDGet(td ty:AE):AE:=fun τ μ R=>td τ μ fun x μ1=>ty τ μ1 fun y μ2=>match x,y with
 | .R a,.D d=>opt (μ2 a) fun m=>opt (dget m d) fun r=>opt r fun v=>R v μ2
 | _,_=>False
def vDIn(nb:Bool->Bool)(ty td:AE):AE:=fun τ μ R=>ty τ μ fun y μ1=>td τ μ1 fun x μ2=>match x,y with
 | .R a,.D d=>opt (μ2 a) fun m=>opt (dget m d) fun r=>R (.D (.bool (nb r.isSome))) μ2
 | _,_=>False
theorem RelOA.some{o:Option AV}{r:Option V}(h:RelOA K H o r):o.isSome=r.isSome:=by
 cases o <;> cases r <;> first | rfl | exact h.elim
theorem vDIn_imp{K:PySem.W.Frag}{σ:St}{H:Hp}{Q:VK}(h:cE K (vDIn (fun b=>b) ty td) σ H Q):tDIn (cE K ty) (cE K td) σ H Q:=by
 obtain⟨τ,μ,R,hs,hc,h,hq⟩:=h
 refine⟨τ,μ,_,hs,hc,h,fun y μ1 v H1 S1 c1 ry hx=>⟨τ,μ1,_,hs.kp S1,c1,hx,fun x μ2 u H2 S2 c2 rx hy=>?_⟩⟩
 split at hy
 ·obtain⟨m,em,hy⟩:=opt_e hy
  obtain⟨r,er,hy⟩:=opt_e hy
  obtain⟨r',g,ro⟩:=dget_ok c2 em (ry.kp S2) er
  refine⟨_,r',rx.ref,g,hq _ _ _ _ (S1.trans S2) c2 ?_ hy⟩
  rw [ro.some];exact ra_bl
 ·exact hy.elim
theorem ve_din(hu:X.A.units+1 < cLine)(hi:VE X i ty)(ho:VE X o td)(h1:behindInMarks .In o=false:=by rfl):VE X (.Compare i [.In] [o] pos) (vDIn (fun b=>b) ty td):=(pe_cmp (pc_din hu hi ho) h1).imp fun _ _ _ h=>vDIn_imp h
def vDPut(td ty tv:AE):AS:=fun k _ _ _ τ μ=>tv τ μ fun v μ1=>td τ μ1 fun x μ2=>ty τ μ2 fun y μ3=>match x,y with
 | .R a,.D d=>opt (μ3 a) fun m=>opt (dput m d v) fun m'=>dsize m < sizeLine/\k τ (updM μ3 a m')
 | _,_=>False
theorem vs_dput(hu:X.A.units+1 < cLine)(ho:VE X o td)(hi:VE X i ty)(hv:VE X value tv)(hs:swapsWith value (some (.Subscript o i pos')) pos.line X.env=pure false:=by rfl):VS X (.Assign [.Subscript o i pos'] value pos) (vDPut td ty tv):=(ps_dput hu ho hi hv hs).imp fun D σ H zz72=>ex64 zz72 fun τ μ nk nr nb nc hs hc h hq =>
 ⟨τ,μ,_,hs,hc,h,fun v μ1 vv H1 S1 c1 rv h1=>⟨τ,μ1,_,hs.kp S1,c1,h1,fun x μ2 xv H2 S2 c2 rx h2=>⟨τ,μ2,_,hs.kp (S1.trans S2),c2,h2,fun y μ3 yv H3 S3 c3 ry h3=>by
  split at h3
  ·obtain⟨m,em,h3⟩:=opt_e h3
   obtain⟨m',em',h3⟩:=opt_e h3
   obtain⟨H4,g,S4,c4⟩:=dput_ok c3 em ry (rv.kp (S2.trans S3)) em' h3.1
   have S:=S1.trans (S2.trans (S3.trans S4))
   exact⟨_,H4,(rx.kp S3).ref,g,hq.nx _ _ _ _ S (hs.kp S) c4 h3.2⟩
  ·exact h3.elim⟩⟩⟩
def vDNewK:AE:=fun _ μ R=>∀p,μ p=none->R (.R p) (updM μ p (.dk []))
theorem rm_dk{kvs:List (Key×AV)}{vs:List (Key×V)}(h:RelK K H kvs vs):RelM K H (.dk kvs) (.dK vs):=⟨vs,rfl,h⟩
theorem ve_dnewK:VE X (.Dict [] [] pos) vDNewK:=pe_dnewK.imp fun σ H Q zz73=>ex34 zz73 fun τ μ R hs hc h hq=>fun p hp=>hq _ _ _ _ (Kp.new hp _) (hc.new hp (rm_dk .nil)) ra_ref (h p (hc.none hp))
end
end L2
namespace L2
theorem len_succ{α:Type}{us:List α}{n:Nat}(h:us.length=n+1):∃a t,us=a :: t/\t.length=n:=match us,h with | a :: t,h=>⟨a,t,rfl,Nat.succ.inj h⟩
theorem len_one{α:Type}{us:List α}(h:us.length=1):∃a,us=[a]:=by
 obtain⟨a,t,rfl,h2⟩:=len_succ h
 rw [List.eq_nil_of_length_eq_zero h2];exact⟨a,rfl⟩
theorem len_two{α:Type}{us:List α}(h:us.length=2):∃a b,us=[a,b]:=by
 obtain⟨a,t,rfl,h2⟩:=len_succ h
 obtain⟨b,rfl⟩:=len_one h2
 exact⟨a,b,rfl⟩
open PySem PySem.Spec PySem.Calls PyProof.Rows
abbrev AX:=Addr->List (Str×PyData)->M->Prop
section
variable {K:PySem.W.Frag}{H H':Hp}
end
section
variable {X:Cx}{pins:List (Addr×Obj)}{σ:St}{H:Hp}{s:Shared}
end
section
variable {X:Cx}{x:Str}{p pos pos':Pos}{e:Expr}{es:List Expr}{t:AA}{k:Nat}{C:Addr}{fns:List Str}{EX:AX}
end
abbrev ASpX:=List AV->M->(AV->M->Prop)->AX->Prop
section
variable {X:Cx}{x:Str}{p pos:Pos}{e:Expr}{es:List Expr}{t:AA}{k:Nat}{ps:List Str}{sp:ASpX}{EX:AX}
end
section
variable {P:Program}{w:World}{K:PySem.W.Frag}{mg:Str->Option Value}{base:Heap}
end
section
variable {X:Cx}{pins:List (Addr×Obj)}{σ:St}{H:Hp}{s:Shared}{st:Stmt}{rest:List Stmt}{t s1 s2:AS}
end
section
variable {X:Cx}{a:Expr}{ta:AE}{pos p p2:Pos}{x:Str}
end
end L2
namespace L2
open PySem PySem.Spec PyProof.Rows
def enumA:Nat->List PyData->List AV
 | _,[]=>[]
 | i,d :: ds=>.D (.tuple [.int i,d]) :: enumA (i+1) ds
theorem enumA_length:∀(ds:List PyData) (k:Nat),(enumA k ds).length=ds.length
 | [],_=>rfl
 | _ :: ds,k=>by rw [enumA,List.length_cons,enumA_length ds,List.length_cons]
theorem enumA_get:∀{ds:List PyData} {k i:Nat} {x:AV},(enumA k ds)[i]?=some x->∃d,ds[i]?=some d/\x=.D (.tuple [.int ((k+i:Nat):Int),d])
 | [],_,_,_,h=>by simp [enumA]at h
 | d :: ds,k,0,_,h=>by simp [enumA]at h;exact⟨d,rfl,by rw [<- h];simp⟩
 | _ :: ds,k,i+1,_,h=>by
  rw [enumA,List.getElem?_cons_succ]at h
  obtain⟨d,e,q⟩:=enumA_get h
  refine⟨d,by simpa using e,?_⟩
  rw [q]
  have e2:k+1+i=k+(i+1):=by omega
  rw [e2]
theorem itOk_enumT{K:PySem.W.Frag}{H0:Hp}{a:Addr}{ys:List AV}{ds:List PyData}{kp:M->Prop}(hd:dats ys=some ds)(h:∀H μ,Kp H0 H->Cn K μ H->kp μ->∃vs,SqT K H a vs/\RelAs K H ys vs):ItOk K H0 (Ien K a) (enumA 0 ds) kp:=by
 have hn:ds.length=ys.length:=by rw [dats_eq hd,List.length_map]
 refine⟨fun i H μ S c k hi=>?_,fun i H μ v H' x S c k e y=>?_,fun H μ S c k=>?_⟩
 ·obtain⟨vs,q,r⟩:=h H μ S c k
  rw [enumA_length,hn]at hi
  exact⟨vs,vs[i]'(by rw [<- r.length];exact hi),q,List.getElem?_eq_getElem _⟩
 ·obtain⟨vs,q,r⟩:=h H μ S c k
  obtain⟨T,z,hT,rfl,rfl,y⟩:=y
  obtain⟨d,e1,rfl⟩:=enumA_get e
  obtain⟨u,eu,ru⟩:=(r.dats hd).get e1
  rw [y vs q]at eu
  cases eu
  refine⟨Kp.new hT _,c.over hT,ra_tup upd_same ?_⟩
  rw [Nat.zero_add]
  exact dks_cons dk_int (dks_cons (Dk.kp (Kp.new hT _) _ _ ru) dks_nil)
 ·obtain⟨vs,q,r⟩:=h H μ S c k
  exact⟨vs,q,by rw [enumA_length,hn,r.length]⟩
theorem itOk_enumL{K:PySem.W.Frag}{H0:Hp}{a:Addr}{ys:List AV}{ds:List PyData}{kp:M->Prop}(hd:dats ys=some ds)(h:∀H μ,Kp H0 H->Cn K μ H->kp μ->∃vs,SqL K H a vs/\RelAs K H ys vs):ItOk K H0 (Iel K a) (enumA 0 ds) kp:=by
 have hn:ds.length=ys.length:=by rw [dats_eq hd,List.length_map]
 refine⟨fun i H μ S c k hi=>?_,fun i H μ v H' x S c k e y=>?_,fun H μ S c k=>?_⟩
 ·obtain⟨vs,q,r⟩:=h H μ S c k
  rw [enumA_length,hn]at hi
  exact⟨vs,vs[i]'(by rw [<- r.length];exact hi),q,List.getElem?_eq_getElem _⟩
 ·obtain⟨vs,q,r⟩:=h H μ S c k
  obtain⟨T,z,hT,rfl,rfl,y⟩:=y
  obtain⟨d,e1,rfl⟩:=enumA_get e
  obtain⟨u,eu,ru⟩:=(r.dats hd).get e1
  rw [y vs q]at eu
  cases eu
  refine⟨Kp.new hT _,c.over hT,ra_tup upd_same ?_⟩
  rw [Nat.zero_add]
  exact dks_cons dk_int (dks_cons (Dk.kp (Kp.new hT _) _ _ ru) dks_nil)
 ·obtain⟨vs,q,r⟩:=h H μ S c k
  exact⟨vs,q,by rw [enumA_length,hn,r.length]⟩
def jEnum(t:AE):AI:=fun τ μ R=>t τ μ fun x μ1=>opt (items μ1 x) fun ys=>opt (dats ys) fun ds=>R (enumA 0 ds) (fun μ=>items μ x=some ys) μ1
section
variable {X:Cx}{a:Expr}{ta:AE}{pos p:Pos}
theorem vi_enum{elts:List Expr}{k:Nat}{tpos:Pos}(hg:Gl X "enumerate") (hm:X.mg "enumerate" = none) (hl:VE X a ta) (hs:starEach [a] X.env=[(false,eval a X.env)]:=by rfl):VI X (.Tuple elts k tpos) (.Call (.Name "enumerate" p) [a] [] pos) (jEnum ta):=by
 intro pins s σ H R I zz91
 refine ex34 zz91 fun τ μ R' hst hc h hq=>?_
 refine wpAny_Call_Name_kw (ld_blt I hg hm boot_enumerate ?_)
 refine PyProof.Rows.callWith_type1 ?_ hs rfl
 rw [hs]
 refine Calls.spliced_cons (thn (hl pins s σ H (fun v H1=>∃x μ1 ys ds,Kp H H1/\Cn X.K μ1 H1/\RelA X.K H1 x v/\items μ1 x=some ys/\dats ys=some ds/\R' (enumA 0 ds) (fun μ=>items μ x=some ys) μ1) I ⟨τ,μ,_,hst,hc,h,fun x μ1 v H1 S1 c1 rx hx=>?_⟩) fun u s1 zz706=>Calls.spliced_nil ?_)
 ·obtain⟨ys,e,hx⟩:=opt_e hx
  obtain⟨ds,ed,hx⟩:=opt_e hx
  exact⟨x,μ1,ys,ds,S1,c1,rx,e,ed,hx⟩
 obtain⟨xv,H1,I1,r1,x,μ1,ys,ds,S1,c1,rx,e,ed,hx⟩:=zz706
 obtain⟨p,vs,rfl,hp,rs⟩:=items_kind c1 rx e
 cases r1
 have fin:∀b∈[s1.heap.objs.size+1,s1.heap.objs.size],FpOk X pins H1 b:=fun b hb=>by
  have hb':s1.heap.objs.size<=b:=by
   rcases List.mem_cons.mp hb with rfl | hb
   ·exact Nat.le_succ _
   ·have e:b=s1.heap.objs.size:=by simpa using hb
    exact Nat.le_of_eq e.symm
  exact I1.fpOk hb' (I1.hok.fresh hb')
 rcases hp with⟨k,hp⟩ | ⟨k,hp⟩
 ·obtain⟨its,rv,pl,hz⟩:=I1.list hp
  refine call_enumerate_list pl.isList fun h' he hit hsz kk=>?_
  refine wpAny_pyIter_enum he ?_
  refine⟨s1.heap.objs.size+1,[s1.heap.objs.size+1,s1.heap.objs.size],_,_,H1,rfl,I1.kept (t':=s1.toks) kk,turn_enumL p _ _ (Nat.succ_ne_self _),⟨⟨_,he⟩,hit⟩,fin,hq _ _ _ _ _ S1 c1 (itOk_enumL ed fun H μ S c k2=>?_) hx⟩
  obtain⟨q,ws,e,hw,rw⟩:=items_kind c (rx.kp S) k2
  cases e
  rcases hw with⟨_,hw⟩ | ⟨k3,_⟩
  ·exact⟨ws,hw,rw⟩
  ·rw [k]at k3;cases k3
 ·obtain⟨its,rv,pl,hz⟩:=I1.tuple hp
  refine L2_call_enum_tuple pl fun h' he hit hsz kk=>?_
  refine wpAny_pyIter_enum he ?_
  refine⟨s1.heap.objs.size+1,[s1.heap.objs.size+1,s1.heap.objs.size],_,_,H1,rfl,I1.kept (t':=s1.toks) kk,turn_enum p _ _ (Nat.succ_ne_self _),⟨⟨_,he⟩,hit⟩,fin,hq _ _ _ _ _ S1 c1 (itOk_enumT ed fun H μ S c k2=>?_) hx⟩
  obtain⟨q,ws,e,hw,rw⟩:=items_kind c (rx.kp S) k2
  cases e
  rcases hw with⟨k3,_⟩ | ⟨_,hw⟩
  ·rw [k]at k3;cases k3
  ·exact⟨ws,hw,rw⟩
end
section
variable {X:Cx}{pos:Pos}{keys:List (Option Expr)}{values:List Expr}{ks:List Key}{ts:List AE}
end
theorem bools_of{α:Type}(g:α->Bool)(xs:List α):bools (xs.map fun x=>.D (.bool (g x)))=some (xs.map g):=by
 rw [show(xs.map fun x=>AV.D (.bool (g x)))=(xs.map g).map fun b=>.D (.bool b) by rw [List.map_map];rfl]
 exact bools_map _
theorem updM_self{μ:M}{p:Addr}{m:MO}(h:μ p=some m):updM μ p m=μ:=by
 funext b
 unfold updM
 split
 ·rename_i e;rw [e,h]
 ·rfl
theorem cmapf{α:Type}{p:Addr}{g:AG}{tst:AT}{te:AE}{kp:M->Prop}{R:M->Prop}{τ:ASt}{μ:M}(as:List α)(g0:α->AV)(b:α->Bool)(f:α->AV)(Sh:ASt->Prop)(h0:Sh τ)(hp:μ p=some (.lst []))(hn:as.length<=sizeLine)(hk:∀acc,kp (updM μ p (.lst acc)))
  (step:∀(i:Nat) (x:α) (τ':ASt) (acc:List AV) (W:ASt->AV->M->Prop) (W2:ASt->M->Prop),as[i]?=some x->Sh τ'->(b x=true->∀ τ1,Sh τ1->W τ1 (f x) (updM μ p (.lst acc)))->(b x=false->∀ τ1,Sh τ1->W2 τ1 (updM μ p (.lst acc))) ->
   g (g0 x) τ' (updM μ p (.lst acc)) fun τ1 μ1=>tst τ1 μ1 fun k μ2=>brP k (te τ1 μ2 (W τ1)) (W2 τ1 μ2))
  (done:R (updM μ p (.lst ((as.filter b).map f)))):cl p g tst te kp R (as.map g0) [] τ μ:=by
 refine comp_i (fun i acc τ' μ'=>Sh τ'/\acc=((as.take i).filter b).map f/\μ'=updM μ p (.lst acc)) ⟨h0,by simp,(updM_self hp).symm⟩ (fun i acc τ μ' ⟨_,_,e⟩=>by rw [e];exact hk _) ?_ ?_
 ·rintro i y acc τ' μ' W hy ⟨sh,rfl,rfl⟩ hW
  rw [List.getElem?_map]at hy
  obtain⟨x,hx,rfl⟩:=Option.map_eq_some_iff.mp hy
  have hi:i < as.length:=(List.getElem?_eq_some_iff.mp hx).1
  have ht:as.take (i+1)=as.take i++[x]:=by rw [List.take_succ,hx];rfl
  refine step i x τ' _ (fun τ1 v μ3=>μ3 p=some (.lst (((as.take i).filter b).map f))/\(((as.take i).filter b).map f).length < sizeLine/\W ((((as.take i).filter b).map f)++[v]) τ1 (updM μ3 p (.lst ((((as.take i).filter b).map f)++[v])))) (fun τ1 μ2=>W (((as.take i).filter b).map f) τ1 μ2) hx sh (fun hb τ1 s1=>⟨updM_same,?_,hW _ _ _ ⟨s1,?_,updM_updM⟩⟩) (fun hb τ1 s1=>hW _ _ _ ⟨s1,?_,rfl⟩)
  ·rw [List.length_map]
   have h1:=List.length_filter_le b (as.take i)
   rw [List.length_take]at h1
   omega
  ·rw [ht,List.filter_append,List.map_append,List.filter_cons,if_pos hb];rfl
  ·rw [ht,List.filter_append,List.map_append,List.filter_cons,if_neg (by rw [hb];exact Bool.false_ne_true)];simp
 ·rintro acc τ' μ' ⟨_,rfl,rfl⟩
  rw [List.length_map,List.take_length]
  exact done
theorem cmap{α:Type}{p:Addr}{g:AG}{te:AE}{kp:M->Prop}{R:M->Prop}{τ:ASt}{μ:M}(as:List α)(g0 f:α->AV)(Sh:ASt->Prop)(h0:Sh τ)(hp:μ p=some (.lst []))(hn:as.length<=sizeLine)(hk:∀acc,kp (updM μ p (.lst acc)))
  (step:∀(i:Nat) (x:α) (τ':ASt) (acc:List AV) (W:ASt->AV->M->Prop),as[i]?=some x->Sh τ'->(∀ τ1,Sh τ1->W τ1 (f x) (updM μ p (.lst acc)))->g (g0 x) τ' (updM μ p (.lst acc)) fun τ1 μ1=>te τ1 μ1 (W τ1))
  (done:R (updM μ p (.lst (as.map f)))):cl p g vYes te kp R (as.map g0) [] τ μ:=by
 refine cmapf as g0 (fun _=>true) f Sh h0 hp hn hk (fun i x τ' acc W W2 hx sh h1 _=>?_) (by rw [List.filter_eq_self.mpr (fun _ _=>rfl)];exact done)
 have:=step i x τ' acc W hx sh (h1 rfl)
 simp only [vYes,brP_true]
 exact this
theorem all_i{α:Type}{g:α->Bool}{as:List α}{μ:M}{p:Addr}{R:AV->M->Prop}(h:μ p=some (.lst (as.map fun x=>.D (.bool (g x)))))(q:R (.D (.bool (as.all g))) μ):aAll [.R p] μ R:=by
 refine opt_i h (opt_i (bools_of g as) ?_)
 rw [List.all_map]
 exact q
section
variable {X:Cx}{K:PySem.W.Frag}{a:Expr}{ta:AE}{pos p p2:Pos}{x:Str}
end
end L2
namespace L2
open PySem PySem.Spec PyProof.Rows
def rk:PyData->Nat
 | .none=>0 | .bool _=>1 | .int _=>2 | .str _=>3 | .list _=>4 | .tuple _=>5 | .dict _=>6
def ltStr(a b:Str):Bool:=decide (a.cps.toList < b.cps.toList)
mutual
def ltT:PyData->PyData->Bool
 | .int a,.int b=>decide (a < b)
 | .str a,.str b=>ltStr a b
 | .tuple xs,.tuple ys=>ltTs xs ys
 | x,y=>decide (rk x < rk y)
def ltTs:List PyData->List PyData->Bool
 | [],[]=>false
 | [],_ :: _=>true
 | _ :: _,[]=>false
 | x :: xs,y :: ys=>if PyData.eqv x y then ltTs xs ys else ltT x y
end
mutual
theorem eqv_eq:∀(x y:PyData),Cano x=true->Cano y=true->PyData.eqv x y=true->x=y
 | .int a,.int b,_,_,h=>by simp [PyData.eqv]at h;rw [h]
 | .str a,.str b,_,_,h=>by simp [PyData.eqv]at h;rw [h]
 | .tuple xs,.tuple ys,h1,h2,h=>by
  simp only [Cano]at h1 h2
  rw [PyData.eqv]at h
  rw [eqvs_eq xs ys h1 h2 h]
 | .int _,.str _,_,_,h=>by simp [PyData.eqv]at h
 | .int _,.tuple _,_,_,h=>by simp [PyData.eqv]at h
 | .str _,.int _,_,_,h=>by simp [PyData.eqv]at h
 | .str _,.tuple _,_,_,h=>by simp [PyData.eqv]at h
 | .tuple _,.int _,_,_,h=>by simp [PyData.eqv]at h
 | .tuple _,.str _,_,_,h=>by simp [PyData.eqv]at h
 | .none,_,h,_,_=>by simp [Cano]at h
 | .bool _,_,h,_,_=>by simp [Cano]at h
 | .list _,_,h,_,_=>by simp [Cano]at h
 | .dict _,_,h,_,_=>by simp [Cano]at h
 | .int _,.none,_,h,_=>by simp [Cano]at h
 | .int _,.bool _,_,h,_=>by simp [Cano]at h
 | .int _,.list _,_,h,_=>by simp [Cano]at h
 | .int _,.dict _,_,h,_=>by simp [Cano]at h
 | .str _,.none,_,h,_=>by simp [Cano]at h
 | .str _,.bool _,_,h,_=>by simp [Cano]at h
 | .str _,.list _,_,h,_=>by simp [Cano]at h
 | .str _,.dict _,_,h,_=>by simp [Cano]at h
 | .tuple _,.none,_,h,_=>by simp [Cano]at h
 | .tuple _,.bool _,_,h,_=>by simp [Cano]at h
 | .tuple _,.list _,_,h,_=>by simp [Cano]at h
 | .tuple _,.dict _,_,h,_=>by simp [Cano]at h
theorem eqvs_eq:∀(xs ys:List PyData),CanoAll xs=true->CanoAll ys=true->PyData.eqvAll xs ys=true->xs=ys
 | [],[],_,_,_=>rfl
 | [],_ :: _,_,_,h=>by simp [PyData.eqvAll]at h
 | _ :: _,[],_,_,h=>by simp [PyData.eqvAll]at h
 | x :: xs,y :: ys,h1,h2,h=>by
  simp only [CanoAll,Bool.and_eq_true]at h1 h2
  rw [PyData.eqvAll,Bool.and_eq_true]at h
  rw [eqv_eq x y h1.1 h2.1 h.1,eqvs_eq xs ys h1.2 h2.2 h.2]
end
mutual
theorem eqv_self:∀(x:PyData),Cano x=true->PyData.eqv x x=true
 | .int a,_=>by simp [PyData.eqv]
 | .str a,_=>by simp [PyData.eqv]
 | .tuple xs,h=>by rw [PyData.eqv];exact eqvs_self xs (by simpa only [Cano] using h)
 | .none,h=>by simp [Cano]at h
 | .bool _,h=>by simp [Cano]at h
 | .list _,h=>by simp [Cano]at h
 | .dict _,h=>by simp [Cano]at h
theorem eqvs_self:∀(xs:List PyData),CanoAll xs=true->PyData.eqvAll xs xs=true
 | [],_=>rfl
 | x :: xs,h=>by
  simp only [CanoAll,Bool.and_eq_true]at h
  rw [PyData.eqvAll,eqv_self x h.1,eqvs_self xs h.2];rfl
end
theorem eqv_ne{x y:PyData}(hx:Cano x=true)(hy:Cano y=true):PyData.eqv x y=false↔x≠y:=by
 constructor
 ·rintro h rfl
  rw [eqv_self x hx]at h;cases h
 ·intro h
  cases e:PyData.eqv x y with
  | false=>rfl
  | true=>exact absurd (eqv_eq x y hx hy e) h
theorem cano_cases{x:PyData}(h:Cano x=true):(∃i,x=.int i)\/(∃z,x=.str z)\/∃xs,x=.tuple xs/\CanoAll xs=true:=by
 cases x with
 | int i=>exact .inl ⟨i,rfl⟩
 | str z=>exact .inr (.inl ⟨z,rfl⟩)
 | tuple xs=>exact .inr (.inr ⟨xs,rfl,by simpa only [Cano] using h⟩)
 | none=>simp [Cano]at h
 | bool _=>simp [Cano]at h
 | list _=>simp [Cano]at h
 | dict _=>simp [Cano]at h
theorem ltStr_tr{a b c:Str}(h1:ltStr a b=true)(h2:ltStr b c=true):ltStr a c=true:=by
 unfold ltStr at *
 exact decide_eq_true (List.lt_trans (of_decide_eq_true h1) (of_decide_eq_true h2))
theorem cps_ext{a b:Str}(h:a.cps.toList=b.cps.toList):a=b:=by
 cases a;cases b
 simp only [Array.toList_inj]at h
 rw [h]
theorem ltStr_tot{a b:Str}(h:a≠b)(h1:ltStr a b=false):ltStr b a=true:=by
 unfold ltStr at *
 have h1:=of_decide_eq_false h1
 refine decide_eq_true ?_
 rcases Decidable.em (b.cps.toList < a.cps.toList) with z | z
 ·exact z
 ·exact absurd (cps_ext (List.le_antisymm (List.not_lt.mp z) (List.not_lt.mp h1))) h
mutual
theorem ltT_tr:∀(x y z:PyData),Cano x=true->Cano y=true->Cano z=true->ltT x y=true->ltT y z=true->ltT x z=true
 | .int a,y,z,_,hy,hz,h1,h2=>by
  rcases cano_cases hy with⟨b,rfl⟩ | ⟨b,rfl⟩ | ⟨ys,rfl,_⟩ <;> rcases cano_cases hz with⟨c,rfl⟩ | ⟨c,rfl⟩ | ⟨zs,rfl,_⟩ <;> simp [ltT,rk]at h1 h2 ⊢
  omega
 | .str a,y,z,_,hy,hz,h1,h2=>by
  rcases cano_cases hy with⟨b,rfl⟩ | ⟨b,rfl⟩ | ⟨ys,rfl,_⟩ <;> rcases cano_cases hz with⟨c,rfl⟩ | ⟨c,rfl⟩ | ⟨zs,rfl,_⟩ <;> simp [ltT,rk]at h1 h2 ⊢
  exact ltStr_tr h1 h2
 | .tuple xs,y,z,hx,hy,hz,h1,h2=>by
  rcases cano_cases hy with⟨b,rfl⟩ | ⟨b,rfl⟩ | ⟨ys,rfl,ky⟩ <;> rcases cano_cases hz with⟨c,rfl⟩ | ⟨c,rfl⟩ | ⟨zs,rfl,kz⟩ <;> simp [ltT,rk]at h1 h2 ⊢
  exact ltTs_tr xs ys zs (by simpa only [Cano] using hx) ky kz h1 h2
 | .none,_,_,h,_,_,_,_=>by simp [Cano]at h
 | .bool _,_,_,h,_,_,_,_=>by simp [Cano]at h
 | .list _,_,_,h,_,_,_,_=>by simp [Cano]at h
 | .dict _,_,_,h,_,_,_,_=>by simp [Cano]at h
theorem ltTs_tr:∀(xs ys zs:List PyData),CanoAll xs=true->CanoAll ys=true->CanoAll zs=true->ltTs xs ys=true->ltTs ys zs=true->ltTs xs zs=true
 | [],[],_,_,_,_,h1,_=>by simp [ltTs]at h1
 | [],_ :: _,[],_,_,_,_,h2=>by simp [ltTs]at h2
 | [],_ :: _,_ :: _,_,_,_,_,_=>by simp [ltTs]
 | _ :: _,[],_,_,_,_,h1,_=>by simp [ltTs]at h1
 | _ :: _,_ :: _,[],_,_,_,_,h2=>by simp [ltTs]at h2
 | x :: xs,y :: ys,z :: zs,hx,hy,hz,h1,h2=>by
  simp only [CanoAll,Bool.and_eq_true]at hx hy hz
  simp only [ltTs]at h1 h2 ⊢
  cases e1:PyData.eqv x y with
  | true =>
   have e:=eqv_eq x y hx.1 hy.1 e1
   subst e
   rw [e1]at h1
   cases e2:PyData.eqv x z with
   | true =>
    rw [e2]at h2
    exact ltTs_tr xs ys zs hx.2 hy.2 hz.2 h1 h2
   | false=>rw [e2]at h2;exact h2
  | false =>
   rw [e1]at h1
   cases e2:PyData.eqv y z with
   | true =>
    have e:=eqv_eq y z hy.1 hz.1 e2
    subst e
    rw [e1];exact h1
   | false =>
    rw [e2]at h2
    have h3:=ltT_tr x y z hx.1 hy.1 hz.1 h1 h2
    cases e3:PyData.eqv x z with
    | false=>exact h3
    | true =>
     have e:=eqv_eq x z hx.1 hz.1 e3
     subst e
     exact absurd h3 (by rw [ltT_irr x hx.1];exact Bool.false_ne_true)
theorem ltT_irr:∀(x:PyData),Cano x=true->ltT x x=false
 | .int a,_=>by simp [ltT]
 | .str a,_=>by simp [ltT,ltStr,List.lt_irrefl]
 | .tuple xs,h=>by simp only [ltT];exact ltTs_irr xs (by simpa only [Cano] using h)
 | .none,h=>by simp [Cano]at h
 | .bool _,h=>by simp [Cano]at h
 | .list _,h=>by simp [Cano]at h
 | .dict _,h=>by simp [Cano]at h
theorem ltTs_irr:∀(xs:List PyData),CanoAll xs=true->ltTs xs xs=false
 | [],_=>by simp [ltTs]
 | x :: xs,h=>by
  simp only [CanoAll,Bool.and_eq_true]at h
  simp only [ltTs,eqv_self x h.1,if_true]
  exact ltTs_irr xs h.2
end
mutual
theorem ltT_tot:∀(x y:PyData),Cano x=true->Cano y=true->x≠y->ltT x y=false->ltT y x=true
 | .int a,y,_,hy,hn,h=>by
  rcases cano_cases hy with⟨b,rfl⟩ | ⟨b,rfl⟩ | ⟨ys,rfl,_⟩ <;> simp [ltT,rk]at h ⊢
  have:a≠b:=fun z=>hn (by rw [z])
  omega
 | .str a,y,_,hy,hn,h=>by
  rcases cano_cases hy with⟨b,rfl⟩ | ⟨b,rfl⟩ | ⟨ys,rfl,_⟩ <;> simp [ltT,rk]at h ⊢
  exact ltStr_tot (fun z=>hn (by rw [z])) h
 | .tuple xs,y,hx,hy,hn,h=>by
  rcases cano_cases hy with⟨b,rfl⟩ | ⟨b,rfl⟩ | ⟨ys,rfl,ky⟩ <;> simp [ltT,rk]at h ⊢
  exact ltTs_tot xs ys (by simpa only [Cano] using hx) ky (fun z=>hn (by rw [z])) h
 | .none,_,h,_,_,_=>by simp [Cano]at h
 | .bool _,_,h,_,_,_=>by simp [Cano]at h
 | .list _,_,h,_,_,_=>by simp [Cano]at h
 | .dict _,_,h,_,_,_=>by simp [Cano]at h
theorem ltTs_tot:∀(xs ys:List PyData),CanoAll xs=true->CanoAll ys=true->xs≠ys->ltTs xs ys=false->ltTs ys xs=true
 | [],[],_,_,hn,_=>absurd rfl hn
 | [],_ :: _,_,_,_,h=>by simp [ltTs]at h
 | _ :: _,[],_,_,_,_=>by simp [ltTs]
 | x :: xs,y :: ys,hx,hy,hn,h=>by
  simp only [CanoAll,Bool.and_eq_true]at hx hy
  simp only [ltTs]at h ⊢
  cases e:PyData.eqv x y with
  | true =>
   have e':=eqv_eq x y hx.1 hy.1 e
   subst e'
   rw [e]at h ⊢
   exact ltTs_tot xs ys hx.2 hy.2 (fun z=>hn (by rw [z])) h
  | false =>
   rw [e]at h
   have hne:=(eqv_ne hx.1 hy.1).mp e
   rw [(eqv_ne hy.1 hx.1).mpr (Ne.symm hne)]
   exact ltT_tot x y hx.1 hy.1 hne h
end
end L2
namespace L2
open PySem PySem.W PyProof.Rows
section
variable {n:Nat}{lt:Nat->Nat->Bool}
structure StrictOrd(n:Nat)(lt:Nat->Nat->Bool):Prop where
 tr:∀a b c,a < n->b < n->c < n->lt a b=true->lt b c=true->lt a c=true
 tot:∀a b,a < n->b < n->a≠b->lt a b=false->lt b a=true
 irr:∀a,a < n->lt a a=false
structure Pm(n:Nat)(p:Array Nat):Prop where
 size:p.size=n
 lt:∀i,i < n->p.getD i 0 < n
 inj:∀i j,i < n->j < n->i≠j->p.getD i 0≠p.getD j 0
 perm:p.toList.Perm (List.range n)
theorem pm_of{p:Array Nat}(h:p.toList.Perm (List.range n)):Pm n p:=by
 have hs:p.size=n:=by
  have:=h.length_eq
  simpa using this
 have hg:∀i,(hi:i < n)->p.getD i 0=p[i]'(by omega):=fun i hi=>by simp [Array.getD,show i < p.size by omega]
 refine⟨hs,fun i hi=>?_,fun i j hi hj hij e=>?_,h⟩
 ·rw [hg i hi]
  have:p[i]'(by omega)∈p.toList:=by simp
  exact List.mem_range.mp (h.mem_iff.mp this)
 ·rw [hg i hi,hg j hj]at e
  have nd:p.toList.Nodup:=h.nodup_iff.mpr List.nodup_range
  have e1:p.toList[i]?=p.toList[j]?:=by
   rw [Array.getElem?_toList,Array.getElem?_toList,Array.getElem?_eq_getElem (by omega),Array.getElem?_eq_getElem (by omega),e]
  exact hij ((List.getElem?_inj (by simpa using (by omega:i < p.size)) nd).mp e1)
def Up(lt:Nat->Nat->Bool)(p:Array Nat)(k:Nat):Prop:=∀i j,i < j->j < k->lt (p.getD i 0) (p.getD j 0)=true
variable {p:Array Nat}{s:Shared}
end
end L2
namespace L2
open PySem PySem.W PyProof.Rows
section
variable {n:Nat}{lt:Nat->Nat->Bool}
structure WeakOrd(n:Nat)(lt:Nat->Nat->Bool):Prop where
 tr:∀a b c,a < n->b < n->c < n->lt b a=false->lt c b=false->lt c a=false
 asy:∀a b,a < n->b < n->lt a b=true->lt b a=false
theorem WeakOrd.irr{a:Nat}(O:WeakOrd n lt)(ha:a < n):lt a a=false:=by
 cases c:lt a a with
 | false=>rfl
 | true=>have:=O.asy a a ha ha c;rw [c]at this;cases this
theorem WeakOrd.low{a b c:Nat}(O:WeakOrd n lt)(ha:a < n)(hb:b < n)(hc:c < n)(h1:lt a b=true)(h2:lt c b=false):lt a c=true:=by
 cases e:lt a c with
 | true=>rfl
 | false=>rw [O.tr b c a hb hc ha h2 e]at h1;cases h1
theorem WeakOrd.high{a b c:Nat}(O:WeakOrd n lt)(ha:a < n)(hb:b < n)(hc:c < n)(h1:lt b a=false)(h2:lt b c=true):lt a c=true:=by
 cases e:lt a c with
 | true=>rfl
 | false=>rw [O.tr c a b hc ha hb e h1]at h2;cases h2
def UpW(lt:Nat->Nat->Bool)(p:Array Nat)(k:Nat):Prop:=∀i j,i < j->j < k->lt (p.getD j 0) (p.getD i 0)=false
variable {p:Array Nat}{s:Shared}
end
end L2
namespace L2
open PySem PySem.W PyProof.Rows
def gallop':Bool->Keyed->Array Keyed->Nat->Nat->Nat->StateT SortSt Sem (Option Nat):=sortPriv% PySem.Builtin.gallop
def setMinGallop':Nat->StateT SortSt Sem Unit:=sortPriv% PySem.Builtin.setMinGallop
theorem gallop'_eq(left:Bool)(key:Keyed)(arr:Array Keyed)(base n hint:Nat):gallop' left key arr base n hint=(do
 let beyond (i:Nat):StateT SortSt Sem (Option Bool):=do
  let x <- elem' arr (base+i)
  if left then lt' x key else return (<- lt' key x).map (!·)
 let mut lastofs:=0
 let mut ofs:=1
 let mut lo:=0
 let mut hi:=0
 let some right <- beyond hint | return none
 if right then
  let maxofs:=n - hint
  for _ in [0:n] do
   if ofs>=maxofs then break
   let some more <- beyond (hint+ofs) | return none
   if !more then break
   lastofs:=ofs
   ofs:=2 * ofs+1
  lo:=hint+lastofs+1
  hi:=hint+min ofs maxofs
 else
  let maxofs:=hint+1
  for _ in [0:n] do
   if ofs>=maxofs then break
   let some found <- beyond (hint - ofs) | return none
   if found then break
   lastofs:=ofs
   ofs:=2 * ofs+1
  lo:=hint+1 - min ofs maxofs
  hi:=hint - lastofs
 for _ in [0:n] do
  if lo>=hi then break
  let m:=lo+(hi - lo) / 2
  let some more <- beyond m | return none
  if more then lo:=m+1 else hi:=m
 return some hi):=rfl
section
variable {prog:Program}{w:World}{A:Around}{E:Value->Shared->Prop}{s:Shared}{κ:SortKind}{it:Array Keyed}{n:Nat}{lt:Nat->Nat->Bool}
def Cmp(prog:Program)(w:World)(A:Around)(κ:SortKind)(it:Array Keyed)(n:Nat)(lt:Nat->Nat->Bool)(s:Shared):Prop :=
 ∀(i j:Nat) (C:Bool->Shared->Prop),i < n->j < n->C (lt i j) s->kas_cmp prog w A κ it i j C s
theorem b_lt(hc:Cmp prog w A κ it n lt s){st:SortSt}(hk:kindOf st=κ){i j:Nat}(hi:i < n)(hj:j < n){Q:Option Bool->SortSt->Prop}(h:Q (some (lt i j)) st):wpS (model prog w) A E s (lt' (kas_item it i) (kas_item it j)) Q st:=by
 rw [lt'_eq]
 refine wpS_bind (wpS_get ?_)
 rw [hk]
 refine wpS_bind (wpS_lift (wpAny_attempt (wpAny_mono (hc i j (fun c s'=>s'=s/\c=lt i j) hi hj ⟨rfl,rfl⟩) (fun c s' hc'=>?_) fun _ _ hF=>hF.elim)))
 obtain⟨rfl,rfl⟩:=hc'
 exact⟨rfl,wpS_pure h⟩
theorem b_elem{st:SortSt}{p:Array Nat}{i:Nat}(hi:i < p.size){Q:Keyed->SortSt->Prop}(h:Q (kas_item it (p.getD i 0)) st):wpS (model prog w) A E s (elem' (p.map (kas_item it)) i) Q st:=by
 rw [elem'_eq]
 have e:(p.map (kas_item it))[i]?=some (kas_item it (p.getD i 0)):=by
  rw [Array.getElem?_map,Array.getElem?_eq_getElem hi]
  simp [Array.getD,hi]
 rw [e]
 exact wpS_pure h
structure Step(f:Nat->Bool)(n k:Nat):Prop where
 le:k<=n
 yes:∀i,i < k->f i=true
 no:∀i,k<=i->i < n->f i=false
def byd(left:Bool)(key:Keyed)(arr:Array Keyed)(base i:Nat):StateT SortSt Sem (Option Bool):=do
 let x <- elem' arr (base+i)
 if left then lt' x key else return (<- lt' key x).map (!·)
theorem b_gallop{left:Bool}{key:Keyed}{arr:Array Keyed}{base m hint:Nat}{f:Nat->Bool}{st:SortSt}(hm:hint < m)
  (hf:∀i Q,i < m->Q (some (f i)) st->wpS (model prog w) A E s (byd left key arr base i) Q st)
  (mono:∀i j,i<=j->j < m->f j=true->f i=true) {Q:Option Nat->SortSt->Prop} (h:∀k,Step f m k->Q (some k) st):wpS (model prog w) A E s (gallop' left key arr base m hint) Q st:=by
 rw [gallop'_eq]
 dsimp only
 have monof:∀i j,i<=j->j < m->f i=false->f j=false:=fun i j hij hj e=>by
  cases c:f j with
  | false=>rfl
  | true=>rw [mono i j hij hj c]at e;cases e
 refine wpS_bind (hf hint _ hm ?_)
 dsimp only
 cases e0:f hint with
 | true =>
  rw [if_pos rfl]
  refine wpS_bind (wpS_mono (wpS_forRange (I:=fun x c st'=>st'=st/\∃la ofs,c=(none,la,ofs)/\la < ofs/\la < m - hint/\x+1<=ofs/\f (hint+la)=true) (Q:=fun c st'=>st'=st/\∃la ofs,c=(none,la,ofs)/\la < ofs/\la < m - hint/\f (hint+la)=true/\(ofs < m - hint->f (hint+ofs)=false)) ?_ ?_ ⟨rfl,0,1,rfl,by omega,by omega,by omega,e0⟩) ?_)
  ·rintro x c st' _ hx ⟨rfl,la,ofs,rfl,h1,h2,h3,h4⟩
   dsimp only
   by_cases c:ofs>=m - hint
   ·rw [if_pos c]
    exact wpS_pure ⟨rfl,la,ofs,rfl,h1,h2,h4,fun z=>by omega⟩
   ·rw [if_neg c]
    refine wpS_bind (hf _ _ (by omega) ?_)
    dsimp only
    cases e:f (hint+ofs) with
    | false =>
     rw [if_pos (show(!false)=true from rfl)]
     exact wpS_pure ⟨rfl,la,ofs,rfl,h1,h2,h4,fun _=>e⟩
    | true =>
     rw [if_neg (show ¬(!true)=true by decide)]
     exact wpS_pure ⟨rfl,ofs,_,rfl,by omega,by omega,by omega,e⟩
  ·rintro c st' ⟨rfl,la,ofs,rfl,h1,h2,h3,h4⟩
   exact⟨rfl,la,ofs,rfl,h1,h2,h4,fun z=>by omega⟩
  ·rintro c st' ⟨rfl,la,ofs,rfl,h1,h2,h4,h5⟩
   have no:∀i,hint+min ofs (m - hint)<=i->i < m->f i=false:=fun i hi him=>by
    rcases Nat.lt_or_ge ofs (m - hint) with c | c
    ·exact monof _ i (by omega) him (h5 c)
    ·omega
   dsimp only
   refine wpS_bind (wpS_mono (wpS_forRange (I:=fun x c st''=>st''=st'/\∃lo hi,c=(none,lo,hi)/\lo<=hi/\hi<=m/\hi - lo<=m - x/\(∀i,i < lo->f i=true)/\(∀i,hi<=i->i < m->f i=false)) (Q:=fun c st''=>st''=st'/\∃k,c=(none,k,k)/\Step f m k) ?_ ?_ ⟨rfl,_,_,rfl,by omega,by omega,by omega,fun i hi=>mono i _ (by omega) (by omega) h4,no⟩) ?_)
   ·rintro x c st'' _ hx ⟨rfl,lo,hi,rfl,h1,h2,h3,yes,no⟩
    dsimp only
    by_cases c:lo>=hi
    ·rw [if_pos c]
     have:lo=hi:=by omega
     subst this
     exact wpS_pure ⟨rfl,lo,rfl,h2,yes,no⟩
    ·rw [if_neg c]
     refine wpS_bind (hf _ _ (by omega) ?_)
     dsimp only
     cases e:f (lo+(hi - lo) / 2) with
     | true =>
      rw [if_pos rfl]
      refine wpS_pure ⟨rfl,_,_,rfl,by omega,h2,by omega,fun i hi'=>mono i _ (by omega) (by omega) e,no⟩
     | false =>
      rw [if_neg Bool.false_ne_true]
      exact wpS_pure ⟨rfl,_,_,rfl,by omega,by omega,by omega,yes,fun i hi' him=>monof _ i hi' him e⟩
   ·rintro c st'' ⟨rfl,lo,hi,rfl,h1,h2,h3,yes,no⟩
    have:lo=hi:=by omega
    subst this
    exact⟨rfl,lo,rfl,h2,yes,no⟩
   ·rintro c st'' ⟨rfl,k,rfl,hk⟩
    exact wpS_pure (h k hk)
 | false =>
  rw [if_neg Bool.false_ne_true]
  refine wpS_bind (wpS_mono (wpS_forRange (I:=fun x c st'=>st'=st/\∃la ofs,c=(none,la,ofs)/\la < ofs/\la<=hint/\x+1<=ofs/\f (hint - la)=false) (Q:=fun c st'=>st'=st/\∃la ofs,c=(none,la,ofs)/\la < ofs/\la<=hint/\f (hint - la)=false/\(ofs < hint+1->f (hint - ofs)=true)) ?_ ?_ ⟨rfl,0,1,rfl,by omega,by omega,by omega,e0⟩) ?_)
  ·rintro x c st' _ hx ⟨rfl,la,ofs,rfl,h1,h2,h3,h4⟩
   dsimp only
   by_cases c:ofs>=hint+1
   ·rw [if_pos c]
    exact wpS_pure ⟨rfl,la,ofs,rfl,h1,h2,h4,fun z=>by omega⟩
   ·rw [if_neg c]
    refine wpS_bind (hf _ _ (by omega) ?_)
    dsimp only
    cases e:f (hint - ofs) with
    | true =>
     rw [if_pos rfl]
     exact wpS_pure ⟨rfl,la,ofs,rfl,h1,h2,h4,fun _=>e⟩
    | false =>
     rw [if_neg Bool.false_ne_true]
     exact wpS_pure ⟨rfl,ofs,_,rfl,by omega,by omega,by omega,e⟩
  ·rintro c st' ⟨rfl,la,ofs,rfl,h1,h2,h3,h4⟩
   exact⟨rfl,la,ofs,rfl,h1,h2,h4,fun z=>by omega⟩
  ·rintro c st' ⟨rfl,la,ofs,rfl,h1,h2,h4,h5⟩
   have yes:∀i,i < hint+1 - min ofs (hint+1)->f i=true:=fun i hi=>by
    rcases Nat.lt_or_ge ofs (hint+1) with c | c
    ·exact mono i (hint - ofs) (by omega) (by omega) (h5 c)
    ·omega
   dsimp only
   refine wpS_bind (wpS_mono (wpS_forRange (I:=fun x c st''=>st''=st'/\∃lo hi,c=(none,lo,hi)/\lo<=hi/\hi<=m/\hi - lo<=m - x/\(∀i,i < lo->f i=true)/\(∀i,hi<=i->i < m->f i=false)) (Q:=fun c st''=>st''=st'/\∃k,c=(none,k,k)/\Step f m k) ?_ ?_ ⟨rfl,_,_,rfl,by omega,by omega,by omega,yes,fun i hi him=>monof _ i hi him h4⟩) ?_)
   ·rintro x c st'' _ hx ⟨rfl,lo,hi,rfl,h1,h2,h3,yes,no⟩
    dsimp only
    by_cases c:lo>=hi
    ·rw [if_pos c]
     have:lo=hi:=by omega
     subst this
     exact wpS_pure ⟨rfl,lo,rfl,h2,yes,no⟩
    ·rw [if_neg c]
     refine wpS_bind (hf _ _ (by omega) ?_)
     dsimp only
     cases e:f (lo+(hi - lo) / 2) with
     | true =>
      rw [if_pos rfl]
      refine wpS_pure ⟨rfl,_,_,rfl,by omega,h2,by omega,fun i hi'=>mono i _ (by omega) (by omega) e,no⟩
     | false =>
      rw [if_neg Bool.false_ne_true]
      exact wpS_pure ⟨rfl,_,_,rfl,by omega,by omega,by omega,yes,fun i hi' him=>monof _ i hi' him e⟩
   ·rintro c st'' ⟨rfl,lo,hi,rfl,h1,h2,h3,yes,no⟩
    have:lo=hi:=by omega
    subst this
    exact⟨rfl,lo,rfl,h2,yes,no⟩
   ·rintro c st'' ⟨rfl,k,rfl,hk⟩
    exact wpS_pure (h k hk)
end
def mergeLo':Array Keyed->Array Keyed->StateT SortSt Sem (Array Keyed):=sortPriv% PySem.Builtin.mergeLo
def mergeHi':Array Keyed->Array Keyed->StateT SortSt Sem (Array Keyed):=sortPriv% PySem.Builtin.mergeHi
theorem setMinGallop'_eq(g:Nat):setMinGallop' g=modify fun st=>SortSt.mk' (kindOf st) (arrOf st) (pendingOf st) g (failedOf st):=rfl
theorem mergeLo'_eq(a b:Array Keyed):mergeLo' a b=(do
 rule "list.sort.merge-lo"
 let total:=a.size+b.size
 let done (out:Array Keyed) (ia ib:Nat):=out++a.extract ia a.size++b.extract ib b.size
 let lastOfA (out:Array Keyed) (ia ib:Nat):=out++b.extract ib b.size++a.extract ia a.size
 let mut out:Array Keyed:=#[<- elem' b 0]
 let mut ia:=0
 let mut ib:=1
 if ib==b.size then return done out ia ib
 if ia+1==a.size then return lastOfA out ia ib
 let mut minGallop:=gallopOf (<- get)
 for _ in [0:total] do
  let mut acount:=0
  let mut bcount:=0
  for _ in [0:total] do
   let some bWins <- lt' (<- elem' b ib) (<- elem' a ia) | return done out ia ib
   if bWins then
    out:=out.push (<- elem' b ib);ib:=ib+1;bcount:=bcount+1;acount:=0
    if ib==b.size then return done out ia ib
    if bcount>=minGallop then break
   else
    out:=out.push (<- elem' a ia);ia:=ia+1;acount:=acount+1;bcount:=0
    if ia+1==a.size then return lastOfA out ia ib
    if acount>=minGallop then break
  rule "list.sort.gallop"
  minGallop:=minGallop+1
  for _ in [0:total] do
   if minGallop > 1 then minGallop:=minGallop - 1
   setMinGallop' minGallop
   let some k <- gallop' false (<- elem' b ib) a ia (a.size - ia) 0 | return done out ia ib
   acount:=k
   if k > 0 then
    out:=out++a.extract ia (ia+k);ia:=ia+k
    if ia+1==a.size then return lastOfA out ia ib
    if ia==a.size then return done out ia ib
   out:=out.push (<- elem' b ib);ib:=ib+1
   if ib==b.size then return done out ia ib
   let some k <- gallop' true (<- elem' a ia) b ib (b.size - ib) 0 | return done out ia ib
   bcount:=k
   if k > 0 then
    out:=out++b.extract ib (ib+k);ib:=ib+k
    if ib==b.size then return done out ia ib
   out:=out.push (<- elem' a ia);ia:=ia+1
   if ia+1==a.size then return lastOfA out ia ib
   if acount < 7 && bcount < 7 then break
  minGallop:=minGallop+1
  setMinGallop' minGallop
 unsupported "internal:list.sort.merge-bound"):=rfl
section
variable {prog:Program}{w:World}{A:Around}{E:Value->Shared->Prop}{s:Shared}{κ:SortKind}{it:Array Keyed}{n:Nat}{lt:Nat->Nat->Bool}
abbrev at0(p:Array Nat)(i:Nat):Nat:=p.getD i 0
theorem b_gr(O:WeakOrd n lt)(hc:Cmp prog w A κ it n lt s){st:SortSt}(hk:kindOf st=κ){p:Array Nat}{key base m hint:Nat}(hm:hint < m)(hb:base+m<=p.size)(hp:∀i,i < p.size->at0 p i < n)(hkey:key < n)
  (srt:∀i j,base<=i->i < j->j < base+m->lt (at0 p j) (at0 p i)=false) {Q:Option Nat->SortSt->Prop}
  (h:∀k,k<=m->(∀i,i < k->lt key (at0 p (base+i))=false)->(∀i,k<=i->i < m->lt key (at0 p (base+i))=true)->Q (some k) st):wpS (model prog w) A E s (gallop' false (kas_item it key) (p.map (kas_item it)) base m hint) Q st:=by
 refine b_gallop (f:=fun i=>!lt key (at0 p (base+i))) hm (fun i Q' hi q=>?_) (fun i j hij hj e=>?_) fun k hk'=>h k hk'.le (fun i hi=>by simpa using hk'.yes i hi) (fun i h1 h2=>by simpa using hk'.no i h1 h2)
 ·unfold byd
  refine wpS_bind (b_elem (by omega) ?_)
  rw [if_neg Bool.false_ne_true]
  exact wpS_bind (b_lt hc hk hkey (hp _ (by omega)) (wpS_pure q))
 ·rcases Nat.eq_or_lt_of_le hij with rfl | hlt
  ·exact e
  ·have e':lt key (at0 p (base+j))=false:=by simpa using e
   have:=O.tr _ _ _ (hp (base+i) (by omega)) (hp (base+j) (by omega)) hkey (srt (base+i) (base+j) (by omega) (by omega) (by omega)) e'
   simpa using this
theorem b_gl(O:WeakOrd n lt)(hc:Cmp prog w A κ it n lt s){st:SortSt}(hk:kindOf st=κ){p:Array Nat}{key base m hint:Nat}(hm:hint < m)(hb:base+m<=p.size)(hp:∀i,i < p.size->at0 p i < n)(hkey:key < n)
  (srt:∀i j,base<=i->i < j->j < base+m->lt (at0 p j) (at0 p i)=false) {Q:Option Nat->SortSt->Prop}
  (h:∀k,k<=m->(∀i,i < k->lt (at0 p (base+i)) key=true)->(∀i,k<=i->i < m->lt (at0 p (base+i)) key=false)->Q (some k) st):wpS (model prog w) A E s (gallop' true (kas_item it key) (p.map (kas_item it)) base m hint) Q st:=by
 refine b_gallop (f:=fun i=>lt (at0 p (base+i)) key) hm (fun i Q' hi q=>?_) (fun i j hij hj e=>?_) fun k hk'=>h k hk'.le hk'.yes hk'.no
 ·unfold byd
  refine wpS_bind (b_elem (by omega) ?_)
  rw [if_pos rfl]
  exact b_lt hc hk (hp _ (by omega)) hkey q
 ·rcases Nat.eq_or_lt_of_le hij with rfl | hlt
  ·exact e
  ·exact O.high (hp (base+i) (by omega)) (hp (base+j) (by omega)) hkey (srt (base+i) (base+j) (by omega) (by omega) (by omega)) e
def UpA(lt:Nat->Nat->Bool)(p:Array Nat):Prop:=∀i j,i < j->j < p.size->lt (at0 p j) (at0 p i)=false
def In(n:Nat)(p:Array Nat):Prop:=∀i,i < p.size->at0 p i < n
structure MI(lt:Nat->Nat->Bool)(a b out:Array Nat)(ia ib:Nat):Prop where
 ha:ia<=a.size
 hb:ib<=b.size
 sz:out.size=ia+ib
 perm:out.toList.Perm (a.toList.take ia++b.toList.take ib)
 srt:out.toList.Pairwise fun x y=>lt y x=false
 lea:∀x∈out.toList,∀j,ia<=j->j < a.size->lt (at0 a j) x=false
 leb:∀x∈out.toList,∀j,ib<=j->j < b.size->lt (at0 b j) x=false
theorem ext_list(a:Array Nat)(i k:Nat):(a.extract i (i+k)).toList=(a.toList.drop i).take k:=by
 rw [Array.toList_extract,List.extract_eq_take_drop,Nat.add_sub_cancel_left]
theorem take_more(l:List Nat)(i k:Nat):l.take (i+k)=l.take i++(l.drop i).take k:=List.take_add ..
theorem mem_ext{a:Array Nat}{i k x:Nat}(h:x∈(a.toList.drop i).take k):∃j,i<=j/\j < i+k/\j < a.size/\x=at0 a j:=by
 obtain⟨m,hm,e⟩:=List.getElem_of_mem h
 rw [List.length_take,List.length_drop,Array.length_toList]at hm
 rw [List.getElem_take,List.getElem_drop]at e
 refine⟨i+m,by omega,by omega,by omega,?_⟩
 rw [<- e]
 simp [at0,Array.getD,show i+m < a.size by omega]
theorem srt_ext{a:Array Nat}(h:UpA lt a)(i k:Nat):((a.toList.drop i).take k).Pairwise fun x y=>lt y x=false:=by
 have:a.toList.Pairwise fun x y=>lt y x=false:=by
  rw [List.pairwise_iff_getElem]
  intro x y hx hy hxy
  have:=h x y hxy (by simpa using hy)
  simp only [Array.length_toList]at hx hy
  simpa [at0,Array.getD,hx,hy] using this
 exact(this.sublist (List.drop_sublist ..)).sublist (List.take_sublist ..)
theorem MI.chunkA{a b out:Array Nat}{ia ib k:Nat}(h:MI lt a b out ia ib)(ua:UpA lt a)(hk:ia+k<=a.size)(hle:∀i,i < k->∀j,ib<=j->j < b.size->lt (at0 b j) (at0 a (ia+i))=false):MI lt a b (out++a.extract ia (ia+k)) (ia+k) ib:=by
 refine⟨hk,h.hb,?_,?_,?_,?_,?_⟩
 ·rw [Array.size_append,h.sz,Array.size_extract];omega
 ·rw [Array.toList_append,ext_list,take_more]
  refine(List.Perm.append_right _ h.perm).trans ?_
  rw [List.append_assoc,List.append_assoc]
  exact List.Perm.append_left _ List.perm_append_comm
 ·rw [Array.toList_append,ext_list,List.pairwise_append]
  refine⟨h.srt,srt_ext ua _ _,fun x hx y hy=>?_⟩
  obtain⟨j,j1,j2,j3,rfl⟩:=mem_ext hy
  exact h.lea x hx j j1 j3
 ·intro x hx j j1 j2
  rw [Array.toList_append,ext_list]at hx
  rcases List.mem_append.mp hx with hx | hx
  ·exact h.lea x hx j (by omega) j2
  ·obtain⟨m,m1,m2,m3,rfl⟩:=mem_ext hx
   exact ua m j (by omega) j2
 ·intro x hx j j1 j2
  rw [Array.toList_append,ext_list]at hx
  rcases List.mem_append.mp hx with hx | hx
  ·exact h.leb x hx j j1 j2
  ·obtain⟨m,m1,m2,m3,rfl⟩:=mem_ext hx
   have:=hle (m - ia) (by omega) j j1 j2
   rwa [show ia+(m - ia)=m by omega]at this
theorem MI.chunkB{a b out:Array Nat}{ia ib k:Nat}(h:MI lt a b out ia ib)(ub:UpA lt b)(hk:ib+k<=b.size)(hle:∀i,i < k->∀j,ia<=j->j < a.size->lt (at0 a j) (at0 b (ib+i))=false):MI lt a b (out++b.extract ib (ib+k)) ia (ib+k):=by
 refine⟨h.ha,hk,?_,?_,?_,?_,?_⟩
 ·rw [Array.size_append,h.sz,Array.size_extract];omega
 ·rw [Array.toList_append,ext_list,take_more,<- List.append_assoc]
  exact List.Perm.append_right _ h.perm
 ·rw [Array.toList_append,ext_list,List.pairwise_append]
  refine⟨h.srt,srt_ext ub _ _,fun x hx y hy=>?_⟩
  obtain⟨j,j1,j2,j3,rfl⟩:=mem_ext hy
  exact h.leb x hx j j1 j3
 ·intro x hx j j1 j2
  rw [Array.toList_append,ext_list]at hx
  rcases List.mem_append.mp hx with hx | hx
  ·exact h.lea x hx j j1 j2
  ·obtain⟨m,m1,m2,m3,rfl⟩:=mem_ext hx
   have:=hle (m - ib) (by omega) j j1 j2
   rwa [show ib+(m - ib)=m by omega]at this
 ·intro x hx j j1 j2
  rw [Array.toList_append,ext_list]at hx
  rcases List.mem_append.mp hx with hx | hx
  ·exact h.leb x hx j (by omega) j2
  ·obtain⟨m,m1,m2,m3,rfl⟩:=mem_ext hx
   exact ub m j (by omega) j2
theorem ext_one{a:Array Nat}{i:Nat}(h:i < a.size)(out:Array Nat):out.push (at0 a i)=out++a.extract i (i+1):=by
 apply Array.toList_inj.mp
 rw [Array.toList_push,Array.toList_append,ext_list,List.drop_eq_getElem_cons (by simpa using h)]
 simp [at0,Array.getD,h]
theorem MI.pushA{a b out:Array Nat}{ia ib:Nat}(h:MI lt a b out ia ib)(ua:UpA lt a)(hk:ia < a.size)(hle:∀j,ib<=j->j < b.size->lt (at0 b j) (at0 a ia)=false):MI lt a b (out.push (at0 a ia)) (ia+1) ib:=by
 rw [ext_one hk]
 exact h.chunkA ua hk fun i hi j j1 j2=>by rw [show ia+i=ia by omega];exact hle j j1 j2
theorem MI.pushB{a b out:Array Nat}{ia ib:Nat}(h:MI lt a b out ia ib)(ub:UpA lt b)(hk:ib < b.size)(hle:∀j,ia<=j->j < a.size->lt (at0 a j) (at0 b ib)=false):MI lt a b (out.push (at0 b ib)) ia (ib+1):=by
 rw [ext_one hk]
 exact h.chunkB ub hk fun i hi j j1 j2=>by rw [show ib+i=ib by omega];exact hle j j1 j2
structure Mgd(lt:Nat->Nat->Bool)(a b R:Array Nat):Prop where
 perm:R.toList.Perm (a.toList++b.toList)
 srt:R.toList.Pairwise fun x y=>lt y x=false
theorem MI.end_{a b out:Array Nat}(h:MI lt a b out a.size b.size):Mgd lt a b out:=by
 refine⟨?_,h.srt⟩
 have:=h.perm
 rwa [List.take_of_length_le (by simp),List.take_of_length_le (by simp)]at this
theorem MI.doneB{a b out:Array Nat}{ia:Nat}(h:MI lt a b out ia b.size)(ua:UpA lt a):Mgd lt a b (out++a.extract ia a.size++b.extract b.size b.size):=by
 have h1:=h.chunkA (k:=a.size - ia) ua (by have:=h.ha;omega) fun i _ j j1 j2=>by omega
 rw [show ia+(a.size - ia)=a.size by have:=h.ha;omega]at h1
 have:=h1.end_
 rwa [show b.extract b.size b.size=#[] by simp,Array.append_empty]
theorem MI.doneA{a b out:Array Nat}{ib:Nat}(h:MI lt a b out a.size ib)(ub:UpA lt b):Mgd lt a b (out++a.extract a.size a.size++b.extract ib b.size):=by
 have h1:=h.chunkB (k:=b.size - ib) ub (by have:=h.hb;omega) fun i _ j j1 j2=>by omega
 rw [show ib+(b.size - ib)=b.size by have:=h.hb;omega]at h1
 have:=h1.end_
 rwa [show a.extract a.size a.size=#[] by simp,Array.append_empty]
theorem MI.lastA{a b out:Array Nat}{ia ib:Nat}(h:MI lt a b out ia ib)(ua:UpA lt a)(ub:UpA lt b)(hl:ia+1=a.size)(hle:∀j,j < b.size->lt (at0 a (a.size - 1)) (at0 b j)=false):Mgd lt a b (out++b.extract ib b.size++a.extract ia a.size):=by
 have h1:=h.chunkB (k:=b.size - ib) ub (by have:=h.hb;omega) fun i _ j j1 j2=>by
  rw [show j=a.size - 1 by omega];exact hle _ (by omega)
 rw [show ib+(b.size - ib)=b.size by have:=h.hb;omega]at h1
 have h2:=h1.chunkA (k:=1) ua (by omega) fun i _ j j1 j2=>by omega
 rw [hl]at h2
 exact h2.end_
theorem mpE(out a:Array Nat)(i k:Nat):out.map (kas_item it)++(a.map (kas_item it)).extract i k=(out++a.extract i k).map (kas_item it):=by
 rw [Array.map_append,Array.map_extract]
theorem mpP(out:Array Nat)(x:Nat):(out.map (kas_item it)).push (kas_item it x)=(out.push x).map (kas_item it):=Array.map_push.symm
abbrev LoS:=Option (Array Keyed)×Array Keyed×Nat×Nat×Nat×Nat×Nat
abbrev setG(st:SortSt)(g:Nat):SortSt:=SortSt.mk' (kindOf st) (arrOf st) (pendingOf st) g (failedOf st)
def loT3(a b out:Array Keyed)(ia ib mg ac bc:Nat):StateT SortSt Sem (ForInStep LoS) :=
 elem' a ia >>= fun y =>
  if(ia+1+1==a.size)=true then pure (ForInStep.done (some (out.push y++b.extract ib b.size++a.extract (ia+1) a.size),out.push y,ia+1,ib,mg,ac,bc))
  else if(decide (ac < 7) && decide (bc < 7))=true then pure (ForInStep.done (none,out.push y,ia+1,ib,mg,ac,bc))
  else pure (ForInStep.yield (none,out.push y,ia+1,ib,mg,ac,bc))
def loT2(a b out:Array Keyed)(ia ib mg ac bc:Nat):StateT SortSt Sem (ForInStep LoS) :=
 elem' b ib >>= fun y =>
  if(ib+1==b.size)=true then pure (ForInStep.done (some (out.push y++a.extract ia a.size++b.extract (ib+1) b.size),out.push y,ia,ib+1,mg,ac,bc))
  else elem' a ia >>= fun z=>gallop' true z b (ib+1) (b.size - (ib+1)) 0 >>= fun x =>
   match x with
   | some k=>if k > 0 then
     (if(ib+1+k==b.size)=true then pure (ForInStep.done (some (out.push y++b.extract (ib+1) (ib+1+k)++a.extract ia a.size++b.extract (ib+1+k) b.size),out.push y++b.extract (ib+1) (ib+1+k),ia,ib+1+k,mg,ac,k))
     else loT3 a b (out.push y++b.extract (ib+1) (ib+1+k)) ia (ib+1+k) mg ac k)
    else loT3 a b (out.push y) ia (ib+1) mg ac k
   | _=>pure (ForInStep.done (some (out.push y++a.extract ia a.size++b.extract (ib+1) b.size),out.push y,ia,ib+1,mg,ac,bc))
def loT1(a b out:Array Keyed)(ia ib mg ac bc:Nat):StateT SortSt Sem (ForInStep LoS) :=
 setMinGallop' mg >>= fun _=>elem' b ib >>= fun y=>gallop' false y a ia (a.size - ia) 0 >>= fun x =>
  match x with
  | some k=>if k > 0 then
    (if(ia+k+1==a.size)=true then pure (ForInStep.done (some (out++a.extract ia (ia+k)++b.extract ib b.size++a.extract (ia+k) a.size),out++a.extract ia (ia+k),ia+k,ib,mg,k,bc))
    else if(ia+k==a.size)=true then pure (ForInStep.done (some (out++a.extract ia (ia+k)++a.extract (ia+k) a.size++b.extract ib b.size),out++a.extract ia (ia+k),ia+k,ib,mg,k,bc))
    else loT2 a b (out++a.extract ia (ia+k)) (ia+k) ib mg k bc)
   else loT2 a b out ia ib mg k bc
  | _=>pure (ForInStep.done (some (out++a.extract ia a.size++b.extract ib b.size),out,ia,ib,mg,ac,bc))
structure Mid(lt:Nat->Nat->Bool)(it:Array Keyed)(a b:Array Nat)(q:Nat)(o:Array Keyed)(ia ib:Nat):Prop where
 m:∃out:Array Nat,o=out.map (kas_item it)/\MI lt a b out ia ib
 ha:ia+1 < a.size
 hb:ib < b.size
 q:q<=ia+ib
structure MPre(n:Nat)(lt:Nat->Nat->Bool)(a b:Array Nat):Prop where
 na:0 < a.size
 nb:0 < b.size
 ia:In n a
 ib:In n b
 ua:UpA lt a
 ub:UpA lt b
 h0:lt (at0 b 0) (at0 a 0)=true
 hl:∀j,j < b.size->lt (at0 b j) (at0 a (a.size - 1))=true
theorem MPre.le{a b:Array Nat}(O:WeakOrd n lt)(p:MPre n lt a b):∀j,j < b.size->lt (at0 a (a.size - 1)) (at0 b j)=false:=fun j hj=>O.asy _ _ (p.ib j hj) (p.ia _ (by have:=p.na;omega)) (p.hl j hj)
section
variable {a b:Array Nat}{st:SortSt}{Qd Qy:LoS->SortSt->Prop}{out:Array Nat}{ia ib mg ac bc:Nat}
theorem lo_t3(O:WeakOrd n lt)(p:MPre n lt a b)(M:MI lt a b out ia ib)(ha:ia+1 < a.size)(hb:ib < b.size)(hle:∀j,ib<=j->j < b.size->lt (at0 b j) (at0 a ia)=false)
  (fin:∀R c,Mgd lt a b R->c.1=some (R.map (kas_item it))->Qd c st) (go:∀o i j m x y,Mid lt it a b (ia+ib+1) o i j->Qd (none,o,i,j,m,x,y) st/\Qy (none,o,i,j,m,x,y) st) :
  wpS (model prog w) A E s (loT3 (a.map (kas_item it)) (b.map (kas_item it)) (out.map (kas_item it)) ia ib mg ac bc) (fun r st'=>match r with | .done c'=>Qd c' st' | .yield c'=>Qy c' st') st:=by
 unfold loT3
 refine wpS_bind (b_elem (by omega) ?_)
 have M1:=M.pushA p.ua (by omega) hle
 simp only [Array.size_map,mpP,mpE]
 by_cases e:ia+1+1=a.size
 ·rw [if_pos (by simpa using e)]
  exact wpS_pure (fin _ _ (M1.lastA p.ua p.ub e (p.le O)) rfl)
 ·rw [if_neg (by simpa using e)]
  have g:=go _ _ _ mg ac bc (⟨⟨_,rfl,M1⟩,by omega,hb,by omega⟩:Mid lt it a b (ia+ib+1) _ (ia+1) ib)
  split
  ·exact wpS_pure g.1
  ·exact wpS_pure g.2
theorem lo_t2(O:WeakOrd n lt)(hc:Cmp prog w A κ it n lt s)(hk:kindOf st=κ)(p:MPre n lt a b)(M:MI lt a b out ia ib)(ha:ia+1 < a.size)(hb:ib < b.size)(hle:∀j,ia<=j->j < a.size->lt (at0 a j) (at0 b ib)=false)
  (fin:∀R c,Mgd lt a b R->c.1=some (R.map (kas_item it))->Qd c st) (go:∀o i j m x y,Mid lt it a b (ia+ib+1) o i j->Qd (none,o,i,j,m,x,y) st/\Qy (none,o,i,j,m,x,y) st) :
  wpS (model prog w) A E s (loT2 (a.map (kas_item it)) (b.map (kas_item it)) (out.map (kas_item it)) ia ib mg ac bc) (fun r st'=>match r with | .done c'=>Qd c' st' | .yield c'=>Qy c' st') st:=by
 unfold loT2
 refine wpS_bind (b_elem hb ?_)
 have M1:=M.pushB p.ub hb hle
 have go':∀k,∀o i j m x y,Mid lt it a b (ia+(ib+1+k)+1) o i j->Qd (none,o,i,j,m,x,y) st/\Qy (none,o,i,j,m,x,y) st:=fun k o i j m x y h=>go o i j m x y ⟨h.m,h.ha,h.hb,by have:=h.q;omega⟩
 simp only [Array.size_map,mpP]
 by_cases e:ib+1=b.size
 ·rw [if_pos (by simpa using e)]
  refine wpS_pure (fin _ _ (show Mgd lt a b (out.push (at0 b ib)++a.extract ia a.size++b.extract (ib+1) b.size) from ?_) (by simp only [mpE]))
  have:=(show MI lt a b (out.push (at0 b ib)) ia b.size by rw [<- e];exact M1).doneB p.ua
  rw [e];exact this
 ·rw [if_neg (by simpa using e)]
  refine wpS_bind (b_elem (by omega) ?_)
  refine wpS_bind (b_gl O hc hk (by omega) (by omega) p.ib (p.ia ia (by omega)) (fun i j h1 h2 h3=>p.ub i j h2 (by omega)) fun k k1 k2 k3=>?_)
  dsimp only
  have M2:=M1.chunkB (k:=k) p.ub (by omega) fun i hi j j1 j2=>by
   have h1:=k2 i hi
   rcases Nat.eq_or_lt_of_le j1 with rfl | j1
   ·exact O.asy _ _ (p.ib _ (by omega)) (p.ia _ j2) h1
   ·exact O.tr _ _ _ (p.ib _ (by omega)) (p.ia ia (by omega)) (p.ia _ j2) (O.asy _ _ (p.ib _ (by omega)) (p.ia _ (by omega)) h1) (p.ua ia j j1 j2)
  by_cases kp:k > 0
  ·rw [if_pos kp]
   simp only [mpE]
   by_cases e2:ib+1+k=b.size
   ·rw [if_pos (by simpa using e2)]
    refine wpS_pure (fin _ _ (show Mgd lt a b (out.push (at0 b ib)++b.extract (ib+1) (ib+1+k)++a.extract ia a.size++b.extract (ib+1+k) b.size) from ?_) rfl)
    rw [e2]at M2 ⊢
    exact M2.doneB p.ua
   ·rw [if_neg (by simpa using e2)]
    refine lo_t3 O p M2 ha (by omega) (fun j j1 j2=>?_) fin (go' k)
    have:=k3 (j - (ib+1)) (by omega) (by omega)
    rwa [show ib+1+(j - (ib+1))=j by omega]at this
  ·rw [if_neg kp]
   refine lo_t3 O p M1 ha (by omega) (fun j j1 j2=>?_) fin (go' 0)
   have:=k3 (j - (ib+1)) (by omega) (by omega)
   rwa [show ib+1+(j - (ib+1))=j by omega]at this
theorem lo_t1(O:WeakOrd n lt)(hc:Cmp prog w A κ it n lt s)(hk:kindOf st=κ)(p:MPre n lt a b)(M:MI lt a b out ia ib)(ha:ia+1 < a.size)(hb:ib < b.size)
  (fin:∀R c,Mgd lt a b R->c.1=some (R.map (kas_item it))->Qd c (setG st mg)) (go:∀o i j m x y,Mid lt it a b (ia+ib+1) o i j->Qd (none,o,i,j,m,x,y) (setG st mg)/\Qy (none,o,i,j,m,x,y) (setG st mg)) :
  wpS (model prog w) A E s (loT1 (a.map (kas_item it)) (b.map (kas_item it)) (out.map (kas_item it)) ia ib mg ac bc) (fun r st'=>match r with | .done c'=>Qd c' st' | .yield c'=>Qy c' st') st:=by
 unfold loT1
 rw [setMinGallop'_eq]
 refine wpS_bind (wpS_modify (wpS_bind (b_elem hb ?_)))
 simp only [Array.size_map]
 refine wpS_bind (b_gr O hc (st:=setG st mg) hk (by omega) (by omega) p.ia (p.ib ib hb) (fun i j h1 h2 h3=>p.ua i j h2 (by omega)) fun k k1 k2 k3=>?_)
 dsimp only
 have M1:=M.chunkA (k:=k) p.ua (by omega) fun i hi j j1 j2=>by
  have h1:=k2 i hi
  rcases Nat.eq_or_lt_of_le j1 with rfl | j1
  ·exact h1
  ·exact O.tr _ _ _ (p.ia _ (by omega)) (p.ib ib hb) (p.ib _ j2) h1 (p.ub ib j j1 j2)
 have low:∀j,ia+k<=j->j < a.size->lt (at0 a j) (at0 b ib)=false:=fun j j1 j2=>by
  have:=k3 (j - ia) (by omega) (by omega)
  rw [show ia+(j - ia)=j by omega]at this
  exact O.asy _ _ (p.ib ib hb) (p.ia j j2) this
 have go':∀o i j m x y,Mid lt it a b (ia+k+ib+1) o i j->Qd (none,o,i,j,m,x,y) (setG st mg)/\Qy (none,o,i,j,m,x,y) (setG st mg):=fun o i j m x y h=>go o i j m x y ⟨h.m,h.ha,h.hb,by have:=h.q;omega⟩
 by_cases kp:k > 0
 ·rw [if_pos kp]
  simp only [mpE]
  by_cases e1:ia+k+1=a.size
  ·rw [if_pos (by simpa using e1)]
   exact wpS_pure (fin _ _ (M1.lastA p.ua p.ub e1 (p.le O)) rfl)
  ·rw [if_neg (by simpa using e1)]
   by_cases e2:ia+k=a.size
   ·rw [if_pos (by simpa using e2)]
    refine wpS_pure (fin _ _ (show Mgd lt a b (out++a.extract ia (ia+k)++a.extract (ia+k) a.size++b.extract ib b.size) from ?_) rfl)
    rw [e2]at M1 ⊢
    exact M1.doneA p.ub
   ·rw [if_neg (by simpa using e2)]
    exact lo_t2 O hc (st:=setG st mg) hk p M1 (by omega) hb low fin go'
 ·rw [if_neg kp]
  have k0:k=0:=by omega
  subst k0
  exact lo_t2 O hc (st:=setG st mg) hk p M ha hb low fin go'
end
theorem MI.zero(a b:Array Nat):MI lt a b #[] 0 0:=⟨Nat.zero_le _,Nat.zero_le _,rfl,by simp,.nil,fun _ h=>by simp at h,fun _ h=>by simp at h⟩
theorem MPre.first{a b:Array Nat}(O:WeakOrd n lt)(p:MPre n lt a b):MI lt a b #[at0 b 0] 0 1:=by
 refine(MI.zero a b).pushB p.ub p.nb fun j _ j2=>?_
 rcases Nat.eq_zero_or_pos j with rfl | j1
 ·exact O.asy _ _ (p.ib 0 p.nb) (p.ia 0 j2) p.h0
 ·exact O.tr _ _ _ (p.ib 0 p.nb) (p.ia 0 p.na) (p.ia j j2) (O.asy _ _ (p.ib 0 p.nb) (p.ia 0 p.na) p.h0) (p.ua 0 j j1 j2)
theorem b_mergeLo(O:WeakOrd n lt)(hc:Cmp prog w A κ it n lt s){a b:Array Nat}{st:SortSt}(hk:kindOf st=κ)(p:MPre n lt a b){Q:Array Keyed->SortSt->Prop}(h:∀R g,Mgd lt a b R->Q (R.map (kas_item it)) (setG st g)) :
  wpS (model prog w) A E s (mergeLo' (a.map (kas_item it)) (b.map (kas_item it))) Q st:=by
 rw [mergeLo'_eq]
 dsimp only
 have M0:=p.first O
 have na:=p.na
 have nb:=p.nb
 have e0:#[kas_item it (b.getD 0 0)]=(#[at0 b 0]:Array Nat).map (kas_item it):=by simp
 refine wpS_bind (wpS_lift (wpAny_rule ⟨rfl,?_⟩))
 refine wpS_bind (b_elem nb ?_)
 rw [e0]
 by_cases e1:1=b.size
 ·rw [if_pos (by simpa using e1)]
  simp only [Array.size_map,mpE]
  refine wpS_pure (h _ (gallopOf st) ?_)
  have:=(show MI lt a b #[at0 b 0] 0 b.size by rw [<- e1];exact M0).doneB p.ua
  rw [<- e1]at this ⊢
  exact this
 rw [if_neg (by simpa using e1)]
 by_cases e2:0+1=a.size
 ·rw [if_pos (by simpa using e2)]
  simp only [Array.size_map,mpE]
  exact wpS_pure (h _ (gallopOf st) (M0.lastA p.ua p.ub e2 (p.le O)))
 rw [if_neg (by simpa using e2)]
 refine wpS_bind (wpS_get ?_)
 have sa:(a.map (kas_item it)).size=a.size:=Array.size_map ..
 have sb:(b.map (kas_item it)).size=b.size:=Array.size_map ..
 refine wpS_bind (wpS_mono (wpS_forRange (I:=fun x c st'=>(∃g,st'=setG st g)/\c.1=none/\Mid lt it a b (1+x) c.2.1 c.2.2.1 c.2.2.2.1) (Q:=fun c st'=>(∃g,st'=setG st g)/\∃R,c.1=some (R.map (kas_item it))/\Mgd lt a b R) ?_ ?_ ⟨⟨gallopOf st,rfl⟩,rfl,⟨_,rfl,M0⟩,by show 0+1 < _;omega,by show 1 < _;omega,by show 1+0<=0+1;omega⟩) ?_)
 ·rintro x ⟨c1,o,ia,ib,mg⟩ st' _ hx ⟨⟨g,rfl⟩,rfl,⟨out,eo,M⟩,ha,hb,hq⟩
  dsimp only at eo M ha hb hq ⊢
  subst eo
  refine wpS_bind (wpS_mono (wpS_forRange (I:=fun x c st'=>st'=setG st g/\c.1=none/\Mid lt it a b (ia+ib+x) c.2.1 c.2.2.1 c.2.2.2.1) (Q:=fun c st'=>st'=setG st g/\((∃R,c.1=some (R.map (kas_item it))/\Mgd lt a b R)\/(c.1=none/\Mid lt it a b (ia+ib+1) c.2.1 c.2.2.1 c.2.2.2.1))) ?_ ?_ ⟨rfl,rfl,⟨out,rfl,M⟩,ha,hb,Nat.le_refl _⟩) ?_)
  ·clear M ha hb
   rintro y ⟨c1,o,ja,jb,ac,bc⟩ st' _ hy ⟨rfl,rfl,⟨out,eo,M⟩,ha,hb,hq'⟩
   dsimp only at eo M ha hb hq' ⊢
   subst eo
   refine wpS_bind (b_elem hb (wpS_bind (b_elem (by omega) (wpS_bind (b_lt hc (st:=setG st g) hk (p.ib _ hb) (p.ia _ (by omega)) ?_)))))
   dsimp only
   cases e:lt (b.getD jb 0) (a.getD ja 0) with
   | true =>
    rw [if_pos rfl]
    refine wpS_bind (b_elem hb ?_)
    have M1:=M.pushB p.ub hb fun j j1 j2=>by
     have e':=O.asy _ _ (p.ib _ hb) (p.ia ja (by omega)) e
     rcases Nat.eq_or_lt_of_le j1 with rfl | j1
     ·exact e'
     ·exact O.tr _ _ _ (p.ib _ hb) (p.ia ja (by omega)) (p.ia _ j2) e' (p.ua ja j j1 j2)
    simp only [mpP]
    by_cases e3:jb+1=b.size
    ·rw [if_pos (by simpa using e3)]
     simp only [mpE,Array.size_map]
     refine wpS_pure ⟨rfl,.inl ⟨_,rfl,?_⟩⟩
     rw [e3]at M1 ⊢
     exact M1.doneB p.ua
    ·rw [if_neg (by simpa using e3)]
     by_cases e4:bc+1>=mg <;> simp only [e4,if_true,if_false]
     ·exact wpS_pure ⟨rfl,.inr ⟨rfl,⟨_,rfl,M1⟩,ha,by show jb+1 < _;omega,by show _<=ja+(jb+1);omega⟩⟩
     ·exact wpS_pure ⟨rfl,rfl,⟨_,rfl,M1⟩,ha,by show jb+1 < _;omega,by show _<=ja+(jb+1);omega⟩
   | false =>
    rw [if_neg Bool.false_ne_true]
    refine wpS_bind (b_elem (by omega) ?_)
    have M1:=M.pushA p.ua (by omega) fun j j1 j2=>by
     rcases Nat.eq_or_lt_of_le j1 with rfl | j1
     ·exact e
     ·exact O.tr _ _ _ (p.ia ja (by omega)) (p.ib _ hb) (p.ib _ j2) e (p.ub jb j j1 j2)
    simp only [mpP]
    by_cases e3:ja+1+1=a.size
    ·rw [if_pos (by simpa using e3)]
     simp only [mpE,Array.size_map]
     exact wpS_pure ⟨rfl,.inl ⟨_,rfl,M1.lastA p.ua p.ub e3 (p.le O)⟩⟩
    ·rw [if_neg (by simpa using e3)]
     by_cases e4:ac+1>=mg <;> simp only [e4,if_true,if_false]
     ·exact wpS_pure ⟨rfl,.inr ⟨rfl,⟨_,rfl,M1⟩,by show ja+1+1 < _;omega,hb,by show _<=ja+1+jb;omega⟩⟩
     ·exact wpS_pure ⟨rfl,rfl,⟨_,rfl,M1⟩,by show ja+1+1 < _;omega,hb,by show _<=ja+1+jb;omega⟩
  ·rintro c st' ⟨_,_,⟨out,_,M⟩,ha',hb',hq'⟩
   omega
  ·rintro⟨c1,o,ja,jb,ac,bc⟩ st' ⟨rfl,⟨R,rfl,hR⟩ | ⟨rfl,hM⟩⟩
   ·exact wpS_pure ⟨⟨g,rfl⟩,R,rfl,hR⟩
   ·dsimp only at hM ⊢
    refine wpS_bind (wpS_lift (wpAny_rule ⟨rfl,?_⟩))
    refine wpS_bind (wpS_mono (wpS_forRange (I:=fun x c st'=>(∃g,st'=setG st g)/\c.1=none/\Mid lt it a b (ia+ib+1+x) c.2.1 c.2.2.1 c.2.2.2.1) (Q:=fun c st'=>(∃g,st'=setG st g)/\((∃R,c.1=some (R.map (kas_item it))/\Mgd lt a b R)\/(c.1=none/\Mid lt it a b (ia+ib+1) c.2.1 c.2.2.1 c.2.2.2.1))) ?_ ?_ ⟨⟨g,rfl⟩,rfl,hM⟩) ?_)
    ·clear hM
     rintro y ⟨c1,o,ja,jb,mg,ac,bc⟩ st' _ hy ⟨⟨g,rfl⟩,rfl,⟨out,eo,M⟩,ha,hb,hq'⟩
     dsimp only at eo M ha hb hq' ⊢
     subst eo
     have key:∀mg,wpS (model prog w) A E s (loT1 (a.map (kas_item it)) (b.map (kas_item it)) (out.map (kas_item it)) ja jb mg ac bc) (fun r st'=>match r with
       | .done c=>(∃g,st'=setG st g)/\((∃R,c.1=some (R.map (kas_item it))/\Mgd lt a b R)\/(c.1=none/\Mid lt it a b (ia+ib+1) c.2.1 c.2.2.1 c.2.2.2.1))
       | .yield c=>(∃g,st'=setG st g)/\c.1=none/\Mid lt it a b (ia+ib+1+(y+1)) c.2.1 c.2.2.1 c.2.2.2.1) (setG st g):=fun mg =>
      lo_t1 (Qd:=fun c st'=>(∃g,st'=setG st g)/\((∃R,c.1=some (R.map (kas_item it))/\Mgd lt a b R)\/(c.1=none/\Mid lt it a b (ia+ib+1) c.2.1 c.2.2.1 c.2.2.2.1)))
       (Qy:=fun c st'=>(∃g,st'=setG st g)/\c.1=none/\Mid lt it a b (ia+ib+1+(y+1)) c.2.1 c.2.2.1 c.2.2.2.1) O hc (st:=setG st g) hk p M ha hb (fun R c hR e=>⟨⟨mg,rfl⟩,.inl ⟨R,e,hR⟩⟩)
       fun o i j m x y hm=>⟨⟨⟨mg,rfl⟩,.inr ⟨rfl,hm.m,hm.ha,hm.hb,by have:=hm.q;show _<=i+j;omega⟩⟩,⟨mg,rfl⟩,rfl,hm.m,hm.ha,hm.hb,by have:=hm.q;show _<=i+j;omega⟩
     by_cases e4:mg > 1
     ·rw [if_pos e4]
      refine wpS_mono (key (mg - 1)) ?_
      rintro(c | c) st' hh <;> exact hh
     ·rw [if_neg e4]
      refine wpS_mono (key mg) ?_
      rintro(c | c) st' hh <;> exact hh
    ·rintro c st' ⟨⟨g,rfl⟩,h1,h2⟩
     exact⟨⟨g,rfl⟩,.inr ⟨h1,h2.m,h2.ha,h2.hb,by have:=h2.q;omega⟩⟩
    ·rintro⟨c1,o,ja,jb,mg,ac,bc⟩ st' ⟨⟨g,rfl⟩,⟨R,rfl,hR⟩ | ⟨rfl,hM⟩⟩
     ·exact wpS_pure ⟨⟨g,rfl⟩,R,rfl,hR⟩
     ·dsimp only at hM ⊢
      rw [setMinGallop'_eq]
      refine wpS_bind (wpS_modify (wpS_pure ⟨⟨_,rfl⟩,rfl,hM.m,hM.ha,hM.hb,?_⟩))
      have:=hM.q
      show _<=ja+jb
      omega
 ·rintro c st' ⟨_,_,⟨out,_,M⟩,ha',hb',hq'⟩
  omega
 ·rintro⟨c1,o⟩ st' ⟨⟨g,rfl⟩,R,rfl,hR⟩
  exact wpS_pure (h R g hR)
end
theorem mergeHi'_eq(a b:Array Keyed):mergeHi' a b=(do
 rule "list.sort.merge-hi"
 let total:=a.size+b.size
 let done (out:Array Keyed) (na nb:Nat):=a.extract 0 na++b.extract 0 nb++out.reverse
 let firstOfB (out:Array Keyed) (na nb:Nat):=b.extract 0 nb++a.extract 0 na++out.reverse
 let mut na:=a.size - 1
 let mut nb:=b.size
 let mut out:Array Keyed:=#[<- elem' a na]
 if na==0 then return done out na nb
 if nb==1 then return firstOfB out na nb
 let mut minGallop:=gallopOf (<- get)
 for _ in [0:total] do
  let mut acount:=0
  let mut bcount:=0
  for _ in [0:total] do
   let some aWins <- lt' (<- elem' b (nb - 1)) (<- elem' a (na - 1)) | return done out na nb
   if aWins then
    na:=na - 1;out:=out.push (<- elem' a na);acount:=acount+1;bcount:=0
    if na==0 then return done out na nb
    if acount>=minGallop then break
   else
    nb:=nb - 1;out:=out.push (<- elem' b nb);bcount:=bcount+1;acount:=0
    if nb==1 then return firstOfB out na nb
    if bcount>=minGallop then break
  rule "list.sort.gallop"
  minGallop:=minGallop+1
  for _ in [0:total] do
   if minGallop > 1 then minGallop:=minGallop - 1
   setMinGallop' minGallop
   let some at_ <- gallop' false (<- elem' b (nb - 1)) a 0 na (na - 1) | return done out na nb
   let k:=na - at_
   acount:=k
   if k > 0 then
    out:=out++(a.extract at_ na).reverse;na:=at_
    if na==0 then return done out na nb
   nb:=nb - 1;out:=out.push (<- elem' b nb)
   if nb==1 then return firstOfB out na nb
   let some at_ <- gallop' true (<- elem' a (na - 1)) b 0 nb (nb - 1) | return done out na nb
   let k:=nb - at_
   bcount:=k
   if k > 0 then
    out:=out++(b.extract at_ nb).reverse;nb:=at_
    if nb==1 then return firstOfB out na nb
    if nb==0 then return done out na nb
   na:=na - 1;out:=out.push (<- elem' a na)
   if na==0 then return done out na nb
   if acount < 7 && bcount < 7 then break
  minGallop:=minGallop+1
  setMinGallop' minGallop
 unsupported "internal:list.sort.merge-bound"):=rfl
section
variable {prog:Program}{w:World}{A:Around}{E:Value->Shared->Prop}{s:Shared}{κ:SortKind}{it:Array Keyed}{n:Nat}{lt:Nat->Nat->Bool}
abbrev flp(lt:Nat->Nat->Bool):Nat->Nat->Bool:=fun x y=>lt y x
theorem WeakOrd.fl(O:WeakOrd n lt):WeakOrd n (flp lt):=⟨fun a b c ha hb hc h1 h2=>O.tr c b a hc hb ha h2 h1,fun a b ha hb h=>O.asy b a hb ha h⟩
theorem at_rev{p:Array Nat}{i:Nat}(h:i < p.size):at0 p.reverse i=at0 p (p.size - 1 - i):=by
 simp [at0,Array.getD,h,show p.size - 1 - i < p.size by omega]
theorem rev_ext(p:Array Nat){i j:Nat}(h:i<=j)(hj:j<=p.size):p.reverse.extract (p.size - j) (p.size - j+(j - i))=(p.extract i j).reverse:=by
 apply Array.toList_inj.mp
 rw [ext_list,Array.toList_reverse,Array.toList_reverse,show j=i+(j - i) by omega,ext_list,show i+(j - i)=j by omega]
 apply List.ext_getElem?
 intro k
 by_cases hk:k < j - i
 ·rw [List.getElem?_take_of_lt hk,List.getElem?_drop,List.getElem?_reverse (by simp;omega),List.getElem?_reverse (by simp;omega),List.getElem?_take_of_lt (by simp;omega),List.getElem?_drop]
  congr 1
  simp;omega
 ·rw [List.getElem?_eq_none (by simp;omega),List.getElem?_eq_none (by simp;omega)]
theorem rev_pre(p:Array Nat){j:Nat}(hj:j<=p.size):p.reverse.extract (p.size - j) p.reverse.size=(p.extract 0 j).reverse:=by
 rw [<- rev_ext p (Nat.zero_le j) hj,Array.size_reverse]
 congr 1;omega
theorem MPre.fl{a b:Array Nat}(O:WeakOrd n lt)(p:MPre n lt a b):MPre n (flp lt) b.reverse a.reverse:=by
 have na:=p.na
 have nb:=p.nb
 refine⟨by simpa using nb,by simpa using na,fun i hi=>?_,fun i hi=>?_,fun i j hij hj=>?_,fun i j hij hj=>?_,?_,fun j hj=>?_⟩
 ·rw [Array.size_reverse]at hi;rw [at_rev hi];exact p.ib _ (by omega)
 ·rw [Array.size_reverse]at hi;rw [at_rev hi];exact p.ia _ (by omega)
 ·rw [Array.size_reverse]at hj
  show lt (at0 b.reverse i) (at0 b.reverse j)=false
  rw [at_rev hj,at_rev (by omega)]
  exact p.ub _ _ (by omega) (by omega)
 ·rw [Array.size_reverse]at hj
  show lt (at0 a.reverse i) (at0 a.reverse j)=false
  rw [at_rev hj,at_rev (by omega)]
  exact p.ua _ _ (by omega) (by omega)
 ·show lt (at0 b.reverse 0) (at0 a.reverse 0)=true
  rw [at_rev na,at_rev nb]
  exact p.hl _ (by omega)
 ·rw [Array.size_reverse]at hj
  show lt (at0 b.reverse (b.reverse.size - 1)) (at0 a.reverse j)=true
  rw [Array.size_reverse,at_rev hj,at_rev (by omega),show b.size - 1 - (b.size - 1)=0 by omega]
  rcases Nat.eq_zero_or_pos (a.size - 1 - j) with e | e
  ·rw [e];exact p.h0
  ·exact O.low (p.ib 0 nb) (p.ia 0 na) (p.ia _ (by omega)) p.h0 (p.ua 0 _ e (by omega))
theorem Mgd.fl{a b R:Array Nat}(h:Mgd (flp lt) b.reverse a.reverse R):Mgd lt a b R.reverse:=by
 refine⟨?_,?_⟩
 ·rw [Array.toList_reverse]
  refine(List.reverse_perm _).trans (h.perm.trans ?_)
  rw [Array.toList_reverse,Array.toList_reverse]
  exact((List.reverse_perm _).append (List.reverse_perm _)).trans List.perm_append_comm
 ·rw [Array.toList_reverse,List.pairwise_reverse]
  exact h.srt
structure HM(lt:Nat->Nat->Bool)(a b out:Array Nat)(na nb:Nat):Prop where
 ha:na<=a.size
 hb:nb<=b.size
 m:MI (flp lt) b.reverse a.reverse out (b.size - nb) (a.size - na)
section
variable {a b out:Array Nat}{na nb:Nat}
theorem UpA.fl(h:UpA lt a):UpA (flp lt) a.reverse:=fun i j hij hj=>by
 rw [Array.size_reverse]at hj
 show lt (at0 a.reverse i) (at0 a.reverse j)=false
 rw [at_rev hj,at_rev (by omega)]
 exact h _ _ (by omega) (by omega)
theorem HM.chunkA(h:HM lt a b out na nb)(ua:UpA lt a){k:Nat}(hk:k<=na)(hle:∀i,k<=i->i < na->∀j,j < nb->lt (at0 a i) (at0 b j)=false):HM lt a b (out++(a.extract k na).reverse) k nb:=by
 have h1:=h.ha
 have h2:=h.hb
 refine⟨by omega,h2,?_⟩
 have:=h.m.chunkB (k:=na - k) ua.fl (by rw [Array.size_reverse];omega) fun i hi j j1 j2=>by
  rw [Array.size_reverse]at j2
  show lt (at0 a.reverse _) (at0 b.reverse j)=false
  rw [at_rev j2,at_rev (by omega)]
  exact hle _ (by omega) (by omega) _ (by omega)
 rw [rev_ext a hk h1,show a.size - na+(na - k)=a.size - k by omega]at this
 exact this
theorem HM.chunkB(h:HM lt a b out na nb)(ub:UpA lt b){k:Nat}(hk:k<=nb)(hle:∀i,k<=i->i < nb->∀j,j < na->lt (at0 b i) (at0 a j)=false):HM lt a b (out++(b.extract k nb).reverse) na k:=by
 have h1:=h.ha
 have h2:=h.hb
 refine⟨h1,by omega,?_⟩
 have:=h.m.chunkA (k:=nb - k) ub.fl (by rw [Array.size_reverse];omega) fun i hi j j1 j2=>by
  rw [Array.size_reverse]at j2
  show lt (at0 b.reverse _) (at0 a.reverse j)=false
  rw [at_rev j2,at_rev (by omega)]
  exact hle _ (by omega) (by omega) _ (by omega)
 rw [rev_ext b hk h2,show b.size - nb+(nb - k)=b.size - k by omega]at this
 exact this
theorem one_rev{p:Array Nat}{i:Nat}(h:i < p.size)(out:Array Nat):out.push (at0 p i)=out++(p.extract i (i+1)).reverse:=by
 rw [ext_one h]
 congr 1
 apply Array.toList_inj.mp
 rw [Array.toList_reverse,ext_list,List.drop_eq_getElem_cons (by simpa using h)]
 simp
theorem HM.pushA(h:HM lt a b out na nb)(ua:UpA lt a)(h0:0 < na)(hle:∀j,j < nb->lt (at0 a (na - 1)) (at0 b j)=false):HM lt a b (out.push (at0 a (na - 1))) (na - 1) nb:=by
 have h1:=h.ha
 rw [one_rev (show na - 1 < a.size by omega),show na - 1+1=na by omega]
 exact h.chunkA ua (by omega) fun i i1 i2 j hj=>by rw [show i=na - 1 by omega];exact hle j hj
theorem HM.pushB(h:HM lt a b out na nb)(ub:UpA lt b)(h0:0 < nb)(hle:∀j,j < na->lt (at0 b (nb - 1)) (at0 a j)=false):HM lt a b (out.push (at0 b (nb - 1))) na (nb - 1):=by
 have h1:=h.hb
 rw [one_rev (show nb - 1 < b.size by omega),show nb - 1+1=nb by omega]
 exact h.chunkB ub (by omega) fun i i1 i2 j hj=>by rw [show i=nb - 1 by omega];exact hle j hj
theorem HM.doneA(h:HM lt a b out 0 nb)(ub:UpA lt b):Mgd lt a b (a.extract 0 0++b.extract 0 nb++out.reverse):=by
 have h2:=h.hb
 have:=(MI.doneB (a:=b.reverse) (b:=a.reverse) (by rw [Array.size_reverse];exact h.m) ub.fl).fl
 rw [rev_pre b h2,Array.reverse_append,Array.reverse_append,Array.reverse_reverse]at this
 rw [show(a.reverse.extract a.reverse.size a.reverse.size).reverse=a.extract 0 0 by simp,<- Array.append_assoc]at this
 exact this
theorem HM.doneB(h:HM lt a b out na 0)(ua:UpA lt a):Mgd lt a b (a.extract 0 na++b.extract 0 0++out.reverse):=by
 have h1:=h.ha
 have:=(MI.doneA (a:=b.reverse) (b:=a.reverse) (by rw [Array.size_reverse];exact h.m) ua.fl).fl
 rw [rev_pre a h1,Array.reverse_append,Array.reverse_append,Array.reverse_reverse]at this
 rw [show(b.reverse.extract b.reverse.size b.reverse.size).reverse=b.extract 0 0 by simp,<- Array.append_assoc]at this
 exact this
theorem HM.firstB(O:WeakOrd n lt)(p:MPre n lt a b)(h:HM lt a b out na 1):Mgd lt a b (b.extract 0 1++a.extract 0 na++out.reverse):=by
 have h1:=h.ha
 have h2:=h.hb
 have:=(h.m.lastA p.ub.fl p.ua.fl (by rw [Array.size_reverse];omega) ((p.fl O).le O.fl)).fl
 rw [rev_pre a h1,rev_pre b h2,Array.reverse_append,Array.reverse_append,Array.reverse_reverse,Array.reverse_reverse,<- Array.append_assoc]at this
 exact this
end
theorem mpR(out a:Array Nat)(i k:Nat):out.map (kas_item it)++((a.map (kas_item it)).extract i k).reverse=(out++(a.extract i k).reverse).map (kas_item it):=by
 rw [Array.map_append,Array.map_reverse,Array.map_extract]
theorem mp3(x y z:Array Nat)(i j k l:Nat):(x.map (kas_item it)).extract i j++(y.map (kas_item it)).extract k l++(z.map (kas_item it)).reverse=(x.extract i j++y.extract k l++z.reverse).map (kas_item it):=by
 rw [Array.map_append,Array.map_append,Array.map_reverse,Array.map_extract,Array.map_extract]
abbrev HiS:=Option (Array Keyed)×Nat×Nat×Array Keyed×Nat×Nat×Nat
def hiT3(a b out:Array Keyed)(na nb mg ac bc:Nat):StateT SortSt Sem (ForInStep HiS) :=
 elem' a (na - 1) >>= fun y =>
  if(na - 1==0)=true then pure (ForInStep.done (some (a.extract 0 (na - 1)++b.extract 0 nb++(out.push y).reverse),na - 1,nb,out.push y,mg,ac,bc))
  else if(decide (ac < 7) && decide (bc < 7))=true then pure (ForInStep.done (none,na - 1,nb,out.push y,mg,ac,bc))
  else pure (ForInStep.yield (none,na - 1,nb,out.push y,mg,ac,bc))
def hiT2(a b out:Array Keyed)(na nb mg ac bc:Nat):StateT SortSt Sem (ForInStep HiS) :=
 elem' b (nb - 1) >>= fun y =>
  if(nb - 1==1)=true then pure (ForInStep.done (some (b.extract 0 (nb - 1)++a.extract 0 na++(out.push y).reverse),na,nb - 1,out.push y,mg,ac,bc))
  else elem' a (na - 1) >>= fun z=>gallop' true z b 0 (nb - 1) (nb - 1 - 1) >>= fun x =>
   match x with
   | some k=>if nb - 1 - k > 0 then
     (if(k==1)=true then pure (ForInStep.done (some (b.extract 0 k++a.extract 0 na++(out.push y++(b.extract k (nb - 1)).reverse).reverse),na,k,out.push y++(b.extract k (nb - 1)).reverse,mg,ac,nb - 1 - k))
     else if(k==0)=true then pure (ForInStep.done (some (a.extract 0 na++b.extract 0 k++(out.push y++(b.extract k (nb - 1)).reverse).reverse),na,k,out.push y++(b.extract k (nb - 1)).reverse,mg,ac,nb - 1 - k))
     else hiT3 a b (out.push y++(b.extract k (nb - 1)).reverse) na k mg ac (nb - 1 - k))
    else hiT3 a b (out.push y) na (nb - 1) mg ac (nb - 1 - k)
   | _=>pure (ForInStep.done (some (a.extract 0 na++b.extract 0 (nb - 1)++(out.push y).reverse),na,nb - 1,out.push y,mg,ac,bc))
def hiT1(a b out:Array Keyed)(na nb mg ac bc:Nat):StateT SortSt Sem (ForInStep HiS) :=
 setMinGallop' mg >>= fun _=>elem' b (nb - 1) >>= fun y=>gallop' false y a 0 na (na - 1) >>= fun x =>
  match x with
  | some k=>if na - k > 0 then
    (if(k==0)=true then pure (ForInStep.done (some (a.extract 0 k++b.extract 0 nb++(out++(a.extract k na).reverse).reverse),k,nb,out++(a.extract k na).reverse,mg,na - k,bc))
    else hiT2 a b (out++(a.extract k na).reverse) k nb mg (na - k) bc)
   else hiT2 a b out na nb mg (na - k) bc
  | _=>pure (ForInStep.done (some (a.extract 0 na++b.extract 0 nb++out.reverse),na,nb,out,mg,ac,bc))
structure HMid(lt:Nat->Nat->Bool)(it:Array Keyed)(a b:Array Nat)(q:Nat)(o:Array Keyed)(na nb:Nat):Prop where
 m:∃out:Array Nat,o=out.map (kas_item it)/\HM lt a b out na nb
 ha:0 < na
 hb:1 < nb
 q:na+nb+q<=a.size+b.size
section
variable {a b:Array Nat}{st:SortSt}{Qd Qy:HiS->SortSt->Prop}{out:Array Nat}{na nb mg ac bc:Nat}
theorem hi_t3(O:WeakOrd n lt)(p:MPre n lt a b)(M:HM lt a b out na nb)(ha:0 < na)(hb:1 < nb)(hle:∀j,j < nb->lt (at0 a (na - 1)) (at0 b j)=false){q:Nat}(hq:na+nb+q<=a.size+b.size)
  (fin:∀R c,Mgd lt a b R->c.1=some (R.map (kas_item it))->Qd c st) (go:∀o i j m x y,HMid lt it a b (q+1) o i j->Qd (none,i,j,o,m,x,y) st/\Qy (none,i,j,o,m,x,y) st) :
  wpS (model prog w) A E s (hiT3 (a.map (kas_item it)) (b.map (kas_item it)) (out.map (kas_item it)) na nb mg ac bc) (fun r st'=>match r with | .done c'=>Qd c' st' | .yield c'=>Qy c' st') st:=by
 have h1:=M.ha
 unfold hiT3
 refine wpS_bind (b_elem (by omega) ?_)
 have M1:=M.pushA p.ua ha hle
 simp only [mpP,mp3]
 by_cases e:na - 1=0
 ·rw [if_pos (by simpa using e)]
  refine wpS_pure (fin _ _ (show Mgd lt a b (a.extract 0 (na - 1)++b.extract 0 nb++(out.push (at0 a (na - 1))).reverse) from ?_) rfl)
  have:=(show HM lt a b (out.push (at0 a (na - 1))) 0 nb by rw [<- e];rw [e]at M1 ⊢;exact M1).doneA p.ub
  rw [e]at this ⊢
  exact this
 ·rw [if_neg (by simpa using e)]
  have g:=go _ _ _ mg ac bc (⟨⟨_,rfl,M1⟩,by omega,hb,by omega⟩:HMid lt it a b (q+1) _ (na - 1) nb)
  by_cases e4:(decide (ac < 7) && decide (bc < 7))=true
  ·rw [if_pos e4];exact wpS_pure g.1
  ·rw [if_neg e4];exact wpS_pure g.2
theorem hi_t2(O:WeakOrd n lt)(hc:Cmp prog w A κ it n lt s)(hk:kindOf st=κ)(p:MPre n lt a b)(M:HM lt a b out na nb)(ha:0 < na)(hb:1 < nb)(hle:∀j,j < na->lt (at0 b (nb - 1)) (at0 a j)=false){q:Nat}(hq:na+nb+q<=a.size+b.size)
  (fin:∀R c,Mgd lt a b R->c.1=some (R.map (kas_item it))->Qd c st) (go:∀o i j m x y,HMid lt it a b (q+1) o i j->Qd (none,i,j,o,m,x,y) st/\Qy (none,i,j,o,m,x,y) st) :
  wpS (model prog w) A E s (hiT2 (a.map (kas_item it)) (b.map (kas_item it)) (out.map (kas_item it)) na nb mg ac bc) (fun r st'=>match r with | .done c'=>Qd c' st' | .yield c'=>Qy c' st') st:=by
 have h1:=M.ha
 have h2:=M.hb
 unfold hiT2
 refine wpS_bind (b_elem (by omega) ?_)
 have M1:=M.pushB p.ub (by omega) hle
 simp only [mpP]
 by_cases e:nb - 1=1
 ·rw [if_pos (by simpa using e)]
  simp only [mp3]
  refine wpS_pure (fin _ _ (show Mgd lt a b (b.extract 0 (nb - 1)++a.extract 0 na++(out.push (at0 b (nb - 1))).reverse) from ?_) rfl)
  rw [e]at M1 ⊢
  exact M1.firstB O p
 ·rw [if_neg (by simpa using e)]
  refine wpS_bind (b_elem (by omega) ?_)
  refine wpS_bind (b_gl O hc hk (by omega) (by omega) p.ib (p.ia (na - 1) (by omega)) (fun i j _ h2 h3=>p.ub i j h2 (by omega)) fun k k1 k2 k3=>?_)
  dsimp only
  simp only [Nat.zero_add]at k2 k3
  have hge:∀i,k<=i->i < nb - 1->∀j,j < na->lt (at0 b i) (at0 a j)=false:=fun i i1 i2 j hj=>by
   have e1:=k3 i i1 i2
   rcases Nat.eq_or_lt_of_le (show j<=na - 1 by omega) with rfl | hj'
   ·exact e1
   ·exact O.tr _ _ _ (p.ia j (by omega)) (p.ia (na - 1) (by omega)) (p.ib i (by omega)) (p.ua j (na - 1) hj' (by omega)) e1
  have M2:=M1.chunkB p.ub (k:=k) k1 hge
  by_cases kp:nb - 1 - k > 0
  ·rw [if_pos kp]
   simp only [mpR,mp3]
   by_cases e1:k=1
   ·rw [if_pos (by simpa using e1)]
    refine wpS_pure (fin _ _ (show Mgd lt a b (b.extract 0 k++a.extract 0 na++(out.push (at0 b (nb - 1))++(b.extract k (nb - 1)).reverse).reverse) from ?_) rfl)
    subst e1
    exact M2.firstB O p
   ·rw [if_neg (by simpa using e1)]
    by_cases e2:k=0
    ·rw [if_pos (by simpa using e2)]
     refine wpS_pure (fin _ _ (show Mgd lt a b (a.extract 0 na++b.extract 0 k++(out.push (at0 b (nb - 1))++(b.extract k (nb - 1)).reverse).reverse) from ?_) rfl)
     subst e2
     exact M2.doneB p.ua
    ·rw [if_neg (by simpa using e2)]
     exact hi_t3 O p M2 ha (by omega) (fun j hj=>O.asy _ _ (p.ib j (by omega)) (p.ia _ (by omega)) (k2 j hj)) (q:=q) (by omega) fin go
  ·rw [if_neg kp]
   exact hi_t3 O p M1 ha (by omega) (fun j hj=>O.asy _ _ (p.ib j (by omega)) (p.ia _ (by omega)) (k2 j (by omega))) (q:=q) (by omega) fin go
theorem hi_t1(O:WeakOrd n lt)(hc:Cmp prog w A κ it n lt s)(hk:kindOf st=κ)(p:MPre n lt a b)(M:HM lt a b out na nb)(ha:0 < na)(hb:1 < nb){q:Nat}(hq:na+nb+q<=a.size+b.size)
  (fin:∀R c,Mgd lt a b R->c.1=some (R.map (kas_item it))->Qd c (setG st mg)) (go:∀o i j m x y,HMid lt it a b (q+1) o i j->Qd (none,i,j,o,m,x,y) (setG st mg)/\Qy (none,i,j,o,m,x,y) (setG st mg)) :
  wpS (model prog w) A E s (hiT1 (a.map (kas_item it)) (b.map (kas_item it)) (out.map (kas_item it)) na nb mg ac bc) (fun r st'=>match r with | .done c'=>Qd c' st' | .yield c'=>Qy c' st') st:=by
 have h1:=M.ha
 have h2:=M.hb
 unfold hiT1
 rw [setMinGallop'_eq]
 refine wpS_bind (wpS_modify (wpS_bind (b_elem (by omega) ?_)))
 refine wpS_bind (b_gr O hc (st:=setG st mg) hk (by omega) (by omega) p.ia (p.ib (nb - 1) (by omega)) (fun i j _ h2 h3=>p.ua i j h2 (by omega)) fun k k1 k2 k3=>?_)
 dsimp only
 simp only [Nat.zero_add]at k2 k3
 have hge:∀i,k<=i->i < na->∀j,j < nb->lt (at0 a i) (at0 b j)=false:=fun i i1 i2 j hj=>by
  have e1:=O.asy _ _ (p.ib (nb - 1) (by omega)) (p.ia i (by omega)) (k3 i i1 i2)
  rcases Nat.eq_or_lt_of_le (show j<=nb - 1 by omega) with rfl | hj'
  ·exact e1
  ·exact O.tr _ _ _ (p.ib j (by omega)) (p.ib (nb - 1) (by omega)) (p.ia i (by omega)) (p.ub j (nb - 1) hj' (by omega)) e1
 have M1:=M.chunkA p.ua (k:=k) k1 hge
 by_cases kp:na - k > 0
 ·rw [if_pos kp]
  simp only [mpR,mp3]
  by_cases e1:k=0
  ·rw [if_pos (by simpa using e1)]
   refine wpS_pure (fin _ _ (show Mgd lt a b (a.extract 0 k++b.extract 0 nb++(out++(a.extract k na).reverse).reverse) from ?_) rfl)
   subst e1
   exact M1.doneA p.ub
  ·rw [if_neg (by simpa using e1)]
   exact hi_t2 O hc (st:=setG st mg) hk p M1 (by omega) hb k2 (q:=q) (by omega) fin go
 ·rw [if_neg kp]
  exact hi_t2 O hc (st:=setG st mg) hk p M ha hb (fun j hj=>k2 j (by omega)) (q:=q) hq fin go
end
theorem MPre.last{a b:Array Nat}(O:WeakOrd n lt)(p:MPre n lt a b):HM lt a b #[at0 a (a.size - 1)] (a.size - 1) b.size:=by
 have na:=p.na
 have nb:=p.nb
 have h0:HM lt a b #[] a.size b.size:=⟨Nat.le_refl _,Nat.le_refl _,by rw [Nat.sub_self,Nat.sub_self];exact MI.zero _ _⟩
 exact h0.pushA p.ua na fun j hj=>p.le O j hj
theorem b_mergeHi(O:WeakOrd n lt)(hc:Cmp prog w A κ it n lt s){a b:Array Nat}{st:SortSt}(hk:kindOf st=κ)(p:MPre n lt a b){Q:Array Keyed->SortSt->Prop}(h:∀R g,Mgd lt a b R->Q (R.map (kas_item it)) (setG st g)) :
  wpS (model prog w) A E s (mergeHi' (a.map (kas_item it)) (b.map (kas_item it))) Q st:=by
 rw [mergeHi'_eq]
 dsimp only
 have M0:=p.last O
 have na:=p.na
 have nb:=p.nb
 have sa:(a.map (kas_item it)).size=a.size:=Array.size_map ..
 have sb:(b.map (kas_item it)).size=b.size:=Array.size_map ..
 have e0:#[kas_item it (a.getD (a.size - 1) 0)]=(#[at0 a (a.size - 1)]:Array Nat).map (kas_item it):=by simp
 refine wpS_bind (wpS_lift (wpAny_rule ⟨rfl,?_⟩))
 refine wpS_bind (b_elem (by omega) ?_)
 rw [sa,e0]
 by_cases e1:a.size - 1=0
 ·rw [if_pos (by simpa using e1)]
  simp only [sb,mp3]
  refine wpS_pure (h _ (gallopOf st) ?_)
  have:=(show HM lt a b #[at0 a (a.size - 1)] 0 b.size by rw [e1]at M0 ⊢;exact M0).doneA p.ub
  rw [e1]at this ⊢
  exact this
 rw [if_neg (by simpa using e1)]
 by_cases e2:b.size=1
 ·rw [if_pos (by simpa using e2)]
  simp only [sb,mp3]
  refine wpS_pure (h _ (gallopOf st) ?_)
  rw [e2]at M0 ⊢
  exact M0.firstB O p
 rw [if_neg (by simpa using e2)]
 refine wpS_bind (wpS_get ?_)
 refine wpS_bind (wpS_mono (wpS_forRange (I:=fun x c st'=>(∃g,st'=setG st g)/\c.1=none/\HMid lt it a b (1+x) c.2.2.2.1 c.2.1 c.2.2.1) (Q:=fun c st'=>(∃g,st'=setG st g)/\∃R,c.1=some (R.map (kas_item it))/\Mgd lt a b R) ?_ ?_ ⟨⟨gallopOf st,rfl⟩,rfl,⟨_,rfl,by rw [sb];exact M0⟩,by show 0 < a.size - 1;omega,by show 1 < (b.map (kas_item it)).size;omega,by show a.size - 1+(b.map (kas_item it)).size+(1+0)<=_;omega⟩) ?_)
 ·rintro x ⟨c1,ia,ib,o,mg⟩ st' _ hx ⟨⟨g,rfl⟩,rfl,⟨out,eo,M⟩,ha,hb,hq⟩
  dsimp only at eo M ha hb hq ⊢
  subst eo
  refine wpS_bind (wpS_mono (wpS_forRange (I:=fun y c st'=>st'=setG st g/\c.1=none/\HMid lt it a b (1+x+y) c.2.2.2.1 c.2.1 c.2.2.1) (Q:=fun c st'=>st'=setG st g/\((∃R,c.1=some (R.map (kas_item it))/\Mgd lt a b R)\/(c.1=none/\HMid lt it a b (1+x+1) c.2.2.2.1 c.2.1 c.2.2.1))) ?_ ?_ ⟨rfl,rfl,⟨out,rfl,M⟩,ha,hb,hq⟩) ?_)
  ·clear M ha hb hq
   rintro y ⟨c1,ja,jb,o,ac,bc⟩ st' _ hy ⟨rfl,rfl,⟨out,eo,M⟩,ha,hb,hq'⟩
   dsimp only at eo M ha hb hq' ⊢
   subst eo
   have h1:=M.ha
   have h2:=M.hb
   refine wpS_bind (b_elem (by omega) (wpS_bind (b_elem (by omega) (wpS_bind (b_lt hc (st:=setG st g) hk (p.ib _ (by omega)) (p.ia _ (by omega)) ?_)))))
   dsimp only
   cases e:lt (b.getD (jb - 1) 0) (a.getD (ja - 1) 0) with
   | true =>
    rw [if_pos rfl]
    refine wpS_bind (b_elem (by omega) ?_)
    have M1:=M.pushA p.ua ha fun j hj=>by
     have e':=O.asy _ _ (p.ib _ (by omega)) (p.ia (ja - 1) (by omega)) e
     rcases Nat.eq_or_lt_of_le (show j<=jb - 1 by omega) with rfl | hj'
     ·exact e'
     ·exact O.tr _ _ _ (p.ib j (by omega)) (p.ib (jb - 1) (by omega)) (p.ia (ja - 1) (by omega)) (p.ub j (jb - 1) hj' (by omega)) e'
    simp only [mpP]
    by_cases e3:ja - 1=0
    ·rw [if_pos (by simpa using e3)]
     simp only [mp3]
     refine wpS_pure ⟨rfl,.inl ⟨_,rfl,?_⟩⟩
     have:=(show HM lt a b (out.push (at0 a (ja - 1))) 0 jb by rw [e3]at M1 ⊢;exact M1).doneA p.ub
     rw [e3]at this ⊢
     exact this
    ·rw [if_neg (by simpa using e3)]
     by_cases e4:ac+1>=mg <;> simp only [e4,if_true,if_false]
     ·exact wpS_pure ⟨rfl,.inr ⟨rfl,⟨_,rfl,M1⟩,by show 0 < ja - 1;omega,hb,by show ja - 1+jb+_<=_;omega⟩⟩
     ·exact wpS_pure ⟨rfl,rfl,⟨_,rfl,M1⟩,by show 0 < ja - 1;omega,hb,by show ja - 1+jb+_<=_;omega⟩
   | false =>
    rw [if_neg Bool.false_ne_true]
    refine wpS_bind (b_elem (by omega) ?_)
    have M1:=M.pushB p.ub (by omega) fun j hj=>by
     rcases Nat.eq_or_lt_of_le (show j<=ja - 1 by omega) with rfl | hj'
     ·exact e
     ·exact O.tr _ _ _ (p.ia j (by omega)) (p.ia (ja - 1) (by omega)) (p.ib (jb - 1) (by omega)) (p.ua j (ja - 1) hj' (by omega)) e
    simp only [mpP]
    by_cases e3:jb - 1=1
    ·rw [if_pos (by simpa using e3)]
     simp only [mp3]
     refine wpS_pure ⟨rfl,.inl ⟨_,rfl,?_⟩⟩
     rw [e3]at M1 ⊢
     exact M1.firstB O p
    ·rw [if_neg (by simpa using e3)]
     by_cases e4:bc+1>=mg <;> simp only [e4,if_true,if_false]
     ·exact wpS_pure ⟨rfl,.inr ⟨rfl,⟨_,rfl,M1⟩,ha,by show 1 < jb - 1;omega,by show ja+(jb - 1)+_<=_;omega⟩⟩
     ·exact wpS_pure ⟨rfl,rfl,⟨_,rfl,M1⟩,ha,by show 1 < jb - 1;omega,by show ja+(jb - 1)+_<=_;omega⟩
  ·rintro c st' ⟨_,_,⟨out,_,M⟩,ha',hb',hq'⟩
   omega
  ·rintro⟨c1,ja,jb,o,ac,bc⟩ st' ⟨rfl,⟨R,rfl,hR⟩ | ⟨rfl,hM⟩⟩
   ·exact wpS_pure ⟨⟨g,rfl⟩,R,rfl,hR⟩
   ·dsimp only at hM ⊢
    refine wpS_bind (wpS_lift (wpAny_rule ⟨rfl,?_⟩))
    refine wpS_bind (wpS_mono (wpS_forRange (I:=fun y c st'=>(∃g,st'=setG st g)/\c.1=none/\HMid lt it a b (1+x+1+y) c.2.2.2.1 c.2.1 c.2.2.1) (Q:=fun c st'=>(∃g,st'=setG st g)/\((∃R,c.1=some (R.map (kas_item it))/\Mgd lt a b R)\/(c.1=none/\HMid lt it a b (1+x+1) c.2.2.2.1 c.2.1 c.2.2.1))) ?_ ?_ ⟨⟨g,rfl⟩,rfl,hM⟩) ?_)
    ·clear hM
     rintro y ⟨c1,ja,jb,o,mg,ac,bc⟩ st' _ hy ⟨⟨g,rfl⟩,rfl,⟨out,eo,M⟩,ha,hb,hq'⟩
     dsimp only at eo M ha hb hq' ⊢
     subst eo
     have key:∀mg,wpS (model prog w) A E s (hiT1 (a.map (kas_item it)) (b.map (kas_item it)) (out.map (kas_item it)) ja jb mg ac bc) _ (setG st g):=fun mg =>
      hi_t1 (Qd:=fun c st'=>(∃g,st'=setG st g)/\((∃R,c.1=some (R.map (kas_item it))/\Mgd lt a b R)\/(c.1=none/\HMid lt it a b (1+x+1) c.2.2.2.1 c.2.1 c.2.2.1)))
       (Qy:=fun c st'=>(∃g,st'=setG st g)/\c.1=none/\HMid lt it a b (1+x+1+(y+1)) c.2.2.2.1 c.2.1 c.2.2.1) O hc (st:=setG st g) hk p M ha hb (q:=1+x+1+y) hq' (fun R c hR e=>⟨⟨mg,rfl⟩,.inl ⟨R,e,hR⟩⟩)
       fun o i j m x y hm=>⟨⟨⟨mg,rfl⟩,.inr ⟨rfl,hm.m,hm.ha,hm.hb,by have:=hm.q;show i+j+_<=_;omega⟩⟩,⟨mg,rfl⟩,rfl,hm.m,hm.ha,hm.hb,by have:=hm.q;show i+j+_<=_;omega⟩
     by_cases e4:mg > 1
     ·rw [if_pos e4]
      refine wpS_mono (key (mg - 1)) ?_
      rintro(c | c) st' hh <;> exact hh
     ·rw [if_neg e4]
      refine wpS_mono (key mg) ?_
      rintro(c | c) st' hh <;> exact hh
    ·rintro c st' ⟨⟨g,rfl⟩,h1,h2⟩
     exact⟨⟨g,rfl⟩,.inr ⟨h1,h2.m,h2.ha,h2.hb,by have:=h2.q;omega⟩⟩
    ·rintro⟨c1,ja,jb,o,mg,ac,bc⟩ st' ⟨⟨g,rfl⟩,⟨R,rfl,hR⟩ | ⟨rfl,hM⟩⟩
     ·exact wpS_pure ⟨⟨g,rfl⟩,R,rfl,hR⟩
     ·dsimp only at hM ⊢
      rw [setMinGallop'_eq]
      refine wpS_bind (wpS_modify (wpS_pure ⟨⟨_,rfl⟩,rfl,hM.m,hM.ha,hM.hb,?_⟩))
      have:=hM.q
      show ja+jb+_<=_
      omega
 ·rintro c st' ⟨_,_,⟨out,_,M⟩,ha',hb',hq'⟩
  omega
 ·rintro⟨c1,o⟩ st' ⟨⟨g,rfl⟩,R,rfl,hR⟩
  exact wpS_pure (h R g hR)
end
end L2
namespace L2
open PySem PySem.W PyProof.Rows
theorem mergeAt'_eq(i:Nat):mergeAt' i=(do
 let s <- get
 let(some (sa,na,power),some (sb,nb,_)):=((pendingOf s)[i]?,(pendingOf s)[i+1]?) | unsupported "internal:list.sort.pending"
 set (setPending s (((pendingOf s).setIfInBounds i (sa,na+nb,power)).eraseIdxIfInBounds (i+1)))
 let some k <- gallop' false (<- elem' (arrOf s) sb) (arrOf s) sa na 0 | return false
 let(sa,na):=(sa+k,na - k)
 if na==0 then return true
 let some nb <- gallop' true (<- elem' (arrOf s) (sa+na - 1)) (arrOf s) sb nb (nb - 1) | return false
 if nb==0 then return true
 let x:=(arrOf s).extract sa sb
 let y:=(arrOf s).extract sb (sb+nb)
 let merged <- if na<=nb then mergeLo' x y else mergeHi' x y
 modify fun s=>setArr s (merged.toList.zipIdx.foldl (fun a (p,j)=>a.setIfInBounds (sa+j) p) (arrOf s))
 return (failedOf (<- get)).isNone):=rfl
section
variable {prog:Program}{w:World}{A:Around}{E:Value->Shared->Prop}{s:Shared}{κ:SortKind}{it:Array Keyed}{n:Nat}{lt:Nat->Nat->Bool}
def SS(κ:SortKind)(it:Array Keyed)(p:Array Nat)(pd:Array (Nat×Nat×Nat))(g:Nat):SortSt:=SortSt.mk' κ (p.map (kas_item it)) pd g none
def Seg(lt:Nat->Nat->Bool)(p:Array Nat)(lo len:Nat):Prop:=∀i j,lo<=i->i < j->j < lo+len->lt (at0 p j) (at0 p i)=false
theorem wpS_set{σ:Type}{M:Model}{x:σ}{Q:PUnit->σ->Prop}{st:σ}(h:Q ⟨⟩ x):wpS M A E s (set x:StateT σ Sem PUnit) Q st:=by
 unfold wpS;rw [StateT.run_set];exact wpAny_pure ⟨rfl,h⟩
def wr{α:Type}(off:Nat):List α->Nat->Array α->Array α
 | [],_,p=>p
 | x :: xs,k,p=>wr off xs (k+1) (p.setIfInBounds (off+k) x)
theorem wr_fold{α:Type}(off:Nat):∀(xs:List α) (k:Nat) (p:Array α),(xs.zipIdx k).foldl (fun a (z:α×Nat)=>a.setIfInBounds (off+z.2) z.1) p=wr off xs k p
 | [],_,_=>rfl
 | x :: xs,k,p=>by
  rw [List.zipIdx_cons,List.foldl_cons,wr]
  exact wr_fold off xs (k+1) _
theorem wr_map{α β:Type}(f:α->β)(off:Nat):∀(xs:List α) (k:Nat) (p:Array α),wr off (xs.map f) k (p.map f)=(wr off xs k p).map f
 | [],_,_=>rfl
 | x :: xs,k,p=>by
  rw [List.map_cons,wr,wr,<- wr_map f off xs (k+1)]
  congr 1
  rw [Array.map_setIfInBounds]
theorem wr_size{α:Type}(off:Nat):∀(xs:List α) (k:Nat) (p:Array α),(wr off xs k p).size=p.size
 | [],_,_=>rfl
 | x :: xs,k,p=>by rw [wr,wr_size off xs,Array.size_setIfInBounds]
theorem wr_get{α:Type}(off:Nat):∀(xs:List α) (k:Nat) (p:Array α),off+k+xs.length<=p.size->∀i:Nat,(wr off xs k p)[i]?=if off+k<=i/\i < off+k+xs.length then xs[i - (off+k)]? else p[i]?
 | [],k,p,_,i=>by rw [wr,if_neg (by simp only [List.length_nil];omega)]
 | x :: xs,k,p,h,i=>by
  rw [List.length_cons]at h
  rw [wr,wr_get off xs (k+1) _ (by rw [Array.size_setIfInBounds];omega),Array.getElem?_setIfInBounds,List.length_cons]
  by_cases h1:off+k=i
  ·subst h1
   rw [if_neg (by omega),if_pos rfl,if_pos (by omega),if_pos (by omega),Nat.sub_self];rfl
  ·by_cases h2:off+(k+1)<=i/\i < off+(k+1)+xs.length
   ·rw [if_pos h2,if_pos (by omega)]
    rw [show i - (off+k)=i - (off+(k+1))+1 by omega,List.getElem?_cons_succ]
   ·rw [if_neg h2,if_neg h1,if_neg (by omega)]
theorem at0_eq{p q:Array Nat}{i j:Nat}(h:p[i]?=q[j]?):at0 p i=at0 q j:=by
 unfold at0
 rw [Array.getD_eq_getD_getElem?,Array.getD_eq_getD_getElem?,h]
theorem at0_list{p:Array Nat}{xs:List Nat}{i j:Nat}{d:Nat}(h:p[i]?=xs[j]?)(hj:j < xs.length):at0 p i=xs[j]:=by
 unfold at0
 rw [Array.getD_eq_getD_getElem?,h,List.getElem?_eq_getElem hj];rfl
theorem wr_list(off:Nat)(R:List Nat)(p:Array Nat)(h:off+R.length<=p.size):(wr off R 0 p).toList=p.toList.take off++R++p.toList.drop (off+R.length):=by
 apply List.ext_getElem?
 intro i
 rw [Array.getElem?_toList,wr_get off R 0 p h]
 simp only [Nat.add_zero]
 have hl:(p.toList.take off).length=off:=by rw [List.length_take,Array.length_toList];omega
 by_cases h1:i < off
 ·rw [if_neg (by omega),List.append_assoc,List.getElem?_append_left (by omega),List.getElem?_take_of_lt h1,Array.getElem?_toList]
 ·by_cases h2:i < off+R.length
  ·rw [if_pos (by omega),List.getElem?_append_left (by rw [List.length_append];omega),List.getElem?_append_right (by omega),hl]
  ·rw [if_neg (by omega),List.getElem?_append_right (by rw [List.length_append];omega),List.length_append,hl,List.getElem?_drop,Array.getElem?_toList]
   congr 1;omega
theorem at_ext{p:Array Nat}{i j k:Nat}(h:i+k < j)(hj:j<=p.size):at0 (p.extract i j) k=at0 p (i+k):=at0_eq (by
 rw [Array.getElem?_extract]
 rw [if_pos (by omega)])
theorem two_ext{p:Array Nat}{i j k:Nat}(h1:i<=j)(h2:j<=k):(p.extract i j).toList++(p.extract j k).toList=(p.toList.drop i).take (k - i):=by
 rw [show j=i+(j - i) by omega,ext_list,show i+(j - i)=j by omega,show k=j+(k - j) by omega,ext_list,show j+(k - j) - i=(j - i)+(k - j) by omega,List.take_add,List.drop_drop,show i+(j - i)=j by omega]
structure Kept(p p':Array Nat)(lo hi:Nat):Prop where
 size:p'.size=p.size
 perm:p'.toList.Perm p.toList
 same:∀i,i < lo\/hi<=i->at0 p' i=at0 p i
theorem Kept.refl{p:Array Nat}{lo hi:Nat}:Kept p p lo hi:=⟨rfl,.refl _,fun _ _=>rfl⟩
theorem Kept.trans{p q r:Array Nat}{lo hi:Nat}(h:Kept p q lo hi)(k:Kept q r lo hi):Kept p r lo hi:=⟨k.size.trans h.size,k.perm.trans h.perm,fun i hi=>(k.same i hi).trans (h.same i hi)⟩
theorem Kept.mono{p q:Array Nat}{lo hi lo' hi':Nat}(h:Kept p q lo hi)(h1:lo'<=lo)(h2:hi<=hi'):Kept p q lo' hi':=⟨h.size,h.perm,fun i hi=>h.same i (by omega)⟩
theorem mem_at0{p:Array Nat}{x:Nat}(h:x∈p.toList):∃i,i < p.size/\x=at0 p i:=by
 obtain⟨i,hi,e⟩:=List.getElem_of_mem h
 rw [Array.length_toList]at hi
 refine⟨i,hi,?_⟩
 rw [<- e];simp [at0,Array.getD,hi]
theorem at0_mem{p:Array Nat}{i:Nat}(h:i < p.size):at0 p i∈p.toList:=by
 simp [at0,Array.getD,h]
theorem Kept.in{p p':Array Nat}{lo hi:Nat}(h:Kept p p' lo hi)(hp:In n p):In n p':=fun i hi=>by
 obtain⟨j,hj,e⟩:=mem_at0 (h.perm.mem_iff.mp (at0_mem hi))
 rw [e];exact hp j hj
theorem Seg.kept{p p':Array Nat}{lo hi a len:Nat}(h:Seg lt p a len)(k:Kept p p' lo hi)(ho:a+len<=lo\/hi<=a):Seg lt p' a len:=fun i j h1 h2 h3=>by
 rw [k.same i (by omega),k.same j (by omega)]
 exact h i j h1 h2 h3
theorem b_mergeAt(O:WeakOrd n lt)(hc:Cmp prog w A κ it n lt s){p:Array Nat}{pd:Array (Nat×Nat×Nat)}{g i sa na pw nb pw2:Nat}(hp:In n p)(h1:pd[i]?=some (sa,na,pw))(h2:pd[i+1]?=some (sa+na,nb,pw2))(ha:0 < na)(hb:0 < nb)(hs:sa+na+nb<=p.size)
  (sA:Seg lt p sa na) (sB:Seg lt p (sa+na) nb) {Q:Bool->SortSt->Prop}
  (h:∀p' g',Kept p p' sa (sa+na+nb)->Seg lt p' sa (na+nb)->Q true (SS κ it p' ((pd.setIfInBounds i (sa,na+nb,pw)).eraseIdxIfInBounds (i+1)) g')):wpS (model prog w) A E s (mergeAt' i) Q (SS κ it p pd g):=by
 rw [mergeAt'_eq]
 refine wpS_bind (wpS_get ?_)
 have e1:(pendingOf (SS κ it p pd g))[i]?=some (sa,na,pw):=h1
 have e2:(pendingOf (SS κ it p pd g))[i+1]?=some (sa+na,nb,pw2):=h2
 rw [e1,e2]
 dsimp only
 have earr:arrOf (SS κ it p pd g)=p.map (kas_item it):=rfl
 rw [earr]
 refine wpS_bind (wpS_set (wpS_bind (b_elem (by omega) ?_)))
 have hl:=fun i (hi:i < p.size)=>hp i hi
 refine wpS_bind (b_gr O hc (st:=SS κ it p ((pd.setIfInBounds i (sa,na+nb,pw)).eraseIdxIfInBounds (i+1)) g) rfl ha (by omega) hp (hl _ (by omega)) (fun x y a1 a2 a3=>sA x y a1 a2 a3) fun k k1 k2 k3=>?_)
 dsimp only
 have low:∀x,sa<=x->x < sa+k->lt (at0 p (sa+na)) (at0 p x)=false:=fun x a1 a2=>by
  have:=k2 (x - sa) (by omega)
  rwa [show sa+(x - sa)=x by omega]at this
 have bfrom:∀y,sa+na<=y->y < sa+na+nb->lt (at0 p y) (at0 p (sa+na))=false:=fun y a1 a2=>by
  rcases Nat.eq_or_lt_of_le a1 with rfl | a1
  ·exact O.irr (hl _ (by omega))
  ·exact sB _ y (Nat.le_refl _) a1 (by omega)
 have lowB:∀x y,sa<=x->x < sa+k->sa+na<=y->y < sa+na+nb->lt (at0 p y) (at0 p x)=false:=fun x y a1 a2 a3 a4 =>
  O.tr _ _ _ (hl x (by omega)) (hl (sa+na) (by omega)) (hl y (by omega)) (low x a1 a2) (bfrom y a3 a4)
 by_cases c1:na - k=0
 ·rw [if_pos (by simpa using c1)]
  refine wpS_pure (h p g .refl fun x y a1 a2 a3=>?_)
  by_cases c2:y < sa+na
  ·exact sA x y a1 a2 c2
  ·by_cases c3:x < sa+na
   ·exact lowB x y a1 (by omega) (by omega) (by omega)
   ·exact sB x y (by omega) a2 (by omega)
 rw [if_neg (by simpa using c1)]
 refine wpS_bind (b_elem (by omega) ?_)
 refine wpS_bind (b_gl O hc (st:=SS κ it p ((pd.setIfInBounds i (sa,na+nb,pw)).eraseIdxIfInBounds (i+1)) g) rfl (by omega) (by omega) hp (hl _ (by omega)) (fun x y a1 a2 a3=>sB x y a1 a2 a3) fun m m1 m2 m3=>?_)
 dsimp only
 have el:sa+k+(na - k) - 1=sa+na - 1:=by omega
 rw [el]at m2 m3
 have ato:∀x,sa<=x->x < sa+na->lt (at0 p (sa+na - 1)) (at0 p x)=false:=fun x a1 a2=>by
  rcases Nat.eq_or_lt_of_le (show x<=sa+na - 1 by omega) with rfl | a2'
  ·exact O.irr (hl _ (by omega))
  ·exact sA x _ a1 a2' (by omega)
 have high:∀x y,sa<=x->x < sa+na->sa+na+m<=y->y < sa+na+nb->lt (at0 p y) (at0 p x)=false:=fun x y a1 a2 a3 a4=>by
  have:=m3 (y - (sa+na)) (by omega) (by omega)
  rw [show sa+na+(y - (sa+na))=y by omega]at this
  exact O.tr _ _ _ (hl x (by omega)) (hl (sa+na - 1) (by omega)) (hl y (by omega)) (ato x a1 a2) this
 by_cases c2:m=0
 ·rw [if_pos (by simpa using c2)]
  refine wpS_pure (h p g .refl fun x y a1 a2 a3=>?_)
  by_cases c3:y < sa+na
  ·exact sA x y a1 a2 c3
  ·by_cases c4:x < sa+na
   ·exact high x y a1 c4 (by omega) (by omega)
   ·exact sB x y (by omega) a2 (by omega)
 rw [if_neg (by simpa using c2)]
 have x1:(p.map (kas_item it)).extract (sa+k) (sa+na)=(p.extract (sa+k) (sa+na)).map (kas_item it):=Array.map_extract.symm
 have x2:(p.map (kas_item it)).extract (sa+na) (sa+na+m)=(p.extract (sa+na) (sa+na+m)).map (kas_item it):=Array.map_extract.symm
 rw [x1,x2]
 have z1:(p.extract (sa+k) (sa+na)).size=na - k:=by rw [Array.size_extract];omega
 have z2:(p.extract (sa+na) (sa+na+m)).size=m:=by rw [Array.size_extract];omega
 have pre:MPre n lt (p.extract (sa+k) (sa+na)) (p.extract (sa+na) (sa+na+m)):=by
  refine⟨by omega,by omega,fun x hx=>?_,fun x hx=>?_,fun x y a1 a2=>?_,fun x y a1 a2=>?_,?_,fun y hy=>?_⟩
  ·rw [z1]at hx;rw [at_ext (by omega) (by omega)];exact hl _ (by omega)
  ·rw [z2]at hx;rw [at_ext (by omega) (by omega)];exact hl _ (by omega)
  ·rw [z1]at a2;rw [at_ext (by omega) (by omega),at_ext (by omega) (by omega)];exact sA _ _ (by omega) (by omega) (by omega)
  ·rw [z2]at a2;rw [at_ext (by omega) (by omega),at_ext (by omega) (by omega)];exact sB _ _ (by omega) (by omega) (by omega)
  ·rw [at_ext (by omega) (by omega),at_ext (by omega) (by omega)]
   have:=k3 k (Nat.le_refl _) (by omega)
   exact this
  ·rw [z2]at hy
   rw [z1,at_ext (by omega) (by omega),at_ext (by omega) (by omega),show sa+k+(na - k - 1)=sa+na - 1 by omega]
   exact m2 y hy
 have fin:∀(R:Array Nat) (g':Nat),Mgd lt (p.extract (sa+k) (sa+na)) (p.extract (sa+na) (sa+na+m)) R ->
   Q true (SS κ it (wr (sa+k) R.toList 0 p) ((pd.setIfInBounds i (sa,na+nb,pw)).eraseIdxIfInBounds (i+1)) g'):=fun R g' hR=>by
  have hRl:R.toList.length=na - k+m:=by
   have:=hR.perm.length_eq
   rw [List.length_append,Array.length_toList,Array.length_toList,Array.length_toList,z1,z2]at this
   rw [Array.length_toList];exact this
  have hfit:sa+k+R.toList.length<=p.size:=by omega
  have el:(p.extract (sa+k) (sa+na)).toList++(p.extract (sa+na) (sa+na+m)).toList=(p.toList.drop (sa+k)).take R.toList.length:=by
   rw [two_ext (by omega) (by omega),hRl]
   congr 1;omega
  have hget:=wr_get (sa+k) R.toList 0 p hfit
  simp only [Nat.add_zero]at hget
  have out:∀x,x < sa+k\/sa+na+m<=x->at0 (wr (sa+k) R.toList 0 p) x=at0 p x:=fun x hx=>at0_eq (by rw [hget,if_neg (by omega)])
  have inn:∀x,sa+k<=x->x < sa+na+m->∃hx,at0 (wr (sa+k) R.toList 0 p) x=R.toList[x - (sa+k)]'hx:=fun x a1 a2=>⟨by omega,at0_list (d:=0) (by rw [hget,if_pos (by omega)]) (by omega)⟩
  have mem:∀x,sa+k<=x->x < sa+na+m->∃y,sa+k<=y/\y < sa+na+m/\at0 (wr (sa+k) R.toList 0 p) x=at0 p y:=fun x a1 a2=>by
   obtain⟨hx,e⟩:=inn x a1 a2
   have hm:R.toList[x - (sa+k)]∈(p.toList.drop (sa+k)).take R.toList.length:=by rw [<- el];exact hR.perm.mem_iff.mp (List.getElem_mem _)
   obtain⟨j,j1,j2,j3,j4⟩:=mem_ext hm
   exact⟨j,j1,by omega,e.trans j4⟩
  refine h _ g' ⟨wr_size _ _ _ _,?_,fun x hx=>out x (by omega)⟩ fun x y a1 a2 a3=>?_
  ·rw [wr_list _ _ _ hfit]
   have e3:p.toList=p.toList.take (sa+k)++(p.toList.drop (sa+k)).take R.toList.length++p.toList.drop (sa+k+R.toList.length):=by
    have a:=(List.take_append_drop (sa+k) p.toList).symm
    have b:=(List.take_append_drop R.toList.length (p.toList.drop (sa+k))).symm
    rw [List.drop_drop]at b
    refine a.trans ?_
    rw [List.append_assoc]
    exact congrArg _ b
   refine List.Perm.trans ?_ (List.Perm.of_eq e3.symm)
   refine List.Perm.append_right _ (List.Perm.append_left _ ?_)
   rw [<- el];exact hR.perm
  ·by_cases c3:y < sa+k
   ·rw [out x (by omega),out y (by omega)];exact sA x y a1 a2 (by omega)
   ·by_cases c4:sa+na+m<=y
    ·rw [out y (by omega)]
     by_cases c5:x < sa+k
     ·rw [out x (by omega)];exact lowB x y a1 c5 (by omega) (by omega)
     ·by_cases c6:sa+na+m<=x
      ·rw [out x (by omega)];exact sB x y (by omega) a2 (by omega)
      ·obtain⟨z,b1,b2,e⟩:=mem x (by omega) (by omega)
       rw [e]
       by_cases c7:z < sa+na
       ·exact high z y (by omega) c7 c4 (by omega)
       ·exact sB z y (by omega) (by omega) (by omega)
    ·by_cases c5:x < sa+k
     ·obtain⟨z,b1,b2,e⟩:=mem y (by omega) (by omega)
      rw [e,out x (by omega)]
      by_cases c7:z < sa+na
      ·exact sA x z a1 (by omega) c7
      ·exact lowB x z a1 c5 (by omega) (by omega)
     ·obtain⟨hx,ex⟩:=inn x (by omega) (by omega)
      obtain⟨hy,ey⟩:=inn y (by omega) (by omega)
      rw [ex,ey]
      exact List.pairwise_iff_getElem.mp hR.srt _ _ hx hy (by omega)
 have last:∀(R:Array Nat) (g':Nat),Mgd lt (p.extract (sa+k) (sa+na)) (p.extract (sa+na) (sa+na+m)) R->∀st',st'=SS κ it p ((pd.setIfInBounds i (sa,na+nb,pw)).eraseIdxIfInBounds (i+1)) g' ->
   wpS (model prog w) A E s (do
    modify fun s=>setArr s ((R.map (kas_item it)).toList.zipIdx.foldl (fun a (p,j)=>a.setIfInBounds (sa+k+j) p) (arrOf s))
    return (failedOf (<- get)).isNone) Q st':=fun R g' hR st' e=>by
  subst e
  refine wpS_bind (wpS_modify (wpS_bind (wpS_get (wpS_pure ?_))))
  have:=fin R g' hR
  have e2:(R.map (kas_item it)).toList.zipIdx.foldl (fun a (z:Keyed×Nat)=>a.setIfInBounds (sa+k+z.2) z.1) (p.map (kas_item it))=(wr (sa+k) R.toList 0 p).map (kas_item it):=by
   rw [wr_fold,Array.toList_map,wr_map]
  show Q true (SortSt.mk' κ ((R.map (kas_item it)).toList.zipIdx.foldl (fun a (z:Keyed×Nat)=>a.setIfInBounds (sa+k+z.2) z.1) (p.map (kas_item it))) _ g' none)
  rw [e2]
  exact this
 by_cases c3:na - k<=m
 ·rw [if_pos c3]
  refine wpS_bind (b_mergeLo O hc rfl pre fun R g' hR=>?_)
  exact last R g' hR _ rfl
 ·rw [if_neg c3]
  refine wpS_bind (b_mergeHi O hc rfl pre fun R g' hR=>?_)
  exact last R g' hR _ rfl
end
def cTail(lo nrem n:Nat):StateT SortSt Sem (Option Nat):=do
 reverseSlice' lo (lo+n)
 let mut n:=n
 for _ in [n:nrem] do
  let some smaller <- ltAt' (lo+n) (lo+n - 1) | return none
  if smaller then break
  n:=n+1
 return some n
def cDesc(lo nrem n:Nat):StateT SortSt Sem (Option Nat):=do
 rule "list.sort.descending-run"
 let mut n:=n+1
 let mut neq:=0
 for _ in [n:nrem] do
  let some smaller <- ltAt' (lo+n) (lo+n - 1) | return none
  if smaller then
   if neq > 0 then reverseSlice' (lo+n - (neq+1)) (lo+n)
   neq:=0
  else
   let some larger <- ltAt' (lo+n - 1) (lo+n) | return none
   if larger then break
   neq:=neq+1
  n:=n+1
 if neq > 0 then reverseSlice' (lo+n - (neq+1)) (lo+n)
 cTail lo nrem n
theorem countRun2_eq(lo nrem:Nat):countRun' lo nrem=(do
 let mut n:=1
 for _ in [1:nrem] do
  let some smaller <- ltAt' (lo+n) (lo+n - 1) | return none
  if smaller then break
  n:=n+1
 if n==nrem then return some n
 if n > 1 then
  let some rose <- ltAt' lo (lo+n - 1) | return none
  if rose then return some n
  reverseSlice' lo (lo+n)
 cDesc lo nrem n):=rfl
end L2
namespace L2
open PySem PySem.W PyProof.Rows
section
variable {prog:Program}{w:World}{A:Around}{E:Value->Shared->Prop}{s:Shared}{κ:SortKind}{it:Array Keyed}{n:Nat}{lt:Nat->Nat->Bool}{p:Array Nat}{pd:Array (Nat×Nat×Nat)}{g:Nat}
theorem b_ltAt(hc:Cmp prog w A κ it n lt s)(hp:In n p){i j:Nat}(hi:i < p.size)(hj:j < p.size){Q:Option Bool->SortSt->Prop}(h:Q (some (lt (at0 p i) (at0 p j))) (SS κ it p pd g)):wpS (model prog w) A E s (ltAt' i j) Q (SS κ it p pd g):=by
 rw [ltAt'_eq]
 refine wpS_bind (wpS_get ?_)
 show wpS _ _ _ _ (do let x <- elem' (p.map (kas_item it)) i;let y <- elem' (p.map (kas_item it)) j;lt' x y) Q _
 exact wpS_bind (b_elem hi (wpS_bind (b_elem hj (b_lt hc rfl (hp i hi) (hp j hj) h))))
abbrev rvs(p:Array Nat)(i j:Nat):Array Nat:=mirror p i j ((j - i) / 2)
theorem rvs_at{i j:Nat}(hj:j<=p.size)(k:Nat):at0 (rvs p i j) k=if i<=k/\k < j then at0 p (i+j - 1 - k) else at0 p k:=by
 have e:=getElem?_mirror_all (xs:=p) (i:=i) hj k
 by_cases h:i<=k/\k < j
 ·rw [if_pos h]at e ⊢;exact at0_eq e
 ·rw [if_neg h]at e ⊢;exact at0_eq e
theorem rvs_kept{i j:Nat}(hj:j<=p.size):Kept p (rvs p i j) i j:=⟨mirror_size _ _ _ _,(mirror_perm p i j _).toList,fun k hk=>by rw [rvs_at hj,if_neg (by omega)]⟩
theorem b_rev{i j:Nat}{Q:Unit->SortSt->Prop}(h:Q () (SS κ it (rvs p i j) pd g)):wpS (model prog w) A E s (reverseSlice' i j) Q (SS κ it p pd g):=by
 rw [reverseSlice'_eq]
 refine wpS_modify ?_
 have e:mirror (p.map (kas_item it)) i j ((j - i) / 2)=(rvs p i j).map (kas_item it):=kas_swaps_map _ _ _ _ _
 show Q () (SortSt.mk' κ (mirror (p.map (kas_item it)) i j ((j - i) / 2)) pd g none)
 rw [e];exact h
def DnS(lt:Nat->Nat->Bool)(p:Array Nat)(lo len:Nat):Prop:=∀i j,lo<=i->i < j->j < lo+len->lt (at0 p i) (at0 p j)=false
def EqS(lt:Nat->Nat->Bool)(p:Array Nat)(a b:Nat):Prop:=∀i j,a<=i->i < b->a<=j->j < b->lt (at0 p i) (at0 p j)=false
theorem Seg.next(O:WeakOrd n lt)(hp:In n p){lo m:Nat}(h:Seg lt p lo m)(h1:1<=m)(hm:lo+m < p.size)(e:lt (at0 p (lo+m)) (at0 p (lo+m - 1))=false):Seg lt p lo (m+1):=fun i j a1 a2 a3=>by
 by_cases c:j < lo+m
 ·exact h i j a1 a2 c
 ·have:j=lo+m:=by omega
  subst this
  by_cases c2:i=lo+m - 1
  ·subst c2;exact e
  ·exact O.tr _ _ _ (hp i (by omega)) (hp (lo+m - 1) (by omega)) (hp (lo+m) hm) (h i (lo+m - 1) a1 (by omega) (by omega)) e
theorem DnS.next(O:WeakOrd n lt)(hp:In n p){lo m:Nat}(h:DnS lt p lo m)(h1:1<=m)(hm:lo+m < p.size)(e:lt (at0 p (lo+m - 1)) (at0 p (lo+m))=false):DnS lt p lo (m+1):=fun i j a1 a2 a3=>by
 by_cases c:j < lo+m
 ·exact h i j a1 a2 c
 ·have:j=lo+m:=by omega
  subst this
  by_cases c2:i=lo+m - 1
  ·subst c2;exact e
  ·exact O.tr _ _ _ (hp (lo+m) hm) (hp (lo+m - 1) (by omega)) (hp i (by omega)) e (h i (lo+m - 1) a1 (by omega) (by omega))
theorem DnS.turn{lo k a:Nat}(hs:lo+k<=p.size)(ha:lo<=a)(h:DnS lt p lo k)(e:EqS lt p a (lo+k)):DnS lt (rvs p a (lo+k)) lo k:=fun i j a1 a2 a3=>by
 rw [rvs_at hs,rvs_at hs]
 by_cases h1:a<=i
 ·rw [if_pos ⟨h1,by omega⟩,if_pos ⟨by omega,a3⟩]
  exact e _ _ (by omega) (by omega) (by omega) (by omega)
 ·rw [if_neg (by omega)]
  by_cases h2:a<=j
  ·rw [if_pos ⟨h2,a3⟩]
   exact h _ _ (by omega) (by omega) (by omega)
  ·rw [if_neg (by omega)]
   exact h _ _ a1 a2 a3
theorem b_asc(O:WeakOrd n lt)(hc:Cmp prog w A κ it n lt s)(hp:In n p){lo nrem m:Nat}(h1:1<=m)(hm:m<=nrem)(hs:lo+nrem<=p.size)(h:Seg lt p lo m){F:Nat->Option (Option Nat)×Nat->StateT SortSt Sem (ForInStep (Option (Option Nat)×Nat))}
  (hF:∀x k Q,1<=k->k < nrem->(∀b,b=lt (at0 p (lo+k)) (at0 p (lo+k - 1))->Q (if b=true then ForInStep.done (none,k) else ForInStep.yield (none,k+1)) (SS κ it p pd g))->wpS (model prog w) A E s (F x (none,k)) Q (SS κ it p pd g))
  {Q:Option (Option Nat)×Nat->SortSt->Prop} (hQ:∀k,m<=k->k<=nrem->Seg lt p lo k->(k < nrem->lt (at0 p (lo+k)) (at0 p (lo+k - 1))=true)->Q (none,k) (SS κ it p pd g)):wpS (model prog w) A E s (forIn [m:nrem] ((none,m):Option (Option Nat)×Nat) F) Q (SS κ it p pd g):=by
 refine wpS_mono (wpS_forRange (I:=fun x c st'=>st'=SS κ it p pd g/\c=(none,x)/\m<=x/\x<=nrem/\Seg lt p lo x) (Q:=fun c st'=>st'=SS κ it p pd g/\∃k,c=(none,k)/\m<=k/\k<=nrem/\Seg lt p lo k/\(k < nrem->lt (at0 p (lo+k)) (at0 p (lo+k - 1))=true)) ?_ ?_ ⟨rfl,rfl,Nat.le_refl _,hm,h⟩) ?_
 ·rintro x c st' _ hx ⟨rfl,rfl,a1,a2,a3⟩
  refine hF x x _ (by omega) hx fun b eb=>?_
  cases b with
  | true=>exact⟨rfl,x,rfl,a1,a2,a3,fun _=>eb.symm⟩
  | false=>exact⟨rfl,rfl,by omega,by omega,a3.next O hp (by omega) (by omega) eb.symm⟩
 ·rintro c st' ⟨rfl,rfl,a1,a2,a3⟩
  rw [Nat.max_eq_right hm]at a3 ⊢
  exact⟨rfl,nrem,rfl,hm,Nat.le_refl _,a3,fun z=>absurd z (Nat.lt_irrefl _)⟩
 ·rintro c st' ⟨rfl,k,rfl,a1,a2,a3,a4⟩
  exact hQ k a1 a2 a3 a4
theorem b_tail(O:WeakOrd n lt)(hc:Cmp prog w A κ it n lt s)(hp:In n p){lo nrem m:Nat}(h1:1<=m)(hm:m<=nrem)(hs:lo+nrem<=p.size)(h:DnS lt p lo m){Q:Option Nat->SortSt->Prop}
  (hQ:∀k p',1<=k->k<=nrem->Kept p p' lo (lo+nrem)->Seg lt p' lo k->Q (some k) (SS κ it p' pd g)):wpS (model prog w) A E s (cTail lo nrem m) Q (SS κ it p pd g):=by
 unfold cTail
 refine wpS_bind (b_rev ?_)
 have hk:Kept p (rvs p lo (lo+m)) lo (lo+nrem):=(rvs_kept (by omega)).mono (Nat.le_refl _) (by omega)
 have hU:Seg lt (rvs p lo (lo+m)) lo m:=fun i j a1 a2 a3=>by
  rw [rvs_at (by omega),rvs_at (by omega),if_pos ⟨by omega,a3⟩,if_pos ⟨a1,by omega⟩]
  exact h _ _ (by omega) (by omega) (by omega)
 have hp':=hk.in hp
 have hs':lo+nrem<=(rvs p lo (lo+m)).size:=by rw [hk.size];exact hs
 refine wpS_bind (b_asc O hc hp' h1 hm hs' hU (fun x k Q' k1 k2 q=>?_) fun k k1 k2 k3 _=>wpS_pure (hQ k _ (by omega) k2 hk k3))
 refine wpS_bind (b_ltAt hc hp' (by omega) (by omega) ?_)
 dsimp only
 have:=q _ rfl
 by_cases e:lt (at0 (rvs p lo (lo+m)) (lo+k)) (at0 (rvs p lo (lo+m)) (lo+k - 1))=true
 ·rw [if_pos e]at this ⊢;exact wpS_pure this
 ·rw [if_neg e]at this ⊢;exact wpS_pure this
theorem b_desc(O:WeakOrd n lt)(hc:Cmp prog w A κ it n lt s)(hp:In n p){lo nrem m:Nat}(h1:1<=m)(hm:m+1<=nrem)(hs:lo+nrem<=p.size)(h:DnS lt p lo (m+1)){Q:Option Nat->SortSt->Prop}
  (hQ:∀k p',1<=k->k<=nrem->Kept p p' lo (lo+nrem)->Seg lt p' lo k->Q (some k) (SS κ it p' pd g)):wpS (model prog w) A E s (cDesc lo nrem m) Q (SS κ it p pd g):=by
 unfold cDesc
 refine wpS_bind (wpS_lift (wpAny_rule ⟨rfl,?_⟩))
 have one:∀p':Array Nat,In n p'->p'.size=p.size->∀k,k < nrem->EqS lt p' (lo+(k+1) - (0+1)) (lo+(k+1)):=fun p' hp' hz k hk i j a1 a2 a3 a4=>by
  have hi:i=lo+k:=by omega
  have hj:j=lo+k:=by omega
  rw [hi,hj]
  exact O.irr (hp' _ (by omega))
 refine wpS_bind (wpS_mono (wpS_forRange (I:=fun x c st'=>∃p' q,st'=SS κ it p' pd g/\c=(none,x,q)/\Kept p p' lo (lo+nrem)/\q+1<=x/\x<=nrem/\DnS lt p' lo x/\EqS lt p' (lo+x - (q+1)) (lo+x))
  (Q:=fun c st'=>∃p' k q,st'=SS κ it p' pd g/\c=(none,k,q)/\Kept p p' lo (lo+nrem)/\q+1<=k/\k<=nrem/\DnS lt p' lo k/\EqS lt p' (lo+k - (q+1)) (lo+k)) ?_ ?_ ⟨p,0,rfl,rfl,.refl,by omega,hm,h,one p hp rfl m (by omega)⟩) ?_)
 ·rintro x c st' _ hx ⟨p',q,rfl,rfl,K,q1,q2,D,e⟩
  have hp':=K.in hp
  have hz:=K.size
  dsimp only
  refine wpS_bind (b_ltAt hc hp' (by omega) (by omega) ?_)
  dsimp only
  cases c1:lt (at0 p' (lo+x)) (at0 p' (lo+x - 1)) with
  | true =>
   rw [if_pos rfl]
   have c2:=O.asy _ _ (hp' _ (by omega)) (hp' _ (by omega)) c1
   by_cases hq:q > 0
   ·rw [if_pos hq]
    refine wpS_bind (b_rev (wpS_pure ?_))
    have K2:Kept p' (rvs p' (lo+x - (q+1)) (lo+x)) lo (lo+nrem):=(rvs_kept (by omega)).mono (by omega) (by omega)
    have hp2:=K2.in hp'
    refine⟨_,0,rfl,rfl,K.trans K2,by omega,by omega,(D.turn (by omega) (by omega) e).next O hp2 (by omega) (by rw [K2.size];omega) ?_,one _ hp2 (K2.size.trans hz) x (by omega)⟩
    rw [rvs_at (by omega),if_pos ⟨by omega,by omega⟩,rvs_at (by omega),if_neg (by omega),show lo+x - (q+1)+(lo+x) - 1 - (lo+x - 1)=lo+x - (q+1) by omega]
    exact O.tr _ _ _ (hp' _ (by omega)) (hp' (lo+x - 1) (by omega)) (hp' _ (by omega)) c2 (e _ _ (by omega) (by omega) (by omega) (by omega))
   ·rw [if_neg hq]
    exact wpS_pure ⟨_,0,rfl,rfl,K,by omega,by omega,D.next O hp' (by omega) (by omega) c2,one _ hp' hz x (by omega)⟩
  | false =>
   rw [if_neg Bool.false_ne_true]
   refine wpS_bind (b_ltAt hc hp' (by omega) (by omega) ?_)
   dsimp only
   cases c2:lt (at0 p' (lo+x - 1)) (at0 p' (lo+x)) with
   | true =>
    rw [if_pos rfl]
    exact wpS_pure ⟨_,x,q,rfl,rfl,K,q1,q2,D,e⟩
   | false =>
    rw [if_neg Bool.false_ne_true]
    refine wpS_pure ⟨_,q+1,rfl,rfl,K,by omega,by omega,D.next O hp' (by omega) (by omega) c2,fun i j a1 a2 a3 a4=>?_⟩
    by_cases hi:i=lo+x
    ·subst hi
     by_cases hj:j=lo+x
     ·subst hj;exact O.irr (hp' _ (by omega))
     ·exact O.tr _ _ _ (hp' j (by omega)) (hp' (lo+x - 1) (by omega)) (hp' (lo+x) (by omega)) (e (lo+x - 1) j (by omega) (by omega) (by omega) (by omega)) c1
    ·by_cases hj:j=lo+x
     ·subst hj
      exact O.tr _ _ _ (hp' (lo+x) (by omega)) (hp' (lo+x - 1) (by omega)) (hp' i (by omega)) c2 (e i (lo+x - 1) (by omega) (by omega) (by omega) (by omega))
     ·exact e i j (by omega) (by omega) (by omega) (by omega)
 ·rintro c st' ⟨p',q,rfl,rfl,K,q1,q2,D,e⟩
  exact⟨p',_,q,rfl,rfl,K,q1,q2,D,e⟩
 ·rintro c st' ⟨p',k,q,rfl,rfl,K,q1,q2,D,e⟩
  have hp':=K.in hp
  have hz:=K.size
  dsimp only
  by_cases hq:q > 0
  ·rw [if_pos hq]
   have K2:Kept p' (rvs p' (lo+k - (q+1)) (lo+k)) lo (lo+nrem):=(rvs_kept (by omega)).mono (by omega) (by omega)
   refine wpS_bind (b_rev (b_tail O hc (K2.in hp') (by omega) q2 (by rw [K2.size];omega) (D.turn (by omega) (by omega) e) fun k' p'' a1 a2 a3 a4=>hQ k' p'' a1 a2 ((K.trans K2).trans a3) a4))
  ·rw [if_neg hq]
   exact b_tail O hc hp' (by omega) q2 (by omega) D fun k' p'' a1 a2 a3 a4=>hQ k' p'' a1 a2 (K.trans a3) a4
theorem b_count(O:WeakOrd n lt)(hc:Cmp prog w A κ it n lt s)(hp:In n p){lo nrem:Nat}(h1:1<=nrem)(hs:lo+nrem<=p.size){Q:Option Nat->SortSt->Prop}
  (hQ:∀k p',1<=k->k<=nrem->Kept p p' lo (lo+nrem)->Seg lt p' lo k->Q (some k) (SS κ it p' pd g)):wpS (model prog w) A E s (countRun' lo nrem) Q (SS κ it p pd g):=by
 rw [countRun2_eq]
 refine wpS_bind (b_asc O hc hp (Nat.le_refl 1) h1 hs (fun i j a1 a2 a3=>by omega) (fun x k Q' k1 k2 q=>?_) fun k k1 k2 k3 k4=>?_)
 ·refine wpS_bind (b_ltAt hc hp (by omega) (by omega) ?_)
  dsimp only
  have:=q _ rfl
  by_cases e:lt (at0 p (lo+k)) (at0 p (lo+k - 1))=true
  ·rw [if_pos e]at this ⊢;exact wpS_pure this
  ·rw [if_neg e]at this ⊢;exact wpS_pure this
 dsimp only
 by_cases e:k=nrem
 ·rw [if_pos (by simpa using e)]
  exact wpS_pure (hQ k p k1 k2 .refl k3)
 rw [if_neg (by simpa using e)]
 have c1:=k4 (by omega)
 have c2:=O.asy _ _ (hp (lo+k) (by omega)) (hp (lo+k - 1) (by omega)) c1
 by_cases e1:k > 1
 ·rw [if_pos e1]
  refine wpS_bind (b_ltAt hc hp (by omega) (by omega) ?_)
  dsimp only
  cases e2:lt (at0 p lo) (at0 p (lo+k - 1)) with
  | true =>
   rw [if_pos rfl]
   exact wpS_pure (hQ k p k1 k2 .refl k3)
  | false =>
   rw [if_neg Bool.false_ne_true]
   have K:Kept p (rvs p lo (lo+k)) lo (lo+nrem):=(rvs_kept (by omega)).mono (Nat.le_refl _) (by omega)
   have up:∀i j,lo<=i->i<=j->j < lo+k->lt (at0 p j) (at0 p i)=false:=fun i j a1 a2 a3=>by
    rcases Nat.eq_or_lt_of_le a2 with rfl | a2
    ·exact O.irr (hp _ (by omega))
    ·exact k3 i j a1 a2 a3
   have all:EqS lt p lo (lo+k):=fun i j a1 a2 a3 a4 =>
    O.tr _ _ _ (hp j (by omega)) (hp lo (by omega)) (hp i (by omega)) (O.tr _ _ _ (hp j (by omega)) (hp (lo+k - 1) (by omega)) (hp lo (by omega)) (up j (lo+k - 1) a3 (by omega) (by omega)) e2) (up lo i (Nat.le_refl _) a1 a2)
   have D:DnS lt (rvs p lo (lo+k)) lo k:=fun i j a1 a2 a3=>by
    rw [rvs_at (by omega),rvs_at (by omega),if_pos ⟨a1,by omega⟩,if_pos ⟨by omega,a3⟩]
    exact all _ _ (by omega) (by omega) (by omega) (by omega)
   refine wpS_bind (b_rev (b_desc O hc (K.in hp) k1 (by omega) (by rw [K.size];omega) (D.next O (K.in hp) k1 (by rw [K.size];omega) ?_) fun k' p'' a1 a2 a3 a4=>hQ k' p'' a1 a2 (K.trans a3) a4))
   rw [rvs_at (by omega),if_pos ⟨by omega,by omega⟩,rvs_at (by omega),if_neg (by omega),show lo+(lo+k) - 1 - (lo+k - 1)=lo by omega]
   exact O.tr _ _ _ (hp _ (by omega)) (hp (lo+k - 1) (by omega)) (hp lo (by omega)) c2 (all lo (lo+k - 1) (Nat.le_refl _) (by omega) (by omega) (by omega))
 ·rw [if_neg e1]
  have k0:k=1:=by omega
  subst k0
  refine b_desc O hc hp (Nat.le_refl 1) (by omega) hs (DnS.next O hp (m:=1) (fun i j a1 a2 a3=>by omega) (Nat.le_refl 1) (by omega) c2) hQ
end
end L2
namespace L2
open PySem PySem.W PyProof.Rows
section
variable {prog:Program}{w:World}{A:Around}{E:Value->Shared->Prop}{s:Shared}{κ:SortKind}{it:Array Keyed}{n:Nat}{lt:Nat->Nat->Bool}{p:Array Nat}{pd:Array (Nat×Nat×Nat)}{g:Nat}
theorem bub_at{src d:Nat}(hs:src < p.size)(hd:d<=src)(k:Nat):at0 (bubble p src d) k=if k=src - d then at0 p src else if src - d < k/\k<=src then at0 p (k - 1) else at0 p k:=by
 have e:=getElem?_bubble hs d hd k
 by_cases h1:k=src - d
 ·rw [if_pos h1]at e ⊢;exact at0_eq e
 ·rw [if_neg h1]at e ⊢
  by_cases h2:src - d < k/\k<=src
  ·rw [if_pos h2]at e ⊢;exact at0_eq e
  ·rw [if_neg h2]at e ⊢;exact at0_eq e
theorem b_move{src dst:Nat}{Q:Unit->SortSt->Prop}(h:Q () (SS κ it (bubble p src (src - dst)) pd g)):wpS (model prog w) A E s (moveDown' src dst) Q (SS κ it p pd g):=by
 rw [moveDown'_eq]
 refine wpS_modify ?_
 have e:bubble (p.map (kas_item it)) src (src - dst)=(bubble p src (src - dst)).map (kas_item it):=kas_swaps_map _ _ _ _ _
 show Q () (SortSt.mk' κ (bubble (p.map (kas_item it)) src (src - dst)) pd g none)
 rw [e];exact h
theorem b_binary(O:WeakOrd n lt)(hc:Cmp prog w A κ it n lt s)(hp:In n p){lo m ok:Nat}(h1:1<=ok)(hm:ok<=m)(hs:lo+m<=p.size)(h:Seg lt p lo ok){Q:Bool->SortSt->Prop}
  (hQ:∀p',Kept p p' lo (lo+m)->Seg lt p' lo m->Q true (SS κ it p' pd g)):wpS (model prog w) A E s (binarySort' lo m ok) Q (SS κ it p pd g):=by
 rw [binarySort'_eq,Nat.max_eq_left h1]
 refine wpS_bind (wpS_mono (wpS_forRange (I:=fun x c st'=>∃p',st'=SS κ it p' pd g/\c=(none,())/\Kept p p' lo (lo+m)/\Seg lt p' lo x/\x<=m) (Q:=fun c st'=>∃p',st'=SS κ it p' pd g/\c=(none,())/\Kept p p' lo (lo+m)/\Seg lt p' lo m) ?_ ?_ ⟨p,rfl,rfl,.refl,h,hm⟩) ?_)
 ·rintro x c st' hx0 hx ⟨p',rfl,rfl,K,S,_⟩
  have hp':=K.in hp
  have hz:=K.size
  refine wpS_bind (wpS_mono (wpS_forRange (I:=fun y c st'=>st'=SS κ it p' pd g/\∃l r,c=(none,l,r)/\l<=r/\r<=x/\r - l<=x - y/\(∀i,i < l->lt (at0 p' (lo+x)) (at0 p' (lo+i))=false)/\(∀i,r<=i->i < x->lt (at0 p' (lo+x)) (at0 p' (lo+i))=true))
   (Q:=fun c st'=>st'=SS κ it p' pd g/\∃l,c=(none,l,l)/\l<=x/\(∀i,i < l->lt (at0 p' (lo+x)) (at0 p' (lo+i))=false)/\(∀i,l<=i->i < x->lt (at0 p' (lo+x)) (at0 p' (lo+i))=true)) ?_ ?_ ⟨rfl,0,x,rfl,by omega,Nat.le_refl _,by omega,fun i hi=>absurd hi (Nat.not_lt_zero _),fun i a1 a2=>by omega⟩) ?_)
  ·rintro y c st' _ hy ⟨rfl,l,r,rfl,a1,a2,a3,a4,a5⟩
   dsimp only
   by_cases e:l>=r
   ·rw [if_pos e]
    have:l=r:=by omega
    subst this
    exact wpS_pure ⟨rfl,l,rfl,a2,a4,a5⟩
   ·rw [if_neg e]
    refine wpS_bind (b_ltAt hc hp' (by omega) (by omega) ?_)
    dsimp only
    cases c1:lt (at0 p' (lo+x)) (at0 p' (lo+(l+r) / 2)) with
    | true =>
     rw [if_pos rfl]
     refine wpS_pure ⟨rfl,l,(l+r) / 2,rfl,by omega,by omega,by omega,a4,fun i b1 b2=>?_⟩
     rcases Nat.eq_or_lt_of_le b1 with rfl | b1
     ·exact c1
     ·exact O.low (hp' _ (by omega)) (hp' _ (by omega)) (hp' _ (by omega)) c1 (S _ _ (by omega) (by omega) (by omega))
    | false =>
     rw [if_neg Bool.false_ne_true]
     refine wpS_pure ⟨rfl,(l+r) / 2+1,r,rfl,by omega,by omega,by omega,fun i b1=>?_,a5⟩
     rcases Nat.eq_or_lt_of_le (show i<=(l+r) / 2 by omega) with rfl | b2
     ·exact c1
     ·exact O.tr _ _ _ (hp' _ (by omega)) (hp' _ (by omega)) (hp' _ (by omega)) (S (lo+i) (lo+(l+r) / 2) (by omega) (by omega) (by omega)) c1
  ·rintro c st' ⟨rfl,l,r,rfl,a1,a2,a3,a4,a5⟩
   have:l=r:=by omega
   subst this
   exact⟨rfl,l,rfl,a2,a4,a5⟩
  ·rintro c st' ⟨rfl,l,rfl,a2,a4,a5⟩
   dsimp only
   refine wpS_bind (b_move (wpS_pure ?_))
   have ed:lo+x - (lo+l)=x - l:=by omega
   rw [ed]
   have hat:=fun k=>bub_at (p:=p') (src:=lo+x) (d:=x - l) (by omega) (by omega) k
   rw [show lo+x - (x - l)=lo+l by omega]at hat
   refine⟨_,rfl,rfl,K.trans ⟨bubble_size _ _ _,(bubble_perm p' _ _).toList,fun i hi=>by rw [hat,if_neg (by omega),if_neg (by omega)]⟩,fun i j b1 b2 b3=>?_,by omega⟩
   rw [hat i,hat j]
   by_cases i1:i=lo+l
   ·rw [if_pos i1,if_neg (by omega),if_pos (by omega)]
    have:=a5 (j - 1 - lo) (by omega) (by omega)
    rw [show lo+(j - 1 - lo)=j - 1 by omega]at this
    exact O.asy _ _ (hp' _ (by omega)) (hp' _ (by omega)) this
   ·rw [if_neg i1]
    by_cases j1:j=lo+l
    ·rw [if_pos j1,if_neg (by omega)]
     have:=a4 (i - lo) (by omega)
     rwa [show lo+(i - lo)=i by omega]at this
    ·rw [if_neg j1]
     by_cases i2:lo+l < i/\i<=lo+x
     ·rw [if_pos i2,if_pos (by omega)]
      exact S _ _ (by omega) (by omega) (by omega)
     ·rw [if_neg i2]
      by_cases j2:lo+l < j/\j<=lo+x
      ·rw [if_pos j2];exact S _ _ b1 (by omega) (by omega)
      ·rw [if_neg j2];exact S _ _ b1 b2 (by omega)
 ·rintro c st' ⟨p',rfl,rfl,K,S,a⟩
  rw [Nat.max_eq_right hm]at S
  exact⟨p',rfl,rfl,K,S⟩
 ·rintro c st' ⟨p',rfl,rfl,K,S⟩
  exact wpS_pure (hQ p' K S)
def Chain:List (Nat×Nat×Nat)->Nat->Nat->Prop
 | [],lo,hi=>lo=hi
 | (a,l,_) :: r,lo,hi=>a=lo/\0 < l/\Chain r (lo+l) hi
theorem Chain.le:∀{l:List (Nat×Nat×Nat)} {lo hi:Nat},Chain l lo hi->lo+l.length<=hi
 | [],_,_,h=>by cases h;simp
 | (a,l,_) :: r,lo,hi,h=>by have:=h.2.2.le;have:=h.2.1;rw [List.length_cons];omega
theorem Chain.app:∀{l m:List (Nat×Nat×Nat)} {lo hi:Nat},Chain (l++m) lo hi↔∃k,Chain l lo k/\Chain m k hi
 | [],m,lo,hi=>⟨fun h=>⟨lo,rfl,h⟩,fun⟨k,e,h⟩=>by cases e;exact h⟩
 | (a,l,q) :: r,m,lo,hi=>by
  constructor
  ·rintro⟨h1,h2,h3⟩
   obtain⟨k,k1,k2⟩:=Chain.app.mp h3
   exact⟨k,⟨h1,h2,k1⟩,k2⟩
  ·rintro⟨k,⟨h1,h2,h3⟩,h4⟩
   exact⟨h1,h2,Chain.app.mpr ⟨k,h3,h4⟩⟩
theorem Chain.low:∀{l:List (Nat×Nat×Nat)} {lo hi:Nat},Chain l lo hi->∀e∈l,lo<=e.1/\e.1+e.2.1<=hi
 | (a,l,q) :: r,lo,hi,h,e,he=>by
  have h3:=h.2.2.le
  rcases List.mem_cons.mp he with rfl | he
  ·exact⟨by rw [h.1];exact Nat.le_refl _,by show a+l<=hi;rw [h.1];omega⟩
  ·have:=h.2.2.low e he
   exact⟨by have:=h.2.1;omega,this.2⟩
structure Wait(lt:Nat->Nat->Bool)(p:Array Nat)(l:List (Nat×Nat×Nat))(hi:Nat):Prop where
 ch:Chain l 0 hi
 sg:∀e∈l,Seg lt p e.1 e.2.1
theorem Wait.keep{p':Array Nat}{l:List (Nat×Nat×Nat)}{hi top:Nat}(h:Wait lt p l hi)(k:Kept p p' hi top):Wait lt p' l hi:=⟨h.ch,fun e he=>(h.sg e he).kept k (.inl (h.ch.low e he).2)⟩
theorem list_two{l:List (Nat×Nat×Nat)}{i:Nat}{a b:Nat×Nat×Nat}(h1:l[i]?=some a)(h2:l[i+1]?=some b):l=l.take i++a :: b :: l.drop (i+2):=by
 obtain⟨k1,e1⟩:=List.getElem?_eq_some_iff.mp h1
 obtain⟨k2,e2⟩:=List.getElem?_eq_some_iff.mp h2
 have a1:=(List.take_append_drop i l).symm
 rw [List.drop_eq_getElem_cons k1,List.drop_eq_getElem_cons k2,e1,e2]at a1
 exact a1
theorem upd_two{pd:Array (Nat×Nat×Nat)}{i:Nat}{a b c:Nat×Nat×Nat}(h1:pd[i]?=some a)(h2:pd[i+1]?=some b):((pd.setIfInBounds i c).eraseIdxIfInBounds (i+1)).toList=pd.toList.take i++c :: pd.toList.drop (i+2):=by
 have h1':pd.toList[i]?=some a:=by rw [Array.getElem?_toList];exact h1
 have h2':pd.toList[i+1]?=some b:=by rw [Array.getElem?_toList];exact h2
 have hi:=(List.getElem?_eq_some_iff.mp h1').1
 have hj:=(List.getElem?_eq_some_iff.mp h2').1
 rw [Array.toList_eraseIdxIfInBounds,Array.toList_setIfInBounds,List.eraseIdx_eq_take_drop_succ,List.take_set,List.drop_set_of_lt (by omega)]
 have e:=list_two h1' h2'
 have hl:(pd.toList.take i).length=i:=by rw [List.length_take];omega
 rw [show i+1+1=i+2 by omega]
 have:(pd.toList.take (i+1)).set i c=pd.toList.take i++[c]:=by
  rw [List.take_succ,h1',List.set_append_right _ _ (by omega),hl,Nat.sub_self];rfl
 rw [this,List.append_assoc];rfl
theorem b_mergeW(O:WeakOrd n lt)(hc:Cmp prog w A κ it n lt s)(hp:In n p){i hi:Nat}(hw:Wait lt p pd.toList hi)(hs:hi<=p.size)(hi2:i+1 < pd.size){Q:Bool->SortSt->Prop}
  (h:∀p' pd' g',Kept p p' 0 hi->Wait lt p' pd'.toList hi->pd'.size+1=pd.size->Q true (SS κ it p' pd' g')):wpS (model prog w) A E s (mergeAt' i) Q (SS κ it p pd g):=by
 have e1:pd[i]?=some pd[i]:=Array.getElem?_eq_getElem (by omega)
 have e2:pd[i+1]?=some pd[i+1]:=Array.getElem?_eq_getElem hi2
 generalize pd[i]'(by omega)=ea at e1
 generalize pd[i+1]=eb at e2
 obtain⟨sa,na,pw⟩:=ea
 obtain⟨sb,nb,pw2⟩:=eb
 have l1:pd.toList[i]?=some (sa,na,pw):=by rw [Array.getElem?_toList];exact e1
 have l2:pd.toList[i+1]?=some (sb,nb,pw2):=by rw [Array.getElem?_toList];exact e2
 have el:=list_two l1 l2
 have hch:=hw.ch
 rw [el]at hch
 obtain⟨k,c1,c2,c3,c4,c5,c6⟩:=Chain.app.mp hch
 subst c2
 subst c4
 have hle:=c6.le
 refine b_mergeAt O hc hp e1 e2 c3 c5 (by omega) (hw.sg _ (List.mem_of_getElem? l1)) (hw.sg _ (List.mem_of_getElem? l2)) fun p' g' K S=>?_
 have eu:=upd_two (c:=(sa,na+nb,pw)) e1 e2
 refine h p' _ g' (K.mono (Nat.zero_le _) (by omega)) ⟨?_,fun e he=>?_⟩ ?_
 ·rw [eu]
  exact Chain.app.mpr ⟨sa,c1,rfl,by omega,by rw [<- Nat.add_assoc];exact c6⟩
 ·rw [eu]at he
  rcases List.mem_append.mp he with he | he
  ·refine(hw.sg e (List.mem_of_mem_take he)).kept K (.inl ?_)
   exact(c1.low e he).2
  ·rcases List.mem_cons.mp he with rfl | he
   ·exact S
   ·refine(hw.sg e (List.mem_of_mem_drop he)).kept K (.inr ?_)
    exact(c6.low e he).1
 ·have:=congrArg List.length eu
  have hz:=congrArg List.length el
  simp only [List.length_append,List.length_cons,Array.length_toList]at this hz
  omega
end
end L2
namespace L2
open PySem PySem.W PyProof.Rows
section
variable {prog:Program}{w:World}{A:Around}{E:Value->Shared->Prop}{s:Shared}{κ:SortKind}{it:Array Keyed}{n:Nat}{lt:Nat->Nat->Bool}{p:Array Nat}{pd:Array (Nat×Nat×Nat)}{g:Nat}
theorem Chain.mod{f:Nat×Nat×Nat->Nat×Nat×Nat}(hf:∀e,(f e).1=e.1/\(f e).2.1=e.2.1):∀{l:List (Nat×Nat×Nat)} {i lo hi:Nat},Chain l lo hi->Chain (l.modify i f) lo hi
 | [],i,lo,hi,h=>by rw [List.modify_nil];exact h
 | (a,l,q) :: r,0,lo,hi,h=>by
  rw [List.modify_zero_cons]
  have:=hf (a,l,q)
  generalize f (a,l,q)=e at this
  obtain⟨a',l',q'⟩:=e
  obtain⟨h1,h2⟩:=this
  dsimp only at h1 h2
  subst h1
  subst h2
  exact h
 | (a,l,q) :: r,i+1,lo,hi,h=>by
  rw [List.modify_succ_cons]
  exact⟨h.1,h.2.1,h.2.2.mod hf⟩
theorem mem_mod{f:Nat×Nat×Nat->Nat×Nat×Nat}:∀{l:List (Nat×Nat×Nat)} {i:Nat} {e:Nat×Nat×Nat},e∈l.modify i f->∃e'∈l,e=e'\/e=f e'
 | [],i,e,h=>by rw [List.modify_nil]at h;cases h
 | a :: r,0,e,h=>by
  rw [List.modify_zero_cons]at h
  rcases List.mem_cons.mp h with rfl | h
  ·exact⟨a,.head _,.inr rfl⟩
  ·exact⟨e,.tail _ h,.inl rfl⟩
 | a :: r,i+1,e,h=>by
  rw [List.modify_succ_cons]at h
  rcases List.mem_cons.mp h with rfl | h
  ·exact⟨e,.head _,.inl rfl⟩
  ·obtain⟨e',h1,h2⟩:=mem_mod h
   exact⟨e',.tail _ h1,h2⟩
theorem Wait.modify{f:Nat×Nat×Nat->Nat×Nat×Nat}(hf:∀e,(f e).1=e.1/\(f e).2.1=e.2.1){i hi:Nat}(h:Wait lt p pd.toList hi):Wait lt p (pd.modify i f).toList hi:=by
 rw [Array.toList_modify]
 refine⟨h.ch.mod hf,fun e he=>?_⟩
 obtain⟨e',h1,h2⟩:=mem_mod he
 have:=h.sg e' h1
 rcases h2 with rfl | rfl
 ·exact this
 ·rw [(hf e').1,(hf e').2];exact this
theorem Wait.push{lo m:Nat}(h:Wait lt p pd.toList lo)(hm:0 < m)(S:Seg lt p lo m):Wait lt p (pd.push (lo,m,0)).toList (lo+m):=by
 rw [Array.toList_push]
 refine⟨Chain.app.mpr ⟨lo,h.ch,rfl,hm,rfl⟩,fun e he=>?_⟩
 rcases List.mem_append.mp he with he | he
 ·exact h.sg e he
 ·rw [List.mem_singleton.mp he];exact S
theorem b_sortRuns(O:WeakOrd n lt)(hc:Cmp prog w A κ it n lt s)(hp:In n p){Q:Unit->SortSt->Prop}(hQ:∀p' pd' g',Kept p p' 0 p.size->Seg lt p' 0 p.size->Q () (SS κ it p' pd' g')):wpS (model prog w) A E s sortRuns' Q (SS κ it p #[] g):=by
 rw [sortRuns'_eq]
 refine wpS_bind (wpS_get ?_)
 have ez:(arrOf (SS κ it p #[] g)).size=p.size:=by show(p.map _).size=_;rw [Array.size_map]
 rw [ez]
 generalize hN:p.size=N at hQ
 dsimp only
 generalize minRun' N N 0=mr
 refine wpS_bind (wpS_mono (wpS_forRange (I:=fun x c st'=>∃p' pd' g' lo,st'=SS κ it p' pd' g'/\c=(none,lo)/\Kept p p' 0 N/\Wait lt p' pd'.toList lo/\lo<=N/\x<=lo) (Q:=fun c st'=>∃p' pd' g',st'=SS κ it p' pd' g'/\c=(none,N)/\Kept p p' 0 N/\Wait lt p' pd'.toList N) ?_ ?_ ⟨p,#[],g,0,rfl,rfl,.refl,⟨rfl,fun e he=>by simp at he⟩,Nat.zero_le _,Nat.le_refl _⟩) ?_)
 ·rintro x c st' _ hx ⟨p',pd',g',lo,rfl,rfl,K,W,hlo,hxl⟩
  have hp':=K.in hp
  have hz:=K.size
  dsimp only
  by_cases e:lo>=N
  ·rw [if_pos e]
   have:lo=N:=by omega
   subst this
   exact wpS_pure ⟨p',pd',g',rfl,rfl,K,W⟩
  rw [if_neg e]
  refine wpS_bind (b_count O hc hp' (show 1<=N - lo by omega) (by omega) fun k p1 k1 k2 K1 S1=>?_)
  rw [show lo+(N - lo)=N by omega]at K1
  dsimp only
  have yes:∀(p2:Array Nat) (pd2:Array (Nat×Nat×Nat)) (g2 m:Nat),Kept p p2 0 N->Wait lt p2 pd2.toList lo->Seg lt p2 lo m->1<=m->lo+m<=N ->
    ∃p' pd' g' lo',SS κ it p2 (pd2.push (lo,m,0)) g2=SS κ it p' pd' g'/\((none:Option Unit),lo+m)=(none,lo')/\Kept p p' 0 N/\Wait lt p' pd'.toList lo'/\lo'<=N/\x+1<=lo':=fun p2 pd2 g2 m K2 W2 S2 m1 m2=>⟨p2,_,g2,lo+m,rfl,rfl,K2,W2.push m1 S2,m2,by omega⟩
  by_cases e1:k < mr
  ·rw [if_pos e1]
   refine wpS_bind (wpS_lift (wpAny_rule ⟨rfl,?_⟩))
   refine wpS_bind (b_binary O hc (K1.in hp') k1 (m:=min (N - lo) mr) (by omega) (by rw [K1.size];omega) S1 fun p2 Kb S2=>?_)
   rw [if_neg (show ¬(!true)=true by decide)]
   have K2:Kept p p2 0 N:=(K.trans (K1.mono (Nat.zero_le _) (Nat.le_refl _))).trans (Kb.mono (Nat.zero_le _) (by omega))
   have W2:Wait lt p2 pd'.toList lo:=(W.keep K1).keep Kb
   refine wpS_bind (wpS_get ?_)
   show wpS _ _ _ _ (match pd'.back? with
    | some (s1,n1,_)=>_
    | _=>_) _ _
   cases eb:pd'.back? with
   | none =>
    dsimp only
    exact wpS_bind (wpS_modify (wpS_pure (yes p2 pd' g' _ K2 W2 S2 (by omega) (by omega))))
   | some e =>
    obtain⟨s1,n1,q1⟩:=e
    dsimp only
    refine wpS_bind (wpS_mono (wpS_forRange (I:=fun _ c st'=>∃p3 pd3 g3,st'=SS κ it p3 pd3 g3/\c=(none,())/\Kept p2 p3 0 lo/\Wait lt p3 pd3.toList lo) (Q:=fun c st'=>∃p3 pd3 g3,st'=SS κ it p3 pd3 g3/\c=(none,())/\Kept p2 p3 0 lo/\Wait lt p3 pd3.toList lo) ?_ (fun _ _ z=>z) ⟨p2,pd',g',rfl,rfl,.refl,W2⟩) ?_)
    ·rintro y c st' _ _ ⟨p3,pd3,g3,rfl,rfl,K3,W3⟩
     refine wpS_bind (wpS_get ?_)
     have hp3:=K3.in (K2.in hp)
     have z3:p3.size=N:=by rw [K3.size,K2.size,hN]
     have epd:pendingOf (SS κ it p3 pd3 g3)=pd3:=rfl
     rw [epd]
     by_cases c1:pd3.size > 1
     ·rw [if_pos c1,Array.getElem?_eq_getElem (by omega)]
      generalize pd3[pd3.size - 2]'(by omega)=e3
      obtain⟨u1,u2,u3⟩:=e3
      dsimp only
      by_cases c2:u3<=power' N (2 * s1+n1) (2 * s1+n1+n1+min (N - lo) mr) N
      ·rw [if_pos c2]
       exact wpS_pure ⟨p3,pd3,g3,rfl,rfl,K3,W3⟩
      ·rw [if_neg c2]
       refine wpS_bind (b_mergeW O hc hp3 (i:=pd3.size - 2) W3 (by omega) (by omega) fun p4 pd4 g4 K4 W4 _=>?_)
       rw [if_neg (show ¬(!true)=true by decide)]
       exact wpS_pure ⟨p4,pd4,g4,rfl,rfl,K3.trans K4,W4⟩
     ·rw [if_neg c1]
      exact wpS_pure ⟨p3,pd3,g3,rfl,rfl,K3,W3⟩
    ·rintro c st' ⟨p3,pd3,g3,rfl,rfl,K3,W3⟩
     dsimp only
     refine wpS_bind (wpS_modify (wpS_bind (wpS_modify (wpS_pure ?_))))
     exact yes p3 _ g3 _ (K2.trans (K3.mono (Nat.le_refl _) (by omega))) (Wait.modify (i:=pd3.size - 1) (f:=fun x=>(x.1,x.2.1,power' N (2 * s1+n1) (2 * s1+n1+n1+min (N - lo) mr) N)) (fun e=>⟨rfl,rfl⟩) W3) (S2.kept K3 (.inr (Nat.le_refl _))) (by omega) (by omega)
  ·rw [if_neg e1]
   obtain⟨p2,e2⟩:∃p2,p2=p1:=⟨_,rfl⟩
   subst e2
   have S2:=S1
   have K2:Kept p p2 0 N:=K.trans (K1.mono (Nat.zero_le _) (Nat.le_refl _))
   have W2:Wait lt p2 pd'.toList lo:=W.keep K1
   refine wpS_bind (wpS_get ?_)
   show wpS _ _ _ _ (match pd'.back? with
    | some (s1,n1,_)=>_
    | _=>_) _ _
   cases eb:pd'.back? with
   | none =>
    dsimp only
    exact wpS_bind (wpS_modify (wpS_pure (yes p2 pd' g' _ K2 W2 S2 k1 (by omega))))
   | some e =>
    obtain⟨s1,n1,q1⟩:=e
    dsimp only
    refine wpS_bind (wpS_mono (wpS_forRange (I:=fun _ c st'=>∃p3 pd3 g3,st'=SS κ it p3 pd3 g3/\c=(none,())/\Kept p2 p3 0 lo/\Wait lt p3 pd3.toList lo) (Q:=fun c st'=>∃p3 pd3 g3,st'=SS κ it p3 pd3 g3/\c=(none,())/\Kept p2 p3 0 lo/\Wait lt p3 pd3.toList lo) ?_ (fun _ _ z=>z) ⟨p2,pd',g',rfl,rfl,.refl,W2⟩) ?_)
    ·rintro y c st' _ _ ⟨p3,pd3,g3,rfl,rfl,K3,W3⟩
     refine wpS_bind (wpS_get ?_)
     have hp3:=K3.in (K2.in hp)
     have z3:p3.size=N:=by rw [K3.size,K2.size,hN]
     have epd:pendingOf (SS κ it p3 pd3 g3)=pd3:=rfl
     rw [epd]
     by_cases c1:pd3.size > 1
     ·rw [if_pos c1,Array.getElem?_eq_getElem (by omega)]
      generalize pd3[pd3.size - 2]'(by omega)=e3
      obtain⟨u1,u2,u3⟩:=e3
      dsimp only
      by_cases c2:u3<=power' N (2 * s1+n1) (2 * s1+n1+n1+k) N
      ·rw [if_pos c2]
       exact wpS_pure ⟨p3,pd3,g3,rfl,rfl,K3,W3⟩
      ·rw [if_neg c2]
       refine wpS_bind (b_mergeW O hc hp3 (i:=pd3.size - 2) W3 (by omega) (by omega) fun p4 pd4 g4 K4 W4 _=>?_)
       rw [if_neg (show ¬(!true)=true by decide)]
       exact wpS_pure ⟨p4,pd4,g4,rfl,rfl,K3.trans K4,W4⟩
     ·rw [if_neg c1]
      exact wpS_pure ⟨p3,pd3,g3,rfl,rfl,K3,W3⟩
    ·rintro c st' ⟨p3,pd3,g3,rfl,rfl,K3,W3⟩
     dsimp only
     refine wpS_bind (wpS_modify (wpS_bind (wpS_modify (wpS_pure ?_))))
     exact yes p3 _ g3 _ (K2.trans (K3.mono (Nat.le_refl _) (by omega))) (Wait.modify (i:=pd3.size - 1) (f:=fun x=>(x.1,x.2.1,power' N (2 * s1+n1) (2 * s1+n1+n1+k) N)) (fun e=>⟨rfl,rfl⟩) W3) (S2.kept K3 (.inr (Nat.le_refl _))) k1 (by omega)
 ·rintro c st' ⟨p',pd',g',lo,rfl,rfl,K,W,hlo,hxl⟩
  have:lo=N:=by omega
  subst this
  exact⟨p',pd',g',rfl,rfl,K,W⟩
 ·rintro c st' ⟨p',pd',g',rfl,rfl,K,W⟩
  dsimp only
  have h0:pd'.size<=N:=by have:=W.ch.le;rw [Array.length_toList]at this;omega
  refine wpS_bind (wpS_mono (wpS_forRange (I:=fun x c st'=>∃p' pd' g',st'=SS κ it p' pd' g'/\c=(none,())/\Kept p p' 0 N/\Wait lt p' pd'.toList N/\(pd'.size<=1\/pd'.size+x<=N)) (Q:=fun c st'=>∃p' pd' g',st'=SS κ it p' pd' g'/\c=(none,())/\Kept p p' 0 N/\Wait lt p' pd'.toList N/\pd'.size<=1) ?_ ?_ ⟨p',pd',g',rfl,rfl,K,W,.inr (by omega)⟩) ?_)
  ·clear K W h0
   rintro x c st' _ hx ⟨p',pd',g',rfl,rfl,K,W,hsz⟩
   refine wpS_bind (wpS_get ?_)
   have epd:pendingOf (SS κ it p' pd' g')=pd':=rfl
   rw [epd]
   by_cases e1:pd'.size<=1
   ·rw [if_pos e1]
    exact wpS_pure ⟨p',pd',g',rfl,rfl,K,W,e1⟩
   rw [if_neg e1]
   have go:∀i,i+1 < pd'.size->wpS (model prog w) A E s (mergeAt' i) (fun b st'=>b=true/\∃p2 pd2 g2,st'=SS κ it p2 pd2 g2/\Kept p p2 0 N/\Wait lt p2 pd2.toList N/\(pd2.size<=1\/pd2.size+(x+1)<=N)) (SS κ it p' pd' g'):=fun i hi =>
    b_mergeW O hc (K.in hp) W (by rw [K.size];omega) hi fun p2 pd2 g2 K2 W2 hz2=>⟨rfl,p2,pd2,g2,rfl,K.trans K2,W2,by omega⟩
   refine wpS_bind (wpS_mono (go _ ?_) ?_)
   ·have lem:∀(c:Prop) [Decidable c],(if c then pd'.size - 2 - 1 else pd'.size - 2)+1 < pd'.size:=fun c _=>by
     by_cases h:c
     ·rw [if_pos h];omega
     ·rw [if_neg h];omega
    exact lem _
   ·rintro b st' ⟨rfl,p2,pd2,g2,rfl,K2,W2,h2⟩
    rw [if_neg (show ¬(!true)=true by decide)]
    exact wpS_pure ⟨p2,pd2,g2,rfl,rfl,K2,W2,h2⟩
  ·rintro c st' ⟨p',pd',g',rfl,rfl,K,W,hsz⟩
   exact⟨p',pd',g',rfl,rfl,K,W,by omega⟩
  ·clear K W h0
   rintro c st' ⟨p',pd',g',rfl,rfl,K,W,hsz⟩
   refine wpS_pure (hQ p' pd' g' K ?_)
   have hch:=W.ch
   have hsg:=W.sg
   rw [<- Array.length_toList]at hsz
   generalize pd'.toList=l at hch hsg hsz
   match l,hch,hsg,hsz with
   | [],h,_,_=>cases h;exact fun i j _ _ h3=>by omega
   | [(a,m,q)],h,hs,_ =>
    obtain⟨h1,h2,h3⟩:=h
    have:=hs (a,m,q) (.head _)
    have h3:0+m=N:=h3
    rw [h1,show m=N by omega]at this
    exact this
   | _ :: _ :: _,_,_,h=>simp at h
theorem StrictOrd.weak(O:StrictOrd n lt):WeakOrd n lt:=by
 have asy:∀a b,a < n->b < n->lt a b=true->lt b a=false:=fun a b ha hb h=>by
  cases c:lt b a with
  | false=>rfl
  | true =>
   have:=O.tr a b a ha hb ha h c
   rw [O.irr a ha]at this;cases this
 refine⟨fun a b c ha hb hc h1 h2=>?_,asy⟩
 by_cases e1:b=a
 ·subst e1;exact h2
 by_cases e2:c=b
 ·subst e2;exact h1
 exact asy a c ha hc (O.tr a b c ha hb hc (O.tot b a hb ha e1 h1) (O.tot c b hc hb e2 h2))
theorem StrictOrd.up(O:StrictOrd n lt)(P:Pm n p)(h:UpW lt p n):Up lt p n:=fun i j hij hj=>O.tot _ _ (P.lt j hj) (P.lt i (by omega)) (P.inj j i hj (by omega) (by omega)) (h i j hij hj)
theorem big_run{vs:List Value}{lt:Nat->Nat->Bool}(O:WeakOrd vs.length lt){κ:SortKind}(q2:∀i j C,i < vs.length->j < vs.length->C (lt i j) s->kas_ask prog w A κ vs i j C s){Q:SortSt->Shared->Prop}
  (hQ:∀(p:Array Nat) (st:SortSt),Pm vs.length p->UpW lt p vs.length->arrOf st=p.map (kas_item (vs.toArray.zip vs.toArray))->failedOf st=none->Q st s) :
  wpAny (model prog w) A ((sortRuns').run (SortSt.mk' κ (vs.toArray.zip vs.toArray) #[] 7 none)) (fun r s'=>Q r.2 s') E s:=by
 have hsz:(vs.toArray.zip vs.toArray).size=vs.length:=by simp
 have est:SortSt.mk' κ (vs.toArray.zip vs.toArray) #[] 7 none=SS κ (vs.toArray.zip vs.toArray) (List.toArray (List.range vs.length)) #[] 7:=by
  have e:=kas_range (vs.toArray.zip vs.toArray)
  rw [hsz]at e
  show SortSt.mk' κ (vs.toArray.zip vs.toArray) #[] 7 none=SortSt.mk' κ ((List.toArray (List.range vs.length)).map (kas_item (vs.toArray.zip vs.toArray))) #[] 7 none
  rw [e]
 rw [est]
 have hc:Cmp prog w A κ (vs.toArray.zip vs.toArray) vs.length lt s:=fun i j C hi hj h=>by
  have:=q2 i j C hi hj h
  rwa [kat_ask_eq rfl]at this
 have hin:In vs.length (List.toArray (List.range vs.length)):=fun i hi=>by
  simp at hi
  simp [at0,Array.getD,hi]
 have hps:(List.toArray (List.range vs.length)).size=vs.length:=by simp
 have:=b_sortRuns (E:=E) (g:=7) O hc hin (Q:=fun _ st=>Q st s) fun p' pd' g' K S=>by
  have P:Pm vs.length p':=pm_of (by have:=K.perm;simpa using this)
  refine hQ p' _ P (fun i j hij hj=>?_) rfl rfl
  exact S i j (Nat.zero_le _) hij (by rw [hps];omega)
 refine wpAny_mono this (fun r s' h=>?_) fun _ _ e=>e
 obtain⟨rfl,h⟩:=h
 exact h
end
end L2
namespace L2
open PySem
def LtAt(A:Around)(s:Shared)(u v:Value)(b:Bool):Prop:=∀(prog:Program) (w:World) (E:Value->Shared->Prop) (Q:Value->Shared->Prop),Q (.bool b) s->wpAny (model prog w) A (richCompare .Lt u v) Q E s
inductive LexAt (A:Around) (s:Shared):List Value->List Value->Bool->Prop
 | nil {ys:List Value}:LexAt A s [] ys (decide (0 < ys.length))
 | stop {x:Value} {xs:List Value}:LexAt A s (x :: xs) [] false
 | eq {x y:Value} {xs ys:List Value} {r:Bool}:SeqAt.EqAt A s x y true->LexAt A s xs ys r->LexAt A s (x :: xs) (y :: ys) r
 | ne {x y:Value} {xs ys:List Value} {r:Bool}:SeqAt.EqAt A s x y false->LtAt A s x y r->LexAt A s (x :: xs) (y :: ys) r
section
variable {prog:Program}{w:World}{A:Around}{E:Value->Shared->Prop}{s:Shared}
theorem LexAt.ends{xs ys:List Value}{r:Bool}(h:LexAt A s xs ys r)(e:xs.zip ys=[]):r=decide (xs.length < ys.length):=by
 cases h with
 | nil=>simp
 | stop=>simp
 | eq=>simp at e
 | ne=>simp at e
theorem tuple_lt_code{a b:Addr}{oa ob:Obj}{xs ys:Array Value}{n k:Nat}{P:PySem.Fin->Shared->Prop}{r:Bool}(ha:s.heap.get? a=some oa)(hb:s.heap.get? b=some ob)(cb:ob.cls=.type "tuple") (da:oa.data=.seq xs n) (db:ob.data=.seq ys k)
  (h:LexAt A s xs.toList ys.toList r) (q:P (.done (.ret (.bool r))) s):wpAny (model prog w) A (Builtin.«tuple.__lt__» ⟨[.ref a,.ref b],[]⟩) P E s:=by
 have tb:s.TypeIs (.ref b) "tuple" := ⟨ob,hb,cb⟩
 refine(show wpAny _ _ (isInstance (.ref b) (.type "tuple") >>= _) _ _ s from wpAny_bind (wpAny_isInstance tb isSubtype_tuple_tuple ?_))
 rw [show(!true)=false from rfl,if_neg Bool.false_ne_true]
 refine wpAny_bind (wpAny_tupleItemsOf ha da (wpAny_bind (wpAny_tupleItemsOf hb db (wpAny_bind ?_))))
 refine wpAny_forIn_list _ (fun left acc s1=>acc.1=none/\s1=s/\∃us vs,left=List.zip us vs/\LexAt A s us vs r/\decide (us.length < vs.length)=decide (xs.size < ys.size)) _ ?_ ?_ _ _ ⟨rfl,rfl,xs.toList,ys.toList,rfl,h,by simp⟩
 ·rintro⟨u,v⟩ left acc s1 ⟨ea,rfl,us,vs,ez,hl,hn⟩
  cases hl with
  | nil=>simp at ez
  | stop=>simp at ez
  | eq h1 h2 =>
   simp only [List.zip_cons_cons,List.cons.injEq,Prod.mk.injEq]at ez
   obtain⟨⟨rfl,rfl⟩,rfl⟩:=ez
   refine wpAny_bind (h1 prog w _ _ ?_)
   dsimp only
   rw [show(!true)=false from rfl,if_neg Bool.false_ne_true]
   exact wpAny_pure ⟨rfl,rfl,_,_,rfl,h2,by simpa using hn⟩
  | ne h1 h2 =>
   simp only [List.zip_cons_cons,List.cons.injEq,Prod.mk.injEq]at ez
   obtain⟨⟨rfl,rfl⟩,rfl⟩:=ez
   refine wpAny_bind (h1 prog w _ _ ?_)
   simp only [Bool.not_false,if_true]
   exact wpAny_bind (wpAny_rule (wpAny_bind (h2 prog w _ _ (wpAny_bind (wpAny_pure (wpAny_pure (wpAny_pure q)))))))
 ·rintro⟨a1,a2⟩ s1 ⟨ea,rfl,us,vs,ez,hl,hn⟩
  simp only at ea
  subst ea
  have e:=hl.ends ez.symm
  rw [e,hn]at q
  exact wpAny_pure q
theorem ltAt_tuple{a b:Addr}{oa ob:Obj}{xs ys:Array Value}{n k:Nat}{r:Bool}(ha:s.heap.get? a=some oa)(hb:s.heap.get? b=some ob)(ca:oa.cls=.type "tuple") (cb:ob.cls=.type "tuple") (da:oa.data=.seq xs n) (db:ob.data=.seq ys k)
  (hu:A.units < cLine) (h:LexAt A.in1 s xs.toList ys.toList r):LtAt A s (.ref a) (.ref b) r:=fun prog w E Q q =>
 wpAny_richCompare_same_room (T := "tuple") ⟨oa,ha,ca⟩ ⟨ob,hb,cb⟩ F.slot_tuple_lt (wpAny_call_entry F.slot_tuple_lt ⟨oa,ha,ca⟩ F.entry_tuple_lt (tuple_lt_code ha hb cb da db h ⟨_,rfl,(fun z=>nomatch z),q⟩) (F.args_tuple_lt_2 _ _)) hu
end
mutual
def cmpb:PyData->PyData->Bool
 | .int _,.int _=>true
 | .tuple xs,.tuple ys=>cmpbs xs ys
 | _,_=>false
def cmpbs:List PyData->List PyData->Bool
 | [],_=>true
 | _ :: _,[]=>true
 | x :: xs,y :: ys=>if PyData.eqv x y then cmpbs xs ys else cmpb x y
end
theorem min_hd{u a b c d:Nat}(h:u+min (max a b) (max c d) < cLine):u+min a c < cLine:=by omega
theorem min_tl{u a b c d:Nat}(h:u+min (max a b) (max c d) < cLine):u+min b d < cLine:=by omega
mutual
theorem ltAt_reads:∀(x y:PyData) (A:Around) (s:Shared) (u v:Value) (as bs:List Addr),Reads s.heap u x as->Reads s.heap v y bs->x.canLay0=true->y.canLay0=true->cmpb x y=true->A.units+min x.depth y.depth < cLine->LtAt A s u v (ltT x y)
 | .int a,.int b,A,s,u,v,as,bs,r1,r2,_,_,_,_=>by
  cases r1;cases r2
  intro prog w E Q q
  have e:ltT (.int a) (.int b)=decide (a < b):=by simp [ltT]
  rw [e]at q
  exact wpAny_lt_int q
 | .tuple xs,.tuple ys,A,s,u,v,as,bs,r1,r2,c1,c2,hc,hu=>by
  cases r1 with
  | tuple a1 a2 a3 a4 =>
   cases r2 with
   | tuple b1 b2 b3 b4 =>
    have e:ltT (.tuple xs) (.tuple ys)=ltTs xs ys:=by simp [ltT]
    rw [e]
    simp only [PyData.canLay0]at c1 c2
    simp only [cmpb]at hc
    simp only [PyData.depth]at hu
    refine ltAt_tuple a1 b1 a2 b2 a3 b3 (by omega) (lexAt_reads xs ys A.in1 s _ _ _ _ a4 b4 c1 c2 hc ?_)
    show A.units+1+_ < _
    omega
 | .int _,.none,_,_,_,_,_,_,_,_,_,_,h,_=>by simp [cmpb]at h
 | .int _,.bool _,_,_,_,_,_,_,_,_,_,_,h,_=>by simp [cmpb]at h
 | .int _,.str _,_,_,_,_,_,_,_,_,_,_,h,_=>by simp [cmpb]at h
 | .int _,.list _,_,_,_,_,_,_,_,_,_,_,h,_=>by simp [cmpb]at h
 | .int _,.tuple _,_,_,_,_,_,_,_,_,_,_,h,_=>by simp [cmpb]at h
 | .int _,.dict _,_,_,_,_,_,_,_,_,_,_,h,_=>by simp [cmpb]at h
 | .tuple _,.none,_,_,_,_,_,_,_,_,_,_,h,_=>by simp [cmpb]at h
 | .tuple _,.bool _,_,_,_,_,_,_,_,_,_,_,h,_=>by simp [cmpb]at h
 | .tuple _,.str _,_,_,_,_,_,_,_,_,_,_,h,_=>by simp [cmpb]at h
 | .tuple _,.list _,_,_,_,_,_,_,_,_,_,_,h,_=>by simp [cmpb]at h
 | .tuple _,.int _,_,_,_,_,_,_,_,_,_,_,h,_=>by simp [cmpb]at h
 | .tuple _,.dict _,_,_,_,_,_,_,_,_,_,_,h,_=>by simp [cmpb]at h
 | .none,_,_,_,_,_,_,_,_,_,_,_,h,_=>by simp [cmpb]at h
 | .bool _,_,_,_,_,_,_,_,_,_,_,_,h,_=>by simp [cmpb]at h
 | .str _,_,_,_,_,_,_,_,_,_,_,_,h,_=>by simp [cmpb]at h
 | .list _,_,_,_,_,_,_,_,_,_,_,_,h,_=>by simp [cmpb]at h
 | .dict _,_,_,_,_,_,_,_,_,_,_,_,h,_=>by simp [cmpb]at h
theorem lexAt_reads:∀(xs ys:List PyData) (A:Around) (s:Shared) (us vs:List Value) (as bs:List Addr),ReadsAll s.heap us xs as->ReadsAll s.heap vs ys bs->PyData.canLayAll0 xs=true->PyData.canLayAll0 ys=true->cmpbs xs ys=true->A.units+min (PyData.depthAll xs) (PyData.depthAll ys) < cLine->LexAt A s us vs (ltTs xs ys)
 | [],ys,A,s,us,vs,as,bs,r1,r2,_,_,_,_=>by
  cases r1
  have e:ltTs [] ys=decide (0 < vs.length):=by
   cases r2 <;> simp [ltTs]
  rw [e]
  exact .nil
 | x :: xs,[],A,s,us,vs,as,bs,r1,r2,_,_,_,_=>by
  cases r2
  cases r1 with
  | cons a1 a2 =>
   have e:ltTs (x :: xs) []=false:=by simp [ltTs]
   rw [e]
   exact .stop
 | x :: xs,y :: ys,A,s,us,vs,as,bs,r1,r2,c1,c2,hc,hu=>by
  simp only [PyData.canLayAll0,Bool.and_eq_true]at c1 c2
  simp only [PyData.depthAll]at hu
  cases r1 with
  | cons a1 a2 =>
   cases r2 with
   | cons b1 b2 =>
    have q:=SeqAt.eqAt_reads x y A s _ _ _ _ a1 b1 c1.1 c2.1 (min_hd hu)
    simp only [cmpbs]at hc
    simp only [ltTs]
    cases e:PyData.eqv x y with
    | true =>
     rw [e]at q hc
     exact .eq q (lexAt_reads xs ys A s _ _ _ _ a2 b2 c1.2 c2.2 hc (min_tl hu))
    | false =>
     rw [e]at q hc
     exact .ne q (ltAt_reads x y A s _ _ _ _ a1 b1 c1.1 c2.1 hc (min_hd hu))
end
end L2
namespace L2
open PySem PySem.W PyProof.Rows
section
variable {prog:Program}{w:World}{A:Around}{E:Value->Shared->Prop}{s:Shared}
theorem lex_kat{fin b:Bool}{Q:Bool->Shared->Prop}:∀{us vs:List Value} {r:Bool},LexAt A s us vs r->fin=decide (us.length < vs.length)->∀i,Q r s->KatLex prog w A b fin Q (us.zip vs) (i+1) s:=by
 intro us vs r h
 induction h with
 | nil =>
  intro e i q
  have e':fin=decide (0 < _):=e
  rw [<- e']at q
  exact kat_nil q
 | stop =>
  intro e i q
  have e':fin=false:=by rw [e];simp
  rw [<- e']at q
  exact kat_nil q
 | eq h1 h2 ih =>
  intro e i q
  exact kat_cons (h1 prog w _ _ (kat_yes (ih (by rw [e];simp) (i+1) q)))
 | ne h1 h2 =>
  intro e i q
  refine kat_cons (h1 prog w _ _ (kat_no ?_))
  have eb:(b && i+1==0)=false:=by simp
  rw [eb]
  exact kat_one _ _ (h2 prog w _ _ (show PySem.W.BoolBack Q (.bool _) s from q))
theorem key_lt{x y:Addr}{a b:Int}{ra rb:List PyData}{as bs:List Addr}{Q:Bool->Shared->Prop}(r1:Reads s.heap (.ref x) (.tuple (.int a :: ra)) as)(r2:Reads s.heap (.ref y) (.tuple (.int b :: rb)) bs)(c1:(PyData.tuple (.int a :: ra)).canLay0=true)(c2:(PyData.tuple (.int b :: rb)).canLay0=true)
  (hc:cmpb (.tuple (.int a :: ra)) (.tuple (.int b :: rb))=true) (hu:A.units+64 < cLine) (hd:(PyData.tuple (.int a :: ra)).depth<=64) (q:Q (ltT (.tuple (.int a :: ra)) (.tuple (.int b :: rb))) s):wpAny (model prog w) A (keyLt' (tuples' true) (.ref x) (.ref y)) Q E s:=by
 cases r1 with
 | @tuple _ ox xs n _ _ a1 a2 a3 a4 =>
  cases r2 with
  | @tuple _ oy ys m _ _ b1 b2 b3 b4 =>
   refine kat_lt a1 a3 b1 b3 ?_
   simp only [PyData.canLay0,PyData.canLayAll0,Bool.and_eq_true]at c1 c2
   simp only [PyData.depth,PyData.depthAll]at hd
   simp only [cmpb,cmpbs]at hc
   simp only [ltT,ltTs]at q
   have ex:xs.size=xs.toList.length:=by simp
   have ey:ys.size=ys.toList.length:=by simp
   rw [ex,ey]
   generalize xs.toList=us at a4 ⊢
   generalize ys.toList=vs at b4 ⊢
   cases a4 with
   | cons u1 u2 =>
    cases b4 with
    | cons v1 v2 =>
     cases u1 with
     | int _ t =>
      cases v1 with
      | int _ t' =>
       rw [List.zip_cons_cons]
       have e0:=SeqAt.eqAt_reads (.int a) (.int b) A s _ _ _ _ (.int a t) (.int b t') rfl rfl (by simp [PyData.depth];omega)
       cases e:PyData.eqv (.int a) (.int b) with
       | true =>
        rw [e]at e0 hc q
        refine kat_cons (e0 prog w _ _ (kat_yes ?_))
        refine lex_kat (lexAt_reads ra rb A s _ _ _ _ u2 v2 c1.2 c2.2 hc (by omega)) (by simp) 0 q
       | false =>
        rw [e]at e0 hc q
        refine kat_cons (e0 prog w _ _ (kat_no ?_))
        exact kat_lt_int q
theorem list_sort_data{a:Addr}{vs:List Value}{lt:Nat->Nat->Bool}{n:Nat}{P:PySem.Fin->Shared->Prop}(ho:s.heap.get? a=some (seqObj "list" vs.toArray n)) (h64:vs.length < 1000) (O:StrictOrd vs.length lt)
  (hk:2<=vs.length->∀h':Heap,(∀b o,b≠a->s.heap.get? b=some o->h'.get? b=some o)->∃ κ,(∀Q:SortKind->Shared->Prop,Q κ { s with heap:=h' }->wpAny (model prog w) A (keyKind' vs.toArray) Q E { s with heap:=h' }) /\
   ∀i j C,i < vs.length->j < vs.length->C (lt i j) { s with heap:=h' }->kas_ask prog w A κ vs i j C { s with heap:=h' })
  (h:∀(p:Array Nat) (h':Heap) (c:Nat),Pm vs.length p->Up lt p vs.length->(∀b o,b≠a->s.heap.get? b=some o->h'.get? b=some o)->h'.get? a=some (seqObj "list" (p.toList.map fun i=>vs.getD i Value.none).toArray c)->P (.done (.ret .none)) { s with heap:=h' }) :
  wpAny (model prog w) A (Builtin.«list.sort» ⟨[.ref a],[]⟩) P E s:=by
 obtain⟨e1,ho1⟩:∃e1,(s.heap.update a (Obj.mapSeq fun _=>(#[]:Array Value))).get? a=some (seqObj "list" #[] e1):=⟨_,get?_update_seq ho fun _=>#[]⟩
 have sz:vs.toArray.size<=sizeLine:=by rw [List.size_toArray];exact Nat.le_trans (Nat.le_of_lt h64) (by decide)
 have k2:∀b o,b≠a->s.heap.get? b=some o->(((s.heap.update a (Obj.mapSeq fun _=>(#[]:Array Value))).push (seqObj "tuple" vs.toArray 0)).push (seqObj "list" #[] 0)).get? b=some o:=fun b o hb e =>
  Heap.get?_push_of_some _ (Heap.get?_push_of_some _ (((Heap.SameBut.update s.heap a _).2 b hb).trans e))
 have ho2:(((s.heap.update a (Obj.mapSeq fun _=>(#[]:Array Value))).push (seqObj "tuple" vs.toArray 0)).push (seqObj "list" #[] 0)).get? a=some (seqObj "list" #[] e1):=Heap.get?_push_of_some _ (Heap.get?_push_of_some _ ho1)
 rw [list_sort_plain]
 refine wpAny_bind (listItems_at ho rfl (wpAny_bind (listUpdate_at ho rfl (wpAny_bind (seqEpoch_at ho1 rfl (wpAny_bind (wpAny_newTuple (wpAny_bind (wpAny_newList (wpAny_holding ?_) (Nat.zero_le _))) (by simpa using sz))))) sz (Nat.zero_le _))))
 show wpAny (model prog w) A _ P E { s with heap:=(((s.heap.update a (Obj.mapSeq fun _=>(#[]:Array Value))).push (seqObj "tuple" vs.toArray 0)).push (seqObj "list" #[] 0)) }
 generalize ((s.heap.update a (Obj.mapSeq fun _=>(#[]:Array Value))).push (seqObj "tuple" vs.toArray 0)).push (seqObj "list" #[] 0)=h2 at k2 ho2 ⊢
 dsimp only
 have fin:∀(st:SortSt) (p:Array Nat),(arrOf st).map (·.2)=List.toArray (p.toList.map fun i=>vs.getD i Value.none)->failedOf st=none->Pm vs.length p->Up lt p vs.length->∀Q:Heap->Prop,(∀(h':Heap) (c:Nat),(∀b o,b≠a->s.heap.get? b=some o->h'.get? b=some o)->h'.get? a=some (seqObj "list" (p.toList.map fun i=>vs.getD i Value.none).toArray c)->Q h') ->
   Q (h2.update a (Obj.mapSeq fun _=>(arrOf st).map (·.2))):=fun st p e _ _ _ Q q=>by
  rw [e]
  exact q _ _ (fun b o hb eb=>((Heap.SameBut.update h2 a _).2 b hb).trans (k2 b o hb eb)) (get?_update_seq ho2 _)
 by_cases h1:vs.toArray.size < 2
 ·rw [if_pos h1,if_pos h1]
  refine wpAny_bind (wpAny_pure ?_)
  rw [StateT.run_pure]
  have pm:Pm vs.length (List.range vs.length).toArray:=pm_of (by simp)
  have up:Up lt (List.range vs.length).toArray vs.length:=fun i j hij hj=>by
   rw [List.size_toArray]at h1
   omega
  have ev:(arrOf (SortSt.mk' general' (vs.toArray.zip vs.toArray) #[] 7 none)).map (·.2)=List.toArray ((List.range vs.length).toArray.toList.map fun i=>vs.getD i Value.none):=by
   have ek:=kat_snds (ks:=vs) (vs:=vs) (st:=SortSt.mk' general' (vs.toArray.zip vs.toArray) #[] 7 none) (p:=(List.range vs.length).toArray) rfl (by
    have e:=kas_range (vs.toArray.zip vs.toArray)
    rw [show(vs.toArray.zip vs.toArray).size=vs.length by simp]at e
    exact e.symm)
   exact ek
  have fn:=fin _ _ ev rfl pm up (fun h'=>P (.done (.ret .none)) { s with heap:=h' }) (fun h' c k e=>h _ h' c pm up k e)
  refine wpAny_bind (wpAny_pure (wpAny_bind (seqEpoch_at ho2 rfl (wpAny_bind (listUpdate_at ho2 rfl ?_ (Nat.zero_le _) ?_)))))
  ·rw [show failedOf (SortSt.mk' general' (vs.toArray.zip vs.toArray) #[] 7 none)=none from rfl,bne_self_eq_false,if_neg Bool.false_ne_true]
   exact wpAny_pure fn
  ·refine Nat.le_trans ?_ (Nat.le_succ_of_le sz)
   show(Array.map _ _).size<=_
   rw [ev];simp
 ·rw [if_neg h1,if_neg h1]
  have hn2:2<=vs.length:=by rw [List.size_toArray]at h1;omega
  obtain⟨κ,q1,q2⟩:=hk hn2 h2 k2
  refine wpAny_bind (q1 _ ?_)
  refine wpAny_bind (wpAny_mono (big_run O.weak q2 (Q:=fun st s1=>s1={ s with heap:=h2 }/\∃p:Array Nat,(arrOf st).map (·.2)=List.toArray (p.toList.map fun i=>vs.getD i Value.none)/\failedOf st=none/\Pm vs.length p/\Up lt p vs.length)
   fun p st pm up ea ef=>⟨rfl,p,kat_snds rfl ea,ef,pm,O.up pm up⟩) ?_ fun _ _ e=>e)
  rintro⟨⟨⟩,st⟩ s1 ⟨rfl,p,ev,ef,pm,up⟩
  dsimp only
  have fn:=fin _ _ ev ef pm up (fun h'=>P (.done (.ret .none)) { s with heap:=h' }) (fun h' c k e=>h _ h' c pm up k e)
  refine wpAny_bind (seqEpoch_at ho2 rfl (wpAny_bind (listUpdate_at ho2 rfl ?_ (Nat.zero_le _) ?_)))
  ·rw [ef,bne_self_eq_false,if_neg Bool.false_ne_true]
   exact wpAny_pure fn
  ·refine Nat.le_trans ?_ (Nat.le_succ_of_le sz)
   show(Array.map _ _).size<=_
   rw [ev]
   simp [pm.size]
end
end L2
namespace L2
open PySem PySem.Spec PyProof.Rows
structure SortOk(ds:List PyData):Prop where
 len:ds.length < 1000
 can:PyData.canLayAll0 ds=true
 dp:PyData.depthAll ds<=64
 cano:CanoAll ds=true
 nd:ds.Nodup
 fst:2<=ds.length->∀d∈ds,∃i r,d=.tuple (.int i :: r)
 cmp:∀d∈ds,∀e∈ds,cmpb d e=true
def ltI(ds:List PyData)(i j:Nat):Bool:=ltT (ds.getD i .none) (ds.getD j .none)
theorem canoAll_mem:∀{ds:List PyData},CanoAll ds=true->∀d∈ds,Cano d=true
 | d :: ds,h,e,he=>by
  simp only [CanoAll,Bool.and_eq_true]at h
  rcases List.mem_cons.mp he with rfl | he
  ·exact h.1
  ·exact canoAll_mem h.2 e he
theorem canLay_mem:∀{ds:List PyData},PyData.canLayAll0 ds=true->∀d∈ds,d.canLay0=true
 | d :: ds,h,e,he=>by
  simp only [PyData.canLayAll0,Bool.and_eq_true]at h
  rcases List.mem_cons.mp he with rfl | he
  ·exact h.1
  ·exact canLay_mem h.2 e he
theorem depth_mem:∀{ds:List PyData},∀d∈ds,d.depth<=PyData.depthAll ds
 | d :: ds,e,he=>by
  simp only [PyData.depthAll]
  rcases List.mem_cons.mp he with rfl | he
  ·omega
  ·have:=depth_mem (ds:=ds) e he
   omega
theorem getD_mem{α:Type}{xs:List α}{i:Nat}{d:α}(h:i < xs.length):xs.getD i d∈xs:=by
 rw [List.getD_eq_getElem?_getD,List.getElem?_eq_getElem h];exact List.getElem_mem h
theorem getD_some{α:Type}{xs:List α}{i:Nat}{d:α}(h:i < xs.length):xs[i]?=some (xs.getD i d):=by
 rw [List.getD_eq_getElem?_getD,List.getElem?_eq_getElem h];rfl
theorem SortOk.ord{ds:List PyData}(h:SortOk ds):StrictOrd ds.length (ltI ds):=by
 refine⟨fun a b c ha hb hc h1 h2=>?_,fun a b ha hb hab h1=>?_,fun a ha=>ltT_irr _ (canoAll_mem h.cano _ (getD_mem ha))⟩
 ·exact ltT_tr _ _ _ (canoAll_mem h.cano _ (getD_mem ha)) (canoAll_mem h.cano _ (getD_mem hb)) (canoAll_mem h.cano _ (getD_mem hc)) h1 h2
 ·refine ltT_tot _ _ (canoAll_mem h.cano _ (getD_mem ha)) (canoAll_mem h.cano _ (getD_mem hb)) (fun e=>hab ?_) h1
  refine(List.getElem?_inj ha h.nd).mp ?_
  rw [getD_some (d:=PyData.none) ha,getD_some (d:=PyData.none) hb,e]
theorem rdAt{h:Heap}:∀{us:List Value} {ds:List PyData} {as:List Addr} {i:Nat},ReadsAll h us ds as->i < ds.length->∃bs,Reads h (us.getD i .none) (ds.getD i .none) bs
 | _,_,_,0,.cons r _,_=>⟨_,r⟩
 | _,_,_,i+1,.cons _ t,hi=>rdAt (i:=i) t (by simpa using hi)
theorem kat_tups{h:Heap}:∀{us:List Value} {ds:List PyData} {as:List Addr},ReadsAll h us ds as->(∀d∈ds,∃i r,d=.tuple (.int i :: r))->∃fs:List Value,PySem.W.KatTups h us fs/\fs.length=us.length/\∀v∈fs,∃i t,v=.int i t
 | _,_,_,.nil,_=>⟨[],PySem.W.KatTups.nil,rfl,fun _ z=>nomatch z⟩
 | _,_,_,.cons r t,hd=>by
  obtain⟨fs,k,l,z⟩:=kat_tups t fun d hd'=>hd d (List.mem_cons_of_mem _ hd')
  obtain⟨i,r',rfl⟩:=hd _ List.mem_cons_self
  cases r with
  | @tuple a o vs n xs as a1 a2 a3 a4 =>
   cases hv:vs.toList with
   | nil=>rw [hv]at a4;cases a4
   | cons v0 vr =>
    rw [hv]at a4
    cases a4 with
    | cons u1 u2 =>
     cases u1 with
     | int _ t0 =>
      refine⟨.int i t0 :: fs,PySem.W.KatTups.cons a1 a2 a3 ?_ k,by simp [l],fun v hv'=>?_⟩
      ·rw [<- Array.getElem?_toList,hv];rfl
      ·rcases List.mem_cons.mp hv' with rfl | hv'
       ·exact⟨_,_,rfl⟩
       ·exact z v hv'
theorem map_range_getD{α:Type}(xs:List α)(d:α):(List.range xs.length).map (fun i=>xs.getD i d)=xs:=by
 apply List.ext_getElem?
 intro i
 rw [List.getElem?_map]
 by_cases h:i < xs.length
 ·rw [List.getElem?_range h,getD_some (d:=d) h];rfl
 ·rw [List.getElem?_eq_none (by simpa using h),List.getElem?_eq_none (by simpa using h)];rfl
section
variable {X:Cx}{k:Nat}
end
end L2
namespace L2
open PySem PySem.Spec PyProof.Rows
def rvObj(t:Addr)(i:Int):Obj:={ cls:=.type "reversed",data:=.fields #[.ref t,rawInt i] }
def IsRvT(h:Heap)(it t:Addr)(i:Int):Prop:=∃o,h.get? it=some o/\o.cls=.type "reversed" /\ o.data=.fields #[.ref t,rawInt i]
theorem rv_owner:Manifest.owners.lookup (String.ofList ['d','e','s','r','e','v','e','r'].reverse)=some Manifest.sig_reversed:=by kernel_rfl
theorem rv_next:Slot "reversed" "__next__" "reversed.__next__" := .of (owner := "reversed") (n := "__next__") (by rw [typeLookup_type,builtinLookup_eq_fast];kernel_rfl) (by decide +kernel) (by decide +kernel) (by decide +kernel) (.inl (by decide +kernel)) (by rw [isSubtype_type];kernel_rfl)
theorem rv_entry:entryFor table "reversed.__next__" = some Builtin.«reversed.__next__»:=entryFor_of_tree (by kernel_rfl)
theorem rv_args(a:Value):argsOk "reversed.__next__" ⟨[a],[]⟩:=by
 rw [argsOk,signature?_of (id := "reversed.__next__") (n:=['_','_','t','x','e','n','_','_']) (o:=['d','e','s','r','e','v','e','r']) (by kernel_rfl) rv_owner];kernel_rfl
theorem rv_iter:Slot "reversed" "__iter__" "reversed.__iter__" := .of (owner := "reversed") (n := "__iter__") (by rw [typeLookup_type,builtinLookup_eq_fast];kernel_rfl) (by decide +kernel) (by decide +kernel) (by decide +kernel) (.inl (by decide +kernel)) (by rw [isSubtype_type];kernel_rfl)
theorem rv_iargs(a:Value):argsOk "reversed.__iter__" ⟨[a],[]⟩:=by
 rw [argsOk,signature?_of (id := "reversed.__iter__") (n:=['_','_','r','e','t','i','_','_']) (o:=['d','e','s','r','e','v','e','r']) (by kernel_rfl) rv_owner];kernel_rfl
theorem rv_ientry:entryFor table "reversed.__iter__" = some Builtin.«dict_keyiterator.__iter__»:=entryFor_alias (id' := "dict_keyiterator.__iter__") (by kernel_rfl) (by first | rfl | decide +kernel) (by decide +kernel) (by kernel_rfl)
theorem rv_none:typeLookup (.type "tuple") "__reversed__" = pure none:=by rw [typeLookup_type,builtinLookup_eq_fast];kernel_rfl
theorem rv_nodict:isSubtype (.type "tuple") (.type "dict")=pure false:=by rw [isSubtype_type];kernel_rfl
theorem rv_slot_init:Slot "reversed" "__init__" "object.__init__" := .of (owner := "object") (n := "__init__") (by rw [typeLookup_type,builtinLookup_eq_fast];kernel_rfl) (by decide +kernel) (by decide +kernel) (by decide +kernel) (.inl (by decide +kernel)) (by rw [isSubtype_type];kernel_rfl)
theorem rv_called:TypeCalled "reversed" "reversed.__new__" "object.__init__" := ⟨by decide +kernel,F.create_reversed,⟨_,_,F.mro_reversed⟩,F.made_reversed,by decide +kernel,F.sub_reversed_self,rv_slot_init⟩
section
variable {prog:Program}{w:World}{A:Around}{E:Value->Shared->Prop}{s:Shared}
theorem IsRvT.typeIs{it t:Addr}{i:Int}(x:IsRvT s.heap it t i):s.TypeIs (.ref it) "reversed" := let⟨o,ho,hc,_⟩:=x;⟨o,ho,hc⟩
theorem IsRvT.at{h h':Heap}{it t:Addr}{i:Int}(x:IsRvT h it t i)(e:∀o,h.get? it=some o->h'.get? it=some o):IsRvT h' it t i:=let⟨o,ho,r⟩:=x;⟨o,e _ ho,r⟩
theorem call_reversed_tuple{t:Addr}{items:Array Value}{Q:Value->Shared->Prop}(ht:IsTup s.heap t items)(hfit:¬(items.size:Int)>=2 ^ 63)
  (h:∀tk,Q (.ref s.heap.objs.size) { s with heap:=s.heap.push (rvObj t ((items.size:Int) - 1)),toks:=tk }):wpAny (model prog w) A (call (.type "reversed") [.ref t]) Q E s:=by
 have tT:s.TypeIs (.ref t) "tuple" := ht.typeIs
 refine callType_newIn rv_called (by decide) (F.typeCall_reversed_1 _) (F.newCall_reversed_1 _) (fun obj=>by kernel_rfl) F.entry_reversed_new (S:=fun A1 R s1=>s1=s/\∀tk,R (.ok (.ret (.ref s.heap.objs.size))) { s with heap:=s.heap.push (rvObj t ((items.size:Int) - 1)),toks:=tk })
  (.of_wp fun A1 R s1 h1=>?_) ⟨rfl,fun tk=>⟨⟨_,Heap.get?_push_size _ rfl,rfl⟩,h tk⟩⟩
 obtain⟨rfl,h1⟩:=h1
 rw [Builtin.«reversed.__new__»]
 refine wpAny_bind (wpAny_of_eq (newClass_reversed _) ?_)
 refine wpAny_bind (wpAny_of_eq (a:=()) (by first | rfl | kernel_rfl) (wpAny_bind (wpAny_of_eq (a:=()) (by first | rfl | kernel_rfl) ?_)))
 refine wpAny_bind (wpAny_specialOf tT rv_none (wpAny_bind ?_))
 refine(show wpAny _ _ (isInstance (.ref t) (.type "dict") >>= _) _ _ s1 from wpAny_bind (wpAny_isInstance tT rv_nodict ?_))
 rw [if_neg Bool.false_ne_true]
 refine wpAny_bind (wpAny_specialOf tT F.slot_tuple_getitem.lookup ?_)
 dsimp only
 rw [if_pos (by decide)]
 refine wpAny_pure ?_
 rw [show(!true)=false from rfl,if_neg Bool.false_ne_true]
 refine wpAny_bind (PyProof.Rows.len_tuple ht (by omega) (wpAny_bind (wpAny_of_eq (a:=some (items.size:Int)) rfl ?_)))
 refine(show wpAny _ _ (newObj (.type "reversed") (.fields #[.ref t,rawInt ((items.size:Int) - 1)]) >>= _) _ _ _ from wpAny_bind (wpAny_newObj_type (wpAny_pure ⟨_,rfl,h1 _⟩)))
theorem rvNext_item{it t:Addr}{i:Nat}{items:Array Value}{x:Value}{Q:Option Value->Shared->Prop}(hit:IsRvT s.heap it t (i:Int))(ht:IsTup s.heap t items)(hx:items[i]?=some x)(hne:t≠it)(hi:(i:Int) < 2 ^ 63)
  (hQ:∀h' tk,IsRvT h' it t ((i:Int) - 1)->Heap.SameBut it s.heap h'->Q (some x) { s with heap:=h',toks:=tk }):wpAny (model prog w) A (pyNext (.ref it)) Q E s:=by
 obtain⟨o,ho,hc,hd⟩:=id hit
 have tT:s.TypeIs (.ref t) "tuple" := ht.typeIs
 unfold pyNext
 refine wpAny_bind (wpAny_attempt (wpAny_callSpecial?_slot (name:=Str.ofString "__next__") hit.typeIs rv_next (wpAny_call_entry rv_next hit.typeIs rv_entry ?_ (rv_args _))))
 rw [Builtin.«reversed.__next__»]
 refine wpAny_bind (wpAny_of_eq (a:=(Value.ref it,[])) rfl (wpAny_bind (wpAny_field ho hd (x:=.ref t) rfl (wpAny_bind (wpAny_field ho hd (x:=rawInt (i:Int)) rfl ?_)))))
 refine(show wpAny _ _ (if(i:Int) < 0 then _ else _) _ _ s from ?_)
 rw [if_neg (by omega)]
 refine wpAny_bind (wpAny_specialOf tT F.slot_tuple_getitem.lookup ?_)
 have hk:seqIndex? (i:Int) items.size=some i:=by
  have hlt:i < items.size:=by
   rcases Nat.lt_or_ge i items.size with z | z
   ·exact z
   ·rw [Array.getElem?_eq_none z]at hx;cases hx
  have h0:¬((i:Int) < 0):=by omega
  unfold seqIndex?
  simp [hlt,h0]
 refine(show wpAny _ _ (mkInt (i:Int) >>= _) _ _ s from wpAny_bind (wpAny_mkInt (wpAny_bind (wpAny_attempt (PyProof.Rows.getItem_tuple ht (by omega) hi hk hx ?_)))))
 refine wpAny_bind (wpAny_field ho hd (x:=rawInt (i:Int)) rfl ?_)
 refine(show wpAny _ _ (setField (.ref it) 1 (rawInt ((i:Int) - 1)) >>= _) _ _ _ from wpAny_bind (wpAny_setField ho hd (by simp) (wpAny_pure ⟨x,rfl,wpAny_pure (hQ _ _ ?_ (Heap.SameBut.update ..))⟩)))
 exact⟨_,Heap.get?_update_self _ ho (Obj.isFreed_of_fields (Obj.data_mapFields hd _)),(Obj.cls_mapFields ..).trans hc,by rw [Obj.data_mapFields hd];simp⟩
theorem rvNext_end{it t:Addr}{Q:Option Value->Shared->Prop}(hh:A.handled=none)(hit:IsRvT s.heap it t (-1))
  (hQ:∀h',Heap.ExtBut it s.heap h'->Q none { s with heap:=h' }):wpAny (model prog w) A (pyNext (.ref it)) Q E s:=by
 obtain⟨o,ho,hc,hd⟩:=id hit
 unfold pyNext
 refine wpAny_bind (wpAny_attempt (wpAny_callSpecial?_slot (name:=Str.ofString "__next__") hit.typeIs rv_next (wpAny_call_entry rv_next hit.typeIs rv_entry ?_ (rv_args _))))
 rw [Builtin.«reversed.__next__»]
 refine wpAny_bind (wpAny_of_eq (a:=(Value.ref it,[])) rfl (wpAny_bind (wpAny_field ho hd (x:=.ref t) rfl (wpAny_bind (wpAny_field ho hd (x:=rawInt (-1)) rfl ?_)))))
 refine(show wpAny _ _ (if(-1:Int) < 0 then _ else _) _ _ s from ?_)
 rw [if_pos (by decide)]
 refine wpAny_bind (wpAny_rule (wpAny_bind ?_))
 have h1:(s.heap.update it (Obj.mapFields fun vs=>vs.set! 1 (rawInt (-1)))).get? it=some (o.mapFields fun vs=>vs.set! 1 (rawInt (-1))):=Heap.get?_update_self _ ho (Obj.isFreed_of_fields (Obj.data_mapFields hd _))
 refine(show wpAny _ _ (setField (.ref it) 1 (rawInt (-1)) >>= fun _=>setField (.ref it) 0 .none) _ _ s from wpAny_bind (wpAny_setField ho hd (by simp) (wpAny_setField h1 (Obj.data_mapFields hd _) (by simp) ?_)))
 refine wpAny_bind (show wpAny _ _ (newExc (.type "StopIteration") [] >>= _) _ _ _ from wpAny_bind ?_)
 simp only [newExc,newTuple]
 refine wpAny_bind (wpAny_newObj_type (wpAny_bind (m:=firstArgMember _ _) (wpAny_of_eq (a:=Value.none) (by first | rfl | (simp only [firstArgMember];rfl)) (wpAny_newObj_type ?_ (by size_fits)))) (by size_fits))
 simp only [raiseNew]
 refine wpAny_bind (wpAny_handled (show wpAny _ _ _ _ _ _ from ?_))
 rw [show A.in1.handled=none from hh]
 refine wpAny_bind (wpAny_pure (wpAny_throw (show wpAny _ _ _ _ _ _ from ?_)))
 refine wpAny_bind (wpAny_isInstance (T := "StopIteration") (b:=true) ⟨_,Heap.get?_push_size _ rfl,rfl⟩ isSubtype_stop (wpAny_pure (hQ _ ?_)))
 exact fun b o' hb e=>Heap.get?_push_of_some _ (Heap.get?_push_of_some _ (((Heap.SameBut.update _ it _).2 b hb).trans (((Heap.SameBut.update s.heap it _).2 b hb).trans e)))
theorem rvIter{it t:Addr}{i:Int}{Q:Value->Shared->Prop}(hit:IsRvT s.heap it t i)(h:Q (.ref it) s):wpAny (model prog w) A (pyIter (.ref it)) Q E s :=
 wpAny_pyIter_slot hit.typeIs rv_iter (wpAny_call_entry rv_iter hit.typeIs rv_ientry (wpAny_pure ⟨_,rfl,"reversed",_,hit.typeIs,rv_next.lookup,h⟩) (rv_iargs _))
end
def Irv(K:PySem.W.Frag)(a:Addr)(n:Nat):It :=
 ⟨fun i H=>∃xs x,SqT K H a xs/\xs.length=n/\xs.reverse[i]?=some x,fun i H x H'=>H'=H/\∀xs,SqT K H a xs->xs.reverse[i]?=some x,fun i H=>∃xs,SqT K H a xs/\xs.length=n/\n<=i⟩
theorem rev_at{α:Type}{xs:List α}{i:Nat}{x:α}(h:xs.reverse[i]?=some x):i < xs.length/\xs[xs.length - 1 - i]?=some x:=by
 have hi:i < xs.length:=by
  have:=(List.getElem?_eq_some_iff.mp h).1
  simpa using this
 rw [List.getElem?_reverse hi]at h
 exact⟨hi,h⟩
theorem turn_rev{P:Program}{w:World}{K:PySem.W.Frag}{tg:Expr}(a it:Addr)(hne:a≠it)(n:Nat)(hn:(n:Int) < 2 ^ 63):Turn P w K tg (Irv K a n) [it] it (fun i h=>i<=n/\IsRvT h it a ((n:Int) - 1 - i)) where
 mem:=by simp
 obj:=fun i h st b hb=>by
  have e:b=it:=by simpa using hb
  subst e
  obtain⟨_,o,e,c,d⟩:=st
  exact⟨o,e,fun v z=>by rw [d]at z;cases z⟩
 keep:=fun i h h' st k=>⟨st.1,st.2.at fun o e=>k it (by simp) o e⟩
 item:=by
  intro X hP hw hK hc i pins s σ H E I hf st hg
  subst hP hw hK
  obtain⟨xs,x,hq,hl,hx⟩:=hg
  obtain⟨its,rv,p,hz⟩:=I.tuple hq
  have hlen:=rv.length
  obtain⟨hi,hx2⟩:=rev_at hx
  obtain⟨u,hu,ru⟩:=rv.get hx2
  obtain⟨f0,f1,f2,f3,f4,f5⟩:=hf it (by simp)
  have e1:(n:Int) - 1 - i=((n - 1 - i:Nat):Int):=by omega
  have st2:=st.2
  rw [e1]at st2
  refine rvNext_item st2 (show IsTup s.heap a its.toArray from p) (x:=u) (by rw [<- hl];simpa using hu) hne (by omega) fun h' tk st' sb=>?_
  have I1:Inv X pins σ H { s with heap:=h',toks:=tk }:=I.turned (t':=tk) (fun b o hb e=>(sb.2 b hb).trans e) f0 f1 f3 f4 f5
  have e2:((n - 1 - i:Nat):Int) - 1=(n:Int) - 1 - ((i+1:Nat):Int):=by omega
  rw [e2]at st'
  obtain⟨o,e,c,d⟩:=id st'
  exact⟨u,rfl,go_of (s:={ s with heap:=h',toks:=tk }) e c d (by decide) ⟨x,H,I1,ru,⟨rfl,fun ys hy=>by rw [I.tuple_inj hy hq];exact hx⟩,⟨by omega,st'⟩,fun b hb=>(hf b hb).1⟩⟩
 done:=by
  intro X hP hw hK hc i pins s σ H E I hf st hg
  subst hP hw hK
  obtain⟨xs,hq,hl,hx⟩:=hg
  obtain⟨f0,f1,f2,f3,f4,f5⟩:=hf it (by simp)
  have e1:(n:Int) - 1 - i=-1:=by have:=st.1;omega
  have st2:=st.2
  rw [e1]at st2
  refine rvNext_end (I.ok.hd hc) st2 fun h' eb=>⟨rfl,?_⟩
  exact I.turned (t':=s.toks) (fun b o hb e=>eb b o hb e) f0 f1 f3 f4 f5
 self:=fun A i s Q E st q=>rvIter st.2 q
theorem itOk_rev{K:PySem.W.Frag}{H0:Hp}{a:Addr}{xs:List AV}{n:Nat}{kp:M->Prop}(hn:xs.length=n)(h:∀H μ,Kp H0 H->Cn K μ H->kp μ->∃vs,SqT K H a vs/\RelAs K H xs vs):ItOk K H0 (Irv K a n) xs.reverse kp:=by
 refine⟨fun i H μ S c k hi=>?_,fun i H μ v H' x S c k e y=>?_,fun H μ S c k=>?_⟩
 ·obtain⟨vs,q,r⟩:=h H μ S c k
  have hl:=r.length
  have hi':i < vs.reverse.length:=by simp at hi ⊢;omega
  exact⟨vs,vs.reverse[i],q,by omega,List.getElem?_eq_getElem hi'⟩
 ·obtain⟨vs,q,r⟩:=h H μ S c k
  obtain⟨rfl,y⟩:=y
  have y2:=y vs q
  have hl:=r.length
  obtain⟨hi,e2⟩:=rev_at e
  obtain⟨u,eu,ru⟩:=r.get e2
  obtain⟨hi3,e3⟩:=rev_at y2
  rw [<- hl]at e3
  rw [e3]at eu
  cases eu
  exact⟨Kp.refl,c,ru⟩
 ·obtain⟨vs,q,r⟩:=h H μ S c k
  exact⟨vs,q,by rw [<- r.length];exact hn,by rw [List.length_reverse];omega⟩
def jRev(t:AE):AI:=fun τ μ R=>t τ μ fun x μ1=>match x with
 | .D (.tuple ds)=>R (ds.map AV.D).reverse (fun _=>True) μ1
 | _=>False
section
variable {X:Cx}{tg a:Expr}{ta:AE}{pos p:Pos}
theorem vi_rev(hg:Gl X "reversed") (hm:X.mg "reversed" = none) (hl:VE X a ta) (hs:starEach [a] X.env=[(false,eval a X.env)]:=by rfl):VI X tg (.Call (.Name "reversed" p) [a] [] pos) (jRev ta):=by
 intro pins s σ H R I zz131
 refine ex34 zz131 fun τ μ R' hst hc h hq=>?_
 refine wpAny_Call_Name_kw (ld_blt I hg hm boot_reversed ?_)
 refine PyProof.Rows.callWith_type1 ?_ hs rfl
 rw [hs]
 refine Calls.spliced_cons (thn (hl pins s σ H (fun v H1=>∃ds μ1,Kp H H1/\Cn X.K μ1 H1/\RelA X.K H1 (.D (.tuple ds)) v/\R' (ds.map AV.D).reverse (fun _=>True) μ1) I ⟨τ,μ,_,hst,hc,h,fun x μ1 v H1 S1 c1 rx hx=>?_⟩) fun u s1 ⟨xv,H1,I1,r1,ds,μ1,S1,c1,rx,hx⟩=>Calls.spliced_nil ?_)
 ·split at hx
  ·exact⟨_,μ1,S1,c1,rx,hx⟩
  ·exact hx.elim
 have hi:items μ1 (.D (.tuple ds))=some (ds.map AV.D):=rfl
 obtain⟨q,vs,rfl,hp,rs⟩:=items_kind c1 rx hi
 cases r1
 rcases hp with⟨z,_⟩ | ⟨_,hp⟩
 ·exact absurd z (by simp [isT])
 obtain⟨its,rv,pl,hz⟩:=I1.tuple hp
 have hlen:=rv.length
 have hfit:(its.length:Int) < 2 ^ 63:=by
  have:sizeLine < 2 ^ 62:=by decide
  omega
 refine call_reversed_tuple (show IsTup s1.heap q its.toArray from pl) (by rw [List.size_toArray];omega) fun tk=>?_
 have hqlt:q < s1.heap.objs.size:=let⟨_,ho,_⟩:=pl;Heap.lt_size ho
 have keep:∀b o,s1.heap.get? b=some o->(s1.heap.push (rvObj q ((its.toArray.size:Int) - 1))).get? b=some o:=fun b o e=>Heap.get?_push_of_some _ e
 have st0:IsRvT (s1.heap.push (rvObj q ((its.toArray.size:Int) - 1))) s1.heap.objs.size q ((its.length:Int) - 1 - (0:Nat)):=⟨_,Heap.get?_push_size _ rfl,rfl,by simp [rvObj]⟩
 refine rvIter st0 ?_
 refine⟨s1.heap.objs.size,[s1.heap.objs.size],_,_,H1,rfl,I1.kept (t':=tk) keep,turn_rev q _ (Nat.ne_of_lt hqlt) its.length hfit,⟨Nat.zero_le _,st0⟩,fun b hb=>?_,hq _ _ _ _ _ S1 c1 (itOk_rev ?_ fun H μ S c _=>?_) hx⟩
 ·have e:b=s1.heap.objs.size:=by simpa using hb
  subst e
  exact I1.fpOk (Nat.le_refl _) (I1.hok.fresh (Nat.le_refl _))
 ·rw [<- hlen,<- rs.length]
 ·obtain⟨q2,ws,e,hw,rw⟩:=items_kind c (rx.kp S) (show items μ (.D (.tuple ds))=some (ds.map AV.D) from rfl)
  cases e
  rcases hw with⟨z,_⟩ | ⟨_,hw⟩
  ·exact absurd z (by simp [isT])
  ·exact⟨ws,hw,rw⟩
end
end L2
namespace L2
open PySem PySem.Spec PyProof.Rows
section
variable {X:Cx}{o e f:Expr}{apos cpos:Pos}{td ty tx:AE}
end
section
variable {X:Cx}{e:Expr}{te:AE}{p p2 pos pos2:Pos}
end
end L2
namespace L2
open PySem
def RiseA(xs:Array Nat):Prop:=xs.toList.Pairwise (· < ·)
theorem RiseA.lt{xs:Array Nat}(h:RiseA xs){i j:Nat}{d:Nat}(hij:i < j)(hj:j < xs.size):xs.getD i d < xs.getD j d:=by
 have:=List.pairwise_iff_getElem.mp h i j (by simp;omega) (by simpa using hj) hij
 simp only [Array.getElem_toList]at this
 simp only [Array.getD,show i < xs.size by omega,hj,dif_pos]
 exact this
theorem below_go{xs:Array Nat}(h:RiseA xs){j:Nat}:∀(f lo hi:Nat),hi - lo<=f->lo<=hi->hi<=xs.size->(∀i,i < lo->xs.getD i j < j)->(∀i,hi<=i->i < xs.size->j<=xs.getD i j) ->
  SetTable.below.go xs j f lo hi<=xs.size/\(∀i,i < SetTable.below.go xs j f lo hi->xs.getD i j < j)/\∀i,SetTable.below.go xs j f lo hi<=i->i < xs.size->j<=xs.getD i j
 | 0,lo,hi,h1,h2,h3,h4,h5=>by
  have e:lo=hi:=by omega
  subst e
  exact⟨h3,h4,h5⟩
 | f+1,lo,hi,h1,h2,h3,h4,h5=>by
  rw [SetTable.below.go]
  by_cases c:lo < hi
  ·rw [if_pos c]
   dsimp only
   by_cases c2:xs.getD ((lo+hi) / 2) j < j
   ·rw [if_pos c2]
    refine below_go h f _ _ (by omega) (by omega) h3 (fun i hi'=>?_) h5
    by_cases e:i=(lo+hi) / 2
    ·rw [e];exact c2
    ·have:=h.lt (d:=j) (show i < (lo+hi) / 2 by omega) (show(lo+hi) / 2 < xs.size by omega)
     omega
   ·rw [if_neg c2]
    refine below_go h f _ _ (by omega) (by omega) (by omega) h4 (fun i hi' hs=>?_)
    by_cases e:i=(lo+hi) / 2
    ·rw [e];omega
    ·have:=h.lt (d:=j) (show(lo+hi) / 2 < i by omega) hs
     omega
  ·rw [if_neg c]
   have e:lo=hi:=by omega
   subst e
   exact⟨h3,h4,h5⟩
theorem below_ok{xs:Array Nat}(h:RiseA xs)(j:Nat):SetTable.below xs j<=xs.size/\(∀i,i < SetTable.below xs j->xs.getD i j < j)/\∀i,SetTable.below xs j<=i->i < xs.size->j<=xs.getD i j :=
 below_go h xs.size 0 xs.size (by omega) (Nat.zero_le _) (Nat.le_refl _) (fun i hi=>absurd hi (Nat.not_lt_zero _)) fun i hi hs=>by omega
theorem below_next{xs:Array Nat}(h:RiseA xs){k:Nat}(hk:k < xs.size):SetTable.below xs (xs[k]+1)=k+1:=by
 obtain⟨b1,b2,b3⟩:=below_ok h (xs[k]+1)
 have g:∀i,(hi:i < xs.size)->xs.getD i (xs[k]+1)=xs[i]:=fun i hi=>by simp [Array.getD,hi]
 rcases Nat.lt_trichotomy (SetTable.below xs (xs[k]+1)) (k+1) with c | c | c
 ·have:=b3 k (by omega) hk
  rw [g k hk]at this
  omega
 ·exact c
 ·have h1:k+1 < xs.size:=by omega
  have:=b2 (k+1) c
  rw [g _ h1]at this
  have h2:=h.lt (d:=0) (Nat.lt_succ_self k) h1
  simp only [Array.getD,hk,h1,dif_pos]at h2
  have h3:xs[k] < xs[k+1]:=h2
  omega
theorem below_zero{xs:Array Nat}(h:RiseA xs):SetTable.below xs 0=0:=by
 obtain⟨b1,b2,b3⟩:=below_ok h 0
 rcases Nat.eq_zero_or_pos (SetTable.below xs 0) with e | e
 ·exact e
 ·have:=b2 0 e;omega
theorem insert_list{α:Type}(xs:Array α)(p:Nat)(x:α)(hp:p<=xs.size):(SetTable.insertAt xs p x).toList=xs.toList.take p++x :: xs.toList.drop p:=by
 rw [SetTable.toList_insertAt]
theorem rise_insert{xs:Array Nat}(h:RiseA xs){j:Nat}(hj:xs[SetTable.below xs j]?≠some j):RiseA (SetTable.insertAt xs (SetTable.below xs j) j):=by
 obtain⟨b1,b2,b3⟩:=below_ok h j
 unfold RiseA
 rw [insert_list _ _ _ b1]
 have ht:∀a∈xs.toList.take (SetTable.below xs j),a < j:=fun a ha=>by
  obtain⟨i,hi,e⟩:=List.getElem_of_mem ha
  have h1:i < SetTable.below xs j:=by
   rw [List.length_take]at hi;omega
  have:=b2 i h1
  simp only [Array.getD,show i < xs.size by omega,dif_pos]at this
  rw [<- e]
  simpa using this
 have hd:∀a∈xs.toList.drop (SetTable.below xs j),j < a:=fun a ha=>by
  obtain⟨i,hi,e⟩:=List.getElem_of_mem ha
  have h1:SetTable.below xs j+i < xs.size:=by
   rw [List.length_drop]at hi;simp at hi;omega
  have h2:=b3 _ (Nat.le_add_right _ i) h1
  simp only [Array.getD,h1,dif_pos]at h2
  have e2:a=xs[SetTable.below xs j+i]:=by rw [<- e];simp
  have h3:a≠j:=by
   intro z
   by_cases c:i=0
   ·subst c
    apply hj
    rw [Array.getElem?_eq_getElem (by omega)]
    exact congrArg some (e2.symm.trans z)
   ·have h0:SetTable.below xs j < xs.size:=by omega
    have h4:=b3 _ (Nat.le_refl _) h0
    simp only [Array.getD,h0,dif_pos]at h4
    have h5:=h.lt (d:=0) (show SetTable.below xs j < SetTable.below xs j+i by omega) h1
    simp only [Array.getD,h0,h1,dif_pos]at h5
    have h5':xs[SetTable.below xs j] < xs[SetTable.below xs j+i]:=h5
    have h4':j<=xs[SetTable.below xs j]:=h4
    omega
  have h2':j<=xs[SetTable.below xs j+i]:=h2
  omega
 refine List.pairwise_append.mpr ⟨h.sublist (List.take_sublist _ _),List.pairwise_cons.mpr ⟨hd,h.sublist (List.drop_sublist _ _)⟩,fun a ha b hb=>?_⟩
 rcases List.mem_cons.mp hb with rfl | hb
 ·exact ht a ha
 ·have:=ht a ha
  have:=hd b hb
  omega
structure TblOk(t:SetTable)(led:Bool):Prop where
 rise:RiseA t.place
 dum:t.dummies=#[]
 led:t.led=led
theorem TblOk.plain{t:SetTable}{led:Bool}(h:TblOk t led)(b:Bool):TblOk { t with plain:=b } led:=⟨h.rise,h.dum,h.led⟩
theorem has_none(j:Nat):SetTable.has #[] j=false:=by
 unfold SetTable.has
 simp
theorem slot_empty{t:SetTable}{led:Bool}(h:TblOk t led){j:Nat}(e:t.slot j=.empty):t.place[SetTable.below t.place j]?≠some j:=by
 unfold SetTable.slot at e
 dsimp only at e
 split at e
 ·cases e
 ·rename_i c
  simpa using c
theorem TblOk.put{t:SetTable}{led:Bool}(h:TblOk t led){s:Nat}(hs:t.place[SetTable.below t.place s]?≠some s):TblOk (t.put s).1 led:=by
 refine⟨rise_insert h.rise hs,?_,h.led⟩
 show(if SetTable.has t.dummies s then _ else t.dummies)=#[]
 rw [h.dum,has_none];rfl
theorem TblOk.laid{mask finger moves:Nat}{led plain:Bool}{hs:Array Int}{t:SetTable}{order:Array Nat}(e:SetTable.laid mask finger moves led plain hs=some (t,order)):TblOk t led:=by
 unfold SetTable.laid at e
 cases c:SetTable.layClean mask hs with
 | none=>rw [c]at e;cases e
 | some owner =>
  rw [c]at e
  have e':=Option.some.inj e
  injection e' with e1 _
  subst e1
  refine⟨?_,rfl,rfl⟩
  unfold RiseA
  show(List.map _ _).Pairwise _
  rw [List.pairwise_map]
  refine List.Pairwise.filterMap _ (R:=(· < ·)) (fun a a' haa b hb b' hb'=>?_) List.pairwise_lt_range
  obtain⟨z,_,rfl⟩:=Option.map_eq_some_iff.mp hb
  obtain⟨z',_,rfl⟩:=Option.map_eq_some_iff.mp hb'
  exact haa
theorem TblOk.fresh(led:Bool):TblOk (.fresh 0 0 led) led:=⟨List.Pairwise.nil,rfl,rfl⟩
end L2
namespace L2
open PySem
section
variable {prog:Program}{w:World}{Kt:Type} [DecidableEq Kt]{knd:KeyKind prog w Kt}{A:Around}{E:Value->Shared->Prop}{s:Shared}{a:Addr}{led:Bool}
end
end L2
namespace L2
open PySem
theorem ul_plain:plainId "set.update.loop" = true:=by decide +kernel
theorem ul_entry:entryFor table "set.update.loop" = some Builtin.«set.update.loop»:=entryFor_of_tree (by kernel_rfl)
section
variable {prog:Program}{w:World}{Kt:Type} [DecidableEq Kt]{knd:KeyKind prog w Kt}{A:Around}{R:Result->Shared->Prop}{sa it t:Addr}{led:Bool}
end
end L2
namespace L2
open PySem
section
variable {prog:Program}{w:World}{A:Around}{E:Value->Shared->Prop}{s:Shared}
theorem si_check{M:Model}{self v:Value}{Q:Unit->Shared->Prop}(hT:s.TypeIs self "set") (q:Q () s):wpAny M A (checkBuiltinCall "set.__init__" ⟨[self,v],[]⟩) Q E s:=by
 simp only [checkBuiltinCall,kind_set_init,split_set_init,sig_set_init]
 refine wpAny_bind (wpAny_isInstance hT sub_set_self (show wpAny _ _ _ _ _ _ from ?_))
 rw [show(!true)=false from rfl,if_neg Bool.false_ne_true]
 unfold Bind.checkArgs
 dsimp only
 refine wpAny_bind (m:=Bind.printed "set" true _ _) (PyProof.Rows.printed_name (by decide) (wpAny_bind (m:=Bind.printed "*" false _ _) (PyProof.Rows.printed_star (self:=self) rfl hT fun short=>?_)))
 have e:(if(Manifest.Receiver.self==Manifest.Receiver.none)=true then [self,v].length else [self,v].length - 1)=1:=rfl
 rw [e]
 have hc:Bind.check ⟨.positional,"set","*",.self,[⟨"iterable",.posOnly,false⟩]⟩ "set" short 1 []=pure ():=by simp +decide [Bind.check,Bind.checkCount,Bind.isPositional]
 simp only [List.map_nil]
 rw [hc];exact wpAny_pure q
theorem sc_type(v:Value):checkTypeCall "set" ⟨[v],[]⟩=pure ():=by kernel_rfl
theorem sc_new(v:Value):checkBuiltinCall "set.__new__" ⟨[.type "set",v],[]⟩=pure ():=by kernel_rfl
def ledOf(w:World):Bool:=!(w.params.followText "set-order")
def newSetObj(w:World):Obj:={ cls:=.type "set",dict:=none,data:=.set #[] 0 (.fresh 0 0 (ledOf w)) }
theorem sn_code{v:Value}{Q1:Value->Shared->Prop}(h:Q1 (.ref s.heap.objs.size) { s with heap:=s.heap.push (newSetObj w) }) :
  codeAny (model prog w) A (.call (.builtin "set.__new__") ⟨[.type "set",v],[]⟩) (wants Q1 E) s:=by
 refine codeAny_of_tree (show wpAny _ A.in1 (do checkBuiltinCall "set.__new__" ⟨[.type "set",v],[]⟩;again (.builtin "set.__new__" ⟨[.type "set",v],[]⟩)) _ _ s from ?_)
 refine wpAny_bind (wpAny_of_eq (sc_new v) (wpAny_pure ⟨plainId_quiet F.plain_set_new _,codeAny_builtin F.entry_set_new (show wpAny _ _ _ _ _ _ from ?_)⟩))
 rw [Around.under_plainId F.plain_set_new _]
 unfold Builtin.«set.__new__» Builtin.Frozenset.newClass
 have k1:=sub_set_self
 obtain⟨hp,g,d,tk,os⟩:=s
 dsimp only
 wp_walk
 refine wpAny_askSetting (wpAny_pure (show wpAny _ _ _ _ _ _ from ?_))
 dsimp only
 simp only [newObj]
 exact wpAny_bind (wpAny_alloc (wpAny_pure (wpAny_pure h)))
theorem call_set_1{v:Value}{Q:Value->Shared->Prop}(h:wpAny (model prog w) A.in1.in1 (Builtin.Frozenset.updateFrom "set.__init__" s.heap.objs.size v) (fun _ s2=>Q (.ref s.heap.objs.size) s2) E { s with heap:=s.heap.push (newSetObj w) }) :
  wpAny (model prog w) A (call (.type "set") [v]) Q E s:=by
 obtain⟨c,tl,hmro⟩:=F.called_set.mro
 have k1:=F.called_set.made
 have k2:=F.called_set.sub
 refine wpAny_call (codeAny_of_tree (show wpAny _ _ (callAny (.type "set") _) _ _ _ from ?_))
 refine wpAny_pure ⟨Code.quiet_builtin _ (by decide +kernel),codeAny_builtin F.entry_type_call ?_⟩
 rw [Around.under_plain (weight_type_call_type "set" [v] []) rfl]
 have k3:=F.called_set.notType
 have k4:=F.called_set.canCreate
 have k5:=sc_type v
 repeat any_goals first | assumption | wp_step
 refine codeAny_mono (sn_code (E:=E) (Q1:=fun ob s1=>ob=.ref s.heap.objs.size/\s1={ s with heap:=s.heap.push (newSetObj w) }) ⟨rfl,rfl⟩) fun r s1 hr=>?_
 cases r with
 | error e=>exact hr
 | ok fl =>
  cases fl with
  | ret ob =>
   obtain⟨rfl,rfl⟩:=hr
   have g:(s.heap.push (newSetObj w)).get? s.heap.objs.size=some (newSetObj w):=Heap.get?_push_size _ rfl
   have T:Shared.TypeIs { s with heap:=s.heap.push (newSetObj w) } (.ref s.heap.objs.size) "set" := ⟨_,g,rfl⟩
   have k6:=F.called_set.init.lookup
   have k7:=F.called_set.init.bind (.ref s.heap.objs.size)
   repeat any_goals first | assumption | wp_step
   refine codeAny_mono (codeAny_call_builtin (R:=wants (fun r s2=>r=.none/\Q (.ref s.heap.objs.size) s2) E) F.called_set.init.plain F.entry_set_init (si_check T ?_)) fun r2 s2 hr2=>?_
   ·unfold Builtin.«set.__init__» noKeywords
    generalize hU:Builtin.Frozenset.updateFrom=U at h ⊢
    unfold newSetObj at g
    wp_walk
    exact wpAny_mono h (fun _ _ q=>wpAny_pure ⟨rfl,q⟩) fun _ _ e=>e
   ·cases r2 with
    | error e=>exact hr2
    | ok fl2 =>
     cases fl2 with
     | ret z =>
      obtain⟨rfl,q⟩:=hr2
      repeat any_goals first | assumption | wp_step
     | _=>exact hr2.elim
  | _=>exact hr.elim
end
end L2
namespace L2
open PySem
section
theorem sub_tup_set:isSubtype (.type "tuple") (.type "set")=pure false:=by rw [isSubtype_type];kernel_rfl
theorem sub_tup_fro:isSubtype (.type "tuple") (.type "frozenset")=pure false:=by rw [isSubtype_type];kernel_rfl
end
section
variable {prog:Program}{w:World}{Kt:Type} [DecidableEq Kt]{knd:KeyKind prog w Kt}{A:Around}{E:Value->Shared->Prop}{s:Shared}{sa t:Addr}{led:Bool}
end
end L2
namespace L2
open PySem
theorem st_owner:Manifest.owners.lookup (String.ofList ['r','o','t','a','r','e','t','i','_','t','e','s'].reverse)=some Manifest.sig_set_iterator:=by kernel_rfl
theorem st_next:Slot "set_iterator" "__next__" "set_iterator.__next__" := .of (owner := "set_iterator") (n := "__next__") (by rw [typeLookup_type,builtinLookup_eq_fast];kernel_rfl) (by decide +kernel) (by decide +kernel) (by decide +kernel) (.inl (by decide +kernel)) (by rw [isSubtype_type];kernel_rfl)
theorem st_entry:entryFor table "set_iterator.__next__" = some Builtin.«set_iterator.__next__»:=entryFor_of_tree (by kernel_rfl)
theorem st_args(a:Value):argsOk "set_iterator.__next__" ⟨[a],[]⟩:=by
 rw [argsOk,signature?_of (id := "set_iterator.__next__") (n:=['_','_','t','x','e','n','_','_']) (o:=['r','o','t','a','r','e','t','i','_','t','e','s']) (by kernel_rfl) st_owner];kernel_rfl
theorem st_iter:Slot "set_iterator" "__iter__" "set_iterator.__iter__" := .of (owner := "set_iterator") (n := "__iter__") (by rw [typeLookup_type,builtinLookup_eq_fast];kernel_rfl) (by decide +kernel) (by decide +kernel) (by decide +kernel) (.inl (by decide +kernel)) (by rw [isSubtype_type];kernel_rfl)
theorem st_iargs(a:Value):argsOk "set_iterator.__iter__" ⟨[a],[]⟩:=by
 rw [argsOk,signature?_of (id := "set_iterator.__iter__") (n:=['_','_','r','e','t','i','_','_']) (o:=['r','o','t','a','r','e','t','i','_','t','e','s']) (by kernel_rfl) st_owner];kernel_rfl
theorem st_ientry:entryFor table "set_iterator.__iter__" = some Builtin.«dict_keyiterator.__iter__»:=entryFor_alias (id' := "dict_keyiterator.__iter__") (by kernel_rfl) (by first | rfl | decide +kernel) (by decide +kernel) (by kernel_rfl)
theorem set_ientry:entryFor table "set.__iter__" = some Builtin.«frozenset.__iter__»:=entryFor_alias (id' := "frozenset.__iter__") (by kernel_rfl) (by first | rfl | decide +kernel) (by decide +kernel) (by kernel_rfl)
end L2
namespace L2
open PySem
section
variable {prog:Program}{w:World}{A:Around}{E:Value->Shared->Prop}{s:Shared}
theorem any_choose{M:Model}{src:Source}{n:Nat}{Q:Nat->Shared->Prop}(hn:n≠0)(h:∀i d',i < n->Q i { s with drawn:=d' }):wpAny M A (choose src n) Q E s:=fun Γ p _=>by
 unfold choose
 rw [Sem.wp_choose]
 refine⟨hn,?_⟩
 rw [Sem.wp_pure]
 exact h _ _ (Nat.mod_lt _ (Nat.pos_of_ne_zero hn))
theorem perm_pick{α:Type}:∀{xs:List α} {i:Nat} {x:α},xs[i]?=some x->(x :: xs.eraseIdx i).Perm xs
 | _ :: _,0,_,h=>by simp at h;subst h;exact List.Perm.refl _
 | y :: ys,i+1,x,h=>by
  have:=perm_pick (xs:=ys) (i:=i) (x:=x) (by simpa using h)
  exact(List.Perm.swap y x _).trans (this.cons y)
theorem draw_order{M:Model}{α:Type}:∀(n:Nat) (xs:List α) (s:Shared) (Q:List α->Shared->Prop),xs.length=n->(∀ys d',ys.Perm xs->Q ys { s with drawn:=d' })->wpAny M A (drawOrder n xs) Q E s
 | 0,xs,s,Q,hn,h=>by
  have:xs=[]:=List.eq_nil_of_length_eq_zero hn
  subst this
  exact wpAny_pure (h [] s.drawn (List.Perm.refl _))
 | n+1,[],s,Q,hn,h=>by cases hn
 | n+1,x :: xs,s,Q,hn,h=>by
  unfold drawOrder
  refine wpAny_bind (any_choose (by simp) fun i d1 hi=>?_)
  have e:(x :: xs)[i]?=some (x :: xs)[i]:=List.getElem?_eq_getElem hi
  rw [e]
  refine wpAny_bind (draw_order n _ _ _ ?_ fun ys d2 hp=>wpAny_pure (h _ d2 ((hp.cons _).trans (perm_pick e))))
  rw [List.length_eraseIdx_of_lt hi];simp at hn ⊢;omega
theorem pick_go{α:Type}(next:Nat->Nat):∀(n k:Nat) (left:List α) (out:Array α),left.length=n->(pickOrder.go next n k left out).toList.Perm (out.toList++left)
 | 0,k,left,out,hn=>by
  have:left=[]:=List.eq_nil_of_length_eq_zero hn
  subst this
  unfold pickOrder.go
  simp
 | n+1,k,left,out,hn=>by
  unfold pickOrder.go
  have hl:next k % left.length < left.length:=Nat.mod_lt _ (by omega)
  have e:left[next k % left.length]?=some left[next k % left.length]:=List.getElem?_eq_getElem hl
  rw [e]
  dsimp only
  refine(pick_go next n (k+1) _ _ (by rw [List.length_eraseIdx_of_lt hl];omega)).trans ?_
  rw [Array.toList_push,List.append_assoc]
  exact(perm_pick e).append_left _
theorem pick_perm{α:Type}(next:Nat->Nat)(xs:Array α):(pickOrder next xs).toList.Perm xs.toList:=by
 unfold pickOrder
 simpa using pick_go next xs.size 0 xs.toList #[] (by simp)
def SetAt(h:Heap)(a:Addr)(es:Array (Int×Value))(ep:Nat)(t:SetTable):Prop:=∃o,h.get? a=some o/\o.cls=.type "set" /\ o.data=.set es ep t/\t.fits es.size=true
theorem SetAt.typeIs{a:Addr}{es:Array (Int×Value)}{ep:Nat}{t:SetTable}(x:SetAt s.heap a es ep t):s.TypeIs (.ref a) "set" := let⟨o,ho,hc,_⟩:=x;⟨o,ho,hc⟩
theorem SetAt.at{h h':Heap}{a:Addr}{es:Array (Int×Value)}{ep:Nat}{t:SetTable}(x:SetAt h a es ep t)(e:∀o,h.get? a=some o->h'.get? a=some o):SetAt h' a es ep t:=let⟨o,ho,r⟩:=x;⟨o,e _ ho,r⟩
def IsSit(h:Heap)(it a:Addr)(first:Value)(i n ep:Nat):Prop:=∃o,h.get? it=some o/\o.cls=.type "set_iterator" /\ o.data=.fields #[first,rawInt i,.ref a,rawInt n,rawInt ep]
theorem IsSit.typeIs{it a:Addr}{first:Value}{i n ep:Nat}(x:IsSit s.heap it a first i n ep):s.TypeIs (.ref it) "set_iterator" := let⟨o,ho,hc,_⟩:=x;⟨o,ho,hc⟩
theorem IsSit.at{h h':Heap}{it a:Addr}{first:Value}{i n ep:Nat}(x:IsSit h it a first i n ep)(e:∀o,h.get? it=some o->h'.get? it=some o):IsSit h' it a first i n ep:=let⟨o,ho,r⟩:=x;⟨o,e _ ho,r⟩
def slotAt(pl:Array Nat):Nat->Nat
 | 0=>0
 | i+1=>pl.getD i 0+1
inductive Mode (w:World) (a:Addr) (es:Array (Int×Value)) (ep:Nat) (t:SetTable) (h:Heap):Nat->Value->List Value->Prop
 | text {i:Nat} (hb:w.params.followText "set-order" = true):Mode w a es ep t h i (rawInt 0) ((pickOrder (w.params.setOrder a ep) es).toList.map (·.2))
 | table {i:Nat} (hb:w.params.followText "set-order" = false) (hd:(!t.plain && decide (es.size > 1))=false):Mode w a es ep t h i (rawInt (slotAt t.place i)) (es.toList.map (·.2))
 | drawn {i:Nat} {pt:Addr} {ps:List Nat} (hb:w.params.followText "set-order" = false) (hp:ps.Perm (List.range es.size)) (ht:h.IsTuple pt (ps.map fun(j:Nat)=>rawInt j).toArray):Mode w a es ep t h i (.ref pt) (ps.map fun j=>(es.getD j (0,.none)).2)
theorem range_map{α:Type}(xs:Array α)(d:α):(List.range xs.size).map (fun j=>xs.getD j d)=xs.toList:=by
 refine List.ext_getElem (by simp) fun i h1 h2=>?_
 simp at h1 h2 ⊢
 simp [h1]
theorem Mode.perm{a:Addr}{es:Array (Int×Value)}{ep:Nat}{t:SetTable}{h:Heap}{i:Nat}{first:Value}{ord:List Value}(m:Mode w a es ep t h i first ord):ord.Perm (es.toList.map (·.2)):=by
 cases m with
 | text hb=>exact(pick_perm _ _).map _
 | table hb hd=>exact List.Perm.refl _
 | @drawn pt ps hb hp ht =>
  have:=hp.map fun j=>(es.getD j (0,Value.none)).2
  refine this.trans (List.Perm.of_eq ?_)
  rw [<- range_map es (0,Value.none),List.map_map];rfl
theorem sets_text{Q:Bool->Shared->Prop}(h:Q (w.params.followText "set-order") s):wpAny (model prog w) A setsByText Q E s:=by
 unfold setsByText
 exact wpAny_bind (wpAny_askSetting (wpAny_pure h))
theorem pyIter_set{a:Addr}{es:Array (Int×Value)}{ep:Nat}{t:SetTable}{Q:Value->Shared->Prop}(hA:SetAt s.heap a es ep t)(hz:es.size<=1000)
  (h:∀it h' d' first ord,s.heap.objs.size<=it->(∀b o,s.heap.get? b=some o->h'.get? b=some o)->IsSit h' it a first 0 es.size ep->Mode w a es ep t h' 0 first ord->(∀pt,first=.ref pt->s.heap.objs.size<=pt/\pt≠it)->Q (.ref it) { s with heap:=h',drawn:=d' }) :
  wpAny (model prog w) A (pyIter (.ref a)) Q E s:=by
 obtain⟨o,ho,hc,hd,hf⟩:=id hA
 refine wpAny_pyIter_slot hA.typeIs F.slot_set_iter (wpAny_call_entry F.slot_set_iter hA.typeIs set_ientry ?_ (F.args_set_iter_1 _))
 unfold Builtin.«frozenset.__iter__» Builtin.Frozenset.sizeOf setEntries setDrawn setEpoch
 refine(show wpAny _ _ (_ >>= _) _ _ _ from wpAny_bind (show wpAny _ _ (pure a) _ _ _ from wpAny_pure (wpAny_bind (wpAny_bind (wpAny_bind (wpAny_setState_of ho hd hf (wpAny_pure (wpAny_pure ?_))))))))
 refine wpAny_bind (wpAny_bind (wpAny_setState_of ho hd hf (wpAny_bind (sets_text (wpAny_pure ?_)))))
 cases hb:w.params.followText "set-order" with
 | true =>
  refine(show wpAny _ _ (if(!true && _)=true then _ else _) _ _ _ from ?_)
  rw [Bool.not_true,Bool.false_and,if_neg Bool.false_ne_true]
  refine wpAny_bind (wpAny_pure (wpAny_bind (wpAny_bind (wpAny_setState_of ho hd hf (wpAny_pure (wpAny_bind (wpAny_newObj_type (wpAny_pure ⟨_,rfl,"set_iterator",_,⟨_,Heap.get?_push_size _ rfl,rfl⟩,st_next.lookup,?_⟩))))))))
  exact h _ _ s.drawn _ _ (Nat.le_refl _) (fun b o e=>Heap.get?_push_of_some _ e) ⟨_,Heap.get?_push_size _ rfl,rfl,rfl⟩ (.text hb) fun pt e=>by cases e
 | false =>
  cases hdr:(!t.plain && decide (es.size > 1)) with
  | false =>
   refine(show wpAny _ _ (if(!false && (!t.plain && decide (es.size > 1)))=true then _ else _) _ _ _ from ?_)
   rw [hdr,Bool.not_false,Bool.true_and,if_neg Bool.false_ne_true]
   refine wpAny_bind (wpAny_pure (wpAny_bind (wpAny_bind (wpAny_setState_of ho hd hf (wpAny_pure (wpAny_bind (wpAny_newObj_type (wpAny_pure ⟨_,rfl,"set_iterator",_,⟨_,Heap.get?_push_size _ rfl,rfl⟩,st_next.lookup,?_⟩))))))))
   exact h _ _ s.drawn _ _ (Nat.le_refl _) (fun b o e=>Heap.get?_push_of_some _ e) ⟨_,Heap.get?_push_size _ rfl,rfl,rfl⟩ (.table hb hdr) fun pt e=>by cases e
  | true =>
   refine(show wpAny _ _ (if(!false && (!t.plain && decide (es.size > 1)))=true then _ else _) _ _ _ from ?_)
   rw [hdr,Bool.not_false,Bool.true_and,if_pos rfl]
   refine wpAny_bind (draw_order _ _ _ _ (by simp) fun ps d1 hp=>?_)
   refine wpAny_bind (m:=newTuple _) (show wpAny _ _ _ _ _ _ from ?_)
   simp only [newTuple]
   have hps:ps.length<=1000:=by rw [hp.length_eq];simpa using hz
   refine wpAny_newObj_type ?_ (by size_fits)
   have ho2:=Heap.get?_push_of_some { cls:=Value.type "tuple",data:=Data.seq (List.map (fun(i:Nat)=>rawInt ↑i) ps).toArray } ho
   refine wpAny_bind (wpAny_bind (wpAny_setState_of ho2 hd hf (wpAny_pure (wpAny_bind (wpAny_newObj_type (wpAny_pure ⟨_,rfl,"set_iterator",_,⟨_,Heap.get?_push_size _ rfl,rfl⟩,st_next.lookup,?_⟩))))))
   refine h _ _ d1 _ _ (by rw [Heap.size_push];exact Nat.le_succ _) (fun b o e=>Heap.get?_push_of_some _ (Heap.get?_push_of_some _ e)) ⟨_,Heap.get?_push_size _ rfl,rfl,rfl⟩ (.drawn hb hp ⟨_,Heap.get?_push_of_some _ (Heap.get?_push_size _ rfl),rfl,0,rfl⟩) fun pt e=>?_
   cases e
   exact⟨Nat.le_refl _,Nat.ne_of_lt (by rw [Heap.size_push];exact Nat.lt_succ_self _)⟩
theorem slot_below{t:SetTable}(hr:RiseA t.place){i:Nat}(hi:i<=t.place.size):SetTable.below t.place (slotAt t.place i)=i:=by
 cases i with
 | zero=>exact below_zero hr
 | succ i =>
  have:=below_next hr (k:=i) (by omega)
  show SetTable.below t.place (t.place.getD i 0+1)=i+1
  rw [show t.place.getD i 0=t.place[i] by simp [show i < t.place.size by omega]]
  exact this
theorem next_text{a:Addr}{es:Array (Int×Value)}{ep slot i:Nat}{t:SetTable}{Q:Option (Value×Nat)->Shared->Prop}(hA:SetAt s.heap a es ep t)(hb:w.params.followText "set-order" = true) (h:Q (((pickOrder (w.params.setOrder a ep) es)[i]?).map fun e=>(e.2,slot)) s) :
  wpAny (model prog w) A (setNext a slot i ep) Q E s:=by
 obtain⟨oa,hoa,_,hda,hf⟩:=hA
 unfold setNext
 refine wpAny_bind (wpAny_setState_of hoa hda hf (wpAny_bind (sets_text (show wpAny _ _ (if _=true then _ else _) _ _ _ from ?_))))
 rw [if_pos hb]
 refine(show wpAny _ _ (if(ep != ep)=true then _ else _) _ _ _ from ?_)
 rw [if_neg (by simp)]
 unfold setWalk
 refine wpAny_bind (wpAny_bind (wpAny_setState_of hoa hda hf (wpAny_bind (sets_text (show wpAny _ _ (if _=true then _ else _) _ _ _ from ?_)))))
 rw [if_pos hb]
 exact wpAny_bind (wpAny_askSetting (wpAny_pure (wpAny_pure h)))
theorem next_table{a:Addr}{es:Array (Int×Value)}{ep i g:Nat}{t:SetTable}{Q:Option (Value×Nat)->Shared->Prop}(hA:SetAt s.heap a es ep t)(hT:TblOk t (ledOf w))(hb:w.params.followText "set-order" = false) (hdr:(!t.plain && decide (es.size > 1))=false) (hi:i<=es.size)
  (h:Q (match es[i]?,t.place[i]? with | some (_,x),some j=>some (x,j+1) | _,_=>none) s):wpAny (model prog w) A (setNext a (slotAt t.place i) g ep) Q E s:=by
 obtain⟨oa,hoa,_,hda,hf⟩:=hA
 have hpl:t.place.size=es.size:=by simp [SetTable.fits]at hf;exact hf.1
 unfold setNext
 refine wpAny_bind (wpAny_setState_of hoa hda hf (wpAny_bind (sets_text (show wpAny _ _ (if _=true then _ else _) _ _ _ from ?_))))
 rw [if_neg (by rw [hb];exact Bool.false_ne_true)]
 refine(show wpAny _ _ (if(!t.plain && decide (es.size > 1))=true then _ else _) _ _ _ from ?_)
 rw [hdr,if_neg Bool.false_ne_true]
 refine wpAny_bind (show wpAny _ _ (if(!t.led && !es.isEmpty)=true then _ else _) _ _ _ from ?_)
 rw [if_neg (by rw [hT.led,ledOf,hb];simp)]
 refine wpAny_pure (show wpAny _ _ (pure _) _ _ _ from wpAny_pure ?_)
 rw [slot_below hT.rise (by omega)]
 exact h
theorem put_field{a:Addr}{o:Obj}{vs:Array Value}{i:Nat}{x:Value}{Q:Unit->Shared->Prop}(ho:s.heap.get? a=some o)(hd:o.data=.fields vs)(hi:i < vs.size)
  (h:∀h' o',h'.get? a=some o'->o'.cls=o.cls->o'.data=.fields (vs.setIfInBounds i x)->Heap.SameBut a s.heap h'->Q () { s with heap:=h' }):wpAny (model prog w) A (setField (.ref a) i x) Q E s :=
 wpAny_setField ho hd hi (h _ _ (Heap.get?_update_self _ ho (Obj.isFreed_of_fields (Obj.data_mapFields hd _))) (Obj.cls_mapFields ..) (Obj.data_mapFields hd _) (Heap.SameBut.update ..))
theorem sit_item{it a:Addr}{es:Array (Int×Value)}{ep:Nat}{t:SetTable}{first x:Value}{i:Nat}{ord:List Value}{Q:Option Value->Shared->Prop}(hA:SetAt s.heap a es ep t)(hT:TblOk t (ledOf w))(hI:IsSit s.heap it a first i es.size ep)(hM:Mode w a es ep t s.heap i first ord)(hne:a≠it)(hnp:∀pt,first=.ref pt->pt≠it)(hx:ord[i]?=some x)
  (hQ:∀h' first',IsSit h' it a first' (i+1) es.size ep->Mode w a es ep t h' (i+1) first' ord->(∀pt,first'=.ref pt->first=.ref pt)->Heap.SameBut it s.heap h'->Q (some x) { s with heap:=h' }) :
  wpAny (model prog w) A (pyNext (.ref it)) Q E s:=by
 obtain⟨o,ho,hc,hd⟩:=id hI
 obtain⟨oa,hoa,_,hda,hf⟩:=id hA
 have hpl:t.place.size=es.size:=by simp [SetTable.fits]at hf;exact hf.1
 unfold pyNext
 refine wpAny_bind (wpAny_attempt (wpAny_callSpecial?_slot (name:=Str.ofString "__next__") hI.typeIs st_next (wpAny_call_entry st_next hI.typeIs st_entry ?_ (st_args _))))
 unfold Builtin.«set_iterator.__next__»
 refine(show wpAny _ _ (_ >>= _) _ _ _ from wpAny_bind (show wpAny _ _ (pure (Value.ref it,[])) _ _ _ from wpAny_pure (show wpAny _ _ (fieldsOf (.ref it) >>= _) _ _ _ from wpAny_bind (wpAny_fieldsOf ho hd (show wpAny _ _ (setEntries a >>= _) _ _ _ from wpAny_bind ?_)))))
 refine(show wpAny _ _ (setState a >>= _) _ _ _ from wpAny_bind (wpAny_setState_of hoa hda hf (wpAny_pure (show wpAny _ _ (if((es.size:Int) != (es.size:Int))=true then _ else _) _ _ _ from ?_))))
 rw [if_neg (by simp)]
 have fin:∀(Q2:PySem.Fin->Shared->Prop) (E2:Value->Shared->Prop) (nx:Nat),(∀h',IsSit h' it a (rawInt nx) (i+1) es.size ep->Heap.SameBut it s.heap h'->Q2 (.done (.ret x)) { s with heap:=h' }) ->
   wpAny (model prog w) A.in1 (setField (.ref it) 0 (rawInt (nx:Nat)) >>= fun _=>setField (.ref it) 1 (rawInt ((i:Int)+1)) >>= fun _=>ret x) Q2 E2 s:=fun Q2 E2 nx q=>by
  refine wpAny_bind (put_field ho hd (by simp) fun h1 o1 e1 c1 d1 b1=>wpAny_bind (put_field (s:={ s with heap:=h1 }) e1 d1 (by simp) fun h2 o2 e2 c2 d2 b2=>wpAny_pure (q h2 ⟨o2,e2,c2.trans (c1.trans hc),?_⟩ (b1.trans b2))))
  rw [d2];simp [rawInt]
 cases hM with
 | text hb =>
  refine(show wpAny _ _ (setNext a 0 i ep >>= _) _ _ _ from wpAny_bind (next_text hA hb ?_))
  obtain⟨e,he,rfl⟩:∃e,(pickOrder (w.params.setOrder a ep) es)[i]?=some e/\e.2=x:=by
   rw [List.getElem?_map,Option.map_eq_some_iff]at hx
   obtain⟨e,he,r⟩:=hx
   exact⟨e,by rw [<- Array.getElem?_toList];exact he,r⟩
  rw [he]
  exact fin _ _ 0 fun h' I' b'=>⟨_,rfl,wpAny_pure (hQ h' _ I' (.text hb) (fun _ z=>z) b')⟩
 | table hb hdr =>
  have hlt:i < es.size:=by
   rw [List.getElem?_map]at hx
   rcases Nat.lt_or_ge i es.size with c | c
   ·exact c
   ·simp [List.getElem?_eq_none,c]at hx
  refine(show wpAny _ _ (setNext a (slotAt t.place i) i ep >>= _) _ _ _ from wpAny_bind (next_table hA hT hb hdr (Nat.le_of_lt hlt) ?_))
  have he:es[i]?=some es[i]:=Array.getElem?_eq_getElem hlt
  have hp:t.place[i]?=some (t.place.getD i 0):=by simp [hpl,hlt]
  have hx2:es[i].2=x:=by
   rw [List.getElem?_map,Array.getElem?_toList,he]at hx
   exact Option.some.inj hx
  rw [he,hp]
  dsimp only
  rw [hx2]
  exact fin _ _ (t.place.getD i 0+1) fun h' I' b'=>⟨_,rfl,wpAny_pure (hQ h' _ I' (.table (i:=i+1) hb hdr) (fun _ z=>by cases z) b')⟩
 | @drawn pt ps hb hp ht =>
  have hlt:i < ps.length:=by
   rcases Nat.lt_or_ge i ps.length with c | c
   ·exact c
   ·rw [List.getElem?_eq_none (by simpa using c)]at hx;cases hx
  have e1:ps[i]?=some ps[i]:=List.getElem?_eq_getElem hlt
  have hin:ps[i] < es.size:=by simpa using hp.mem_iff.mp (List.getElem_mem hlt)
  obtain⟨y,hy,hx2⟩:∃y,es[ps[i]]?=some y/\y.2=x:=by
   rw [List.getElem?_map,e1]at hx
   have:=Option.some.inj hx
   exact⟨es[ps[i]],Array.getElem?_eq_getElem hin,by simpa [hin] using this⟩
  obtain⟨ot,hot,_,nt,hdt⟩:=id ht
  refine(show wpAny _ _ (seqItems? (.ref pt) >>= _) _ _ _ from wpAny_bind (wpAny_seqItems hot hdt (show wpAny _ _ _ _ _ _ from ?_)))
  dsimp only
  have e2:((ps.map fun(j:Nat)=>rawInt (j:Int)).toArray)[i]?=some (rawInt (ps[i]:Int)):=by
   simp [e1]
  rw [Int.toNat_natCast,e2]
  refine(show wpAny _ _ (setNextDrawn a ps[i] ep >>= _) _ _ _ from wpAny_bind ?_)
  unfold setNextDrawn
  refine wpAny_bind (wpAny_setState_of hoa hda hf (show wpAny _ _ (if(ep != ep)=true then _ else _) _ _ _ from ?_))
  rw [if_neg (by simp),hy]
  refine wpAny_pure ?_
  rw [hx2]
  refine wpAny_bind (put_field ho hd (by simp) fun h1 o1 e1 c1 d1 b1=>wpAny_pure ⟨_,rfl,wpAny_pure (hQ h1 (.ref pt) ⟨o1,e1,c1.trans hc,?_⟩ (.drawn hb hp (ht.at fun o e=>(b1.2 pt (hnp pt rfl)).trans e)) (fun _ z=>z) b1)⟩)
  rw [d1];simp [rawInt]
theorem sit_end{it a:Addr}{es:Array (Int×Value)}{ep:Nat}{t:SetTable}{first:Value}{ord:List Value}{Q:Option Value->Shared->Prop}(hh:A.handled=none)(hA:SetAt s.heap a es ep t)(hT:TblOk t (ledOf w))(hI:IsSit s.heap it a first es.size es.size ep)(hM:Mode w a es ep t s.heap es.size first ord)
  (hQ:∀h',Heap.ExtBut it s.heap h'->Q none { s with heap:=h' }):wpAny (model prog w) A (pyNext (.ref it)) Q E s:=by
 obtain⟨o,ho,hc,hd⟩:=id hI
 obtain⟨oa,hoa,_,hda,hf⟩:=id hA
 have hpl:t.place.size=es.size:=by simp [SetTable.fits]at hf;exact hf.1
 have hlen:ord.length=es.size:=by rw [hM.perm.length_eq];simp
 unfold pyNext
 refine wpAny_bind (wpAny_attempt (wpAny_callSpecial?_slot (name:=Str.ofString "__next__") hI.typeIs st_next (wpAny_call_entry st_next hI.typeIs st_entry ?_ (st_args _))))
 unfold Builtin.«set_iterator.__next__»
 refine(show wpAny _ _ (_ >>= _) _ _ _ from wpAny_bind (show wpAny _ _ (pure (Value.ref it,[])) _ _ _ from wpAny_pure (show wpAny _ _ (fieldsOf (.ref it) >>= _) _ _ _ from wpAny_bind (wpAny_fieldsOf ho hd (show wpAny _ _ (setEntries a >>= _) _ _ _ from wpAny_bind ?_)))))
 refine(show wpAny _ _ (setState a >>= _) _ _ _ from wpAny_bind (wpAny_setState_of hoa hda hf (wpAny_pure (show wpAny _ _ (if((es.size:Int) != (es.size:Int))=true then _ else _) _ _ _ from ?_))))
 rw [if_neg (by simp)]
 have fin:∀(h1:Heap) (Q2:PySem.Fin->Shared->Prop) (E2:Value->Shared->Prop) ,(∀e h',Heap.ExtBut it h1 h'->Shared.TypeIs { s with heap:=h' } e "StopIteration" -> E2 e { s with heap:=h' }) ->
   wpAny (model prog w) A.in1 (newExc (.type "StopIteration") [] >>= fun e=>raiseNew e) Q2 E2 { s with heap:=h1 }:=fun h1 Q2 E2 q=>by
  refine wpAny_bind ?_
  simp only [newExc,newTuple]
  refine wpAny_bind (wpAny_newObj_type (wpAny_bind (m:=firstArgMember _ _) (wpAny_of_eq (a:=Value.none) (by first | rfl | (simp only [firstArgMember];rfl)) (wpAny_newObj_type ?_ (by size_fits)))) (by size_fits))
  simp only [raiseNew]
  refine wpAny_bind (wpAny_handled ?_)
  rw [show A.in1.handled=none from hh]
  have x0:Heap.ExtBut it h1 h1:=fun b o hb e=>e
  refine wpAny_bind (wpAny_pure (wpAny_throw ?_))
  exact q _ _ ((x0.push _).push _) ⟨_,Heap.get?_push_size _ rfl,rfl⟩
 have fin2:∀(h1:Heap) (e:Value) (h':Heap),Heap.ExtBut it s.heap h1->Heap.ExtBut it h1 h'->Shared.TypeIs { s with heap:=h' } e "StopIteration" -> wpAny (model prog w) A (isInstance e (.type "StopIteration") >>= fun b=>if b=true then pure none else throw e) Q E { s with heap:=h' }:=fun h1 e h' x1 x2 T=>by
  refine wpAny_bind (wpAny_isInstance (b:=true) T isSubtype_stop ?_)
  exact wpAny_pure (hQ h' fun b o hb e=>x2 b o hb (x1 b o hb e))
 cases hM with
 | text hb =>
  refine(show wpAny _ _ (setNext a 0 es.size ep >>= _) _ _ _ from wpAny_bind (next_text hA hb ?_))
  rw [List.length_map,Array.length_toList]at hlen
  rw [Array.getElem?_eq_none (by omega)]
  exact wpAny_bind (put_field ho hd (by simp) fun h1 o1 e1 c1 d1 b1=>fin h1 _ _ fun e h' x T=>fin2 h1 e h' b1.extBut x T)
 | table hb hdr =>
  refine(show wpAny _ _ (setNext a (slotAt t.place es.size) es.size ep >>= _) _ _ _ from wpAny_bind (next_table hA hT hb hdr (Nat.le_refl _) ?_))
  rw [Array.getElem?_eq_none (Nat.le_refl _)]
  exact wpAny_bind (put_field ho hd (by simp) fun h1 o1 e1 c1 d1 b1=>fin h1 _ _ fun e h' x T=>fin2 h1 e h' b1.extBut x T)
 | @drawn pt ps hb hp ht =>
  obtain⟨ot,hot,_,nt,hdt⟩:=id ht
  refine(show wpAny _ _ (seqItems? (.ref pt) >>= _) _ _ _ from wpAny_bind (wpAny_seqItems hot hdt (show wpAny _ _ _ _ _ _ from ?_)))
  dsimp only
  rw [Int.toNat_natCast,Array.getElem?_eq_none (by simpa using Nat.le_of_eq (by simpa using hlen))]
  exact wpAny_bind (put_field ho hd (by simp) fun h1 o1 e1 c1 d1 b1=>wpAny_bind (put_field (s:={ s with heap:=h1 }) e1 d1 (by simp) fun h2 o2 e2 c2 d2 b2=>fin h2 _ _ fun e h' x T=>fin2 h2 e h' (b1.trans b2).extBut x T))
end
end L2
namespace L2
open PySem PySem.Spec PyProof.Rows PySem.W
section
variable {prog:Program}{w:World}{A:Around}{E:Value->Shared->Prop}{s:Shared}
theorem Mode.at{a:Addr}{es:Array (Int×Value)}{ep:Nat}{t:SetTable}{h h':Heap}{i:Nat}{first:Value}{ord:List Value}(m:Mode w a es ep t h i first ord)(hk:∀pt,first=.ref pt->∀o,h.get? pt=some o->h'.get? pt=some o):Mode w a es ep t h' i first ord:=by
 cases m with
 | text hb=>exact .text hb
 | table hb hd=>exact .table hb hd
 | @drawn pt ps hb hp ht=>exact .drawn hb hp (ht.at fun o e=>hk pt rfl o e)
theorem walks_set(hh:A.handled=none){it a:Addr}{es:Array (Int×Value)}{ep:Nat}{t:SetTable}{ord:List Value}(pts:List Addr)(hT:TblOk t (ledOf w))(hne:a≠it)(hnp:it∉pts)(hlen:ord.length=es.size) :
  Walks prog w A it (it :: a :: pts) [it] es.size (fun i v=>ord[i]?=some v) (fun i h=>SetAt h a es ep t/\∃first,IsSit h it a first i es.size ep/\Mode w a es ep t h i first ord/\∀pt,first=.ref pt->pt∈pts) where
 sub:=fun b hb=>by simp at hb;simp [hb]
 frame:=fun i h h' st hk=>by
  obtain⟨hA,first,hI,hM,hp⟩:=st
  exact⟨hA.at fun o e=>hk a (by simp) o e,first,hI.at fun o e=>hk it (by simp) o e,hM.at fun pt z o e=>hk pt (by simp [hp pt z]) o e,hp⟩
 item:=fun i s Q E hi st hQ=>by
  obtain⟨hA,first,hI,hM,hp⟩:=st
  refine sit_item hA hT hI hM hne (fun pt z q=>hnp (q ▸ hp pt z)) (x:=ord[i]'(by omega)) (List.getElem?_eq_getElem _) fun h' first' hI' hM' hr hb=>?_
  exact hQ _ h' s.toks (List.getElem?_eq_getElem _) ⟨hA.at fun o e=>(hb.2 a hne).trans e,first',hI',hM',fun pt z=>hp pt (hr pt z)⟩ fun b o hb' e=>hb.extBut b o (fun z=>hb' (by simp [z])) e
 done:=fun s Q E st hQ=>by
  obtain⟨hA,first,hI,hM,hp⟩:=st
  exact sit_end hh hA hT hI hM fun h' he=>hQ h' s.toks fun b o hb e=>he b o (fun z=>hb (by simp [z])) e
 self:=fun i s Q E st hQ=>by
  obtain⟨hA,first,hI,hM,hp⟩:=st
  refine wpAny_pyIter_slot hI.typeIs st_iter (wpAny_call_entry st_iter hI.typeIs st_ientry (show wpAny _ _ (ret (.ref it)) _ _ s from ?_) (st_iargs _))
  exact wpAny_pure ⟨_,rfl,"set_iterator",_,hI.typeIs,st_next.lookup,hQ⟩
theorem hint_set{a:Addr}{Q:Bool->Shared->Prop}(hT:s.TypeIs (.ref a) "set") (h:Q false s):wpAny (model prog w) A (Builtin.List.listLengthHint (.ref a)) Q E s:=by
 unfold Builtin.List.listLengthHint
 refine wpAny_bind (wpAny_specialOf hT PySem.F.slot_set_len.lookup ?_)
 generalize hid:("set.__len__" : String)=id0
 wp_delta
 rw [show splitId id0=some ("set","__len__") from by subst hid;decide +kernel]
 subst hid
 refine wpAny_bind (wpAny_isInstance (T := "set") (b:=true) hT sub_set_self (wpAny_ite_split (fun hab=>absurd hab (by decide)) fun _=>wpAny_ite_split (fun _=>?_) (fun hab=>absurd (by decide +kernel) hab)))
 exact wpAny_bind (wpAny_typeOf hT (wpAny_pure h))
theorem items_ord{ord:List Value}{acc:Array Value}{n:Nat}(h:ItemsOf (fun i v=>ord[i]?=some v) acc n)(hl:ord.length=n):acc.toList=ord:=by
 refine List.ext_getElem? fun i=>?_
 rw [Array.getElem?_toList]
 rcases Nat.lt_or_ge i acc.size with c | c
 ·have:=h.2 i acc[i] (Array.getElem?_eq_getElem c)
  rw [this,Array.getElem?_eq_getElem c]
 ·rw [Array.getElem?_eq_none c,List.getElem?_eq_none (by rw [hl,<- h.1];exact c)]
theorem collect_set{a:Addr}{es:Array (Int×Value)}{ep:Nat}{t:SetTable}{Q:List Value->Shared->Prop}(hh:A.handled=none)(hA:SetAt s.heap a es ep t)(hT:TblOk t (ledOf w))(hz:es.size<=1000)
  (h:∀h' d' tk ord,(∀b o,s.heap.get? b=some o->h'.get? b=some o)->s.heap.objs.size<=h'.objs.size->ord.Perm (es.toList.map (·.2))->Q ord { s with heap:=h',drawn:=d',toks:=tk }) :
  wpAny (model prog w) A (collect (.ref a)) Q E s:=by
 have la:a < s.heap.objs.size:=by obtain⟨o,e,_⟩:=hA;exact Heap.lt_size e
 unfold collect
 refine wpAny_bind (wpAny_runValue (codeAny_builtin F.entry_proto_collect ?_))
 rw [Around.under_plainId F.plain_proto_collect _]
 refine(show wpAny _ A.in1 (newList [] >>= fun l=>again (.builtin "list.__iadd__" ⟨[l,.ref a],[]⟩)) _ _ s from wpAny_bind (wpAny_newObj_type (wpAny_pure ⟨plainId_quiet F.plain_list_iadd _,codeAny_builtin F.entry_list_iadd ?_⟩)))
 rw [Around.under_plainId F.plain_list_iadd _]
 generalize hL:s.heap.objs.size=S
 generalize h1e:s.heap.push { cls:=.type "list",data:=.seq ([]:List Value).toArray }=h1
 have k1:∀b o,s.heap.get? b=some o->h1.get? b=some o:=fun b o e=>by subst h1e;exact Heap.get?_push_of_some _ e
 have eS:h1.get? S=some { cls:=.type "list",data:=.seq ([]:List Value).toArray }:=by subst h1e;subst hL;exact Heap.get?_push_size _ rfl
 have hSa:S≠a:=Ne.symm (Nat.ne_of_lt (hL ▸ la))
 have hsame:Builtin.List.listSameRef (.ref S) (.ref a)=false:=by simp [Builtin.List.listSameRef,hSa]
 have hA1:SetAt h1 a es ep t:=hA.at fun o e=>k1 a o e
 refine(show wpAny _ A.in1 (Builtin.List.listExtendWith (.ref S) (.ref a) (.ref S)) _ _ { s with heap:=h1 } from ?_)
 unfold Builtin.List.listExtendWith
 refine wpAny_bind (wpAny_typeOf (SetAt.typeIs (s:={ s with heap:=h1 }) hA1) (wpAny_ite_split (fun hab=>absurd hab (by rw [hsame];decide)) fun _=>?_))
 refine wpAny_bind (pyIter_set (s:={ s with heap:=h1 }) hA1 hz fun it h2 d2 first ord hit k2 hI hM hpt=>?_)
 refine wpAny_bind (wpAny_holding (hint_set (s:={ s with heap:=h2,drawn:=d2 }) (SetAt.typeIs (s:={ s with heap:=h2,drawn:=d2 }) (hA1.at fun o e=>k2 a o e)) ?_))
 refine wpAny_ite_split (fun _=>?_) fun hab=>absurd (by decide) hab
 have e2:h2.get? S=some { cls:=.type "list",data:=.seq ([]:List Value).toArray }:=k2 S _ eS
 refine wpAny_bind (wpAny_rule (wpAny_bind (show wpAny _ _ (updateSeq S (·.push .none) >>= fun _=>updateSeq S (·.pop)) _ _ _ from wpAny_bind (wpAny_updateSeq e2 rfl (wpAny_updateSeq (Heap.get?_update_self (Obj.mapSeq (·.push Value.none)) e2 rfl) rfl ?_)))))
 have e4:=Heap.get?_update_self (Obj.mapSeq (·.pop)) (Heap.get?_update_self (Obj.mapSeq (·.push Value.none)) e2 rfl) rfl
 have k4:∀b o,b≠S->h2.get? b=some o->((h2.update S (Obj.mapSeq (·.push Value.none))).update S (Obj.mapSeq (·.pop))).get? b=some o:=fun b o hb e=>(Heap.get?_update_other _ _ (Ne.symm hb)).trans ((Heap.get?_update_other _ _ (Ne.symm hb)).trans e)
 generalize ((h2.update S (Obj.mapSeq (·.push Value.none))).update S (Obj.mapSeq (·.pop)))=h4 at e4 k4 ⊢
 have lS:S < h1.objs.size:=Heap.lt_size eS
 have hit':h1.objs.size<=it:=hit
 have nS:S≠it:=by intro z;subst z;omega
 have na:a≠it:=Nat.ne_of_lt (Nat.lt_trans (hL ▸ la) (Nat.lt_of_lt_of_le lS hit'))
 obtain⟨pts,hp1,hp2⟩:∃pts:List Addr,(∀pt,first=.ref pt->pt∈pts)/\∀pt∈pts,h1.objs.size<=pt/\pt≠it:=by
  by_cases hf:∃pt,first=.ref pt
  ·obtain⟨pt,hf⟩:=hf
   exact⟨[pt],fun q hq=>by rw [hf]at hq;cases hq;simp,fun q hq=>by rw [List.mem_singleton]at hq;subst hq;exact hpt q hf⟩
  ·exact⟨[],fun q hq=>absurd ⟨q,hq⟩ hf,fun _ hq=>nomatch hq⟩
 have hlen:ord.length=es.size:=by rw [hM.perm.length_eq];simp
 have W:=walks_set (prog:=prog) (A:=A.in1) hh (es:=es) (ep:=ep) (ord:=ord) pts hT na (fun z=>(hp2 it z).2 rfl) hlen
 have hSf:S∉it :: a :: pts:=by
  simp only [List.mem_cons,not_or]
  exact⟨nS,hSa,fun z=>by have:=(hp2 S z).1;omega⟩
 refine wpAny_pure ⟨plainId_quiet F.plain_extend_loop _,codeAny_extend_loopS W.toS (Nat.le_trans hz (by decide)) S hSf (.ref S) es.size 0 { s with heap:=h4,drawn:=d2 } #[] _ rfl (Nat.zero_le _) ?_ e4 (ItemsOf.nil _) fun s' acc' c' hm hS' hacc=>?_⟩
 ·refine⟨hA1.at fun o e=>k4 a o (Ne.symm hSa) (k2 a o e),first,hI.at fun o e=>k4 it o (Ne.symm nS) e,hM.at fun pt z o e=>k4 pt o (fun q=>?_) e,hp1⟩
  have:=(hp2 pt (hp1 pt z)).1
  subst q;omega
 ·rw [Moved.eq_with hm]
  refine wpAny_bind (wpAny_load hS' (wpAny_pure ?_))
  rw [items_ord hacc hlen]
  refine h s'.heap d2 s'.toks ord (fun b o e=>hm.heap b o ?_ (k4 b o ?_ (k2 b o (k1 b o e)))) (Nat.le_of_lt ?_) hM.perm
  ·have lb:=Heap.lt_size e
   simp only [List.mem_cons,List.not_mem_nil,or_false,not_or]
   rw [hL]at lb
   exact⟨Nat.ne_of_lt lb,Nat.ne_of_lt (Nat.lt_trans lb (Nat.lt_of_lt_of_le lS hit'))⟩
  ·have lb:=Heap.lt_size e
   rw [hL]at lb
   exact Nat.ne_of_lt lb
  ·rw [hL];exact Heap.lt_size hS'
theorem sorted_walk{v:Value}{Q:Value->Shared->Prop}(hcol:wpAny (model prog w) A.in1 (collect v) (fun vs s1=>∃lt:Nat->Nat->Bool,vs.length < 1000/\StrictOrd vs.length lt /\
   (2<=vs.length->∀h':Heap,(∀b o,s1.heap.get? b=some o->h'.get? b=some o)->∃ κ,(∀Q:SortKind->Shared->Prop,Q κ { s1 with heap:=h' }->wpAny (model prog w) A.in1.in1 (keyKind' vs.toArray) Q E { s1 with heap:=h' }) /\
    ∀i j C,i < vs.length->j < vs.length->C (lt i j) { s1 with heap:=h' }->kas_ask prog w A.in1.in1 κ vs i j C { s1 with heap:=h' }) /\
   ∀(p:Array Nat) (h':Heap) (l c:Nat),Pm vs.length p->Up lt p vs.length->s1.heap.objs.size<=l->(∀b o,s1.heap.get? b=some o->h'.get? b=some o)->h'.get? l=some (seqObj "list" (p.toList.map fun i=>vs.getD i Value.none).toArray c)->Q (.ref l) { s1 with heap:=h' }) E s) :
  wpAny (model prog w) A (call (.builtin "sorted") [v]) Q E s:=by
 refine Calls.call_function_entry kind_sorted plain_sorted entry_sorted (args_sorted1 _) ?_
 unfold Builtin.«sorted»
 refine wpAny_bind (m:=checkCount "sorted" 1 1 _) (wpAny_pure (wpAny_bind (wpAny_mono hcol (fun vs s1 hx=>?_) fun _ _ e=>e)))
 obtain⟨lt,h64,O,hk,h⟩:=hx
 have sz:vs.length<=sizeLine:=Nat.le_trans (Nat.le_of_lt h64) (by decide)
 have hL:(s1.heap.push (seqObj "list" vs.toArray 0)).get? s1.heap.objs.size=some (seqObj "list" vs.toArray 0):=Heap.get?_push_size _ rfl
 refine wpAny_bind (wpAny_newList (wpAny_bind (wpAny_holding (wpAny_call_entry slot_list_sort ⟨_,hL,rfl⟩ entry_list_sort ?_ (args_list_sort _)))) sz)
 have kk:∀(h':Heap),(∀b o,b≠s1.heap.objs.size->(s1.heap.push (seqObj "list" vs.toArray 0)).get? b=some o->h'.get? b=some o)->∀b o,s1.heap.get? b=some o->h'.get? b=some o:=fun h' k b o q=>k b o (Nat.ne_of_lt (Heap.lt_size q)) (Heap.get?_push_of_some _ q)
 exact list_sort_data (s:={ s1 with heap:=s1.heap.push (seqObj "list" vs.toArray 0) }) hL h64 O (fun h2 h' k=>hk h2 h' (kk h' k)) fun p h' c pm up k e=>⟨_,rfl,wpAny_pure ⟨_,rfl,h p h' _ c pm up (Nat.le_refl _) (kk h' k) e⟩⟩
end
end L2
namespace L2
open PySem PySem.Spec PyProof.Rows
section
variable {X:Cx}{pins:List (Addr×Obj)}{σ:St}{H:Hp}{s:Shared}
theorem Inv.drw(I:Inv X pins σ H s)(d:Drawn):Inv X pins σ H { s with drawn:=d }:=⟨I.ok,I.os,I.bare,I.base,I.loc,I.cell,I.free,I.freeC,I.pin,I.hok,I.len⟩
end
end L2
namespace L2
open PySem PySem.Spec PyProof.Rows
noncomputable instance decPD:DecidableEq PyData:=fun a b=>Classical.propDecidable (a=b)
mutual
def drawsD:PyData->Nat
 | .tuple ds=>drawsDs ds+1
 | _=>1
def drawsDs:List PyData->Nat
 | []=>0
 | d :: ds=>drawsD d+drawsDs ds
end
theorem hashDs_app(w:World):∀(a b:List PyData),hashDs w (a++b)=hashDs w a++hashDs w b
 | [],b=>rfl
 | x :: a,b=>by simp only [List.cons_append,hashDs,hashDs_app w a b]
theorem drawsDs_app:∀(a b:List PyData),drawsDs (a++b)=drawsDs a+drawsDs b
 | [],b=>by simp [drawsDs]
 | x :: a,b=>by simp only [List.cons_append,drawsDs,drawsDs_app a b];omega
section
variable {prog:Program}{w:World}
theorem hash_ok:∀(n:Nat) (d:PyData) (u:Value) (as:List Addr) (A:Around) (E:Value->Shared->Prop) (s:Shared) (Q:Int->Shared->Prop),d.depth<=n->Cano d=true->Reads s.heap u d as->A.units+n < cLine->Q (hashD w d) { s with toks:=s.toks+drawsD d } ->
  wpAny (model prog w) A (pyHash u) Q E s:=by
 intro n
 induction n with
 | zero =>
  intro d u as A E s Q hd hc hr hu h
  cases hr with
  | int i t=>exact(mixKind prog w).pyHash (mixKind_int _ _ _ _) h
  | str x t=>exact(mixKind prog w).pyHash (mixKind_str _ _ _ _) h
  | tuple a1 a2 a3 a4=>simp [PyData.depth]at hd
  | none=>simp [Cano]at hc
  | bool b=>simp [Cano]at hc
  | list a1 a2 a3 a4=>simp [Cano]at hc
  | dict a1 a2 a3 a4 a5=>simp [Cano]at hc
 | succ n ih =>
  intro d u as A E s Q hd hc hr hu h
  cases hr with
  | int i t=>exact(mixKind prog w).pyHash (mixKind_int _ _ _ _) h
  | str x t=>exact(mixKind prog w).pyHash (mixKind_str _ _ _ _) h
  | none=>simp [Cano]at hc
  | bool b=>simp [Cano]at hc
  | list a1 a2 a3 a4=>simp [Cano]at hc
  | dict a1 a2 a3 a4 a5=>simp [Cano]at hc
  | @tuple a o items m ds as ho hcl hdt hi =>
   have hT:s.TypeIs (.ref a) "tuple" := ⟨o,ho,hcl⟩
   have hd':PyData.depthAll ds<=n:=by simp only [PyData.depth]at hd;omega
   have hc':CanoAll ds=true:=hc
   unfold pyHash
   first | unfold pyHashByItsType | skip
   first | refine wpAny_bind (wpAny_cRoomFor_or (.inr (by omega)) ?_) | skip
   refine wpAny_bind (wpAny_specialOf hT F.slot_tuple_hash.lookup (show wpAny _ _ (if(some (Value.builtin "tuple.__hash__")==some Value.none)=true then _ else _) Q E s from ?_))
   rw [if_neg (by rw [beq_builtin_none];exact Bool.false_ne_true)]
   refine wpAny_bind (wpAny_specialOf hT F.slot_tuple_hash.lookup (show wpAny _ _ (callSpecialIfBoundUnlessNone? (.ref a) "__hash__" _ >>= _) Q E s from ?_))
   refine wpAny_bind (wpAny_callSpecialIfBoundUnlessNone?_slot hT F.slot_tuple_hash (wpAny_call_entry F.slot_tuple_hash hT F.entry_tuple_hash (show wpAny _ _ (Builtin.Tuple.tupleItemsOf (.ref a) >>= _) _ _ s from ?_) (F.args_tuple_hash_1 _)))
   refine wpAny_bind (wpAny_tupleItemsOf ho hdt (wpAny_bind ?_))
   rw [<- Array.forIn_toList]
   refine wpAny_forIn_list _ (fun rest (b:Array Int) s'=>∃dn lf bs,ds=dn++lf/\ReadsAll s.heap rest lf bs/\CanoAll lf=true/\PyData.depthAll lf<=n/\b.toList=hashDs w dn/\s'={ s with toks:=s.toks+drawsDs dn }) _ ?_ ?_ _ _ ⟨[],ds,as,rfl,hi,hc',hd',rfl,rfl⟩
   ·rintro x rest b s' ⟨dn,lf,bs,rfl,hl,hcl,hdl,hb,rfl⟩
    cases hl with
    | @cons _ _ d ds' as1 bs1 h1 hl' =>
     simp only [CanoAll,Bool.and_eq_true]at hcl
     simp only [PyData.depthAll]at hdl
     refine wpAny_bind (ih d x as1 A.in1 _ { s with toks:=s.toks+drawsDs dn } _ (by omega) hcl.1 h1 (by show A.units+1+n < _;omega) ?_)
     have fin:∃dn' lf' bs',dn++d :: ds'=dn'++lf'/\ReadsAll s.heap rest lf' bs'/\CanoAll lf'=true/\PyData.depthAll lf'<=n/\(b.push (hashD w d)).toList=hashDs w dn'/\({ s with toks:=s.toks+drawsDs dn+drawsD d }:Shared)={ s with toks:=s.toks+drawsDs dn' } :=
      ⟨dn++[d],ds',bs1,by simp,hl',hcl.2,by omega,by simp [hb,hashDs_app,hashDs],by simp [drawsDs_app,drawsDs,Nat.add_assoc]⟩
     first
      | exact wpAny_pure fin
      | exact wpAny_bind (wpAny_pure (wpAny_pure fin))
   ·rintro b s' ⟨dn,lf,bs,rfl,hl,hcl,hdl,hb,rfl⟩
    cases hl
    rw [List.append_nil]at h
    simp only [hashD,drawsD]at h
    refine(show wpAny _ _ (retInt (Builtin.Tuple.tupleHashOf b.toList)) _ _ _ from ?_)
    rw [hb]
    refine wpAny_ret_mkInt (show wpAny _ _ (if(decide (-(2:Int) ^ 63<=Builtin.Tuple.tupleHashOf (hashDs w dn)) && decide (Builtin.Tuple.tupleHashOf (hashDs w dn) < 2 ^ 63))=true then _ else _) Q E _ from ?_)
    unfold reduceHash at h
    by_cases hr:(decide (-(2:Int) ^ 63<=Builtin.Tuple.tupleHashOf (hashDs w dn)) && decide (Builtin.Tuple.tupleHashOf (hashDs w dn) < 2 ^ 63))=true
    ·rw [if_pos hr]at h ⊢
     exact wpAny_pure (by simpa [Nat.add_assoc] using h)
    ·rw [if_neg hr]at h ⊢
     exact wpAny_bind (wpAny_rule (wpAny_pure (by simpa [Nat.add_assoc] using h)))
theorem quiet_ok:∀(n q:Nat) (d:PyData) (u:Value) (as:List Addr) (A:Around) (E:Value->Shared->Prop) (s:Shared) (Q:Bool->Shared->Prop),d.depth<=n->n < q->Cano d=true->Reads s.heap u d as->Q true s->wpAny (model prog w) A (eqIsQuiet q u) Q E s:=by
 intro n
 induction n with
 | zero =>
  intro q d u as A E s Q hd hq hc hr h
  cases hr with
  | int i t=>rw [eqIsQuiet_byValue _ rfl];exact wpAny_pure h
  | str x t=>rw [eqIsQuiet_byValue _ rfl];exact wpAny_pure h
  | tuple a1 a2 a3 a4=>simp [PyData.depth]at hd
  | none=>simp [Cano]at hc
  | bool b=>simp [Cano]at hc
  | list a1 a2 a3 a4=>simp [Cano]at hc
  | dict a1 a2 a3 a4 a5=>simp [Cano]at hc
 | succ n ih =>
  intro q d u as A E s Q hd hq hc hr h
  cases hr with
  | int i t=>rw [eqIsQuiet_byValue _ rfl];exact wpAny_pure h
  | str x t=>rw [eqIsQuiet_byValue _ rfl];exact wpAny_pure h
  | none=>simp [Cano]at hc
  | bool b=>simp [Cano]at hc
  | list a1 a2 a3 a4=>simp [Cano]at hc
  | dict a1 a2 a3 a4 a5=>simp [Cano]at hc
  | @tuple a o items m ds as ho hcl hdt hi =>
   have hT:s.TypeIs (.ref a) "tuple" := ⟨o,ho,hcl⟩
   have hd':PyData.depthAll ds<=n:=by simp only [PyData.depth]at hd;omega
   have hc':CanoAll ds=true:=hc
   obtain⟨q',rfl⟩:∃q',q=q'+1:=⟨q - 1,by omega⟩
   unfold eqIsQuiet
   refine wpAny_bind (wpAny_specialOf hT F.slot_tuple_eq.lookup (show wpAny _ _ (isInstance (.ref a) (.type "tuple") >>= _) _ _ s from wpAny_bind (wpAny_isInstance hT isSubtype_tuple_tuple ?_)))
   simp only [Bool.not_true,Bool.false_eq_true,if_false]
   refine wpAny_bind (wpAny_seqItems ho hdt (wpAny_bind (show wpAny _ _ (forIn items _ _) _ _ s from ?_)))
   rw [<- Array.forIn_toList]
   refine wpAny_forIn_list _ (fun rest r s'=>r.1=none/\s'=s/\∃lf bs,ReadsAll s.heap rest lf bs/\CanoAll lf=true/\PyData.depthAll lf<=n) _ ?_ ?_ _ _ ⟨rfl,rfl,ds,as,hi,hc',hd'⟩
   ·rintro v rest r s' ⟨hr,rfl,lf,bs,hl,hcl,hdl⟩
    cases hl with
    | @cons _ _ d ds' as1 bs1 h1 hl' =>
     simp only [CanoAll,Bool.and_eq_true]at hcl
     simp only [PyData.depthAll]at hdl
     refine wpAny_bind (ih q' d v as1 A _ s' _ (by omega) (by omega) hcl.1 h1 ?_)
     simp only [Bool.not_true,Bool.false_eq_true,if_false]
     exact wpAny_pure ⟨rfl,rfl,ds',bs1,hl',hcl.2,by omega⟩
   ·rintro⟨r1,r2⟩ s' ⟨hr,rfl,_⟩
    simp only at hr
    subst hr
    exact wpAny_pure h
mutual
theorem reads_inj{h:Heap}:∀{v:Value} {d e:PyData} {as bs:List Addr},Reads h v d as->Reads h v e bs->Cano d=true->Cano e=true->d=e
 | _,_,_,_,_,.int i t,r,_,_=>by cases r;rfl
 | _,_,_,_,_,.str x t,r,_,_=>by cases r;rfl
 | _,_,_,_,_,.tuple a1 a2 a3 a4,r,hc,hc2=>by
  cases r with
  | tuple b1 b2 b3 b4 =>
   rw [a1]at b1;cases b1
   rw [a3]at b3;cases b3
   rw [readsAll_inj a4 b4 hc hc2]
  | list b1 b2 b3 b4=>simp [Cano]at hc2
  | dict b1 b2 b3 b4 b5=>simp [Cano]at hc2
 | _,_,_,_,_,.none,_,hc,_=>by simp [Cano]at hc
 | _,_,_,_,_,.bool b,_,hc,_=>by simp [Cano]at hc
 | _,_,_,_,_,.list a1 a2 a3 a4,_,hc,_=>by simp [Cano]at hc
 | _,_,_,_,_,.dict a1 a2 a3 a4 a5,_,hc,_=>by simp [Cano]at hc
theorem readsAll_inj{h:Heap}:∀{vs:List Value} {ds es:List PyData} {as bs:List Addr},ReadsAll h vs ds as->ReadsAll h vs es bs->CanoAll ds=true->CanoAll es=true->ds=es
 | _,_,_,_,_,.nil,r,_,_=>by cases r;rfl
 | _,_,_,_,_,.cons r1 r2,r,hc,hc2=>by
  cases r with
  | cons q1 q2 =>
   simp only [CanoAll,Bool.and_eq_true]at hc hc2
   rw [reads_inj r1 q1 hc.1 hc2.1,readsAll_inj r2 q2 hc.2 hc2.2]
end
mutual
theorem reads_but{h h':Heap}{p:Addr}(hk:∀b o,b≠p->h.get? b=some o->h'.get? b=some o)(hp:∀o vs n,h.get? p=some o->o.data≠.seq vs n):∀{v:Value} {d:PyData} {as:List Addr},Reads h v d as->Cano d=true->Reads h' v d as
 | _,_,_,.int i t,_=>.int i t
 | _,_,_,.str x t,_=>.str x t
 | _,_,_,.tuple a1 a2 a3 a4,hc=>.tuple (hk _ _ (fun z=>by subst z;exact hp _ _ _ a1 a3) a1) a2 a3 (readsAll_but hk hp a4 hc)
 | _,_,_,.none,hc=>by simp [Cano]at hc
 | _,_,_,.bool b,hc=>by simp [Cano]at hc
 | _,_,_,.list a1 a2 a3 a4,hc=>by simp [Cano]at hc
 | _,_,_,.dict a1 a2 a3 a4 a5,hc=>by simp [Cano]at hc
theorem readsAll_but{h h':Heap}{p:Addr}(hk:∀b o,b≠p->h.get? b=some o->h'.get? b=some o)(hp:∀o vs n,h.get? p=some o->o.data≠.seq vs n):∀{vs:List Value} {ds:List PyData} {as:List Addr},ReadsAll h vs ds as->CanoAll ds=true->ReadsAll h' vs ds as
 | _,_,_,.nil,_=>.nil
 | _,_,_,.cons r1 r2,hc=>by
  simp only [CanoAll,Bool.and_eq_true]at hc
  exact .cons (reads_but hk hp r1 hc.1) (readsAll_but hk hp r2 hc.2)
end
theorem eqv_dec{x y:PyData}(hx:Cano x=true)(hy:Cano y=true):PyData.eqv x y=decide (x=y):=by
 by_cases h:x=y
 ·subst h;rw [eqv_self x hx,decide_eq_true rfl]
 ·rw [decide_eq_false h];exact(eqv_ne hx hy).mpr h
variable(prog w) in
noncomputable def dataKind:HeapKind prog w PyData where
 is:=fun h d a=>KeyTree d/\∃as,Reads h (.ref a) d as
 hash:=hashD w
 draws:=drawsD
 room:=fun A=>A.units+6 < cLine
 inj:=fun⟨kx,_,rx⟩ ⟨ky,_,ry⟩=>reads_inj rx ry kx.can ky.can
 keeps:=fun⟨k,as,r⟩ ho hd hs=>⟨k,as,reads_but (fun b o hb e=>(hs.2 b hb).trans e) (fun o' vs n e q=>by rw [ho]at e;cases e;rw [hd]at q;cases q) r k.can⟩
 pyHash:=fun hu ⟨k,as,r⟩ h=>hash_ok 6 _ _ as _ _ _ _ k.dep k.can r hu h
 eqBool:=fun hu ⟨kx,as,rx⟩ ⟨ky,bs,ry⟩ h=>SeqAt.eqAt_reads _ _ _ _ _ _ _ _ rx ry kx.lay ky.lay (by have:=kx.dep;omega) _ _ _ _ (by rw [eqv_dec kx.can ky.can];exact h)
 quiet:=fun⟨k,as,r⟩ h=>quiet_ok 6 8 _ _ as _ _ _ _ k.dep (by decide) k.can r h
end
end L2
namespace L2
open PySem PySem.Spec PyProof.Rows
section
variable {X:Cx}{pins:List (Addr×Obj)}{σ:St}{H:Hp}{s:Shared}{a:Addr}{e:Expr}{te:AE}{τ:ASt}{μ:M}
theorem VE.run{R1:AV->M->Prop}(he:VE X e te)(I:Inv X pins σ H s)(hs:StA X.K H τ σ)(hc:Cn X.K μ H)(h:te τ μ R1) :
  wpAny (model X.prog X.w) X.A (eval e X.env) (fun u s1=>∃x v μ1 H1,Inv X pins σ H1 s1/\RelV v u/\Kp H H1/\Cn X.K μ1 H1/\RelA X.K H1 x v/\R1 x μ1) X.xe s :=
 wpAny_mono (he pins s σ H (fun v H1=>∃x μ1,Kp H H1/\Cn X.K μ1 H1/\RelA X.K H1 x v/\R1 x μ1) I ⟨τ,μ,R1,hs,hc,h,fun x μ1 v H1 S c r q=>⟨x,μ1,S,c,r,q⟩⟩)
  (fun _ _ z=>by obtain⟨v,H1,I1,rv,x,μ1,S,c,r,q⟩:=z;exact⟨x,v,μ1,H1,I1,rv,S,c,r,q⟩) fun _ _ e=>e
variable {o i value:Expr}{pos pos':Pos}{td ty tv:AE}
end
end L2
namespace L2
open PySem PySem.Spec PyProof.Rows
section
variable {prog:Program}{w:World}{A:Around}{E:Value->Shared->Prop}{s:Shared}
end
end L2
namespace L2
open PySem PySem.Spec PyProof.Rows
section
variable {X:Cx}{pins:List (Addr×Obj)}{σ:St}{s:Shared}
def aInt:AC:=fun xs μ R=>match xs with
 | [.D (.bool b)]=>R (.D (.int (if b then 1 else 0))) μ
 | [.D (.int i)]=>R (.D (.int i)) μ
 | _=>False
theorem c_int:VCall X (.type "int") aInt:=by
 intro pins s σ H xs us Q I r zz202
 refine ex34 zz202 fun as μ R ra hc h hq=>?_
 cases ra with
 | nil=>exact False.elim h
 | @cons x v xs' vs' r1 r2 =>
  cases r2 with
  | nil =>
   cases x with
   | D d =>
    cases d with
    | bool b =>
     cases RelA.bl r1
     exact call_int1 pins s σ H _ us Q I r (.inr ⟨_,rfl,hq _ _ _ _ Kp.refl hc ra_int h⟩)
    | int i =>
     cases RelA.int r1
     exact call_int1 pins s σ H _ us Q I r (.inl ⟨_,rfl,hq _ _ _ _ Kp.refl hc ra_int h⟩)
    | _=>exact False.elim h
   | _=>exact False.elim h
  | cons _ _ =>
   refine False.elim ?_
   cases x with
   | D d=>cases d <;> exact h
   | _=>exact h
end
end L2
namespace L2
open PySem PySem.Spec PyProof.Rows
section
variable {prog:Program}{w:World}{A:Around}{E:Value->Shared->Prop}{s:Shared}
end
section
variable {X:Cx}{e st:Expr}{te ts:AE}{p2 pos:Pos}
end
end L2
namespace L2
open PySem PySem.Spec PyProof.Rows
section
variable {X:Cx}{tg:Expr}
end
end L2
namespace L2
open PySem PySem.Spec PyProof.Rows
section
variable {core lg:Str}{at' turn:Int}
end
end L2
namespace L2
open PySem PySem.SetTable
theorem sub_len2{α:Type} [DecidableEq α]:∀{xs ys:List α},xs.Nodup->(∀x∈xs,x∈ys)->xs.length<=ys.length
 | [],_,_,_=>Nat.zero_le _
 | x :: xs,ys,hn,h=>by
  have hn':=List.nodup_cons.mp hn
  have hx:=h x (.head _)
  have:=sub_len2 (ys:=ys.erase x) hn'.2 fun z hz=>(List.mem_erase_of_ne (by rintro rfl;exact hn'.1 hz)).mpr (h z (.tail _ hz))
  rw [List.length_erase_of_mem hx]at this
  have:0 < ys.length:=List.length_pos_of_mem hx
  rw [List.length_cons];omega
def advM(mask:Nat)(p:Probe):Probe :=
 if p.more > 0 then { p with j:=p.j+1,more:=p.more - 1 } else
 { p with j:=(leap mask p.i p.perturb).1,more:=runEnd mask (leap mask p.i p.perturb).1 - (leap mask p.i p.perturb).1,i:=(leap mask p.i p.perturb).1,perturb:=(leap mask p.i p.perturb).2 }
theorem advM_eq(t:SetTable)(p:Probe):t.advance p=advM t.mask p:=rfl
def runP(mask i perturb l:Nat):Probe:={ j:=i+l,more:=runEnd mask i - i - l,i:=i,perturb:=perturb,dummy:=none }
def pAt(mask:Nat)(h:Int):Nat->Probe
 | 0=>runP mask (bits h % (mask+1)) (bits h) 0
 | n+1=>advM mask (pAt mask h n)
def sq(mask:Nat)(h:Int)(n:Nat):Nat:=(pAt mask h n).j
def rn(mask:Nat)(h:Int):Nat->Nat×Nat
 | 0=>(bits h % (mask+1),bits h)
 | r+1=>leap mask (rn mask h r).1 (rn mask h r).2
def nr(mask:Nat)(h:Int):Nat->Nat
 | 0=>0
 | r+1=>nr mask h r+(runEnd mask (rn mask h r).1 - (rn mask h r).1)+1
theorem run_le(mask i:Nat):runEnd mask i - i<=9:=by unfold runEnd;split <;> omega
theorem run_ge(mask i:Nat):i<=runEnd mask i:=by unfold runEnd;split <;> omega
theorem run_mask{mask i:Nat}(h:i<=mask):runEnd mask i<=mask:=by unfold runEnd;split <;> omega
theorem nr_le(mask:Nat)(h:Int):∀r,nr mask h r<=10 * r
 | 0=>Nat.le_refl _
 | r+1=>by
  have:=nr_le mask h r
  have:=run_le mask (rn mask h r).1
  rw [nr];omega
theorem rn_le(mask:Nat)(h:Int):∀r,(rn mask h r).1<=mask
 | 0=>by have:=Nat.mod_lt (bits h) (show 0 < mask+1 by omega);rw [rn];dsimp only;omega
 | r+1=>by
  rw [rn,leap]
  have:=Nat.mod_lt ((rn mask h r).1 * 5+1+(rn mask h r).2 / 32) (show 0 < mask+1 by omega)
  dsimp only;omega
theorem pAt_go{mask:Nat}{h:Int}{n i pt:Nat}(e:pAt mask h n=runP mask i pt 0):∀l,l<=runEnd mask i - i->pAt mask h (n+l)=runP mask i pt l
 | 0,_=>e
 | l+1,hl=>by
  rw [<- Nat.add_assoc,pAt,pAt_go e l (by omega)]
  unfold advM
  rw [if_pos (show(runP mask i pt l).more > 0 by show _ - l > 0;omega)]
  show Probe.mk _ _ _ _ _=Probe.mk _ _ _ _ _
  congr 1
theorem pAt_run(mask:Nat)(h:Int):∀r,pAt mask h (nr mask h r)=runP mask (rn mask h r).1 (rn mask h r).2 0
 | 0=>rfl
 | r+1=>by
  rw [nr,pAt,pAt_go (pAt_run mask h r) _ (Nat.le_refl _)]
  unfold advM
  rw [if_neg (show ¬(runP mask (rn mask h r).1 (rn mask h r).2 (runEnd mask (rn mask h r).1 - (rn mask h r).1)).more > 0 by show ¬(_ - _ - _ > 0);omega)]
  rfl
theorem sq_run{mask:Nat}{h:Int}{r l:Nat}(hl:l<=runEnd mask (rn mask h r).1 - (rn mask h r).1):sq mask h (nr mask h r+l)=(rn mask h r).1+l:=by
 unfold sq
 rw [pAt_go (pAt_run mask h r) l hl];rfl
theorem pAt_dummy(mask:Nat)(h:Int):∀n,(pAt mask h n).dummy=none
 | 0=>rfl
 | n+1=>by
  rw [pAt,advM]
  split
  ·exact pAt_dummy mask h n
  ·exact pAt_dummy mask h n
theorem rn_pt(mask:Nat)(h:Int):∀r,(rn mask h r).2=bits h / 32 ^ r
 | 0=>by rw [rn,Nat.pow_zero,Nat.div_one]
 | r+1=>by
  rw [rn,leap]
  dsimp only
  rw [rn_pt mask h r,Nat.div_div_eq_div_mul,Nat.pow_succ]
theorem bits_lt(h:Int):bits h < 2 ^ 64:=by
 unfold bits
 have h1:=Int.emod_lt_of_pos h (show(0:Int) < 2 ^ 64 by decide)
 have h2:=Int.emod_nonneg h (show(2 ^ 64:Int)≠0 by decide)
 omega
theorem rn_late(mask:Nat)(h:Int)(r:Nat):(rn mask h (13+r+1)).1=((rn mask h (13+r)).1 * 5+1) % (mask+1):=by
 rw [rn,leap]
 dsimp only
 have e:(rn mask h (13+r)).2=0:=by
  rw [rn_pt]
  refine Nat.div_eq_of_lt (Nat.lt_of_lt_of_le (bits_lt h) ?_)
  exact Nat.le_trans (show 2 ^ 64<=32 ^ 13 by decide) (Nat.pow_le_pow_right (by decide) (by omega))
 rw [e]
def cyc(mask:Nat)(i:Nat):Nat->Nat
 | 0=>i
 | b+1=>(cyc mask i b * 5+1) % (mask+1)
theorem rn_cyc(mask:Nat)(h:Int):∀b,(rn mask h (13+b)).1=cyc mask (rn mask h 13).1 b
 | 0=>rfl
 | b+1=>by rw [<- Nat.add_assoc,rn_late,rn_cyc mask h b];rfl
theorem cyc_add(mask i:Nat)(a:Nat):∀b,cyc mask (cyc mask i a) b=cyc mask i (a+b)
 | 0=>rfl
 | b+1=>by rw [cyc,cyc_add mask i a b];rfl
def Msk(mask:Nat):Prop:=mask=7\/mask=31\/mask=127\/mask=511
def orbit(mask:Nat):Nat->Nat->List Nat
 | 0,_=>[]
 | n+1,i=>i :: orbit mask n ((i * 5+1) % (mask+1))
theorem orbit_mem(mask:Nat):∀(n i x:Nat),x∈orbit mask n i->∃b,b < n/\cyc mask i b=x
 | 0,_,_,h=>by cases h
 | n+1,i,x,h=>by
  rcases List.mem_cons.mp h with rfl | h
  ·exact⟨0,by omega,rfl⟩
  ·obtain⟨b,hb,e⟩:=orbit_mem mask n _ x h
   refine⟨b+1,by omega,?_⟩
   rw [show b+1=1+b by omega,<- cyc_add]
   exact e
theorem orb7:((List.range 8).all fun x=>(orbit 7 8 0).contains x)=true/\cyc 7 0 8=0:=by decide +kernel
theorem orb31:((List.range 32).all fun x=>(orbit 31 32 0).contains x)=true/\cyc 31 0 32=0:=by decide +kernel
theorem orb127:((List.range 128).all fun x=>(orbit 127 128 0).contains x)=true/\cyc 127 0 128=0:=by decide +kernel
theorem orb511:((List.range 512).all fun x=>(orbit 511 512 0).contains x)=true/\cyc 511 0 512=0:=by decide +kernel
theorem orb{mask:Nat}(hm:Msk mask):((List.range (mask+1)).all fun x=>(orbit mask (mask+1) 0).contains x)=true/\cyc mask 0 (mask+1)=0:=by
 rcases hm with rfl | rfl | rfl | rfl
 ·exact orb7
 ·exact orb31
 ·exact orb127
 ·exact orb511
theorem cyc_all{mask:Nat}(hm:Msk mask){i x:Nat}(hi:i<=mask)(hx:x<=mask):∃b,b<=mask+1/\cyc mask i b=x:=by
 obtain⟨h1,h2⟩:=orb hm
 have key:∀y,y<=mask->∃b,b < mask+1/\cyc mask 0 b=y:=fun y hy=>orbit_mem mask _ 0 y (by
  have:=List.all_eq_true.mp h1 y (List.mem_range.mpr (by omega))
  exact List.contains_iff_mem.mp this)
 obtain⟨a,ha,ea⟩:=key i hi
 obtain⟨c,hc,ec⟩:=key x hx
 rcases Nat.lt_or_ge c a with h | h
 ·refine⟨mask+1 - a+c,by omega,?_⟩
  rw [<- ea,cyc_add,show a+(mask+1 - a+c)=(mask+1)+c by omega,<- cyc_add,h2,ec]
 ·refine⟨c - a,by omega,?_⟩
  rw [<- ea,cyc_add,show a+(c - a)=c by omega,ec]
theorem reach{mask:Nat}(hm:Msk mask)(h:Int){x:Nat}(hx:x<=mask):∃r,r<=mask+14/\(rn mask h r).1=x:=by
 obtain⟨b,hb,e⟩:=cyc_all hm (rn_le mask h 13) hx
 exact⟨13+b,by omega,by rw [rn_cyc,e]⟩
theorem sq_le(mask:Nat)(h:Int):∀n,∃r l,l<=runEnd mask (rn mask h r).1 - (rn mask h r).1/\n=nr mask h r+l
 | 0=>⟨0,0,Nat.zero_le _,rfl⟩
 | n+1=>by
  obtain⟨r,l,hl,rfl⟩:=sq_le mask h n
  rcases Nat.lt_or_ge l (runEnd mask (rn mask h r).1 - (rn mask h r).1) with c | c
  ·exact⟨r,l+1,c,rfl⟩
  ·exact⟨r+1,0,Nat.zero_le _,by rw [nr];omega⟩
theorem sq_mask(mask:Nat)(h:Int)(n:Nat):sq mask h n<=mask:=by
 obtain⟨r,l,hl,rfl⟩:=sq_le mask h n
 rw [sq_run hl]
 have:=run_mask (rn_le mask h r)
 have:=run_ge mask (rn mask h r).1
 omega
theorem first_free{mask:Nat}(hm:Msk mask)(h:Int)(occ:Nat->Prop) [DecidablePred occ]{x:Nat}(hx:x<=mask)(hn:¬occ x):∃n,n < 10 * turns mask/\¬occ (sq mask h n)/\∀m,m < n->occ (sq mask h m):=by
 obtain⟨r,hr,e⟩:=reach hm h hx
 have h0:¬occ (sq mask h (nr mask h r)):=by
  rw [show nr mask h r=nr mask h r+0 from rfl,sq_run (Nat.zero_le _),e];exact hn
 have h1:nr mask h r < 10 * turns mask:=by have:=nr_le mask h r;unfold turns;omega
 generalize nr mask h r=k at h0 h1
 induction k using Nat.strongRecOn with
 | _ k ih =>
  by_cases c:∀m,m < k->occ (sq mask h m)
  ·exact⟨k,h1,h0,c⟩
  ·have⟨m,hm1,hm2⟩:∃m,m < k/\¬occ (sq mask h m):=by
    refine Classical.byContradiction fun z=>c fun m hm'=>Classical.byContradiction fun y=>z ⟨m,hm',y⟩
   exact ih m hm1 hm2 (by omega)
theorem free_go{mask:Nat}(h:Int)(owner:Array (Option Nat))(hs:owner.size=mask+1):∀(fuel r:Nat),(∃k,r<=k/\k < r+fuel/\owner.getD (rn mask h k).1 none=none)->(∀m,m < nr mask h r->(owner.getD (sq mask h m) none).isSome=true) ->
  ∃n,layClean.free mask owner fuel (rn mask h r).1 (rn mask h r).2=some (sq mask h n)/\owner.getD (sq mask h n) none=none/\∀m,m < n->(owner.getD (sq mask h m) none).isSome=true
 | 0,r,⟨k,h1,h2,_⟩,_=>by omega
 | fuel+1,r,hk,ho=>by
  have hd:∀j,j<=mask->owner.getD j (some 0)=owner.getD j none:=fun j hj=>by
   simp only [Array.getD,show j < owner.size by omega,dite_true]
  have hrl:=rn_le mask h r
  have hre:=run_mask hrl
  have hrg:=run_ge mask (rn mask h r).1
  rw [layClean.free]
  cases c:(List.range (runEnd mask (rn mask h r).1+1 - (rn mask h r).1)).find? fun k=>(owner.getD ((rn mask h r).1+k) (some 0)).isNone with
  | some k =>
   obtain⟨c1,c2,c3⟩:=List.find?_range_eq_some.mp c
   have hk2:=List.mem_range.mp c2
   refine⟨nr mask h r+k,?_,?_,fun m hm=>?_⟩
   ·rw [sq_run (by omega)]
   ·rw [sq_run (by omega),<- hd _ (by omega)]
    exact Option.isNone_iff_eq_none.mp c1
   ·rcases Nat.lt_or_ge m (nr mask h r) with z | z
    ·exact ho m z
    ·have e:m=nr mask h r+(m - nr mask h r):=by omega
     rw [e,sq_run (by omega),<- hd _ (by omega)]
     have:=c3 (m - nr mask h r) (by omega)
     cases q:owner.getD ((rn mask h r).1+(m - nr mask h r)) (some 0) with
     | none=>rw [q]at this;cases this
     | some _=>rfl
  | none =>
   have c':=List.find?_range_eq_none.mp c
   have hocc:∀l,l<=runEnd mask (rn mask h r).1 - (rn mask h r).1->(owner.getD ((rn mask h r).1+l) none).isSome=true:=fun l hl=>by
    have:=c' l (by omega)
    rw [hd _ (by omega)]at this
    cases q:owner.getD ((rn mask h r).1+l) none with
    | none=>rw [q]at this;cases this
    | some _=>rfl
   refine free_go h owner hs fuel (r+1) ?_ fun m hm=>?_
   ·obtain⟨k,h1,h2,h3⟩:=hk
    rcases Nat.eq_or_lt_of_le h1 with rfl | h1
    ·have:=hocc 0 (Nat.zero_le _)
     rw [Nat.add_zero,h3]at this;cases this
    ·exact⟨k,h1,by omega,h3⟩
   ·rcases Nat.lt_or_ge m (nr mask h r) with z | z
    ·exact ho m z
    ·have e:m=nr mask h r+(m - nr mask h r):=by omega
     rw [nr]at hm
     rw [e,sq_run (by omega)]
     exact hocc _ (by omega)
structure Own(mask:Nat)(hs:List Int)(owner:Array (Option Nat))(k:Nat):Prop where
 size:owner.size=mask+1
 lt:∀j x,owner.getD j none=some x->x < k
 has:∀x,x < k->∃j,owner.getD j none=some x
 inj:∀j j' x,owner.getD j none=some x->owner.getD j' none=some x->j=j'
 path:∀j x h,owner.getD j none=some x->hs[x]?=some h->∃n,sq mask h n=j/\∀m,m < n->(owner.getD (sq mask h m) none).isSome=true
theorem getD_set(o:Array (Option Nat))(j:Nat)(v:Option Nat)(hj:j < o.size)(i:Nat):(o.setIfInBounds j v).getD i none=if i=j then v else o.getD i none:=by
 rw [Array.getD_eq_getD_getElem?,Array.getD_eq_getD_getElem?,Array.getElem?_setIfInBounds]
 by_cases e:i=j
 ·subst e
  rw [if_pos rfl,if_pos hj,if_pos rfl];rfl
 ·rw [if_neg (fun z=>e z.symm),if_neg e]
theorem getD_lt{o:Array (Option Nat)}{j x:Nat}(h:o.getD j none=some x):j < o.size:=by
 rw [Array.getD_eq_getD_getElem?]at h
 cases c:o[j]? with
 | none=>rw [c]at h;cases h
 | some y=>exact(Array.getElem?_eq_some_iff.mp c).1
theorem own_room{mask k:Nat}{hs:List Int}{owner:Array (Option Nat)}(o:Own mask hs owner k)(hk:k<=mask):∃x,x<=mask/\owner.getD x none=none:=by
 refine Classical.byContradiction fun z=>?_
 have hall:∀j,j<=mask->∃x,owner.getD j none=some x:=fun j hj=>by
  cases c:owner.getD j none with
  | none=>exact absurd ⟨j,hj,c⟩ z
  | some x=>exact⟨x,rfl⟩
 have h1:((List.range (mask+1)).map fun j=>(owner.getD j none).getD 0).Nodup:=by
  rw [List.Nodup,List.pairwise_map]
  refine List.Pairwise.imp_of_mem (R:=(· < ·)) (fun {a b} ha hb hab e=>?_) List.pairwise_lt_range
  obtain⟨x,ex⟩:=hall a (by have:=List.mem_range.mp ha;omega)
  obtain⟨y,ey⟩:=hall b (by have:=List.mem_range.mp hb;omega)
  rw [ex,ey]at e
  have e':x=y:=e
  subst e'
  have:=o.inj a b x ex ey
  omega
 have h2:=sub_len2 (ys:=List.range k) h1 fun y hy=>by
  obtain⟨j,hj,rfl⟩:=List.mem_map.mp hy
  obtain⟨x,ex⟩:=hall j (by have:=List.mem_range.mp hj;omega)
  rw [ex]
  exact List.mem_range.mpr (o.lt j x ex)
 rw [List.length_map,List.length_range,List.length_range]at h2
 omega
theorem own_step{mask k:Nat}{hs:List Int}{owner:Array (Option Nat)}{h:Int}(hm:Msk mask)(o:Own mask hs owner k)(hk:k<=mask)(hh:hs[k]?=some h):∃j,layClean.free mask owner (turns mask) (bits h % (mask+1)) (bits h)=some j/\Own mask hs (owner.setIfInBounds j (some k)) (k+1):=by
 obtain⟨x,hx,ex⟩:=own_room o hk
 obtain⟨r,hr,er⟩:=reach hm h hx
 obtain⟨n,e1,e2,e3⟩:=free_go h owner o.size (turns mask) 0 ⟨r,Nat.zero_le _,by unfold turns;omega,by rw [er];exact ex⟩ (fun m hm'=>absurd hm' (Nat.not_lt_zero _))
 have hj:sq mask h n < owner.size:=by have:=sq_mask mask h n;rw [o.size];omega
 have hg:=getD_set owner (sq mask h n) (some k) hj
 refine⟨_,e1,by rw [Array.size_setIfInBounds];exact o.size,fun j y e=>?_,fun y hy=>?_,fun j j' y a b=>?_,fun j y g a b=>?_⟩
 ·rw [hg]at e
  split at e
  ·cases e;omega
  ·have:=o.lt j y e;omega
 ·rcases(show y < k\/y=k by omega) with h' | rfl
  ·obtain⟨j,ej⟩:=o.has y h'
   refine⟨j,?_⟩
   rw [hg,if_neg (by rintro rfl;rw [e2]at ej;cases ej)];exact ej
  ·exact⟨_,by rw [hg,if_pos rfl]⟩
 ·rw [hg]at a b
  split at a
  ·rename_i q1
   split at b
   ·rename_i q2;exact q1.trans q2.symm
   ·cases a;have:=o.lt _ _ b;omega
  ·split at b
   ·cases b;have:=o.lt _ _ a;omega
   ·exact o.inj j j' y a b
 ·have up:∀i,(owner.getD i none).isSome=true->((owner.setIfInBounds (sq mask h n) (some k)).getD i none).isSome=true:=fun i hi=>by
   rw [hg]
   split
   ·rfl
   ·exact hi
  rw [hg]at a
  split at a
  ·rename_i q1
   cases a
   rw [hh]at b
   cases b
   exact⟨n,q1.symm,fun m hm'=>up _ (e3 m hm')⟩
  ·obtain⟨n',f1,f2⟩:=o.path j y g a b
   exact⟨n',f1,fun m hm'=>up _ (f2 m hm')⟩
def layF(mask:Nat)(acc:Option (Array (Option Nat)×Nat))(h:Int):Option (Array (Option Nat)×Nat):=do
 let(owner,k) <- acc
 let j <- layClean.free mask owner (turns mask) (bits h % (mask+1)) (bits h)
 pure (owner.setIfInBounds j (some k),k+1)
theorem fold_own{mask:Nat}(hm:Msk mask){hs:List Int}(hl:hs.length<=mask+1):∀(rest dn:List Int) (owner:Array (Option Nat)),hs=dn++rest->Own mask hs owner dn.length->∃owner',rest.foldl (layF mask) (some (owner,dn.length))=some (owner',hs.length)/\Own mask hs owner' hs.length
 | [],dn,owner,e,o=>by
  rw [List.append_nil]at e
  subst e
  exact⟨owner,rfl,o⟩
 | h :: rest,dn,owner,e,o=>by
  have hk:dn.length<=mask:=by rw [e,List.length_append,List.length_cons]at hl;omega
  obtain⟨j,e1,o1⟩:=own_step hm o hk (h:=h) (by rw [e];simp)
  have e2:layF mask (some (owner,dn.length)) h=some (owner.setIfInBounds j (some dn.length),(dn++[h]).length):=by
   unfold layF
   simp only [Option.bind_eq_bind,Option.bind_some,e1,List.length_append]
   rfl
  rw [List.foldl_cons,e2]
  exact fold_own hm hl rest (dn++[h]) _ (by rw [e];simp) (by rw [List.length_append];exact o1)
theorem lay_ok{mask:Nat}(hm:Msk mask)(hs:Array Int)(hl:hs.size<=mask+1):∃owner,layClean mask hs=some owner/\Own mask hs.toList owner hs.size:=by
 have o0:Own mask hs.toList (Array.replicate (mask+1) none) 0:=by
  have hg:∀j,(Array.replicate (mask+1) (none:Option Nat)).getD j none=none:=fun j=>by
   rw [Array.getD_eq_getD_getElem?,Array.getElem?_replicate]
   split <;> rfl
  exact⟨by simp,fun j x e=>(by rw [hg]at e;cases e),fun x hx=>absurd hx (Nat.not_lt_zero _),fun j j' x e=>(by rw [hg]at e;cases e),fun j x h e=>(by rw [hg]at e;cases e)⟩
 obtain⟨owner,e,o⟩:=fold_own hm (hs:=hs.toList) (by simpa using hl) hs.toList [] _ rfl o0
 refine⟨owner,?_,by simpa using o⟩
 unfold layClean
 rw [<- Array.foldl_toList]
 have e':List.foldl (layF mask) (some (Array.replicate (mask+1) none,0)) hs.toList=some (owner,hs.toList.length):=e
 exact(congrArg (Option.map (·.1)) e').trans rfl
structure TabQ(t:SetTable)(hs:List Int):Prop where
 msk:Msk t.mask
 len:t.place.size=hs.length
 le:∀j∈t.place.toList,j<=t.mask
 path:∀z∈t.place.toList.zip hs,∃n,sq t.mask z.2 n=z.1/\∀m,m < n->sq t.mask z.2 m∈t.place.toList
theorem laid_ok{mask f mv:Nat}{led pl:Bool}(hm:Msk mask)(hs:Array Int)(hl:hs.size<=mask+1):∃t order,laid mask f mv led pl hs=some (t,order)/\t.mask=mask/\order.toList.Perm (List.range hs.size)/\TabQ t (order.toList.map fun i=>hs.getD i 0):=by
 obtain⟨owner,e,o⟩:=lay_ok hm hs hl
 have hlive:∀j x,(j,x)∈((List.range (mask+1)).filterMap fun j=>(owner.getD j none).map (j,·))↔owner.getD j none=some x:=fun j x=>by
  rw [List.mem_filterMap]
  constructor
  ·rintro⟨a,ha,q⟩
   obtain⟨y,ey,q2⟩:=Option.map_eq_some_iff.mp q
   cases q2;exact ey
  ·intro q
   refine⟨j,List.mem_range.mpr ?_,by rw [q];rfl⟩
   have:=getD_lt q;rw [o.size]at this;exact this
 have hnd:((List.range (mask+1)).filterMap fun j=>(owner.getD j none).map (j,·)).Pairwise fun p q=>p.2≠q.2:=by
  refine List.Pairwise.filterMap _ (R:=(· < ·)) (fun a a' haa b hb b' hb'=>?_) List.pairwise_lt_range
  obtain⟨z,hz,rfl⟩:=Option.map_eq_some_iff.mp hb
  obtain⟨z',hz',rfl⟩:=Option.map_eq_some_iff.mp hb'
  intro q
  have q':z=z':=q
  subst q'
  have:=o.inj a a' z hz hz'
  omega
 refine⟨_,_,by unfold laid;rw [e];rfl,rfl,?_,?_⟩
 ·show(List.map (fun p:Nat×Nat=>p.2) _).Perm _
  refine(List.perm_ext_iff_of_nodup ?_ List.nodup_range).mpr fun x=>?_
  ·rw [List.Nodup,List.pairwise_map];exact hnd
  ·rw [List.mem_map,List.mem_range]
   constructor
   ·rintro⟨⟨j,y⟩,hy,rfl⟩
    exact o.lt j y ((hlive j y).mp hy)
   ·intro hx
    obtain⟨j,ej⟩:=o.has x hx
    exact⟨(j,x),(hlive j x).mpr ej,rfl⟩
 ·refine⟨hm,?_,fun j hj=>?_,fun z hz=>?_⟩
  ·show(List.map _ _).toArray.size=(List.map _ (List.map _ _)).length
   simp
  ·have hj':j∈List.map (·.1) ((List.range (mask+1)).filterMap fun j=>(owner.getD j none).map (j,·)):=hj
   obtain⟨⟨a,b⟩,q,rfl⟩:=List.mem_map.mp hj'
   have:=getD_lt ((hlive a b).mp q)
   rw [o.size]at this
   show a<=mask
   omega
  ·have hz':z∈List.zip (List.map (·.1) ((List.range (mask+1)).filterMap fun j=>(owner.getD j none).map (j,·))) (List.map (fun i=>hs.getD i 0) (List.map (·.2) ((List.range (mask+1)).filterMap fun j=>(owner.getD j none).map (j,·)))):=hz
   rw [List.map_map,List.zip_map',List.mem_map]at hz'
   obtain⟨⟨a,b⟩,q,rfl⟩:=hz'
   have qa:=(hlive a b).mp q
   have hb:=o.lt a b qa
   obtain⟨n,e1,e2⟩:=o.path a b (hs.getD b 0) qa (by rw [Array.getElem?_toList,Array.getD_eq_getD_getElem?,Array.getElem?_eq_getElem hb];rfl)
   refine⟨n,e1,fun m hm'=>?_⟩
   obtain⟨y,ey⟩:=Option.isSome_iff_exists.mp (e2 m hm')
   exact List.mem_map.mpr ⟨(_,y),(hlive _ y).mpr ey,rfl⟩
theorem below_at{xs:Array Nat}(h:RiseA xs){j k:Nat}(e:xs[k]?=some j):SetTable.below xs j=k:=by
 obtain⟨hk,ej⟩:=Array.getElem?_eq_some_iff.mp e
 obtain⟨h1,h2,h3⟩:=below_ok h j
 have gk:xs.getD k j=j:=by rw [Array.getD_eq_getD_getElem?,e];rfl
 rcases Nat.lt_trichotomy (SetTable.below xs j) k with c | c | c
 ·have:=h.lt (d:=j) c hk
  have:=h3 _ (Nat.le_refl _) (by omega)
  omega
 ·exact c
 ·have:=h2 k c
  omega
theorem slot_in{t:SetTable}{led:Bool}(h:TblOk t led){j:Nat}(hj:j∈t.place.toList):∃i,t.slot j=.live i/\t.place[i]?=some j:=by
 obtain⟨i,hi⟩:=List.getElem?_of_mem hj
 rw [Array.getElem?_toList]at hi
 refine⟨i,?_,hi⟩
 unfold SetTable.slot
 dsimp only
 rw [below_at h.rise hi,hi]
 simp
theorem slot_out{t:SetTable}{led:Bool}(h:TblOk t led){j:Nat}(hj:j∉t.place.toList):t.slot j=.empty:=by
 unfold SetTable.slot
 dsimp only
 rw [h.dum,has_none,if_neg]
 ·rfl
 ·intro c
  have c':t.place[SetTable.below t.place j]?=some j:=by simpa using c
  rw [<- Array.getElem?_toList]at c'
  exact hj (List.mem_of_getElem? c')
theorem zip_insert{α β:Type}(a:α)(b:β):∀(p:Nat) (xs:List α) (ys:List β),xs.length=ys.length->(xs.take p++a :: xs.drop p).zip (ys.take p++b :: ys.drop p)=(xs.zip ys).take p++(a,b) :: (xs.zip ys).drop p
 | 0,xs,ys,_=>by simp
 | p+1,[],[],_=>by simp
 | p+1,x :: xs,y :: ys,h=>by
  have:=zip_insert a b p xs ys (by simpa using h)
  simpa using this
 | _+1,[],_ :: _,h=>by simp at h
 | _+1,_ :: _,[],h=>by simp at h
theorem TabQ.put{t:SetTable}{led:Bool}{hs:List Int}{h:Int}{n:Nat}(q:TabQ t hs)(T:TblOk t led)(ho:∀m,m < n->sq t.mask h m∈t.place.toList):TabQ (t.put (sq t.mask h n)).1 (hs.take (SetTable.below t.place (sq t.mask h n))++h :: hs.drop (SetTable.below t.place (sq t.mask h n))):=by
 have hp:SetTable.below t.place (sq t.mask h n)<=t.place.size:=(below_ok T.rise _).1
 have e:(t.put (sq t.mask h n)).1.place.toList=t.place.toList.take (SetTable.below t.place (sq t.mask h n))++sq t.mask h n :: t.place.toList.drop (SetTable.below t.place (sq t.mask h n)):=insert_list _ _ _ hp
 have hm:(t.put (sq t.mask h n)).1.mask=t.mask:=rfl
 have hlen:=q.len
 have up:∀j,j∈t.place.toList->j∈(t.put (sq t.mask h n)).1.place.toList:=fun j hj=>by
  rw [e]
  rw [<- List.take_append_drop (SetTable.below t.place (sq t.mask h n)) t.place.toList]at hj
  rcases List.mem_append.mp hj with hj | hj
  ·exact List.mem_append_left _ hj
  ·exact List.mem_append_right _ (List.mem_cons_of_mem _ hj)
 have dn:∀j,j∈(t.put (sq t.mask h n)).1.place.toList->j=sq t.mask h n\/j∈t.place.toList:=fun j hj=>by
  rw [e]at hj
  rcases List.mem_append.mp hj with hj | hj
  ·exact .inr (List.mem_of_mem_take hj)
  ·rcases List.mem_cons.mp hj with hj | hj
   ·exact .inl hj
   ·exact .inr (List.mem_of_mem_drop hj)
 refine⟨q.msk,?_,fun j hj=>?_,fun z hz=>?_⟩
 ·rw [<- Array.length_toList,e]
  simp only [List.length_append,List.length_cons,List.length_take,List.length_drop,Array.length_toList]
  omega
 ·rcases dn j hj with rfl | hj
  ·exact sq_mask _ _ _
  ·exact q.le j hj
 ·rw [e,zip_insert _ _ _ _ _ (by rw [Array.length_toList];exact hlen)]at hz
  rw [hm]
  have old:z∈t.place.toList.zip hs->∃n',sq t.mask z.2 n'=z.1/\∀m,m < n'->sq t.mask z.2 m∈(t.put (sq t.mask h n)).1.place.toList:=fun hz=>by
   obtain⟨n',a,b⟩:=q.path z hz
   exact⟨n',a,fun m hm'=>up _ (b m hm')⟩
  rcases List.mem_append.mp hz with hz | hz
  ·exact old (List.mem_of_mem_take hz)
  ·rcases List.mem_cons.mp hz with rfl | hz
   ·exact⟨n,rfl,fun m hm'=>up _ (ho m hm')⟩
   ·exact old (List.mem_of_mem_drop hz)
theorem tab_room{t:SetTable}{led:Bool}{hs:List Int}(q:TabQ t hs)(T:TblOk t led)(hl:hs.length<=t.mask):∃x,x<=t.mask/\x∉t.place.toList:=by
 refine Classical.byContradiction fun z=>?_
 have:=sub_len2 (ys:=t.place.toList) (List.nodup_range (n:=t.mask+1)) fun x hx=>Classical.byContradiction fun y=>z ⟨x,by have:=List.mem_range.mp hx;omega,y⟩
 rw [List.length_range,Array.length_toList,q.len]at this
 omega
theorem probe_ok{t:SetTable}{led:Bool}(T:TblOk t led){hashAt:Nat->Int}{h:Int}{e:Nat}(he:sq t.mask h e∉t.place.toList)(hb:∀m,m < e->sq t.mask h m∈t.place.toList):∀(f n:Nat),n<=e->e < n+f ->
  (SetTable.probe.go t hashAt h f (pAt t.mask h n)=some (.empty (sq t.mask h e) none)/\∀m i,n<=m->m < e->t.place[i]?=some (sq t.mask h m)->hashAt i≠h) \/
  ∃k i,n<=k/\k < e/\t.place[i]?=some (sq t.mask h k)/\hashAt i=h/\SetTable.probe.go t hashAt h f (pAt t.mask h n)=some (.candidate (sq t.mask h k) i (pAt t.mask h (k+1)))/\∀m i,n<=m->m < k->t.place[i]?=some (sq t.mask h m)->hashAt i≠h
 | 0,n,h1,h2=>by omega
 | f+1,n,h1,h2=>by
  rw [SetTable.probe.go]
  have uniq:∀{i i' j:Nat},t.place[i]?=some j->t.place[i']?=some j->i=i':=fun a b=>(below_at T.rise a).symm.trans (below_at T.rise b)
  rcases Nat.eq_or_lt_of_le h1 with rfl | h1
  ·rw [show t.slot (pAt t.mask h n).j=.empty from slot_out T he]
   dsimp only
   rw [pAt_dummy]
   exact .inl ⟨rfl,fun m i a b=>by omega⟩
  ·obtain⟨i,hi,hp⟩:=slot_in T (hb n h1)
   rw [show t.slot (pAt t.mask h n).j=.live i from hi]
   dsimp only
   by_cases c:hashAt i=h
   ·rw [if_pos (by simpa using c)]
    exact .inr ⟨n,i,Nat.le_refl _,h1,hp,c,rfl,fun m i a b=>by omega⟩
   ·rw [if_neg (by simpa using c),advM_eq]
    have hnx:∀i',t.place[i']?=some (sq t.mask h n)->hashAt i'≠h:=fun i' hi'=>by rw [uniq hi' hp];exact c
    rcases probe_ok T he hb f (n+1) h1 (by omega) with⟨a,b⟩ | ⟨k,i',a1,a2,a3,a4,a5,a6⟩
    ·refine .inl ⟨a,fun m i' m1 m2 m3=>?_⟩
     rcases Nat.eq_or_lt_of_le m1 with rfl | m1
     ·exact hnx i' m3
     ·exact b m i' m1 m2 m3
    ·refine .inr ⟨k,i',by omega,a2,a3,a4,a5,fun m i'' m1 m2 m3=>?_⟩
     rcases Nat.eq_or_lt_of_le m1 with rfl | m1
     ·exact hnx i'' m3
     ·exact a6 m i'' m1 m2 m3
end L2
namespace L2
open PySem
section
variable {prog:Program}{w:World}
theorem cls_ok:∀(n q:Nat) (d:PyData) (u:Value) (as:List Addr) (A:Around) (E:Value->Shared->Prop) (s:Shared) (Q:Bool->Shared->Prop),d.depth<=n->n < q->Cano d=true->Reads s.heap u d as->Q false s->wpAny (model prog w) A (ofAClassStatement q u) Q E s:=by
 intro n
 induction n with
 | zero =>
  intro q d u as A E s Q hd hq hc hr h
  cases hr with
  | int i t=>unfold ofAClassStatement;exact wpAny_pure h
  | str x t=>unfold ofAClassStatement;exact wpAny_pure h
  | tuple a1 a2 a3 a4=>simp [PyData.depth]at hd
  | none=>simp [Cano]at hc
  | bool b=>simp [Cano]at hc
  | list a1 a2 a3 a4=>simp [Cano]at hc
  | dict a1 a2 a3 a4 a5=>simp [Cano]at hc
 | succ n ih =>
  intro q d u as A E s Q hd hq hc hr h
  cases hr with
  | int i t=>unfold ofAClassStatement;exact wpAny_pure h
  | str x t=>unfold ofAClassStatement;exact wpAny_pure h
  | none=>simp [Cano]at hc
  | bool b=>simp [Cano]at hc
  | list a1 a2 a3 a4=>simp [Cano]at hc
  | dict a1 a2 a3 a4 a5=>simp [Cano]at hc
  | @tuple a o items m ds as ho hcl hdt hi =>
   have hT:s.TypeIs (.ref a) "tuple" := ⟨o,ho,hcl⟩
   have hd':PyData.depthAll ds<=n:=by simp only [PyData.depth]at hd;omega
   have hc':CanoAll ds=true:=hc
   obtain⟨q',rfl⟩:∃q',q=q'+1:=⟨q - 1,by omega⟩
   unfold ofAClassStatement
   refine wpAny_bind (wpAny_typeOf hT ?_)
   dsimp only
   rw [if_pos (by decide:("tuple" == "tuple")=true)]
   refine wpAny_bind (wpAny_pure ?_)
   simp only [Bool.not_true,Bool.false_eq_true,if_false]
   refine wpAny_bind (wpAny_seqItems ho hdt ?_)
   dsimp only
   refine wpAny_bind (show wpAny _ _ (forIn items _ _) _ _ s from ?_)
   rw [<- Array.forIn_toList]
   refine wpAny_forIn_list _ (fun rest r s'=>r.1=none/\s'=s/\∃lf bs,ReadsAll s.heap rest lf bs/\CanoAll lf=true/\PyData.depthAll lf<=n) _ ?_ ?_ _ _ ⟨rfl,rfl,ds,as,hi,hc',hd'⟩
   ·rintro v rest r s' ⟨hr,rfl,lf,bs,hl,hcl,hdl⟩
    cases hl with
    | @cons _ _ d ds' as1 bs1 h1 hl' =>
     simp only [CanoAll,Bool.and_eq_true]at hcl
     simp only [PyData.depthAll]at hdl
     refine wpAny_bind (ih q' d v as1 A _ s' _ (by omega) (by omega) hcl.1 h1 ?_)
     simp only [Bool.false_eq_true,if_false]
     exact wpAny_pure ⟨rfl,rfl,ds',bs1,hl',hcl.2,by omega⟩
   ·rintro⟨r1,r2⟩ s' ⟨hr,rfl,_⟩
    simp only at hr
    subst hr
    exact wpAny_pure h
theorem byv_ok:∀(n q:Nat) (d:PyData) (u:Value) (as:List Addr) (A:Around) (E:Value->Shared->Prop) (s:Shared) (Q:Bool->Shared->Prop),d.depth<=n->Cano d=true->Reads s.heap u d as->(∀b,Q b s)->wpAny (model prog w) A (hashByValue q u) Q E s:=by
 intro n
 induction n with
 | zero =>
  intro q d u as A E s Q hd hc hr h
  cases hr with
  | int i t=>unfold hashByValue;exact wpAny_pure (h _)
  | str x t=>unfold hashByValue;exact wpAny_pure (h _)
  | tuple a1 a2 a3 a4=>simp [PyData.depth]at hd
  | none=>simp [Cano]at hc
  | bool b=>simp [Cano]at hc
  | list a1 a2 a3 a4=>simp [Cano]at hc
  | dict a1 a2 a3 a4 a5=>simp [Cano]at hc
 | succ n ih =>
  intro q d u as A E s Q hd hc hr h
  cases hr with
  | int i t=>unfold hashByValue;exact wpAny_pure (h _)
  | str x t=>unfold hashByValue;exact wpAny_pure (h _)
  | none=>simp [Cano]at hc
  | bool b=>simp [Cano]at hc
  | list a1 a2 a3 a4=>simp [Cano]at hc
  | dict a1 a2 a3 a4 a5=>simp [Cano]at hc
  | @tuple a o items m ds as ho hcl hdt hi =>
   have hT:s.TypeIs (.ref a) "tuple" := ⟨o,ho,hcl⟩
   have hd':PyData.depthAll ds<=n:=by simp only [PyData.depth]at hd;omega
   have hc':CanoAll ds=true:=hc
   cases q with
   | zero=>unfold hashByValue;exact wpAny_pure (h _)
   | succ q' =>
    unfold hashByValue
    refine wpAny_bind (wpAny_specialOf hT F.slot_tuple_hash.lookup (show wpAny _ _ (seqItems? (.ref a) >>= _) _ _ s from ?_))
    refine wpAny_bind (wpAny_seqItems ho hdt (wpAny_bind (show wpAny _ _ (forIn items _ _) _ _ s from ?_)))
    rw [<- Array.forIn_toList]
    refine wpAny_forIn_list _ (fun rest r s'=>r.1=none/\s'=s/\∃lf bs,ReadsAll s.heap rest lf bs/\CanoAll lf=true/\PyData.depthAll lf<=n) _ ?_ ?_ _ _ ⟨rfl,rfl,ds,as,hi,hc',hd'⟩
    ·rintro v rest r s' ⟨hr,rfl,lf,bs,hl,hcl,hdl⟩
     cases hl with
     | @cons _ _ d ds' as1 bs1 h1 hl' =>
      simp only [CanoAll,Bool.and_eq_true]at hcl
      simp only [PyData.depthAll]at hdl
      refine wpAny_bind (ih q' d v as1 A _ s' _ (by omega) hcl.1 h1 fun b=>?_)
      cases b
      ·exact wpAny_pure (wpAny_pure (h _))
      ·exact wpAny_pure ⟨rfl,rfl,ds',bs1,hl',hcl.2,by omega⟩
    ·rintro⟨r1,r2⟩ s' ⟨hr,rfl,_⟩
     simp only at hr
     subst hr
     exact wpAny_pure (h _)
def TrAt(h:Heap)(d:PyData)(b:Addr):Prop:=KeyTree d/\∃as,Reads h (.ref b) d as
variable {A:Around}{E:Value->Shared->Prop}{s:Shared}
theorem seen_ok{d:PyData}{b:Addr}(hx:TrAt s.heap d b):∀{vs:List Value} {Q:Bool->Shared->Prop},(∀v∈vs,∃e c,v=.ref c/\TrAt s.heap e c)->Q false s->wpAny (model prog w) A (searchCouldBeSeen (.ref b) vs) Q E s:=by
 intro vs Q hv h
 obtain⟨kx,as,rx⟩:=hx
 unfold searchCouldBeSeen
 refine wpAny_bind (wpAny_forIn_list _ (fun rest r s'=>r.1=none/\s'=s/\∀v∈rest,∃e c,v=.ref c/\TrAt s.heap e c) _ ?_ ?_ _ _ ⟨rfl,rfl,hv⟩)
 ·rintro v rest ⟨r1,r2⟩ s' ⟨hr,rfl,hv'⟩
  obtain⟨e,c,rfl,ke,bs,re⟩:=hv' v (.head _)
  have hrest:∀v∈rest,∃e c,v=.ref c/\TrAt s'.heap e c:=fun v h=>hv' v (.tail _ h)
  dsimp only
  split
  ·exact wpAny_pure ⟨rfl,rfl,hrest⟩
  ·refine wpAny_bind (quiet_ok 6 8 _ _ as _ _ _ _ kx.dep (by decide) kx.can rx ?_)
   simp only [Bool.not_true,Bool.false_eq_true,if_false]
   refine wpAny_bind (quiet_ok 6 8 _ _ bs _ _ _ _ ke.dep (by decide) ke.can re ?_)
   simp only [Bool.not_true,Bool.false_eq_true,if_false]
   refine wpAny_bind (cls_ok 6 8 _ _ as _ _ _ _ kx.dep (by decide) kx.can rx ?_)
   simp only [Bool.false_eq_true,if_false]
   refine wpAny_bind (cls_ok 6 8 _ _ bs _ _ _ _ ke.dep (by decide) ke.can re ?_)
   simp only [Bool.false_eq_true,if_false]
   exact wpAny_pure ⟨rfl,rfl,hrest⟩
 ·rintro⟨r1,r2⟩ s' ⟨hr,rfl,_⟩
  simp only at hr
  subst hr
  exact wpAny_pure h
def entT(w:World)(x:PyData×Addr):Int×Value:=(hashD w x.1,.ref x.2)
def SetT(w:World)(h:Heap)(a:Addr)(xs:List (PyData×Addr))(led:Bool):Prop :=
 ∃o es ep t,h.get? a=some o/\o.ExactSet/\o.data=.set es ep t/\es.toList=xs.map (entT w)/\(∀x∈xs,TrAt h x.1 x.2)/\t.fits es.size=true/\TblOk t led/\TabQ t (xs.map fun x=>hashD w x.1)/\xs.length * 5 < t.mask * 3
theorem probe_hash{t:SetTable}{f g:Nat->Int}{h:Int}{p:SetTable.Probe}(e:∀i,f i=g i):t.probe f h p=t.probe g h p:=by rw [funext e]
theorem gave_no{t:SetTable}{hs:List Int}(q:TabQ t hs):t.gaveWay=false:=by
 unfold SetTable.gaveWay
 rcases q.msk with h | h | h | h <;> rw [h] <;> decide
theorem search_ok{a:Addr}{o:Obj}{es:Array (Int×Value)}{ep:Nat}{t:SetTable}{xs:List (PyData×Addr)}{led:Bool}{d:PyData}{b:Addr}{Q:SetFound->Shared->Prop}{fr:Nat}(hu:A.units+6 < cLine)(ho:s.heap.get? a=some o)(hd:o.data=.set es ep t)(hl:es.toList=xs.map (entT w))(hX:∀x∈xs,TrAt s.heap x.1 x.2)(hf:t.fits es.size=true)(hT:TblOk t led)(hQ:TabQ t (xs.map fun x=>hashD w x.1))(hx:TrAt s.heap d b)
  (he:sq t.mask (hashD w d) fr∉t.place.toList) (hb:∀m,m < fr->sq t.mask (hashD w d) m∈t.place.toList) (hfr:fr < 10 * SetTable.turns t.mask)
  (h1:d∈xs.map (·.1)->Q (.there none) s) (h2:d∉xs.map (·.1)->Q (.free (sq t.mask (hashD w d) fr) false) s) :
  ∀(k n fuel:Nat) (stand:Option SetTable.Probe),n+k=fr->k < fuel->(stand=some (pAt t.mask (hashD w d) n)\/stand=none/\n=0)->(∀(m i:Nat) (x:PyData×Addr),m < n->t.place[i]?=some (sq t.mask (hashD w d) m)->xs[i]?=some x->x.1≠d) ->
   wpAny (model prog w) A (setSearchFrom a (.ref b) (hashD w d) true fuel stand) Q E s:=by
 intro k
 induction k using Nat.strongRecOn with
 | _ k ih =>
 intro n fuel stand hn hfu hst hpass
 obtain⟨fuel,rfl⟩:∃f,fuel=f+1:=⟨fuel - 1,by omega⟩
 have hei:∀{i:Nat} {x:PyData×Addr},xs[i]?=some x->es[i]?=some (entT w x):=fun {i x} h=>by
  rw [<- Array.getElem?_toList,hl,List.getElem?_map,h];rfl
 have hxi:∀{i j:Nat},t.place[i]?=some j->∃x,xs[i]?=some x:=fun {i j} h=>by
  have hi:=(Array.getElem?_eq_some_iff.mp h).1
  have:=hQ.len
  rw [List.length_map]at this
  exact⟨_,List.getElem?_eq_getElem (by omega)⟩
 unfold setSearchFrom
 refine wpAny_bind (wpAny_setState_of ho hd hf ?_)
 dsimp only
 rw [gave_no hQ,if_neg Bool.false_ne_true]
 have hst':stand.getD (t.probeStart (hashD w d))=pAt t.mask (hashD w d) n:=by
  rcases hst with rfl | ⟨rfl,rfl⟩
  ·rfl
  ·rfl
 rw [hst',probe_hash (g:=fun i=>((xs.map fun x=>hashD w x.1)[i]?).getD 0) ?_]
 ·have key:=probe_ok (hashAt:=fun i=>((xs.map fun x=>hashD w x.1)[i]?).getD 0) hT he hb (10 * SetTable.turns t.mask) n (by omega) (by omega)
  rcases key with⟨a1,a2⟩ | ⟨k',i,b1,b2,b3,b4,b5,b6⟩
  ·rw [show t.probe (fun i=>((xs.map fun x=>hashD w x.1)[i]?).getD 0) (hashD w d) (pAt t.mask (hashD w d) n)=_ from a1]
   dsimp only
   refine wpAny_pure (h2 fun hin=>?_)
   obtain⟨x,hxm,rfl⟩:=List.mem_map.mp hin
   obtain⟨i,hi⟩:=List.getElem?_of_mem hxm
   have hil:i < t.place.size:=by
    have:=hQ.len
    have:=(List.getElem?_eq_some_iff.mp hi).1
    rw [List.length_map]at *
    omega
   have hpi:t.place[i]?=some t.place[i]:=Array.getElem?_eq_getElem hil
   obtain⟨n',e1,e2⟩:=hQ.path (t.place[i],hashD w x.1) (List.mem_of_getElem? (i:=i) (by
    rw [List.getElem?_zip_eq_some]
    exact⟨by rw [Array.getElem?_toList];exact hpi,by rw [List.getElem?_map,hi];rfl⟩))
   dsimp only at e1 e2
   have hlt:n' < fr:=by
    rcases Nat.lt_trichotomy n' fr with c | c | c
    ·exact c
    ·subst c
     rw [e1]at he
     exact absurd (by rw [<- Array.getElem?_toList]at hpi;exact List.mem_of_getElem? hpi) he
    ·exact absurd (e2 fr c) he
   rw [<- e1]at hpi
   rcases Nat.lt_or_ge n' n with c | c
   ·exact hpass n' i x c hpi hi rfl
   ·exact a2 n' i c hlt hpi (by rw [List.getElem?_map,hi];rfl)
  ·rw [show t.probe (fun i=>((xs.map fun x=>hashD w x.1)[i]?).getD 0) (hashD w d) (pAt t.mask (hashD w d) n)=_ from b5]
   obtain⟨x,hi⟩:=hxi b3
   have hxm:=List.mem_of_getElem? hi
   dsimp only
   rw [hei hi]
   dsimp only [entT]
   split
   ·refine wpAny_bind (seen_ok hx (fun v hv=>?_) ?_)
    ·obtain⟨e,he',rfl⟩:=List.mem_map.mp hv
     have hm:=(Array.mem_filter.mp (Array.mem_toList_iff.mp he')).1
     rw [<- Array.mem_toList_iff,hl]at hm
     obtain⟨y,hy,rfl⟩:=List.mem_map.mp hm
     exact⟨y.1,y.2,rfl,hX y hy⟩
    rw [if_neg Bool.false_ne_true]
    refine wpAny_bind (wpAny_holding ((dataKind prog w).eqBool hu (hX x hxm) hx ?_))
    refine wpAny_bind (wpAny_setState_of ho hd hf ?_)
    dsimp only
    by_cases ceq:x.1=d
    ·rw [decide_eq_true ceq,if_pos (by rfl)]
     exact wpAny_pure (h1 (List.mem_map.mpr ⟨x,hxm,ceq⟩))
    ·rw [decide_eq_false ceq,if_neg (by decide),show t.sameMemory t.moves t.mask=some true by unfold SetTable.sameMemory;rw [if_pos (by simp)]]
     dsimp only
     obtain⟨i2,hs2,hp2⟩:=slot_in hT (hb k' b2)
     have hi2:i2=i:=(below_at hT.rise hp2).symm.trans (below_at hT.rise b3)
     subst hi2
     rw [if_pos rfl,hs2]
     dsimp only
     rw [hei hi]
     dsimp only [entT]
     refine wpAny_bind (wpAny_isSame_ref_self (wpAny_bind (wpAny_pure ?_)))
     show wpAny _ _ (if false=true then _ else setSearchFrom a (.ref b) (hashD w d) true fuel (some (pAt t.mask (hashD w d) (k'+1)))) _ _ _
     rw [if_neg Bool.false_ne_true]
     refine ih (fr - (k'+1)) (by omega) (k'+1) fuel _ (by omega) (by omega) (.inl rfl) fun m i3 y hm h3 h4=>?_
     rcases Nat.lt_or_ge m n with c | c
     ·exact hpass m i3 y c h3 h4
     ·rcases Nat.lt_or_ge m k' with c2 | c2
      ·intro e5
       refine b6 m i3 c c2 h3 ?_
       rw [List.getElem?_map,h4,<- e5];rfl
      ·have e6:m=k':=by omega
       subst e6
       have e7:i3=i2:=(below_at hT.rise h3).symm.trans (below_at hT.rise b3)
       subst e7
       rw [hi]at h4
       cases h4
       exact ceq
   ·refine wpAny_bind (wpAny_holding ((dataKind prog w).eqBool hu (hX x hxm) hx ?_))
    refine wpAny_bind (wpAny_setState_of ho hd hf ?_)
    dsimp only
    by_cases ceq:x.1=d
    ·rw [decide_eq_true ceq,if_pos (by rfl)]
     exact wpAny_pure (h1 (List.mem_map.mpr ⟨x,hxm,ceq⟩))
    ·rw [decide_eq_false ceq,if_neg (by decide),show t.sameMemory t.moves t.mask=some true by unfold SetTable.sameMemory;rw [if_pos (by simp)]]
     dsimp only
     obtain⟨i2,hs2,hp2⟩:=slot_in hT (hb k' b2)
     have hi2:i2=i:=(below_at hT.rise hp2).symm.trans (below_at hT.rise b3)
     subst hi2
     rw [if_pos rfl,hs2]
     dsimp only
     rw [hei hi]
     dsimp only [entT]
     refine wpAny_bind (wpAny_isSame_ref_self (wpAny_bind (wpAny_pure ?_)))
     show wpAny _ _ (if false=true then _ else setSearchFrom a (.ref b) (hashD w d) true fuel (some (pAt t.mask (hashD w d) (k'+1)))) _ _ _
     rw [if_neg Bool.false_ne_true]
     refine ih (fr - (k'+1)) (by omega) (k'+1) fuel _ (by omega) (by omega) (.inl rfl) fun m i3 y hm h3 h4=>?_
     rcases Nat.lt_or_ge m n with c | c
     ·exact hpass m i3 y c h3 h4
     ·rcases Nat.lt_or_ge m k' with c2 | c2
      ·intro e5
       refine b6 m i3 c c2 h3 ?_
       rw [List.getElem?_map,h4,<- e5];rfl
      ·have e6:m=k':=by omega
       subst e6
       have e7:i3=i2:=(below_at hT.rise h3).symm.trans (below_at hT.rise b3)
       subst e7
       rw [hi]at h4
       cases h4
       exact ceq
 ·intro i
  show(es[i]?.map (·.1)).getD 0=_
  rw [<- Array.getElem?_toList,hl,List.getElem?_map,List.getElem?_map]
  cases xs[i]? <;> rfl
theorem TrAt.but{h h':Heap}{p:Addr}{d:PyData}{b:Addr}(x:TrAt h d b)(hk:∀c o,c≠p->h.get? c=some o->h'.get? c=some o)(hp:∀o vs n,h.get? p=some o->o.data≠.seq vs n):TrAt h' d b:=let⟨k,as,r⟩:=x;⟨k,as,reads_but hk hp r k.can⟩
theorem setT_store{a:Addr}{led:Bool}{h:Heap}{o:Obj}{es:Array (Int×Value)}{ep:Nat}{t:SetTable}(ho:h.get? a=some o)(hex:o.ExactSet)(hd:o.data=.set es ep t){es':Array (Int×Value)}{t':SetTable}{xs':List (PyData×Addr)}(hl:es'.toList=xs'.map (entT w))(hX:∀x∈xs',TrAt h x.1 x.2)(hf:t'.fits es'.size=true)(hT:TblOk t' led)(hQ:TabQ t' (xs'.map fun x=>hashD w x.1)) :
  (h.update a (Obj.putSet es' t')).get? a=some { o with data:=.set es' (ep+1) t' }/\(∀x∈xs',TrAt (h.update a (Obj.putSet es' t')) x.1 x.2)/\(xs'.length * 5 < t'.mask * 3->SetT w (h.update a (Obj.putSet es' t')) a xs' led):=by
 have e:=Heap.get?_update_self (Obj.putSet es' t') ho (by rw [putSet_of es' t' hd];rfl)
 rw [putSet_of es' t' hd]at e
 have hX':∀x∈xs',TrAt (h.update a (Obj.putSet es' t')) x.1 x.2:=fun x hx=>(hX x hx).but (p:=a) (fun c o hc e=>((Heap.SameBut.update h a (Obj.putSet es' t')).2 c hc).trans e) (fun o' vs n e' q=>by rw [ho]at e';cases e';rw [hd]at q;cases q)
 exact⟨e,hX',fun hB=>⟨_,es',ep+1,t',e,hex,rfl,hl,hX',hf,hT,hQ,hB⟩⟩
theorem range_pick{α:Type}:∀(ys pre:List α),(List.range' pre.length ys.length).filterMap (fun i=>(pre++ys)[i]?)=ys
 | [],pre=>rfl
 | y :: ys,pre=>by
  have:=range_pick ys (pre++[y])
  rw [List.length_append,List.append_assoc]at this
  rw [List.length_cons,List.range'_succ,List.filterMap_cons,List.getElem?_append_right (Nat.le_refl _),Nat.sub_self]
  show y :: _=_
  exact congrArg (y :: ·) this
theorem pick_perm2{α:Type}{xs:List α}{l:List Nat}(hp:l.Perm (List.range xs.length)):(l.filterMap fun i=>xs[i]?).Perm xs:=by
 have h1:=hp.filterMap fun i=>xs[i]?
 have h2:=range_pick xs []
 rw [List.nil_append,List.length_nil,<- List.range_eq_range']at h2
 rwa [h2]at h1
theorem pick_hash{xs:List (PyData×Addr)}{hs:Array Int}(hh:hs.toList=xs.map fun x=>hashD w x.1):∀(l:List Nat),(∀i∈l,i < xs.length)->(l.map fun i=>hs.getD i 0)=(l.filterMap fun i=>xs[i]?).map fun x=>hashD w x.1
 | [],_=>rfl
 | i :: l,hl=>by
  have hi:=hl i (.head _)
  have e:xs[i]?=some xs[i]:=List.getElem?_eq_getElem hi
  rw [List.map_cons,List.filterMap_cons,e,List.map_cons,pick_hash hh l fun j hj=>hl j (.tail _ hj)]
  rw [Array.getD_eq_getD_getElem?,<- Array.getElem?_toList,hh,List.getElem?_map,e];rfl
theorem relay_ok{a:Addr}{led:Bool}{o:Obj}{es:Array (Int×Value)}{ep:Nat}{t:SetTable}{xs:List (PyData×Addr)}{wanted:Nat}{Q:Unit->Shared->Prop}(ho:s.heap.get? a=some o)(hex:o.ExactSet)(hd:o.data=.set es ep t)(hl:es.toList=xs.map (entT w))(hX:∀x∈xs,TrAt s.heap x.1 x.2)(hf:t.fits es.size=true)(hT:TblOk t led)
  (hm:Msk (SetTable.sizeAbove wanted - 1)) (hz:SetTable.sizeAbove wanted<=sizeLine) (hn:xs.length * 5 < (SetTable.sizeAbove wanted - 1) * 3)
  (h:∀h' xs',Heap.SameBut a s.heap h'->SetT w h' a xs' led->xs'.Perm xs->Q () { s with heap:=h' }):wpAny (model prog w) A (setRelay a wanted) Q E s:=by
 have hes:es.size=xs.length:=by rw [<- Array.length_toList,hl,List.length_map]
 have hhs:(es.map (·.1)).toList=xs.map fun x=>hashD w x.1:=by rw [Array.toList_map,hl,List.map_map];rfl
 obtain⟨t',order,e1,e2,e3,e4⟩:=laid_ok (f:=t.finger) (mv:=t.movedTo (SetTable.sizeAbove wanted - 1)) (led:=t.led) (pl:=t.plain) hm (es.map (·.1)) (by rw [Array.size_map,hes];omega)
 rw [Array.size_map,hes]at e3
 have hT':TblOk t' led:=by have:=TblOk.laid e1;rw [hT.led]at this;exact this
 have hlt:∀i∈order.toList,i < xs.length:=fun i hi=>List.mem_range.mp (e3.mem_iff.mp hi)
 rw [pick_hash hhs order.toList hlt]at e4
 have hxp:=pick_perm2 e3
 have hes':(order.filterMap fun i=>es[i]?).toList=(order.toList.filterMap fun i=>xs[i]?).map (entT w):=by
  rw [Array.toList_filterMap,List.map_filterMap]
  congr 1
  funext i
  rw [<- Array.getElem?_toList,hl,List.getElem?_map]
 have hsz':(order.filterMap fun i=>es[i]?).size=es.size:=by rw [<- Array.length_toList,hes',List.length_map,hxp.length_eq,hes]
 unfold setRelay
 refine wpAny_bind (wpAny_setState_of ho hd hf (show wpAny _ _ _ _ _ _ from ?_))
 dsimp only
 rw [if_neg (Nat.not_lt.mpr hz),show t.relaid (es.map (·.1)) wanted=some (t',order) from e1]
 refine wpAny_bind (show wpAny _ _ (if((order.filterMap fun i=>es[i]?).size != es.size)=true then _ else pure (order.filterMap fun i=>es[i]?,t')) _ _ _ from ?_)
 rw [if_neg (by rw [hsz'];simp)]
 refine wpAny_pure (show wpAny _ _ (storeSet a (order.filterMap fun i=>es[i]?) t') _ _ _ from ?_)
 generalize (order.filterMap fun i=>es[i]?)=es2 at hes' hsz'
 generalize (order.toList.filterMap fun i=>xs[i]?)=xs2 at hes' hxp e4
 have hl2:=hxp.length_eq
 have hf2:t'.fits es2.size=true:=by
  have:=e4.len
  rw [List.length_map]at this
  simp only [SetTable.fits,SetTable.fill,hT'.dum,Bool.and_eq_true,beq_iff_eq,decide_eq_true_eq]
  rw [e2,hsz']
  refine⟨by omega,?_⟩
  show t'.place.size+0<=_
  omega
 obtain⟨g1,g2,g3⟩:=setT_store (led:=led) ho hex hd hes' (fun x hx=>hX x (hxp.mem_iff.mp hx)) hf2 hT' e4
 exact wpAny_storeSet_of ho hd (h _ _ (Heap.SameBut.update _ _ _) (g3 (by rw [e2];omega)) hxp) (by rw [hsz',hes];have:sizeLine=16777216:=rfl;omega)
theorem TabQ.pln{t:SetTable}{hs:List Int}(q:TabQ t hs)(b:Bool):TabQ { t with plain:=b } hs:=⟨q.msk,q.len,q.le,q.path⟩
theorem add_tree{a:Addr}{led:Bool}{xs:List (PyData×Addr)}{d:PyData}{b:Addr}{Q:Bool->Shared->Prop}(hu:A.units+6 < cLine)(hx:TrAt s.heap d b)(hS:SetT w s.heap a xs led)(hn:xs.length < 305)
  (h1:d∈xs.map (·.1)->Q false s) (h2:d∉xs.map (·.1)->∀h' xs',Heap.SameBut a s.heap h'->SetT w h' a xs' led->xs'.Perm ((d,b) :: xs)->Q true { s with heap:=h' }) :
  wpAny (model prog w) A (setAddHashed a (.ref b) (hashD w d)) Q E s:=by
 obtain⟨o,es,ep,t,ho,hex,hd,hl,hX,hf,hT,hQ,hB⟩:=hS
 have hes:es.size=xs.length:=by rw [<- Array.length_toList,hl,List.length_map]
 have hpl:t.place.size=xs.length:=by have:=hQ.len;rwa [List.length_map]at this
 obtain⟨x0,hx1,hx2⟩:=tab_room hQ hT (by rw [List.length_map];omega)
 obtain⟨fr,f1,f2,f3⟩:=first_free hQ.msk (hashD w d) (fun j=>j∈t.place.toList) hx1 hx2
 unfold setAddHashed setAddHashedIn
 refine wpAny_holding (wpAny_bind (wpAny_setState_of ho hd hf (show wpAny _ _ _ _ _ _ from ?_)))
 dsimp only
 rw [show byScan (.ref b) es=false from rfl,if_neg Bool.false_ne_true]
 unfold setSearch
 refine wpAny_bind (search_ok hu ho hd hl hX hf hT hQ hx f2 f3 f1 (fun hin=>?_) (fun hni=>?_) fr 0 100000 none (by omega) ?_ (.inr ⟨rfl,rfl⟩) (fun m i x hm=>absurd hm (Nat.not_lt_zero _)))
 ·exact wpAny_pure (h1 hin)
 ·dsimp only
  refine wpAny_bind (wpAny_setState_of ho hd hf ?_)
  dsimp only
  have hp:SetTable.below t.place (sq t.mask (hashD w d) fr)<=t.place.size:=(below_ok hT.rise _).1
  have hQ1:=hQ.put (h:=hashD w d) (n:=fr) hT f3
  have hT1:=hT.put (slot_empty hT (slot_out hT f2))
  have e2:(t.put (sq t.mask (hashD w d) fr)).2=SetTable.below t.place (sq t.mask (hashD w d) fr):=rfl
  have e3:(t.put (sq t.mask (hashD w d) fr)).1.mask=t.mask:=rfl
  rw [e2]
  have hsz:(t.put (sq t.mask (hashD w d) fr)).1.place.size=xs.length+1:=by
   have:=hQ1.len
   rw [this]
   simp only [List.length_append,List.length_cons,List.length_take,List.length_drop,List.length_map]
   omega
  generalize hpp:SetTable.below t.place (sq t.mask (hashD w d) fr)=p at hp hQ1 ⊢
  generalize (t.put (sq t.mask (hashD w d) fr)).1=t1 at hQ1 hT1 e3 hsz ⊢
  have hl1:(SetTable.insertAt es p (hashD w d,.ref b)).toList=(xs.take p++(d,b) :: xs.drop p).map (entT w):=by
   rw [insert_list _ _ _ (by omega),hl,List.map_append,List.map_cons,List.map_take,List.map_drop];rfl
  have hQ2:TabQ t1 ((xs.take p++(d,b) :: xs.drop p).map fun x=>hashD w x.1):=by
   rw [List.map_append,List.map_cons,List.map_take,List.map_drop];exact hQ1
  have hperm:(xs.take p++(d,b) :: xs.drop p).Perm ((d,b) :: xs):=by
   refine List.perm_middle.trans ?_
   rw [List.take_append_drop]
  have hlen:=hperm.length_eq
  rw [List.length_cons]at hlen
  have hX1:∀x∈xs.take p++(d,b) :: xs.drop p,TrAt s.heap x.1 x.2:=fun x hx'=>by
   rcases List.mem_cons.mp (hperm.mem_iff.mp hx') with rfl | hx'
   ·exact hx
   ·exact hX x hx'
  have hsz1:(SetTable.insertAt es p (hashD w d,.ref b)).size=xs.length+1:=by rw [<- Array.length_toList,hl1,List.length_map,hlen]
  generalize SetTable.insertAt es p (hashD w d,.ref b)=es1 at hl1 hsz1 ⊢
  generalize xs.take p++(d,b) :: xs.drop p=xs1 at hl1 hQ2 hperm hlen hX1
  clear hpp hp hQ1 e2
  have hsl:sizeLine=16777216:=rfl
  have fin:∀t2:SetTable,t2.mask=t.mask->t2.place.size=xs.length+1->TblOk t2 led->TabQ t2 (xs1.map fun x=>hashD w x.1)->wpAny (model prog w) A (do
    storeSet a es1 t2
    if(!false && t2.tooFull)=true then do
     setRelay a (SetTable.grown (es.size+1))
     pure true
    else pure true) Q E s:=fun t2 g1 g2 g3 g4=>by
   have hf2:t2.fits es1.size=true:=by
    simp only [SetTable.fits,SetTable.fill,g3.dum,Bool.and_eq_true,beq_iff_eq,decide_eq_true_eq]
    refine⟨by omega,?_⟩
    show t2.place.size+0<=_
    rcases hQ.msk with c | c | c | c <;> omega
   obtain⟨k1,k2,k3⟩:=setT_store (led:=led) ho hex hd hl1 hX1 hf2 g3 g4
   have b1:=Heap.SameBut.update s.heap a (Obj.putSet es1 t2)
   refine wpAny_bind (wpAny_storeSet_of ho hd ?_ (by omega))
   have hfull:t2.tooFull=decide ((xs.length+1) * 5>=t.mask * 3):=by
    unfold SetTable.tooFull SetTable.fill
    rw [g1,g2,g3.dum];rfl
   by_cases c:(xs.length+1) * 5>=t.mask * 3
   ·rw [if_pos (by rw [hfull,decide_eq_true c];rfl)]
    have hcase:(t.mask=7/\es.size+1=5)\/(t.mask=31/\es.size+1=19)\/(t.mask=127/\es.size+1=77):=by
     rcases hQ.msk with q | q | q | q
     ·exact .inl ⟨q,by omega⟩
     ·exact .inr (.inl ⟨q,by omega⟩)
     ·exact .inr (.inr ⟨q,by omega⟩)
     ·omega
    have hw:Msk (SetTable.sizeAbove (SetTable.grown (es.size+1)) - 1)/\SetTable.sizeAbove (SetTable.grown (es.size+1))<=sizeLine/\xs1.length * 5 < (SetTable.sizeAbove (SetTable.grown (es.size+1)) - 1) * 3:=by
     rcases hcase with⟨_,q⟩ | ⟨_,q⟩ | ⟨_,q⟩
     ·rw [q,show SetTable.sizeAbove (SetTable.grown 5)=32 by decide +kernel]
      exact⟨.inr (.inl rfl),by omega,by omega⟩
     ·rw [q,show SetTable.sizeAbove (SetTable.grown 19)=128 by decide +kernel]
      exact⟨.inr (.inr (.inl rfl)),by omega,by omega⟩
     ·rw [q,show SetTable.sizeAbove (SetTable.grown 77)=512 by decide +kernel]
      exact⟨.inr (.inr (.inr rfl)),by omega,by omega⟩
    refine wpAny_bind (relay_ok (s:={ s with heap:=s.heap.update a (Obj.putSet es1 t2) }) (o:={ o with data:=.set es1 (ep+1) t2 }) k1 hex rfl hl1 k2 hf2 g3 hw.1 hw.2.1 hw.2.2 fun h' xs' c1 c2 c3=>wpAny_pure ?_)
    exact h2 hni h' xs' (b1.trans c1) c2 (c3.trans hperm)
   ·rw [if_neg (by rw [hfull,decide_eq_false c];decide)]
    exact wpAny_pure (h2 hni _ _ b1 (k3 (by rw [g1];omega)) hperm)
  split
  ·obtain⟨kx,as,rx⟩:=hx
   refine wpAny_bind (byv_ok 6 8 _ _ as _ _ _ _ kx.dep kx.can rx fun bv=>?_)
   cases bv
   ·exact fin _ e3 hsz (hT1.plain false) (hQ2.pln false)
   ·exact fin _ e3 hsz hT1 hQ2
  ·exact wpAny_bind (wpAny_pure (fin _ e3 hsz hT1 hQ2))
 ·have:SetTable.turns t.mask<=600:=by unfold SetTable.turns;rcases hQ.msk with c | c | c | c <;> omega
  omega
end
end L2
namespace L2
open PySem PySem.Spec PyProof.Rows
section
variable {prog:Program}{w:World}{A:Around}{R:Result->Shared->Prop}{sa it t:Addr}{led:Bool}
structure StepIt(prog:Program)(w:World)(it t:Addr)(items:Array Value)(St:Nat->Heap->Prop):Prop where
 item:∀{A:Around} {E:Value->Shared->Prop} {s:Shared} {i:Nat} {x:Value} {Q:Option Value->Shared->Prop},St i s.heap->items[i]?=some x->(∀h',St (i+1) h'->Heap.SameBut it s.heap h'->Q (some x) { s with heap:=h' })->wpAny (model prog w) A (pyNext (.ref it)) Q E s
 fin:∀{A:Around} {E:Value->Shared->Prop} {s:Shared} {i:Nat} {Q:Option Value->Shared->Prop},A.handled=none->St i s.heap->items[i]?=none->(∀h',Heap.ExtBut it s.heap h'->Q none { s with heap:=h' })->wpAny (model prog w) A (pyNext (.ref it)) Q E s
 keep:∀{i:Nat} {h h':Heap} {p:Addr},it≠p->t≠p->St i h->Heap.SameBut p h h'->St i h'
 noseq:∀{i:Nat} {h:Heap} {o:Obj} {vs:Array Value} {n:Nat},St i h->h.get? it=some o->o.data≠.seq vs n
theorem step_list{items:Array Value}(hit:t≠it):StepIt prog w it t items fun i h=>h.IsListIter it t i/\h.IsList t items where
 item:=fun st hx q=>wpAny_pyNext_list_item st.1 st.2 hx fun h' s1 sb=>q h' ⟨s1,let⟨o,e,r⟩:=st.2;⟨o,(sb.2 t hit).trans e,r⟩⟩ sb
 fin:=fun hh st hx q=>wpAny_pyNext_list_end hh st.1 st.2 hx q
 keep:=fun h1 h2 st sb=>⟨st.1.at fun o e=>(sb.2 it h1).trans e,let⟨o,e,r⟩:=st.2;⟨o,(sb.2 t h2).trans e,r⟩⟩
 noseq:=fun st e q=>by
  obtain⟨⟨o,e',c,d⟩,_⟩:=st
  rw [e]at e';cases e'
  rw [d]at q;cases q
theorem step_tuple{items:Array Value}(hit:t≠it):StepIt prog w it t items fun i h=>h.IsTupleIter it t i/\h.IsTuple t items where
 item:=fun st hx q=>wpAny_pyNext_tuple_item st.1 st.2 hx fun h' s1 sb=>q h' ⟨s1,st.2.at fun o e=>(sb.2 t hit).trans e⟩ sb
 fin:=fun hh st hx q=>wpAny_pyNext_tuple_end hh st.1 st.2 hx q
 keep:=fun h1 h2 st sb=>⟨st.1.at fun o e=>(sb.2 it h1).trans e,st.2.at fun o e=>(sb.2 t h2).trans e⟩
 noseq:=fun st e q=>by
  obtain⟨⟨o,e',c,d⟩,_⟩:=st
  rw [e]at e';cases e'
  rw [d]at q;cases q
theorem SetT.at{h h':Heap}{xs:List (PyData×Addr)}(x:SetT w h sa xs led)(hs:∀o,h.get? sa=some o->h'.get? sa=some o)(hX:∀x∈xs,TrAt h x.1 x.2->TrAt h' x.1 x.2):SetT w h' sa xs led:=by
 obtain⟨o,es,ep,tt,e,a1,a2,a3,a4,r⟩:=x
 exact⟨o,es,ep,tt,hs o e,a1,a2,a3,fun x hx=>hX x hx (a4 x hx),r⟩
theorem SetT.noseq{h:Heap}{xs:List (PyData×Addr)}(x:SetT w h sa xs led){o:Obj}{vs:Array Value}{n:Nat}(e:h.get? sa=some o):o.data≠.seq vs n:=fun q=>by
 obtain⟨o',es,ep,tt,e',_,a2,_⟩:=x
 rw [e]at e';cases e'
 rw [a2]at q;cases q
theorem tree_loop{St:Nat->Heap->Prop}{items:Array Value}(S:StepIt prog w it t items St)(hh:A.handled=none)(hu:A.units+20 < cLine)(hne:sa≠it)(hst:sa≠t){ks:List (PyData×Addr)}(hks:items.toList=ks.map fun x=>.ref x.2)(hsz:items.size < 304) :
  ∀(m i:Nat) (s:Shared) (xs:List (PyData×Addr)),m+i=items.size->St i s.heap->SetT w s.heap sa xs led->(∀x∈ks,TrAt s.heap x.1 x.2)->(xs.map (·.1)).Nodup->(∀d,d∈xs.map (·.1)↔d∈(ks.take i).map (·.1))->(∀x∈xs,x∈ks)->xs.length<=i ->
   (∀h' tk xs',(∀b o,b≠sa->b≠it->s.heap.get? b=some o->h'.get? b=some o)->SetT w h' sa xs' led->(xs'.map (·.1)).Nodup->(∀d,d∈xs'.map (·.1)↔d∈ks.map (·.1))->(∀x∈xs',x∈ks)->xs'.length<=items.size->R (.ok (.ret .none)) { s with heap:=h',toks:=tk }) ->
   codeAny (model prog w) A (.builtin "set.update.loop" ⟨[.ref sa,.ref it],[]⟩) R s:=by
 have hkl:ks.length=items.size:=by rw [<- Array.length_toList,hks,List.length_map]
 intro m
 induction m with
 | zero =>
  intro i s xs hm hI hS hX hN hd hin hl q
  refine codeAny_builtin ul_entry ?_
  rw [Around.under_plainId ul_plain _]
  refine(show wpAny _ A.in1 (pyNext (.ref it) >>= _) _ _ s from wpAny_bind (S.fin (show A.in1.handled=none from hh) hI (by rw [Array.getElem?_eq_none (by omega)]) fun h' hx=>?_))
  refine wpAny_pure (q h' s.toks xs (fun b o h1 h2 e=>hx b o h2 e) ?_ hN (fun d=>?_) hin (by omega))
  ·exact hS.at (fun o e=>hx sa o hne e) fun x _ tr=>tr.but (p:=it) (fun c o hc e=>hx c o hc e) fun o vs n e=>S.noseq hI e
  ·rw [hd d,List.take_of_length_le (by omega)]
 | succ m ih =>
  intro i s xs hm hI hS hX hN hd hin hl q
  have hi:i < items.size:=by omega
  have hki:i < ks.length:=by omega
  have hx:items[i]?=some (.ref ks[i].2):=by
   rw [<- Array.getElem?_toList,hks,List.getElem?_map,List.getElem?_eq_getElem hki];rfl
  have htk:∀d,d∈(ks.take (i+1)).map (·.1)↔d=ks[i].1\/d∈(ks.take i).map (·.1):=fun d=>by
   rw [List.take_succ,List.getElem?_eq_getElem hki,List.map_append,List.mem_append]
   simp only [Option.toList_some,List.map_cons,List.map_nil,List.mem_singleton]
   exact Or.comm
  have hkm:=List.getElem_mem hki
  generalize ks[i]=kx at hx htk hkm
  obtain⟨d0,b0⟩:=kx
  refine codeAny_builtin ul_entry ?_
  rw [Around.under_plainId ul_plain _]
  refine(show wpAny _ A.in1 (pyNext (.ref it) >>= _) _ _ s from wpAny_bind (S.item hI hx fun h1 st1 sb1=>?_))
  have tr1:∀{d:PyData} {b:Addr},TrAt s.heap d b->TrAt h1 d b:=fun tr=>tr.but (p:=it) (fun c o hc e=>(sb1.2 c hc).trans e) fun o vs n e=>S.noseq hI e
  have hS1:SetT w h1 sa xs led:=hS.at (fun o e=>(sb1.2 sa hne).trans e) fun x _ tr=>tr1 tr
  have hT0:TrAt h1 d0 b0:=tr1 (hX _ hkm)
  refine(show wpAny _ A.in1 (holding [.ref b0] (setAdd sa (.ref b0)) >>= _) _ _ _ from wpAny_bind (wpAny_holding ?_))
  unfold setAdd
  have hu1:A.in1.units+6 < cLine:=by show A.units+1+6 < cLine;omega
  refine wpAny_holding (wpAny_bind ((dataKind prog w).pyHash (s:={ s with heap:=h1 }) hu1 hT0 ?_))
  refine add_tree (s:={ s with heap:=h1,toks:=s.toks+drawsD d0 }) hu1 hT0 hS1 (by omega) (fun hex=>?_) (fun hno h2 xs' sb2 hS2 hp=>?_)
  ·refine wpAny_pure ⟨plainId_quiet ul_plain _,ih (i+1) _ xs (by omega) st1 hS1 (fun x hx'=>tr1 (hX x hx')) hN (fun d=>?_) hin (by omega) fun h' tk xs'' hkeep a1 a2 a3 a4 a5=>?_⟩
   ·rw [htk d,<- hd d]
    exact⟨.inr,fun h=>h.elim (fun e=>by rw [e];exact hex) id⟩
   ·exact q h' tk xs'' (fun b o b1 b2 e=>hkeep b o b1 b2 ((sb1.2 b b2).trans e)) a1 a2 a3 a4 a5
  ·have hlen:xs'.length=xs.length+1:=hp.length_eq
   have tr2:∀{d:PyData} {b:Addr},TrAt h1 d b->TrAt h2 d b:=fun tr=>tr.but (p:=sa) (fun c o hc e=>(sb2.2 c hc).trans e) fun o vs n e=>hS1.noseq e
   have hpm:=hp.map (·.1)
   refine wpAny_pure ⟨plainId_quiet ul_plain _,ih (i+1) _ xs' (by omega) (S.keep hne.symm hst.symm st1 sb2) hS2 (fun x hx'=>tr2 (tr1 (hX x hx'))) (hpm.nodup_iff.mpr (List.nodup_cons.mpr ⟨hno,hN⟩)) (fun d=>?_) (fun x hx'=>?_) (by omega) fun h' tk xs'' hkeep a1 a2 a3 a4 a5=>?_⟩
   ·rw [hpm.mem_iff,htk d,<- hd d]
    exact List.mem_cons
   ·rcases List.mem_cons.mp (hp.mem_iff.mp hx') with rfl | hx'
    ·exact hkm
    ·exact hin x hx'
   ·exact q h' tk xs'' (fun b o b1 b2 e=>hkeep b o b1 b2 ((sb2.2 b b1).trans ((sb1.2 b b2).trans e))) a1 a2 a3 a4 a5
theorem sub_lst_set:isSubtype (.type "list") (.type "set")=pure false:=by rw [isSubtype_type];kernel_rfl
theorem sub_lst_fro:isSubtype (.type "list") (.type "frozenset")=pure false:=by rw [isSubtype_type];kernel_rfl
theorem new_setT{h:Heap}:SetT w (h.push (newSetObj w)) h.objs.size [] (ledOf w) :=
 ⟨_,#[],0,_,Heap.get?_push_size _ rfl,⟨rfl,rfl,rfl⟩,rfl,rfl,(fun _ z=>nomatch z),rfl,TblOk.fresh _,⟨.inl rfl,rfl,(fun _ z=>nomatch z),(fun _ z=>nomatch z)⟩,(show 0 * 5 < 7 * 3 by decide)⟩
theorem upT_list{E:Value->Shared->Prop}{s:Shared}{id:String}{items:Array Value}{ks:List (PyData×Addr)}{Q:Unit->Shared->Prop}(hh:A.handled=none)(hu:A.units+20 < cLine)(ht:s.heap.IsList t items)(hks:items.toList=ks.map fun x=>.ref x.2)(hX:∀x∈ks,TrAt s.heap x.1 x.2)(hsz:items.size < 304)
  (hS:SetT w s.heap sa [] led) (hst:sa≠t)
  (h:∀h' tk xs',(∀b o,b≠sa->s.heap.get? b=some o->h'.get? b=some o)->SetT w h' sa xs' led->(xs'.map (·.1)).Nodup->(∀d,d∈xs'.map (·.1)↔d∈ks.map (·.1))->(∀x∈xs',x∈ks)->xs'.length<=items.size->Q () { s with heap:=h',toks:=tk }) :
  wpAny (model prog w) A (Builtin.Frozenset.updateFrom id sa (.ref t)) Q E s:=by
 have T:s.TypeIs (.ref t) "list" := ht.typeIs
 have k1:=sub_lst_set
 have k2:=sub_lst_fro
 have k3:(Value.type "list" == Value.type "dict")=false:=by decide
 unfold Builtin.Frozenset.updateFrom
 generalize hPI:pyIter=PI
 wp_walk
 subst hPI
 refine wpAny_pyIter_list ht (show wpAny _ _ _ _ _ _ from wpAny_bind (wpAny_runValue ?_))
 have lt1:t < s.heap.objs.size:=by obtain⟨o,e,_⟩:=ht;exact Heap.lt_size e
 have lt2:sa < s.heap.objs.size:=by obtain⟨o,_,_,_,e,_⟩:=hS;exact Heap.lt_size e
 have up:∀{d:PyData} {b:Addr},TrAt s.heap d b->TrAt (s.heap.push { cls:=.type "list_iterator",data:=.fields #[.ref t,.int 0 0] }) d b:=fun⟨k,as,r⟩=>⟨k,as,PyProof.Rows.Reads.keeps (fun b o e=>Heap.get?_push_of_some _ e) r⟩
 refine tree_loop (led:=led) (step_list (items:=items) (Nat.ne_of_lt lt1)) hh hu (Nat.ne_of_lt lt2) hst hks hsz items.size 0 _ [] (by omega) ⟨⟨_,Heap.get?_push_size _ rfl,rfl,rfl⟩,let⟨o,e,r⟩:=ht;⟨o,Heap.get?_push_of_some _ e,r⟩⟩ (hS.at (fun o e=>Heap.get?_push_of_some _ e) fun _ _ tr=>up tr) (fun x hx=>up (hX x hx)) List.nodup_nil (fun d=>by simp) (fun _ z=>nomatch z) (Nat.zero_le _) fun h' tk xs' a1 a2 a3 a4 a5 a6=>?_
 exact wpAny_pure (h h' tk xs' (fun b o n e=>a1 b o n (Nat.ne_of_lt (Heap.lt_size e)) (Heap.get?_push_of_some _ e)) a2 a3 a4 a5 a6)
theorem upT_tuple{E:Value->Shared->Prop}{s:Shared}{id:String}{items:Array Value}{ks:List (PyData×Addr)}{Q:Unit->Shared->Prop}(hh:A.handled=none)(hu:A.units+20 < cLine)(ht:s.heap.IsTuple t items)(hks:items.toList=ks.map fun x=>.ref x.2)(hX:∀x∈ks,TrAt s.heap x.1 x.2)(hsz:items.size < 304)
  (hS:SetT w s.heap sa [] led) (hst:sa≠t)
  (h:∀h' tk xs',(∀b o,b≠sa->s.heap.get? b=some o->h'.get? b=some o)->SetT w h' sa xs' led->(xs'.map (·.1)).Nodup->(∀d,d∈xs'.map (·.1)↔d∈ks.map (·.1))->(∀x∈xs',x∈ks)->xs'.length<=items.size->Q () { s with heap:=h',toks:=tk }) :
  wpAny (model prog w) A (Builtin.Frozenset.updateFrom id sa (.ref t)) Q E s:=by
 have T:s.TypeIs (.ref t) "tuple" := ht.typeIs
 have k1:=sub_tup_set
 have k2:=sub_tup_fro
 have k3:(Value.type "tuple" == Value.type "dict")=false:=by decide
 unfold Builtin.Frozenset.updateFrom
 generalize hPI:pyIter=PI
 wp_walk
 subst hPI
 refine wpAny_pyIter_tuple ht (show wpAny _ _ _ _ _ _ from wpAny_bind (wpAny_runValue ?_))
 have lt1:t < s.heap.objs.size:=by obtain⟨o,e,_⟩:=ht;exact Heap.lt_size e
 have lt2:sa < s.heap.objs.size:=by obtain⟨o,_,_,_,e,_⟩:=hS;exact Heap.lt_size e
 have up:∀{u:Obj} {d:PyData} {b:Addr},TrAt s.heap d b->TrAt (s.heap.push u) d b:=fun⟨k,as,r⟩=>⟨k,as,PyProof.Rows.Reads.keeps (fun b o e=>Heap.get?_push_of_some _ e) r⟩
 refine tree_loop (led:=led) (step_tuple (items:=items) (Nat.ne_of_lt lt1)) hh hu (Nat.ne_of_lt lt2) hst hks hsz items.size 0 _ [] (by omega) ⟨⟨_,Heap.get?_push_size _ rfl,rfl,rfl⟩,ht.push _⟩ (hS.at (fun o e=>Heap.get?_push_of_some _ e) fun _ _ tr=>up tr) (fun x hx=>up (hX x hx)) List.nodup_nil (fun d=>by simp) (fun _ z=>nomatch z) (Nat.zero_le _) fun h' tk xs' a1 a2 a3 a4 a5 a6=>?_
 exact wpAny_pure (h h' tk xs' (fun b o n e=>a1 b o n (Nat.ne_of_lt (Heap.lt_size e)) (Heap.get?_push_of_some _ e)) a2 a3 a4 a5 a6)
theorem TrAt.keeps{h h':Heap}{d:PyData}{b:Addr}(x:TrAt h d b)(hk:∀b o,h.get? b=some o->h'.get? b=some o):TrAt h' d b:=let⟨k,as,r⟩:=x;⟨k,as,PyProof.Rows.Reads.keeps hk r⟩
theorem perm_map_inv{α β:Type}{f:α->β}{l m:List β}(h:l.Perm m):∀xs:List α,m=xs.map f->∃ys:List α,l=ys.map f/\ys.Perm xs:=by
 induction h with
 | nil =>
  intro xs e
  have:xs=[]:=by simpa using e.symm
  subst this
  exact⟨[],rfl,.nil⟩
 | cons a h ih =>
  intro xs e
  cases xs with
  | nil=>cases e
  | cons x xs =>
   injection e with e1 e2
   obtain⟨ys,rfl,p⟩:=ih xs e2
   exact⟨x :: ys,by rw [e1];rfl,p.cons x⟩
 | swap a b l =>
  intro xs e
  match xs,e with
  | x :: y :: xs,e =>
   injection e with e1 e2
   injection e2 with e2 e3
   exact⟨y :: x :: xs,by rw [e1,e2,e3];rfl,.swap x y xs⟩
 | trans h1 h2 ih1 ih2 =>
  intro xs e
  obtain⟨ys,e1,p1⟩:=ih2 xs e
  obtain⟨zs,e2,p2⟩:=ih1 ys e1
  exact⟨zs,e2,p2.trans p1⟩
theorem trees_reads{h:Heap}:∀{zs:List (PyData×Addr)},(∀x∈zs,TrAt h x.1 x.2)->∃as,ReadsAll h (zs.map fun x=>.ref x.2) (zs.map (·.1)) as
 | [],_=>⟨_,.nil⟩
 | z :: zs,hx=>by
  obtain⟨as,r⟩:=trees_reads fun x hx'=>hx x (.tail _ hx')
  obtain⟨_,bs,r1⟩:=hx z (.head _)
  exact⟨_,.cons r1 r⟩
theorem sorted_tree{E:Value->Shared->Prop}{s:Shared}{a:Addr}{xs:List (PyData×Addr)}{Q:Value->Shared->Prop}(hh:A.handled=none)(hu:A.units+100 < cLine)(hS:SetT w s.heap a xs (ledOf w))(hok:∀ys:List (PyData×Addr),ys.Perm xs->SortOk (ys.map (·.1)))
  (h:∀(h':Heap) (d':Drawn) (tk p c:Nat) (zs:List (PyData×Addr)),(∀b o,s.heap.get? b=some o->h'.get? b=some o)->s.heap.objs.size<=p->h'.get? p=some (seqObj "list" (zs.map fun x=>Value.ref x.2).toArray c)->zs.Perm xs->(zs.map (·.1)).Pairwise (fun a b=>ltT a b=true)->Q (.ref p) { s with heap:=h',drawn:=d',toks:=tk }) :
  wpAny (model prog w) A (call (.builtin "sorted") [.ref a]) Q E s:=by
 obtain⟨o,es,ep,t,ho,hex,hd,hl,hX,hf,hT,hQ,hB⟩:=hS
 have hes:es.size=xs.length:=by rw [<- Array.length_toList,hl,List.length_map]
 have hx64:xs.length < 1000:=by have:=(hok xs (.refl _)).len;rwa [List.length_map]at this
 refine sorted_walk (collect_set (show A.in1.handled=none from hh) ⟨o,ho,hex.1,hd,hf⟩ hT (by omega) fun h1 d1 t1 ord k1 z1 hp=>?_)
 rw [hl,List.map_map]at hp
 obtain⟨ys,rfl,py⟩:=perm_map_inv hp xs (f:=fun x=>Value.ref x.2) rfl
 have ok:=hok ys py
 have hly:ys.length < 1000:=by rw [py.length_eq];exact hx64
 have l1:(ys.map fun x=>Value.ref x.2).length=(ys.map (·.1)).length:=by rw [List.length_map,List.length_map]
 have hXy:∀x∈ys,TrAt h1 x.1 x.2:=fun x hx=>(hX x (py.mem_iff.mp hx)).keeps k1
 refine⟨ltI (ys.map (·.1)),by rw [List.length_map];exact hly,by rw [l1];exact ok.ord,fun h2 h' kp=>?_,fun p h' l c pm up hlb kp e=>?_⟩
 ·obtain⟨bs,rd'⟩:=trees_reads (h:=h') fun x hx=>(hXy x hx).keeps kp
  obtain⟨fs,kt,kl,kz⟩:=kat_tups rd' (ok.fst (by rw [<- l1];exact h2))
  refine⟨tuples' true,fun Q q=>?_,fun i j C hi hj q=>?_⟩
  ·refine PySem.W.kat_kind (T:=.type "int") kt (by omega) (fun v hv=>?_) rfl q
   obtain⟨i,t,rfl⟩:=kz v hv
   exact PySem.W.Looks.of_pure rfl
  ·rw [l1]at hi hj
   obtain⟨b1,q1⟩:=rdAt rd' hi
   obtain⟨b2,q2⟩:=rdAt rd' hj
   have m1:=getD_mem (d:=PyData.none) hi
   have m2:=getD_mem (d:=PyData.none) hj
   obtain⟨x1,r1,e1⟩:=ok.fst (by rw [<- l1];exact h2) _ m1
   obtain⟨x2,r2,e2⟩:=ok.fst (by rw [<- l1];exact h2) _ m2
   have c1:=canLay_mem ok.can _ m1
   have c2:=canLay_mem ok.can _ m2
   have d1:=Nat.le_trans (depth_mem _ m1) ok.dp
   have cm:=ok.cmp _ m1 _ m2
   have q':C (ltT ((ys.map (·.1)).getD i .none) ((ys.map (·.1)).getD j .none)) _:=q
   rw [e1]at q1 c1 d1 cm q'
   rw [e2]at q2 c2 cm q'
   unfold PySem.W.kas_ask
   generalize (ys.map fun x=>Value.ref x.2).getD i Value.none=u1 at q1 ⊢
   generalize (ys.map fun x=>Value.ref x.2).getD j Value.none=u2 at q2 ⊢
   cases q1 with
   | tuple a1 a2 a3 a4 =>
    cases q2 with
    | tuple b1 b2 b3 b4 =>
     exact key_lt (.tuple a1 a2 a3 a4) (.tuple b1 b2 b3 b4) c1 c2 cm (by show A.units+1+1+64 < _;omega) d1 q'
 ·have hp1:∀i∈p.toList,i < ys.length:=fun i hi=>by
   have:=pm.perm.mem_iff.mp hi
   rw [List.length_map]at this
   exact List.mem_range.mp this
  have ev:(p.toList.map fun i=>(ys.map fun x=>Value.ref x.2).getD i Value.none)=(p.toList.map fun i=>ys.getD i (.none,0)).map fun x=>Value.ref x.2:=by
   rw [List.map_map]
   refine List.map_congr_left fun i hi=>?_
   have:=hp1 i hi
   simp [List.getD_eq_getElem?_getD,this]
  rw [ev]at e
  have e2:(p.toList.map fun i=>ys.getD i (.none,0)).Perm ys:=by
   have e1:p.toList.Perm (List.range ys.length):=by have:=pm.perm;rwa [List.length_map]at this
   have e2:=e1.map fun i=>ys.getD i (PyData.none,0)
   rwa [map_range_getD]at e2
  refine h h' d1 t1 l c _ (fun b o q=>kp b o (k1 b o q)) (Nat.le_trans z1 hlb) e (e2.trans py) ?_
  rw [List.map_map,List.pairwise_map]
  refine List.pairwise_iff_getElem.mpr fun i j hi hj hij=>?_
  have hj':j < (ys.map fun x=>Value.ref x.2).length:=by rw [<- pm.size];simpa using hj
  have:=up i j hij hj'
  have gi:p.getD i 0=p.toList[i]:=by simp [Array.getD,show i < p.size by simpa using hi]
  have gj:p.getD j 0=p.toList[j]:=by simp [Array.getD,show j < p.size by simpa using hj]
  rw [gi,gj]at this
  have a1:=hp1 _ (List.getElem_mem hi)
  have a2:=hp1 _ (List.getElem_mem hj)
  unfold ltI at this
  simp only [List.getD_eq_getElem?_getD,List.getElem?_map,List.getElem?_eq_getElem a1,List.getElem?_eq_getElem a2]at this
  simp only [Function.comp,List.getD_eq_getElem?_getD,List.getElem?_eq_getElem a1,List.getElem?_eq_getElem a2]
  exact this
end
section
variable {X:Cx}{pins:List (Addr×Obj)}{σ:St}{H:Hp}{s:Shared}{k:Nat}
structure TOk(ds:List PyData):Prop where
 len:ds.length < 300
 key:∀d∈ds,KeyTree d
 fst:∀d∈ds,∃i r,d=.tuple (.int i :: r)
 cmp:∀d∈ds,∀e∈ds,cmpb d e=true
theorem tok_all:∀{ds:List PyData},(∀d∈ds,KeyTree d)->PyData.canLayAll0 ds=true/\PyData.depthAll ds<=6/\CanoAll ds=true
 | [],_=>⟨rfl,Nat.zero_le _,rfl⟩
 | d :: ds,h=>by
  obtain⟨a,b,c⟩:=tok_all fun e he=>h e (.tail _ he)
  have k:=h d (.head _)
  refine⟨?_,?_,?_⟩
  ·simp only [PyData.canLayAll0,k.lay,a];rfl
  ·simp only [PyData.depthAll];have:=k.dep;omega
  ·simp only [CanoAll,k.can,c];rfl
theorem TOk.sort{ds es:List PyData}(h:TOk ds)(hs:∀d∈es,d∈ds)(hn:es.Nodup):SortOk es:=by
 obtain⟨a,b,c⟩:=tok_all fun d hd=>h.key d (hs d hd)
 have:=sub_len2 hn hs
 have:=h.len
 exact⟨by omega,a,by omega,c,hn,fun _ d hd=>h.fst d (hs d hd),fun d hd e he=>h.cmp d (hs d hd) e (hs e he)⟩
theorem ks_of(I:Inv X pins σ H s):∀(ds:List PyData) (ws:List V) (its:List Value),DkAll X.K H ds ws->Vals ws its->(∀d∈ds,KeyTree d)->(∀d∈ds,∃i r,d=.tuple (.int i :: r))->∃ks:List (PyData×Addr),ks.map (·.1)=ds/\its=ks.map (fun x=>.ref x.2)/\∀x∈ks,TrAt s.heap x.1 x.2/\Dk X.K H x.1 (.ref x.2)
 | [],ws,its,h,r,_,_=>by
  have e:=h.nil
  subst e
  cases r
  exact⟨[],rfl,rfl,fun _ z=>nomatch z⟩
 | d :: ds,ws,its,h,r,hk,hf=>by
  obtain⟨x,rw',rfl,h1,h2⟩:=DkAll.cons (K:=X.K) (H:=H) h
  cases r with
  | @cons _ _ u us r1 r2 =>
   obtain⟨ks,e1,e2,e3⟩:=ks_of I ds rw' us h2 r2 (fun d hd=>hk d (.tail _ hd)) (fun d hd=>hf d (.tail _ hd))
   obtain⟨i,tl,rfl⟩:=hf d (.head _)
   obtain⟨a,xs,rfl,ha,hd⟩:=Dk.tup (K:=X.K) (H:=H) h1
   cases r1
   refine⟨(.tuple (.int i :: tl),a) :: ks,by rw [List.map_cons,e1],by rw [List.map_cons,<- e2],fun y hy=>?_⟩
   rcases List.mem_cons.mp hy with rfl | hy
   ·exact⟨⟨hk _ (.head _),Dk.reads I _ _ _ h1 rfl⟩,h1⟩
   ·exact e3 y hy
theorem dks_of{K:PySem.W.Frag}:∀{zs:List (PyData×Addr)},(∀x∈zs,Dk K H x.1 (.ref x.2))->DkAll K H (zs.map (·.1)) (zs.map fun x=>.ref x.2)
 | [],_=>dks_nil
 | z :: zs,h=>dks_cons (h z (.head _)) (dks_of fun x hx=>h x (.tail _ hx))
theorem vals_zs:∀(zs:List (PyData×Addr)),Vals (zs.map fun x=>V.ref x.2) (zs.map fun x=>Value.ref x.2)
 | []=>.nil
 | z :: zs=>.cons rfl (vals_zs zs)
def vTSet(te:AE):AE:=fun τ μ R=>te τ μ fun x μ1=>opt (items μ1 x) fun ys=>opt (dats ys) fun ds=>TOk ds/\∀(es:List PyData) (p:Addr),es.Nodup->(∀d,d∈es↔d∈ds)->es.Pairwise (fun a b=>ltT a b=true)->μ1 p=none->R (.R p) (updM μ1 p (.lst (es.map .D)))
theorem ve_tset{e:Expr}{te:AE}{p p2 pos pos2:Pos}(hr:Room k X.A)(hg:Gl X "sorted") (hm:X.mg "sorted" = none) (hg2:Gl X "set") (hm2:X.mg "set" = none) (he:VE X e te)
  (hs:starEach [.Call (.Name "set" p2) [e] [] pos2] X.env=[(false,eval (.Call (.Name "set" p2) [e] [] pos2) X.env)]:=by rfl) (hs2:starEach [e] X.env=[(false,eval e X.env)]:=by rfl) :
  VE X (.Call (.Name "sorted" p) [.Call (.Name "set" p2) [e] [] pos2] [] pos) (vTSet te):=by
 intro pins s σ H Q I zz129
 refine ex34 zz129 fun τ μ R hst hcn h hq=>?_
 refine wpAny_Call_Name_kw (ld_blt I hg hm boot_sorted (PyProof.Rows.callWith_builtin1 ?_ hs rfl))
 rw [hs]
 refine Calls.spliced_cons (wpAny_Call_Name_kw (ld_blt I hg2 hm2 boot_set (PyProof.Rows.callWith_type1 ?_ hs2 rfl)))
 rw [hs2]
 refine Calls.spliced_cons (wpAny_mono (he.run I hst hcn h) (fun u s1 zz130=>ex46 zz130 fun x v μ1 H1 I1 rv S1 c1 rx h1=>Calls.spliced_nil ?_) fun _ _ e=>e)
 obtain⟨ys,ey,h1⟩:=opt_e h1
 obtain⟨ds,ed,ok,h1⟩:=opt_e h1
 obtain⟨p0,ws,rfl,hk,rs⟩:=items_kind c1 rx ey
 cases rv
 have dk:=rs.dats ed
 have hd:X.A.handled=none:=hr.hd
 have hun:=hr.un
 have l2:=dk.length
 have hlen:=ok.len
 have fin:∀(ks:List (PyData×Addr)),ks.map (·.1)=ds->(∀x∈ks,TrAt s1.heap x.1 x.2/\Dk X.K H1 x.1 (.ref x.2))->∀(h1:Heap) (tk:Nat) (xs:List (PyData×Addr)),(∀b o,s1.heap.get? b=some o->h1.get? b=some o)->SetT X.w h1 s1.heap.objs.size xs (ledOf X.w)->(xs.map (·.1)).Nodup->(∀d,d∈xs.map (·.1)↔d∈ks.map (·.1))->(∀x∈xs,x∈ks) ->
   wpAny (model X.prog X.w) X.A (call (.builtin "sorted") [.ref s1.heap.objs.size]) (EP X pins σ Q) X.xe { s1 with heap:=h1,toks:=tk }:=fun ks e1 hks h2 tk xs k1 S2 N2 M2 hin=>by
  rw [e1]at M2
  refine sorted_tree (s:={ s1 with heap:=h2,toks:=tk }) hd (by omega) S2 (fun ys py=>ok.sort (fun d hd=>(M2 d).mp ((py.map (·.1)).mem_iff.mp hd)) ((py.map (·.1)).nodup_iff.mpr N2)) fun h3 d3 t3 q c zs k2 hp e3 pz hup=>?_
  have lS:s1.heap.objs.size < h2.objs.size:=by obtain⟨o,_,_,_,e,_⟩:=S2;exact Heap.lt_size e
  have hp':s1.heap.objs.size<=q:=Nat.le_trans (Nat.le_of_lt lS) hp
  have hzl:zs.length < 1000:=by
   have:=(ok.sort (es:=zs.map (·.1)) (fun d hd=>(M2 d).mp ((pz.map (·.1)).mem_iff.mp hd)) ((pz.map (·.1)).nodup_iff.mpr N2)).len
   rwa [List.length_map]at this
  have hz:(zs.map fun x=>V.ref x.2).length<=sizeLine:=by rw [List.length_map];exact Nat.le_trans (Nat.le_of_lt hzl) (by decide)
  have hn:=I1.hok.fresh hp'
  refine⟨.ref q,_,(Inv.drw I1 d3).laid (t':=t3) (fun b o e=>k2 b o (k1 b o e)) hp' (show ObjOk X.prog X.w _ h3 _ (.lst (zs.map fun x=>V.ref x.2)) from⟨hz,_,c,vals_zs zs,e3⟩),rfl,?_⟩
  refine hq _ _ _ _ (S1.trans (Kp.new hn _)) (c1.new hn (rm_lst ?_)) ra_ref (h1 (zs.map (·.1)) q ((pz.map (·.1)).nodup_iff.mpr N2) (fun d=>((pz.map (·.1)).mem_iff).trans (M2 d)) hup (c1.none hn))
  exact(dks_of fun x hx=>(hks x (hin x (pz.mem_iff.mp hx))).2).rel
 refine call_set_1 (s:=s1) ?_
 rcases hk with⟨_,hk⟩ | ⟨_,hk⟩
 ·obtain⟨its,r',pl,hz⟩:=I1.list hk
  obtain⟨ks,e1,e2,e3⟩:=ks_of I1 ds ws its dk r' ok.key ok.fst
  have la:p0 < s1.heap.objs.size:=by obtain⟨o,e,_⟩:=pl.isList;exact Heap.lt_size e
  have hsz:its.toArray.size < 304:=by have:=r'.length;simp only [List.size_toArray];omega
  refine upT_list (s:={ s1 with heap:=s1.heap.push (newSetObj X.w) }) (show X.A.in1.in1.handled=none from hd) (show X.A.units+1+1+20 < cLine by omega) (let⟨o,e,r⟩:=pl.isList;⟨o,Heap.get?_push_of_some _ e,r⟩) (ks:=ks) (by simpa using e2) (fun x hx=>(e3 x hx).1.keeps fun b o e=>Heap.get?_push_of_some _ e) hsz new_setT (Ne.symm (Nat.ne_of_lt la)) fun h2 tk xs k1 S2 N2 M2 hin L2=>Calls.spliced_nil ?_
  exact fin ks e1 e3 h2 tk xs (fun b o e=>k1 b o (Nat.ne_of_lt (Heap.lt_size e)) (Heap.get?_push_of_some _ e)) S2 N2 M2 hin
 ·obtain⟨its,r',pl,hz⟩:=I1.tuple hk
  obtain⟨ks,e1,e2,e3⟩:=ks_of I1 ds ws its dk r' ok.key ok.fst
  have la:p0 < s1.heap.objs.size:=by obtain⟨o,e,_⟩:=pl;exact Heap.lt_size e
  have hsz:its.toArray.size < 304:=by have:=r'.length;simp only [List.size_toArray];omega
  refine upT_tuple (s:={ s1 with heap:=s1.heap.push (newSetObj X.w) }) (show X.A.in1.in1.handled=none from hd) (show X.A.units+1+1+20 < cLine by omega) (Heap.IsTuple.push pl _) (ks:=ks) (by simpa using e2) (fun x hx=>(e3 x hx).1.keeps fun b o e=>Heap.get?_push_of_some _ e) hsz new_setT (Ne.symm (Nat.ne_of_lt la)) fun h2 tk xs k1 S2 N2 M2 hin L2=>Calls.spliced_nil ?_
  exact fin ks e1 e3 h2 tk xs (fun b o e=>k1 b o (Nat.ne_of_lt (Heap.lt_size e)) (Heap.get?_push_of_some _ e)) S2 N2 M2 hin
end
end L2
namespace L2
open PySem PySem.Spec PyProof.Rows
section
variable {X:Cx}{tg:Expr}
end
end L2
namespace L2
open PySem PySem.Spec PyProof.Rows
section
variable {prog:Program}{w:World}{A:Around}{E:Value->Shared->Prop}
end
section
variable {X:Cx}{pos:Pos}
end
end L2
namespace L2
open PySem PySem.Spec PyProof.Rows
section
variable {prog:Program}{w:World}{Kt:Type} [DecidableEq Kt]{knd:KeyKind prog w Kt}{A:Around}{R:Result->Shared->Prop}{sa it t:Addr}{led:Bool}
variable {E:Value->Shared->Prop}{s:Shared}
end
section
variable {X:Cx}{pins:List (Addr×Obj)}{σ:St}{H:Hp}{s:Shared}{k:Nat}
end
end L2
namespace L2
open PySem PySem.Spec PySem.Calls PyProof.Rows
section
variable {prog:Program}{w:World}{A:Around}{E:Value->Shared->Prop}{s:Shared}{K:PySem.W.Frag}{env:Env}
end
section
variable {M:Model}{A A1:Around}{E E1:Value->Shared->Prop}{s:Shared}{base:Heap}{env:Env}{outer:List Env}{L e:Addr}{cls:Value}{d:Option Addr}{vs:Array Value}
end
section
variable {X:Cx}{y:Str}{p pos pos':Pos}{C:Addr}{EX:AX}
end
section
variable {P:Program}{w:World}{K:PySem.W.Frag}{mg:Str->Option Value}{base:Heap}
end
end L2
namespace L2
open PySem PySem.Spec PySem.Calls PyProof.Rows
section
variable {X:Cx}{k:Nat}
end
section
variable {X:Cx}{x:Str}{p pos:Pos}{e:Expr}{es:List Expr}{t:AA}{k:Nat}{ps:List Str}{sp:ASp}
end
end L2
namespace L2
open PySem PySem.Spec PySem.Calls PyProof.Rows
theorem eqR_at{h:Heap}{e:PyData}:∀{ds:List PyData} {us:List Value} {as:List Addr},ReadsAll h us ds as->PyData.canLayAll0 ds=true->us.length=ds.length/\∀(m:Nat) (h1:m < us.length) (h2:m < ds.length),eqR h e us[m]=PyData.eqv ds[m] e
 | [],_,_,r,_=>by
  cases r
  exact⟨rfl,fun m h1 _=>nomatch h1⟩
 | d :: ds,_,_,r,c=>by
  cases r with
  | cons r1 r2 =>
   simp only [PyData.canLayAll0,Bool.and_eq_true]at c
   obtain⟨i1,i2⟩:=eqR_at (e:=e) r2 c.2
   refine⟨by simp only [List.length_cons,i1],fun m h1 h2=>?_⟩
   cases m with
   | zero=>exact eqR_of r1 c.1
   | succ m=>exact i2 m (Nat.lt_of_succ_lt_succ h1) (Nat.lt_of_succ_lt_succ h2)
def mIndex:AV->AC:=fun x xs μ R=>match x,xs with
 | .R a,[y]=>opt (see μ y) fun d=>opt (μ a) fun m=>match m with
  | .lst ys=>opt (dats ys) fun ds=>EqOk d/\EqOk (.tuple ds)/\opt (ds.findIdx? fun e=>PyData.eqv e d) fun j=>R (.D (.int (j:Nat))) μ
  | _=>False
 | _,_=>False
section
variable {X:Cx}{k:Nat}
theorem m_index(hr:Room k X.A):VMt X "list.index" mIndex:=by
 intro pins s σ H x xs v us Q I rx r zq
 refine ex45 zq fun a as μ R ra rs hc h hq=>?_
 cases a with
 | R a =>
  cases rs with
  | nil=>exact False.elim h
  | cons r1 r2 =>
   cases r2 with
   | cons _ _=>exact False.elim h
   | nil =>
    obtain⟨d,ed,h⟩:=opt_e h
    obtain⟨m,em,h⟩:=opt_e h
    cases m with
    | lst ys =>
     obtain⟨ds,eds,ok1,ok2,h⟩:=opt_e h
     obtain⟨j,ej,h⟩:=opt_e h
     obtain⟨o,ho,vs,rfl,rl⟩:=hc _ _ em
     cases (show x=.ref a from ra)
     obtain⟨u,rfl,ru⟩:=vals1 r
     cases rx
     obtain⟨bs,rd⟩:=see_reads I hc r1 ru ed
     obtain⟨its,r',pl,hz⟩:=I.list (SqL.of ho)
     obtain⟨c1,c2⟩:=eqOk_all ok2
     obtain⟨cs,rb⟩:=DkAll.reads I ds vs its (rl.dats eds) r'
     obtain⟨el,ea⟩:=eqR_at (e:=d) rb c1
     obtain⟨hj,e1,e2⟩:=List.findIdx?_eq_some_iff_getElem.mp ej
     have hl:=r'.length
     have hsl:sizeLine < 2 ^ 63 - 1:=by decide
     have hu:=hr.un
     obtain⟨⟨cls,dd,data,sl⟩,ho2,hc2,n,hd2⟩:=id pl.isList
     simp only at hc2 hd2
     subst hc2 hd2
     refine call_meets PySem.F.slot_list_index ⟨_,ho2,rfl⟩ PySem.F.entry_list_index (PySem.F.args_list_index_2 _ _)
      (SeqAt.list_indexAt a its.toArray n dd sl u (eqR s.heap d) j (by rw [List.size_toArray];omega) (by omega) ?_ ?_) ⟨ho2,fun y hy=>(items_eqR (A:=X.A.in1) rd ok1.1 (by show X.A.units+1+64 < _;omega) rb c1 c2).1 y (by simpa using hy),?_⟩
     ·show eqR s.heap d its[j]=true
      rw [ea j (by omega) hj];exact e1
     ·intro m hm hlt
      show eqR s.heap d its[m]=false
      rw [ea m (by simpa using hm) (by omega)]
      have:=e2 m hlt
      simpa using this
     ·exact⟨.int j,H,I.tok _,⟨_,rfl⟩,hq _ _ _ _ Kp.refl hc ra_int h⟩
    | _=>exact False.elim h
 | _=>exact False.elim h
end
end L2
namespace K55
open PySem L2
def top(i:Nat):Stmt:=PySem.Challenge.pw_pileduel_k55_whole_runs_are_plays.main.body.getD i (.Pass ⟨0,0,0,0⟩)
abbrev sWo:Stmt:=top 3
abbrev sGo:Stmt:=top 4
abbrev sRp:Stmt:=top 5
abbrev sWe:Stmt:=top 6
abbrev sGf:Stmt:=top 11
abbrev sSf:Stmt:=top 12
abbrev sBf:Stmt:=top 13
abbrev sAp:Stmt:=top 14
abbrev sOh:Stmt:=top 15
abbrev sOp:Stmt:=top 16
abbrev sPf:Stmt:=top 17
abbrev sCr:Stmt:=top 18
abbrev sOr:Stmt:=top 19
abbrev sRe:Stmt:=top 21
abbrev sRw:Stmt:=top 22
abbrev sIi:Stmt:=top 23
abbrev sPo:Stmt:=top 25
abbrev sDr:Stmt:=top 26
abbrev sPr:Stmt:=top 27
abbrev sSq:Stmt:=top 28
abbrev sLr:Stmt:=top 29
abbrev sPl:Stmt:=top 30
abbrev sLaw:Stmt:=top 31
section
variable {P:Program}{w:World}{K:PySem.W.Frag}{mg:Str->Option Value}{base:Heap}{f:Addr}{fd:FuncData}
def intA(i:Int):AV:=.D (.int i)
structure PotAt(μ:M)(a l:Addr)(sd nm:Int)(ns:List Int):Prop where
 ha:μ a=some (.lst [.D (.int sd),.D (.int nm),.R l])
 hl:μ l=some (.lst (ns.map intA))
 s0:0<=sd
 s1:sd < 2147483648
 n0:0<=nm
 p0:∀n∈ns,0<=n
 ne:a≠l
def Pot(μ:M)(a l:Addr):Prop:=∃sd nm ns,PotAt μ a l sd nm ns
def Ext2(a l:Addr)(μ μ':M):Prop:=∀b m,b≠a->b≠l->μ b=some m->μ' b=some m
theorem Ext2.refl{a l:Addr}{μ:M}:Ext2 a l μ μ:=fun _ _ _ _ h=>h
theorem Ext2.trans{a l:Addr}{μ ν ρ:M}(h:Ext2 a l μ ν)(k:Ext2 a l ν ρ):Ext2 a l μ ρ:=fun b m h1 h2 e=>k b m h1 h2 (h b m h1 h2 e)
theorem Ext2.new{a l p:Addr}{μ ν:M}{o:MO}(h:Ext2 a l μ ν)(e:ν p=none):Ext2 a l μ (updM ν p o):=fun b m h1 h2 q=>by
 have:=h b m h1 h2 q
 rw [updM_ne (by intro z;subst z;rw [e]at this;cases this)];exact this
theorem Ext2.put{a l p:Addr}{μ ν:M}{o:MO}(h:Ext2 a l μ ν)(e:μ p=none):Ext2 a l μ (updM ν p o):=fun b m h1 h2 q=>by
 rw [updM_ne (by intro z;subst z;rw [e]at q;cases q)];exact h b m h1 h2 q
theorem Ext2.a{a l:Addr}{μ ν:M}{o:MO}(h:Ext2 a l μ ν):Ext2 a l μ (updM ν a o):=fun b m h1 h2 q=>by rw [updM_ne h1];exact h b m h1 h2 q
theorem Ext2.l{a l:Addr}{μ ν:M}{o:MO}(h:Ext2 a l μ ν):Ext2 a l μ (updM ν l o):=fun b m h1 h2 q=>by rw [updM_ne h2];exact h b m h1 h2 q
theorem Ext2.none{a l p:Addr}{μ ν:M}(h:Ext2 a l μ ν)(h1:a≠p)(h2:l≠p)(e:ν p=none):μ p=none:=by
 cases q:μ p with
 | none=>rfl
 | some m=>rw [h p m h1.symm h2.symm q]at e;cases e
theorem PotAt.other{μ:M}{a l p:Addr}{sd nm:Int}{ns:List Int}{o:MO}(h:PotAt μ a l sd nm ns)(h1:a≠p)(h2:l≠p):PotAt (updM μ p o) a l sd nm ns :=
 ⟨by rw [updM_ne h1];exact h.ha,by rw [updM_ne h2];exact h.hl,h.s0,h.s1,h.n0,h.p0,h.ne⟩
theorem Pot.other{μ:M}{a l p:Addr}{o:MO}(h:Pot μ a l)(h1:a≠p)(h2:l≠p):Pot (updM μ p o) a l:=let⟨sd,nm,ns,h⟩:=h;⟨sd,nm,ns,h.other h1 h2⟩
theorem Pot.ne{μ:M}{a l p:Addr}(h:Pot μ a l)(e:μ p=none):a≠p/\l≠p:=by
 obtain⟨sd,nm,ns,h⟩:=h
 exact⟨fun z=>by(subst z;rw [h.ha]at e;cases e),fun z=>by(subst z;rw [h.hl]at e;cases e)⟩
theorem Pot.new{μ:M}{a l p:Addr}{o:MO}(h:Pot μ a l)(e:μ p=none):Pot (updM μ p o) a l:=h.other (h.ne e).1 (h.ne e).2
abbrev nDr:List Str:=["_law_pot_here","_law_many","_law_digit","_law_one"]
theorem scDr:FnScope nDr ["_law_pot_here","_law_many"] (defScope sDr):=⟨rfl,rfl,rfl,by decide +kernel,rfl,by decide +kernel,by decide +kernel⟩
def spDr:ASp:=fun xs μ R=>∃(a l:Addr) (many:Nat),xs=[.R a,.D (.int many)]/\Pot μ a l/\0 < many/\many < 1000000/\∀(v:Nat) (μ':M),v < many->Pot μ' a l->Ext2 a l μ μ'->R (.D (.int v)) μ'
theorem nat_of{v:Int}{many:Nat}(h0:0<=v)(h1:v < many):∃n:Nat,v=n/\n < many:=⟨v.toNat,by omega,by omega⟩
theorem ok_dr{n:Nat}(F:Fun K "_law_draw" "_law_draw" sDr f fd) (m_len:mg "len" = none):FnOk P w K mg base CX0 (n+1) f fd ["_law_pot_here","_law_many"] (cSp K 2 spDr):=by
 refine F.vok scDr fun cdv A outer s H E hr=>⟨_,(vss_cons (vs_while PassesOwn.never (VW.pt (vw_and (vt_cmp (o_eq hr) (ve_ix i_ix (vv 0) ve_int) ve_int (nomark _)) (vw_and1 (vt_cmp o_gt (ve_callB c_len rfl m_len PySem.boot_len (va_cons (ve_ix i_ix (vv 0) ve_int) va_nil)) ve_int (nomark _))))) (vss_one (vs_asg (ve_ml PySem.F.slot_list_pop PySem.F.type_list_pop m_popAt (ve_ix i_ix (vv 0) ve_int) (va_cons ve_int va_nil)) (vg_sub (vv 0) ve_int))))
   (vss_cons (vs_if (vt_cmp o_gt (ve_ix i_ix (vv 0) ve_int) ve_int (nomark _)) (vss_cons (vs_set (i:=2) scDr.nd rfl (Or.inl rfl) (ve_op o_mod (ve_ix i_ix (vv 0) ve_int) (vv 1)))
   (vss_cons (vs_asg (ve_op o_fdiv (ve_ix i_ix (vv 0) ve_int) (vv 1)) (vg_sub (vv 0) ve_int))
   (vss_one (vs_ret (vv 2))))) vss_nil)
   (vss_cons (vs_set (i:=3) scDr.nd rfl (Or.inl rfl) (ve_op o_mod (ve_op o_add (ve_op o_mul (ve_ix i_ix (vv 0) ve_int) ve_int) ve_int) ve_int))
   (vss_cons (vs_asg (ve_op o_add (ve_op o_mod (ve_op o_add (ve_op o_mul (vv 3) ve_int) ve_int) ve_int) ve_int) (vg_sub (vv 0) ve_int))
   (vss_one (vs_ret (ve_op o_mod (ve_op o_fdiv (ve_op o_add (ve_op o_mul (ve_op o_mod (ve_op o_mul (vv 3) (vv 3)) ve_int) ve_int) (ve_ix i_ix (vv 0) ve_int)) ve_int) (vv 1)))))))),?_⟩
 rintro xs μ R _ ⟨a,l,many,rfl,⟨sd,nm,ns,D0⟩,h0,h1,q⟩
 refine seq_i (fun τ μ'=>∃sd nm ns,τ=[some (.R a),some (.D (.int many)),none,none]/\PotAt μ' a l sd nm ns/\Ext2 a l μ μ') (fun W' hW'=>?_) ?_
 ·refine while_i (fun m τ μ'=>∃sd nm ns,τ=[some (.R a),some (.D (.int many)),none,none]/\m=ns.length/\PotAt μ' a l sd nm ns/\Ext2 a l μ μ') ns.length ⟨sd,nm,ns,rfl,rfl,D0,Ext2.refl⟩ ?_
  rintro m τ μ' W ⟨sd,nm,ns,rfl,rfl,D,S⟩ hW
  refine opt_i D.ha (opt_i rfl (ieq (fun c=>?_) (fun c=>brF rfl (hW' _ _ ⟨sd,nm,ns,rfl,D,S⟩))))
  refine opt_i D.ha (opt_i rfl (opt_i D.hl (dif (fun c2=>?_) (fun c2=>hW' _ _ ⟨sd,nm,ns,rfl,D,S⟩))))
  cases ns with
  | nil=>exact absurd c2 (by decide)
  | cons x ns =>
   have ha2:updM μ' l (.lst (((x :: ns).map intA).eraseIdx 0)) a=some (.lst [.D (.int sd),.D (.int nm),.R l]):=by rw [updM_ne D.ne];exact D.ha
   have ix:seqIndex? 0 ((x :: ns).map intA).length=some 0:=by
    rw [List.length_map]
    unfold seqIndex?
    simp
   refine opt_i D.ha (opt_i rfl ⟨opt_i D.hl trivial,opt_i D.hl ⟨⟨by decide,by decide⟩,opt_i ix (opt_i rfl (opt_i ha2 (opt_i rfl (hW ns.length _ _ (Nat.lt_succ_self _) ⟨sd,x,ns,rfl,rfl,?_,S.l.a⟩))))⟩⟩)
   refine⟨updM_same,by rw [updM_ne D.ne.symm,updM_same];rfl,D.s0,D.s1,D.p0 x List.mem_cons_self,fun z hz=>D.p0 z (List.mem_cons_of_mem _ hz),D.ne⟩
 ·rintro τ μ' ⟨sd,nm,ns,rfl,D,S⟩
  have b0:=D.s0
  have b1:=D.s1
  refine opt_i D.ha (opt_i rfl (dif (fun c=>?_) (fun c=>?_)))
  ·refine opt_i D.ha (opt_i rfl ⟨(by show(0:Int) < _;omega),opt_i D.ha (opt_i rfl ⟨⟨by omega,by omega⟩,opt_i D.ha (opt_i rfl ⟨_,Sub.refl,?_⟩)⟩)⟩)
   obtain⟨v,ev,hv⟩:=nat_of (Int.emod_nonneg nm (show(many:Int)≠0 by omega)) (Int.emod_lt_of_pos nm (show 0 < (many:Int) by omega))
   dsimp only
   rw [ev]
   exact q v _ hv ⟨sd,nm / many,ns,updM_same,by rw [updM_ne D.ne.symm];exact D.hl,b0,b1,Int.ediv_nonneg D.n0 (by omega),D.p0,D.ne⟩ S.a
  ·refine opt_i D.ha (opt_i rfl ⟨.inr ⟨by decide,by decide⟩,(by show(0:Int) < _;decide),?_⟩)
   dsimp only
   have e1:=Int.emod_nonneg (sd * 48271+7919) (show(2147483647:Int)≠0 by decide)
   have e2:=Int.emod_lt_of_pos (sd * 48271+7919) (show(0:Int) < 2147483647 by decide)
   generalize (sd * 48271+7919) % 2147483647=one at e1 e2 ⊢
   refine⟨.inr ⟨by decide,by decide⟩,(by show(0:Int) < _;decide),opt_i D.ha (opt_i rfl ?_)⟩
   dsimp only
   have e3:=Int.emod_nonneg (one * 40692+12345) (show(2147483399:Int)≠0 by decide)
   have e4:=Int.emod_lt_of_pos (one * 40692+12345) (show(0:Int) < 2147483399 by decide)
   generalize (one * 40692+12345) % 2147483399=two at e3 e4 ⊢
   refine⟨.inl ⟨by omega,by omega⟩,(by show(0:Int) < _;decide),⟨.inr ⟨by decide,by decide⟩,opt_i updM_same (opt_i rfl ⟨⟨by decide,by decide⟩,(by show(0:Int) < _;omega),_,Sub.refl,?_⟩)⟩⟩
   dsimp only
   obtain⟨v,ev,hv⟩:=nat_of (Int.emod_nonneg ((one * one % 2147483629 * 31+(two+1)) / 64) (show(many:Int)≠0 by omega)) (Int.emod_lt_of_pos ((one * one % 2147483629 * 31+(two+1)) / 64) (show 0 < (many:Int) by omega))
   rw [ev]
   exact q v _ hv ⟨two+1,nm,ns,updM_same,by rw [updM_ne D.ne.symm];exact D.hl,by omega,by omega,D.n0,D.p0,D.ne⟩ S.a
abbrev nPo:List Str:=["_law_script","_law_base","_law_seed","_law_left","_law_cell"]
theorem scPo:FnScope nPo ["_law_script","_law_base"] (defScope sPo):=⟨rfl,rfl,rfl,by decide +kernel,rfl,by decide +kernel,by decide +kernel⟩
def scrD(ns:List Int):PyData:=.list (ns.map .int)
theorem scr_items(μ:M)(ns:List Int):items μ (.D (scrD ns))=some (ns.map intA):=by
 show some ((ns.map PyData.int).map AV.D)=_
 rw [List.map_map];rfl
theorem cutA_map{α:Type}(g:α->AV)(xs:List α)(lo hi:Option Int):∃ys:List α,cutA (xs.map g) lo hi=ys.map g/\ys.length<=xs.length:=by
 refine⟨(xs.drop (HT.sIx (xs.map g).length 0 lo)).take (HT.sIx (xs.map g).length (xs.map g).length hi - HT.sIx (xs.map g).length 0 lo),?_,?_⟩
 ·unfold cutA
  rw [<- List.map_drop,<- List.map_take]
 ·rw [List.length_take,List.length_drop];omega
def spPo:ASp:=fun xs μ R=>∃(ns:List Int) (b:Nat),xs=[.D (scrD ns),.D (.int b)]/\b < 1000/\ns.length<=63/\∀(a l:Addr) (μ':M),μ a=none->μ l=none->Pot μ' a l->Sub μ μ'->R (.R a) μ'
theorem ok_po{n:Nat}(F:Fun K "_law_pot" "_law_pot" sPo f fd):FnOk P w K mg base CX0 (n+1) f fd ["_law_script","_law_base"] (cSp K 2 spPo):=by
 refine F.vok scPo fun cdv A outer s H E hr=>⟨_,(vss_cons (vs_set (i:=2) scPo.nd rfl (Or.inl rfl) (ve_op o_add (ve_op o_mul ve_int (vv 1)) ve_int))
   (vss_cons (vs_set (i:=3) scPo.nd rfl (Or.inl rfl) (ve_lst va_nil))
   (vss_cons (vs_for PassesOwn.never rfl (vi_seq (ve_slice (vv 0) (vo_some (vv 1)) (vo_some ve_int))) (vg_name (i:=4) scPo.nd rfl (Or.inl rfl)) (vss_cons (vs_set (i:=2) scPo.nd rfl (Or.inl rfl) (ve_op o_mod (ve_op o_add (ve_op o_add (ve_op o_mul (vv 2) ve_int) (ve_op o_mod (vv 4) ve_int)) ve_int) ve_int))
   (vss_one (vs_if (vt_cmp o_ge (vv 4) (ve_op o_pow ve_int ve_int) (nomark _)) (vss_one (vs_expr (ve_ml PySem.F.slot_list_append PySem.F.type_list_append m_append (vv 3) (va_cons (vv 4) va_nil)))) vss_nil))))
   (vss_one (vs_ret (ve_lst (va_cons (vv 2) (va_cons ve_int (va_cons (vv 3) va_nil))))))))),?_⟩
 rintro xs μ R _ ⟨ns,b,rfl,hb,hn,q⟩
 refine⟨.inl ⟨by decide,by decide⟩,?_⟩
 intro l hl
 obtain⟨cs,ecs,hcl⟩:=cutA_map intA ns (some (b:Int)) (some 63)
 refine seq_i (fun τ μ'=>∃(o:Option AV) (sd:Int) (ls:List Int),τ=[some (.D (scrD ns)),some (.D (.int b)),some (.D (.int sd)),some (.R l),o]/\μ' l=some (.lst (ls.map intA))/\Sub μ μ'/\(∀z∈ls,0<=z)/\0<=sd/\sd < 2147483648) (fun W' hW'=>?_) ?_
 ·refine opt_i (scr_items _ ns) fun p hp=>?_
  rw [ecs]
  have hpl:l≠p:=by intro z;subst z;rw [updM_same]at hp;cases hp
  have hpn:μ p=none:=by rw [updM_ne hpl.symm]at hp;exact hp
  refine opt_i (x:=cs.map intA) (by show(match updM _ p _ p with | some (MO.lst xs)=>some xs | _=>none)=_;rw [updM_same]) ?_
  refine for_i (fun i τ μ'=>∃(o:Option AV) (sd:Int) (ls:List Int),τ=[some (.D (scrD ns)),some (.D (.int b)),some (.D (.int sd)),some (.R l),o]/\μ' l=some (.lst (ls.map intA))/\μ' p=some (.lst (cs.map intA))/\Sub μ μ'/\(∀z∈ls,0<=z)/\ls.length<=i/\0<=sd/\sd < 2147483648)
   ⟨none,7919 * b+104729,[],rfl,by rw [updM_ne hpl,updM_same];rfl,updM_same,(Sub.refl.new hl).new hpn,(fun _ z=>nomatch z),Nat.zero_le _,by omega,by omega⟩ ?_ ?_ ?_
  ·rintro i τ μ' ⟨o,sd,ls,rfl,h1,h2,_⟩
   show(match μ' p with | some (MO.lst xs)=>some xs | _=>none)=_
   rw [h2]
  ·rintro i y τ μ' W hy ⟨o,sd,ls,rfl,h1,h2,h3,h4,h5,h6,h7⟩ hW
   rw [List.getElem?_map]at hy
   obtain⟨c,hc,rfl⟩:=Option.map_eq_some_iff.mp hy
   have hi:i < cs.length:=(List.getElem?_eq_some_iff.mp hc).1
   refine⟨.inr ⟨by decide,by decide⟩,(by show(0:Int) < _;decide),(by show(0:Int) < _;decide),?_⟩
   dsimp only
   have e1:=Int.emod_nonneg (sd * 48271+c % 2147483629+1) (show(2147483647:Int)≠0 by decide)
   have e2:=Int.emod_lt_of_pos (sd * 48271+c % 2147483629+1) (show(0:Int) < 2147483647 by decide)
   generalize (sd * 48271+c % 2147483629+1) % 2147483647=s2 at e1 e2 ⊢
   refine⟨⟨by decide,by decide,by decide⟩,dif (fun c2=>?_) (fun c2=>hW _ _ ⟨_,s2,ls,rfl,h1,h2,h3,h4,by omega,by omega,by omega⟩)⟩
   refine⟨opt_i h1 trivial,opt_i h1 ⟨by rw [List.length_map];exact small1000 (by omega),hW _ _ ⟨_,s2,ls++[c],rfl,?_,by rw [updM_ne hpl.symm];exact h2,?_,?_,by simp;omega,by omega,by omega⟩⟩⟩
   ·rw [updM_same,List.map_append];rfl
   ·intro b m e
    rw [updM_ne (by intro z;subst z;rw [hl]at e;cases e)];exact h3 b m e
   ·intro z hz
    rcases List.mem_append.mp hz with hz | hz
    ·exact h4 z hz
    ·rw [List.mem_singleton.mp hz]
     have:(10 ^ (18:Int).toNat:Int)<=c:=c2
     have h18:(0:Int)<=10 ^ (18:Int).toNat:=by decide
     omega
  ·rintro τ μ' ⟨o,sd,ls,rfl,h1,h2,h3,h4,h5,h6,h7⟩
   exact hW' _ _ ⟨o,sd,ls,rfl,h1,h3,h4,h6,h7⟩
 ·rintro τ μ' ⟨o,sd,ls,rfl,h1,h3,h4,h6,h7⟩
  intro a ha
  have hal:a≠l:=by intro z;subst z;rw [h1]at ha;cases ha
  have han:=h3.none ha
  exact⟨_,Sub.refl,q a l _ han hl ⟨sd,0,ls,updM_same,by rw [updM_ne hal.symm];exact h1,h6,h7,Int.le_refl 0,h4,hal⟩ (h3.new han)⟩
end
section
variable {P:Program}{w:World}{K:PySem.W.Frag}{mg:Str->Option Value}{base:Heap}{f:Addr}{fd:FuncData}
def natsD(ns:List Nat):PyData:=.tuple (ns.map fun(n:Nat)=>.int n)
theorem nats_items{μ:M}(ns:List Nat):items μ (.D (natsD ns))=some (ns.map fun(n:Nat)=>.D (.int n)):=by
 show some ((ns.map fun(n:Nat)=>PyData.int n).map AV.D)=_
 rw [List.map_map];rfl
theorem nats_ok{ns:List Nat}:PyData.canLayAll0 (ns.map fun(n:Nat)=>.int n)=true/\PyData.depthAll (ns.map fun(n:Nat)=>.int n)<=1:=by
 induction ns with
 | nil=>exact⟨rfl,by simp [PyData.depthAll]⟩
 | cons n ns ih =>
  simp only [List.map_cons,PyData.canLayAll0,PyData.depthAll,ih.1,Bool.and_true]
  refine⟨rfl,?_⟩
  have:=ih.2
  simp only [PyData.depth];omega
theorem nats_eqOk{ns:List Nat}:EqOk (natsD ns):=⟨by simp only [natsD,PyData.canLay0];exact nats_ok.1,by have:=(nats_ok (ns:=ns)).2;simp only [natsD,PyData.depth];omega⟩
def natA(n:Nat):AV:=.D (.int n)
theorem dats_nat(ns:List Nat):dats (ns.map natA)=some (ns.map fun(n:Nat)=>.int n):=by
 rw [show ns.map natA=(ns.map fun(n:Nat)=>PyData.int n).map .D by rw [List.map_map];rfl];exact dats_map _
theorem nats_cano:∀(ns:List Nat),CanoAll (ns.map fun(n:Nat)=>.int n)=true
 | []=>rfl
 | n :: ns=>by simp only [List.map_cons,CanoAll,Cano,nats_cano ns,Bool.and_self]
theorem nats_cmp:∀(ms ns:List Nat),cmpbs (ms.map fun(n:Nat)=>.int n) (ns.map fun(n:Nat)=>.int n)=true
 | [],_=>by simp only [List.map_nil,cmpbs]
 | _ :: _,[]=>by simp only [List.map_nil,List.map_cons,cmpbs]
 | m :: ms,n :: ns=>by
  simp only [List.map_cons,cmpbs,cmpb,nats_cmp ms ns,ite_self]
theorem unmap{α β:Type}{g:α->β}{B:List α}:∀{es:List β},(∀e∈es,e∈B.map g)->∃A:List α,es=A.map g/\A.length=es.length/\∀a∈A,a∈B
 | [],_=>⟨[],rfl,rfl,fun _ z=>nomatch z⟩
 | e :: es,h=>by
  obtain⟨A,rfl,hl,hA⟩:=unmap (es:=es) fun x hx=>h x (List.mem_cons_of_mem _ hx)
  obtain⟨a,ha,rfl⟩:=List.mem_map.mp (h e List.mem_cons_self)
  refine⟨a :: A,rfl,by simp,fun b hb=>?_⟩
  rcases List.mem_cons.mp hb with rfl | hb
  ·exact ha
  ·exact hA b hb
end
section
variable {P:Program}{w:World}{K:PySem.W.Frag}{mg:Str->Option Value}{base:Heap}{f:Addr}{fd:FuncData}
structure Arw where
 p:Nat
 x:Nat
 ts:List Nat
 c:Option Nat
def arwL(a:Arw):List PyData:=.int a.p :: .int a.x :: natsD a.ts :: (match a.c with | none=>[] | some c=>[.int c])
def arwD(a:Arw):PyData:=.tuple (arwL a)
theorem arw_items{μ:M}(A:List Arw):items μ (.D (.tuple (A.map arwD)))=some (A.map fun a=>.D (arwD a)):=by
 show some ((A.map arwD).map AV.D)=_
 rw [List.map_map];rfl
theorem arw_ix{a:Arw}:atI (arwL a) 2=some (natsD a.ts):=atI_nat (j:=2) rfl
end
section
variable {P:Program}{w:World}{K:PySem.W.Frag}{mg:Str->Option Value}{base:Heap}{f:Addr}{fd:FuncData}
def rd(A:List Arw)(ends:List Nat):List Nat->Nat->Bool
 | [],s=>decide (s∈ends)
 | x :: w,s=>A.any fun a=>decide (a.p=s/\a.x=x) && a.ts.all fun t=>rd A ends w t
def Fits(rs:List Nat)(x:Nat)(a:Arw)(s:Nat):Prop:=a.p=s/\a.x=x/\∀t∈a.ts,t∈rs
theorem rd_fits{A:List Arw}{ends w rs:List Nat}{x s:Nat}(h:∀t,t∈rs↔rd A ends w t=true):rd A ends (x :: w) s=true↔∃a∈A,Fits rs x a s:=by
 rw [rd,List.any_eq_true]
 constructor
 ·rintro⟨a,ha,e⟩
  rw [Bool.and_eq_true,List.all_eq_true]at e
  have e1:=of_decide_eq_true e.1
  exact⟨a,ha,e1.1,e1.2,fun t ht=>(h t).mpr (e.2 t ht)⟩
 ·rintro⟨a,ha,h1,h2,h3⟩
  exact⟨a,ha,by rw [Bool.and_eq_true,List.all_eq_true];exact⟨decide_eq_true ⟨h1,h2⟩,fun t ht=>(h t).mp (h3 t ht)⟩⟩
theorem putA_keys{κ:Type} [DecidableEq κ](kvs:List (κ×AV))(k:κ)(v:AV):(putA kvs k v).map (·.1)=if k∈kvs.map (·.1) then kvs.map (·.1) else kvs.map (·.1)++[k]:=by
 unfold putA
 by_cases h:k∈kvs.map (·.1)
 ·obtain⟨z,hz,e⟩:=List.mem_map.mp h
  rw [if_pos h,if_pos (List.any_eq_true.mpr ⟨z,hz,decide_eq_true e⟩),List.map_map]
  exact List.map_congr_left fun z _=>by show(if z.1=k then(z.1,v) else z).1=_;split <;> rfl
 ·rw [if_neg h,if_neg,List.map_append]
  ·rfl
  ·intro q
   obtain⟨z,hz,e⟩:=List.any_eq_true.mp q
   exact h (List.mem_map.mpr ⟨z,hz,of_decide_eq_true e⟩)
theorem valA_some{κ:Type} [DecidableEq κ](kvs:List (κ×AV))(k:κ):(valA kvs k).isSome=decide (k∈kvs.map (·.1)):=by
 unfold valA
 rw [Option.isSome_map,Bool.eq_iff_iff,List.find?_isSome,decide_eq_true_iff,List.mem_map]
 exact⟨fun⟨x,hx,e⟩=>⟨x,hx,of_decide_eq_true e⟩,fun⟨x,hx,e⟩=>⟨x,hx,decide_eq_true e⟩⟩
def inK(n:Nat):Key:=.inl (n:Int)
theorem inK_mem{s:Nat}{ps:List Nat}:inK s∈ps.map inK↔s∈ps:=by
 constructor
 ·intro h
  obtain⟨z,hz,e⟩:=List.mem_map.mp h
  have:z=s:=by
   unfold inK at e
   have:=Sum.inl.inj e
   omega
  rw [<- this];exact hz
 ·exact fun h=>List.mem_map.mpr ⟨s,h,rfl⟩
def IntsAt(μ:M)(ab:Addr)(ps:List Nat):Prop:=∃kvs,μ ab=some (.dk kvs)/\kvs.map (·.1)=ps.map inK/\ps.Nodup
theorem IntsAt.has{μ:M}{ab:Addr}{ps:List Nat}(h:IntsAt μ ab ps):∃kvs,μ ab=some (.dk kvs)/\∀t:Nat,∃r,dget (.dk kvs) (.int (t:Nat))=some r/\r.isSome=decide (t∈ps):=by
 obtain⟨kvs,e,k,_⟩:=h
 refine⟨kvs,e,fun t=>⟨valA kvs (inK t),rfl,?_⟩⟩
 rw [valA_some,k]
 exact decide_eq_decide.mpr inK_mem
theorem IntsAt.put{μ:M}{ab:Addr}{ps:List Nat}(p:Nat)(h:IntsAt μ ab ps):∃kvs m' ps',μ ab=some (.dk kvs)/\kvs.length=ps.length/\dput (.dk kvs) (.int (p:Nat)) (.D (.bool true))=some m'/\(∀ μ2,IntsAt (updM μ2 ab m') ab ps')/\ps'.length<=ps.length+1/\∀s,s∈ps'↔s∈ps\/s=p:=by
 obtain⟨kvs,e,k,nd⟩:=h
 have hkeys:=putA_keys kvs (inK p) (.D (.bool true))
 rw [k]at hkeys
 have hl:kvs.length=ps.length:=by rw [<- List.length_map (f:=(·.1)) (as:=kvs),k,List.length_map]
 by_cases hp:p∈ps
 ·rw [if_pos (inK_mem.mpr hp)]at hkeys
  exact⟨kvs,_,ps,e,hl,rfl,fun _=>⟨_,updM_same,hkeys,nd⟩,by omega,fun s=>⟨.inl,fun h=>h.elim id fun z=>by rw [z];exact hp⟩⟩
 ·rw [if_neg (fun z=>hp (inK_mem.mp z))]at hkeys
  refine⟨kvs,_,ps++[p],e,hl,rfl,fun _=>⟨_,updM_same,hkeys.trans (by rw [List.map_append];rfl),List.nodup_append.mpr ⟨nd,List.nodup_cons.mpr ⟨by simp,List.nodup_nil⟩,fun z hz z' hz' q=>?_⟩⟩,by simp,fun s=>by simp⟩
  have e':z'=p:=by simpa using hz'
  rw [q,e']at hz;exact hp hz
abbrev nRw:List Str:=["arrows","reading","letter","above","arrow"]
theorem scRw:FnScope nRw ["arrows","reading","letter"] (defScope sRw):=⟨rfl,rfl,rfl,by decide +kernel,rfl,by decide +kernel,by decide +kernel⟩
theorem ndRw1:(["target","reading"]:List Str).Nodup:=by decide +kernel
def spRw:ASp:=fun xs μ R=>∃(A:List Arw) (rb:Addr) (rs:List Nat) (x:Nat),xs=[.D (.tuple (A.map arwD)),.R rb,.D (.int (x:Nat))]/\A.length<=400/\(∀a∈A,a.ts.length<=400)/\IntsAt μ rb rs/\∀ab ps μ',IntsAt μ' ab ps->ps.length<=400->(∀s,s∈ps↔∃a∈A,Fits rs x a s)->Sub μ μ'->R (.R ab) μ'
theorem ok_rw{n:Nat}(F:Fun K "reading_with" "reading_with" sRw f fd) (m_all:mg "all" = none):FnOk P w K mg base CX0 (n+1) f fd ["arrows","reading","letter"] (cSp K 3 spRw):=by
 refine F.vok scRw fun cdv A outer s H E hr=>⟨_,(vss_cons (vs_set (i:=3) scRw.nd rfl (Or.inl rfl) ve_dnewK)
   (vss_cons (vs_for PassesOwn.never rfl (vi_seq (vv 0)) (vg_name (i:=4) scRw.nd rfl (Or.inl rfl)) (vss_one (vs_if (VW.pt (vw_and (vt_cmp (o_eq hr) (ve_ix i_ix (vv 4) ve_int) (vv 2) (nomark _)) (vw_and1 (vt_val (ve_callB (c_all rfl) rfl m_all PyProof.Rows.boot_all (va_cons (ve_comp (N':=["target","reading"]) (mp:=[none,some 1]) rfl (vi_seq (ve_ix i_ix (vv 4) ve_int)) (fun _ _ _ _=>(vg_name (i:=0) ndRw1 rfl (Or.inl rfl) (Or.inr rfl))) (fun _ _ _ _=>vifs_nil) (fun _ _ _ _=>(ve_din (hu_of hr) (vv 0) (vv 1))) (compOk_of (N:=nRw) (pn:=(defScope sRw).names) (by decide +kernel))) va_nil)))))) (vss_one (vs_dput (hu_of hr) (vv 3) (ve_ix i_ix (vv 4) ve_int) ve_bl)) vss_nil)))
   (vss_one (vs_ret (vv 3))))),?_⟩
 rintro xs μ R _ ⟨A,rb,rs,x,rfl,hA,kA,hI,q⟩
 obtain⟨rkv,er,hr1⟩:=hI.has
 intro ab hab
 have hrb:rb≠ab:=by rintro rfl;rw [er]at hab;cases hab
 refine seq_i (fun τ μ'=>∃o4 ps,τ=[some (.D (.tuple (A.map arwD))),some (.R rb),some (.D (.int (x:Nat))),some (.R ab),o4]/\IntsAt μ' ab ps/\ps.length<=400/\(∀s,s∈ps↔∃a∈A,Fits rs x a s)/\Sub μ μ') (fun Z hZ=>?_) ?_
 ·refine opt_i (arw_items A) ?_
  refine for_i (fun i τ μ'=>∃o4 ps,τ=[some (.D (.tuple (A.map arwD))),some (.R rb),some (.D (.int (x:Nat))),some (.R ab),o4]/\IntsAt μ' ab ps/\ps.length<=i/\(∀s,s∈ps↔∃a∈A.take i,Fits rs x a s)/\Sub μ μ') ⟨none,[],rfl,⟨[],updM_same,rfl,List.nodup_nil⟩,Nat.le_refl _,(fun s=>by simp),Sub.refl.new hab⟩ (fun _ _ _ _=>arw_items A) ?_ ?_
  ·rintro i y τ μ1 Z2 hy ⟨o4,ps,rfl,hI1,hl,hm,S⟩ hZ2
   rw [List.getElem?_map]at hy
   obtain⟨a,ha,rfl⟩:=Option.map_eq_some_iff.mp hy
   have hi:i < A.length:=(List.getElem?_eq_some_iff.mp ha).1
   have kA1:=kA a (List.mem_of_getElem? ha)
   have htk:A.take (i+1)=A.take i++[a]:=by rw [List.take_succ,ha];rfl
   have er1:=S rb _ er
   have hno:(∀s,¬Fits rs x a s)->∀s,s∈ps↔∃a∈A.take (i+1),Fits rs x a s:=fun hn s=>by
    rw [hm s,htk]
    constructor
    ·rintro⟨b,hb,e⟩;exact⟨b,List.mem_append_left _ hb,e⟩
    ·rintro⟨b,hb,e⟩
     rcases List.mem_append.mp hb with hb | hb
     ·exact⟨b,hb,e⟩
     ·rw [List.mem_singleton.mp hb]at e;exact absurd e (hn s)
   refine opt_i (atI_nat (j:=1) rfl) (ieq (fun c=>?_) (fun c=>brF rfl (hZ2 _ _ ⟨_,ps,rfl,hI1,by omega,hno fun s h=>c (by rw [h.2.1]),S⟩)))
   refine opt_i arw_ix (opt_i (nats_items a.ts) fun pl hpl=>?_)
   have hal:ab≠pl:=by rintro rfl;obtain⟨_,ek,_⟩:=hI1;rw [ek]at hpl;cases hpl
   have hrl:rb≠pl:=by rintro rfl;rw [er1]at hpl;cases hpl
   refine cmap a.ts _ (fun t=>.D (.bool (decide (t∈rs)))) (fun τ=>∃o,τ=[o,some (.R rb)]) ⟨none,rfl⟩ updM_same (seven (by omega)) (fun _=>nats_items a.ts) ?_ ?_
   ·rintro j t τ' acc W hj ⟨o,rfl⟩ hW
    obtain⟨r,e1,e2⟩:=hr1 t
    refine opt_i (x:=MO.dk rkv) (by rw [updM_ne hrl,updM_ne hrl];exact er1) (opt_i e1 ?_)
    rw [e2]
    exact hW _ ⟨_,rfl⟩
   ·dsimp only [vNil]
    have hS1:Sub μ (updM (updM μ1 pl (.lst [])) pl (.lst (a.ts.map fun t=>.D (.bool (decide (t∈rs)))))):=fun b m hb=>by
     have h1:=S b m hb
     have b2:b≠pl:=by rintro rfl;rw [h1]at hpl;cases hpl
     rw [updM_ne b2,updM_ne b2];exact h1
    have hI2:IntsAt (updM (updM μ1 pl (.lst [])) pl (.lst (a.ts.map fun t=>.D (.bool (decide (t∈rs)))))) ab ps:=by
     obtain⟨kvs,ek,r⟩:=hI1
     exact⟨kvs,by rw [updM_ne hal,updM_ne hal];exact ek,r⟩
    refine all_i updM_same (br (fun c2=>?_) (fun c2=>?_))
    ·have hfit:Fits rs x a a.p:=⟨rfl,by omega,fun t ht=>of_decide_eq_true ((List.all_eq_true.mp c2) t ht)⟩
     obtain⟨kvs,m',ps',ek,el,ep,hI3,hl3,hm3⟩:=hI2.put a.p
     refine opt_i (atI_nat (j:=0) rfl) (opt_i ek (opt_i ep ⟨small1000 (show kvs.length<=1000 by omega),hZ2 _ _ ⟨_,ps',rfl,hI3 _,by omega,fun s=>?_,fun b m hb=>?_⟩⟩))
     ·rw [hm3 s,hm s,htk]
      constructor
      ·rintro(⟨b,hb,e⟩ | rfl)
       ·exact⟨b,List.mem_append_left _ hb,e⟩
       ·exact⟨a,List.mem_append_right _ (by simp),hfit⟩
      ·rintro⟨b,hb,e⟩
       rcases List.mem_append.mp hb with hb | hb
       ·exact .inl ⟨b,hb,e⟩
       ·rw [List.mem_singleton.mp hb]at e;exact .inr e.1.symm
     ·have b1:b≠ab:=by rintro rfl;rw [hab]at hb;cases hb
      rw [updM_ne b1];exact hS1 b m hb
    ·refine hZ2 _ _ ⟨_,ps,rfl,hI2,by omega,hno fun s h=>?_,hS1⟩
     have c2':(a.ts.all fun t=>decide (t∈rs))=false:=c2
     rw [List.all_eq_true.mpr fun t ht=>decide_eq_true (h.2.2 t ht)]at c2'
     cases c2'
  ·rintro τ μ1 ⟨o4,ps,rfl,hI,hl,hm,S⟩
   rw [List.length_map]at hl hm
   rw [List.take_length]at hm
   exact hZ _ _ ⟨_,ps,rfl,hI,by omega,hm,S⟩
 ·rintro τ μ1 ⟨o4,ps,rfl,hI,hl,hm,S⟩
  exact⟨_,Sub.refl,q ab ps _ hI hl hm S⟩
theorem rev_nat{W:List Nat}{i:Nat}{y:AV}(hy:((W.map fun(n:Nat)=>PyData.int n).map AV.D).reverse[i]?=some y):i < W.length/\∃x,W[W.length - 1 - i]?=some x/\y=.D (.int (x:Nat)):=by
 obtain⟨hi,e⟩:=rev_at hy
 rw [List.length_map,List.length_map]at hi e
 rw [List.getElem?_map,List.getElem?_map]at e
 obtain⟨dx,edx,rfl⟩:=Option.map_eq_some_iff.mp e
 obtain⟨x,ex,rfl⟩:=Option.map_eq_some_iff.mp edx
 exact⟨hi,x,ex,rfl⟩
abbrev nRe:List Str:=["arrows","ends","stand","pile","reading","end","letter"]
theorem scRe:FnScope nRe ["arrows","ends","stand","pile"] (defScope sRe):=⟨rfl,rfl,rfl,by decide +kernel,rfl,by decide +kernel,by decide +kernel⟩
def spRe:ASp:=fun xs μ R=>∃(A:List Arw) (ends:List Nat) (s:Nat) (W:List Nat),xs=[.D (.tuple (A.map arwD)),.D (natsD ends),.D (.int (s:Nat)),.D (natsD W)]/\A.length<=400/\(∀a∈A,a.ts.length<=400)/\ends.length<=400/\∀ μ',Sub μ μ'->R (.D (.bool (rd A ends W s))) μ'
theorem ok_re{n:Nat}(F:Fun K "reads" "reads" sRe f fd) (cRw:VCal P w K mg base n "reading_with" ["arrows","reading","letter"] spRw) (m_reversed:mg "reversed" = none):FnOk P w K mg base CX0 (n+1) f fd ["arrows","ends","stand","pile"] (cSp K 4 spRe):=by
 refine F.vok scRe fun cdv A outer s H E hr=>⟨_,(vss_cons (vs_set (i:=4) scRe.nd rfl (Or.inl rfl) ve_dnewK)
   (vss_cons (vs_for PassesOwn.never rfl (vi_seq (vv 1)) (vg_name (i:=5) scRe.nd rfl (Or.inl rfl)) (vss_one (vs_dput (hu_of hr) (vv 4) (vv 5) ve_bl)))
   (vss_cons (vs_for PassesOwn.never rfl (vi_rev rfl m_reversed (vv 3)) (vg_name (i:=6) scRe.nd rfl (Or.inl rfl)) (vss_one (vs_set (i:=4) scRe.nd rfl (Or.inl rfl) (ve_call cRw hr rfl (va_cons (vv 0) (va_cons (vv 4) (va_cons (vv 6) va_nil)))))))
   (vss_one (vs_ret (ve_din (hu_of hr) (vv 2) (vv 4))))))),?_⟩
 rintro xs μ R _ ⟨A,ends,s,W,rfl,hA,kA,he,q⟩
 intro rb hrb
 refine seq_i (fun τ μ'=>∃o5 rs,τ=[some (.D (.tuple (A.map arwD))),some (.D (natsD ends)),some (.D (.int (s:Nat))),some (.D (natsD W)),some (.R rb),o5,none]/\IntsAt μ' rb rs/\(∀t,t∈rs↔t∈ends)/\Sub μ μ') (fun Z hZ=>?_) ?_
 ·refine opt_i (nats_items ends) ?_
  refine for_i (fun i τ μ'=>∃o5 rs,τ=[some (.D (.tuple (A.map arwD))),some (.D (natsD ends)),some (.D (.int (s:Nat))),some (.D (natsD W)),some (.R rb),o5,none]/\IntsAt μ' rb rs/\rs.length<=i/\(∀t,t∈rs↔t∈ends.take i)/\Sub μ μ') ⟨none,[],rfl,⟨[],updM_same,rfl,List.nodup_nil⟩,Nat.le_refl _,(fun t=>by simp),Sub.refl.new hrb⟩ (fun _ _ _ _=>nats_items ends) ?_ ?_
  ·rintro i y τ μ1 Z2 hy ⟨o5,rs,rfl,hI,hl,hm,S⟩ hZ2
   rw [List.getElem?_map]at hy
   obtain⟨e,he',rfl⟩:=Option.map_eq_some_iff.mp hy
   have hi:i < ends.length:=(List.getElem?_eq_some_iff.mp he').1
   obtain⟨kvs,m',ps',ek,el,ep,hI3,hl3,hm3⟩:=hI.put e
   refine opt_i ek (opt_i ep ⟨small1000 (show kvs.length<=1000 by omega),hZ2 _ _ ⟨_,ps',rfl,hI3 _,by omega,fun t=>?_,fun b m hb=>?_⟩⟩)
   ·rw [hm3 t,hm t,List.take_succ,he',List.mem_append];simp
   ·have b1:b≠rb:=by rintro rfl;rw [hrb]at hb;cases hb
    rw [updM_ne b1];exact S b m hb
  ·rintro τ μ1 ⟨o5,rs,rfl,hI,hl,hm,S⟩
   rw [List.length_map,List.take_length]at hm
   exact hZ _ _ ⟨_,rs,rfl,hI,hm,S⟩
 rintro τ μ1 ⟨o5,rs0,rfl,hI0,hm0,S1⟩
 refine seq_i (fun τ μ'=>∃o6 rb rs,τ=[some (.D (.tuple (A.map arwD))),some (.D (natsD ends)),some (.D (.int (s:Nat))),some (.D (natsD W)),some (.R rb),o5,o6]/\IntsAt μ' rb rs/\(∀t,t∈rs↔rd A ends W t=true)/\Sub μ μ') (fun Z hZ=>?_) ?_
 ·refine for_i (fun i τ μ'=>∃o6 rb rs,τ=[some (.D (.tuple (A.map arwD))),some (.D (natsD ends)),some (.D (.int (s:Nat))),some (.D (natsD W)),some (.R rb),o5,o6]/\IntsAt μ' rb rs/\(∀t,t∈rs↔rd A ends (W.drop (W.length - i)) t=true)/\Sub μ μ') ⟨none,rb,rs0,rfl,hI0,(fun t=>by rw [hm0 t,Nat.sub_zero,List.drop_length];exact(decide_eq_true_iff).symm),S1⟩ (fun _ _ _ _=>trivial) ?_ ?_
  ·rintro i y τ μ2 Z2 hy ⟨o6,rb2,rs,rfl,hI,hm,S2⟩ hZ2
   obtain⟨hi,x,ex,rfl⟩:=rev_nat hy
   have hdrop:W.drop (W.length - (i+1))=x :: W.drop (W.length - i):=by
    obtain⟨h1,h2⟩:=List.getElem?_eq_some_iff.mp ex
    have e1:W.length - (i+1)=W.length - 1 - i:=by omega
    have e2:W.length - i=W.length - 1 - i+1:=by omega
    rw [e1,e2,List.drop_eq_getElem_cons h1,h2]
   refine⟨A,rb2,rs,x,rfl,hA,kA,hI,fun ab ps μ3 hI3 _ hm3 S3=>hZ2 _ _ ⟨_,ab,ps,rfl,hI3,fun t=>?_,fun b m hb=>S3 b m (S2 b m hb)⟩⟩
   rw [hm3 t,hdrop]
   exact(rd_fits hm).symm
  ·rintro τ μ2 ⟨o6,rb2,rs,rfl,hI,hm,S2⟩
   rw [List.length_reverse,List.length_map,List.length_map,Nat.sub_self,List.drop_zero]at hm
   exact hZ _ _ ⟨_,rb2,rs,rfl,hI,hm,S2⟩
 rintro τ μ2 ⟨o6,rb2,rs,rfl,hI,hm,S2⟩
 obtain⟨kvs,ek,hg⟩:=hI.has
 obtain⟨r,e1,e2⟩:=hg s
 refine opt_i ek (opt_i e1 ⟨_,Sub.refl,?_⟩)
 rw [e2,show decide (s∈rs)=rd A ends W s by rw [Bool.eq_iff_iff,decide_eq_true_iff];exact hm s]
 exact q _ S2
end
section
variable {P:Program}{w:World}{K:PySem.W.Frag}{mg:Str->Option Value}{base:Heap}{f:Addr}{fd:FuncData}
inductive Stp | ask (a b:Nat) | chance (a b:Nat) | set (v:Nat) | iff (a b:Nat) | call (k:Nat) | back | mark
abbrev Pt:=Nat×Nat
abbrev Prg:=List (List Stp)
def Stp.word:Stp->Str
 | .ask _ _ => "ask" | .chance _ _ => "chance" | .set _ => "set" | .iff _ _ => "if" | .call _ => "call" | .back => "back" | .mark => "mark"
def Stp.args:Stp->List Nat
 | .ask a b=>[a,b] | .chance a b=>[a,b] | .set v=>[v] | .iff a b=>[a,b] | .call k=>[k] | .back=>[] | .mark=>[]
def natD(n:Nat):PyData:=.int n
def Stp.D(s:Stp):PyData:=.tuple (.str s.word :: s.args.map natD)
def prcD(p:List Stp):PyData:=.tuple (p.map Stp.D)
def prgD(sw:Nat)(ps:Prg):PyData:=.tuple [natD sw,.tuple (ps.map prcD)]
def ptD(q:Pt):PyData:=.tuple [natD q.1,natD q.2]
def pileD(l:List Pt):PyData:=.tuple (l.map ptD)
def stepAt(ps:Prg)(q:Pt):Option Stp:=match ps[q.1]? with
 | some p=>p[q.2]?
 | none=>none
def wordD(ps:Prg)(q:Pt):PyData:=match stepAt ps q with
 | some s=>.str s.word
 | none=>.none
def PtOk(ps:Prg)(q:Pt):Prop:=∃p,ps[q.1]?=some p/\q.2<=p.length
def strip(ps:Prg):List Pt->List Pt
 | []=>[]
 | q :: r=>match stepAt ps q with
  | some _=>q :: r
  | none=>strip ps r
theorem strip_ok{ps:Prg}:∀{l:List Pt},(∀q∈l,PtOk ps q)->∀q∈strip ps l,PtOk ps q
 | [],h=>h
 | q :: r,h=>by
  unfold strip
  split
  ·exact h
  ·exact strip_ok fun x hx=>h x (List.mem_cons_of_mem _ hx)
theorem strip_len{ps:Prg}:∀(l:List Pt),(strip ps l).length<=l.length
 | []=>Nat.le_refl _
 | q :: r=>by
  unfold strip
  split
  ·exact Nat.le_refl _
  ·exact Nat.le_succ_of_le (strip_len r)
theorem strip_head{ps:Prg}:∀{l:List Pt} {q:Pt} {r:List Pt},strip ps l=q :: r->∃s,stepAt ps q=some s
 | [],_,_,h=>by simp [strip]at h
 | x :: l,q,r,h=>by
  unfold strip at h
  split at h
  ·rename_i s e
   cases h;exact⟨s,e⟩
  ·exact strip_head h
theorem step_of{ps:Prg}{q:Pt}{s:Stp}(h:stepAt ps q=some s):∃p,ps[q.1]?=some p/\p[q.2]?=some s:=by
 unfold stepAt at h
 split at h
 ·rename_i p e;exact⟨p,e,h⟩
 ·cases h
def goL(ps:Prg)(a:Nat)(q:Pt):List AV:=match stepAt ps q with
 | none=>[.D (.tuple [natD a,.tuple []])]
 | some .back=>[.D (.tuple [natD a,.tuple []])]
 | some (.call k)=>[.D (.tuple [natD a,.tuple [ptD (k,0),ptD (q.1,q.2+1)]])]
 | some (.set v)=>[.D (.tuple [natD v,.tuple [ptD (q.1,q.2+1)]])]
 | some (.iff x y)=>[.D (.tuple [natD a,.tuple [ptD (q.1,if a=1 then x else y)]])]
 | some (.ask x y)=>[.D (.tuple [natD a,.tuple [ptD (q.1,x)]]),.D (.tuple [natD a,.tuple [ptD (q.1,y)]])]
 | some (.chance x y)=>[.D (.tuple [natD a,.tuple [ptD (q.1,x)]]),.D (.tuple [natD a,.tuple [ptD (q.1,y)]])]
 | some .mark=>[]
theorem wOk(s:Stp):PyData.canLay0 (.str s.word)=true:=by cases s <;> (show PyData.canLay0 (.str (Str.ofString _))=true) <;> decide +kernel
theorem wEq{s:Stp}{b:Str}{T F:Prop}(h:PyData.eqv (.str s.word) (.str b)=true)(q:T)(hb:PyData.canLay0 (.str b)=true:=by decide +kernel):EqOk (.str s.word)/\EqOk (.str b)/\brP (PyData.eqv (.str s.word) (.str b)) T F:=⟨eqOk_str (wOk s),eqOk_str hb,brT h q⟩
theorem wNe{s:Stp}{b:Str}{T F:Prop}(h:PyData.eqv (.str s.word) (.str b)=false)(q:F)(hb:PyData.canLay0 (.str b)=true:=by decide +kernel):EqOk (.str s.word)/\EqOk (.str b)/\brP (PyData.eqv (.str s.word) (.str b)) T F:=⟨eqOk_str (wOk s),eqOk_str hb,brF h q⟩
theorem n_ask_chance:PyData.eqv (.str "ask") (.str "chance")=false:=by decide +kernel
theorem n_ask_set:PyData.eqv (.str "ask") (.str "set")=false:=by decide +kernel
theorem n_ask_if:PyData.eqv (.str "ask") (.str "if")=false:=by decide +kernel
theorem n_ask_call:PyData.eqv (.str "ask") (.str "call")=false:=by decide +kernel
theorem n_ask_back:PyData.eqv (.str "ask") (.str "back")=false:=by decide +kernel
theorem n_ask_mark:PyData.eqv (.str "ask") (.str "mark")=false:=by decide +kernel
theorem c_ask:([PyData.str "ask",.str "chance"].any fun e=>PyData.eqv e (.str "ask"))=true:=by decide +kernel
theorem e_chance_chance:PyData.eqv (.str "chance") (.str "chance")=true:=by decide +kernel
theorem n_chance_set:PyData.eqv (.str "chance") (.str "set")=false:=by decide +kernel
theorem n_chance_if:PyData.eqv (.str "chance") (.str "if")=false:=by decide +kernel
theorem n_chance_call:PyData.eqv (.str "chance") (.str "call")=false:=by decide +kernel
theorem n_chance_back:PyData.eqv (.str "chance") (.str "back")=false:=by decide +kernel
theorem n_chance_mark:PyData.eqv (.str "chance") (.str "mark")=false:=by decide +kernel
theorem c_chance:([PyData.str "ask",.str "chance"].any fun e=>PyData.eqv e (.str "chance"))=true:=by decide +kernel
theorem n_set_chance:PyData.eqv (.str "set") (.str "chance")=false:=by decide +kernel
theorem e_set_set:PyData.eqv (.str "set") (.str "set")=true:=by decide +kernel
theorem n_set_call:PyData.eqv (.str "set") (.str "call")=false:=by decide +kernel
theorem n_set_back:PyData.eqv (.str "set") (.str "back")=false:=by decide +kernel
theorem n_set_mark:PyData.eqv (.str "set") (.str "mark")=false:=by decide +kernel
theorem c_set:([PyData.str "ask",.str "chance"].any fun e=>PyData.eqv e (.str "set"))=false:=by decide +kernel
theorem n_if_chance:PyData.eqv (.str "if") (.str "chance")=false:=by decide +kernel
theorem n_if_set:PyData.eqv (.str "if") (.str "set")=false:=by decide +kernel
theorem e_if_if:PyData.eqv (.str "if") (.str "if")=true:=by decide +kernel
theorem n_if_call:PyData.eqv (.str "if") (.str "call")=false:=by decide +kernel
theorem n_if_back:PyData.eqv (.str "if") (.str "back")=false:=by decide +kernel
theorem n_if_mark:PyData.eqv (.str "if") (.str "mark")=false:=by decide +kernel
theorem c_if:([PyData.str "ask",.str "chance"].any fun e=>PyData.eqv e (.str "if"))=false:=by decide +kernel
theorem n_call_chance:PyData.eqv (.str "call") (.str "chance")=false:=by decide +kernel
theorem n_call_set:PyData.eqv (.str "call") (.str "set")=false:=by decide +kernel
theorem e_call_call:PyData.eqv (.str "call") (.str "call")=true:=by decide +kernel
theorem n_call_back:PyData.eqv (.str "call") (.str "back")=false:=by decide +kernel
theorem n_call_mark:PyData.eqv (.str "call") (.str "mark")=false:=by decide +kernel
theorem c_call:([PyData.str "ask",.str "chance"].any fun e=>PyData.eqv e (.str "call"))=false:=by decide +kernel
theorem n_back_chance:PyData.eqv (.str "back") (.str "chance")=false:=by decide +kernel
theorem n_back_set:PyData.eqv (.str "back") (.str "set")=false:=by decide +kernel
theorem n_back_call:PyData.eqv (.str "back") (.str "call")=false:=by decide +kernel
theorem e_back_back:PyData.eqv (.str "back") (.str "back")=true:=by decide +kernel
theorem n_back_mark:PyData.eqv (.str "back") (.str "mark")=false:=by decide +kernel
theorem c_back:([PyData.str "ask",.str "chance"].any fun e=>PyData.eqv e (.str "back"))=false:=by decide +kernel
theorem n_mark_chance:PyData.eqv (.str "mark") (.str "chance")=false:=by decide +kernel
theorem n_mark_set:PyData.eqv (.str "mark") (.str "set")=false:=by decide +kernel
theorem n_mark_if:PyData.eqv (.str "mark") (.str "if")=false:=by decide +kernel
theorem n_mark_call:PyData.eqv (.str "mark") (.str "call")=false:=by decide +kernel
theorem n_mark_back:PyData.eqv (.str "mark") (.str "back")=false:=by decide +kernel
theorem e_mark_mark:PyData.eqv (.str "mark") (.str "mark")=true:=by decide +kernel
abbrev nWo:List Str:=["program","point","procedure"]
theorem scWo:FnScope nWo ["program","point"] (defScope sWo):=⟨rfl,rfl,rfl,by decide +kernel,rfl,by decide +kernel,by decide +kernel⟩
def spWo:ASp:=fun xs μ R=>∃sw ps q,xs=[.D (prgD sw ps),.D (ptD q)]/\PtOk ps q/\R (.D (wordD ps q)) μ
theorem ok_wo{n:Nat}(F:Fun K "word_at" "word_at" sWo f fd) (m_len:mg "len" = none):FnOk P w K mg base CX0 (n+1) f fd ["program","point"] (cSp K 2 spWo):=by
 refine F.vok scWo fun cdv A outer s H E hr=>⟨_,(vss_cons (vs_set (i:=2) scWo.nd rfl (Or.inl rfl) (ve_ix i_ix (ve_ix i_ix (vv 0) ve_int) (ve_ix i_ix (vv 1) ve_int)))
   (vss_one (vs_ret (ve_ifExp (vt_cmp o_lt (ve_ix i_ix (vv 1) ve_int) (ve_callB c_len rfl m_len PySem.boot_len (va_cons (vv 2) va_nil)) (nomark _)) (ve_ix i_ix (ve_ix i_ix (vv 2) (ve_ix i_ix (vv 1) ve_int)) ve_int) ve_non)))),?_⟩
 rintro xs μ R _ ⟨sw,ps,q,rfl,⟨p,hp,hi⟩,h⟩
 refine opt_i rfl (opt_i rfl (opt_i (atI_nat (by rw [List.getElem?_map,hp];rfl)) ?_))
 refine opt_i rfl (dif (fun c=>?_) (fun c=>?_))
 ·have hlt:q.2 < p.length:=by simpa using c
  have e:stepAt ps q=some p[q.2]:=by unfold stepAt;rw [hp];exact List.getElem?_eq_getElem hlt
  unfold wordD at h
  rw [e]at h
  have i2:atI (p.map Stp.D) (q.2:Int)=some p[q.2].D:=atI_nat (by rw [List.getElem?_map,List.getElem?_eq_getElem hlt];rfl)
  exact opt_i rfl (opt_i i2 (opt_i (atI_nat (j:=0) rfl) ⟨μ,Sub.refl,h⟩))
 ·have hlt:¬q.2 < p.length:=by simpa using c
  have e:stepAt ps q=none:=by unfold stepAt;rw [hp];exact List.getElem?_eq_none_iff.mpr (by omega)
  unfold wordD at h
  rw [e]at h
  exact⟨μ,Sub.refl,h⟩
def StpOk(n m:Nat):Stp->Prop
 | .ask a b=>a < m/\b < m
 | .chance a b=>a < m/\b < m
 | .iff a b=>a < m/\b < m
 | .set v=>v<=1
 | .call k=>k < n
 | .back=>True
 | .mark=>True
def PrgOk(ps:Prg):Prop:=∀p∈ps,∀s∈p,StpOk ps.length p.length s
theorem pt_to{ps:Prg}{q:Pt}{p:List Stp}{x:Nat}(h:ps[q.1]?=some p)(hx:x < p.length):PtOk ps (q.1,x):=⟨p,h,Nat.le_of_lt hx⟩
theorem pt_next{ps:Prg}{q:Pt}{p:List Stp}{s:Stp}(h:ps[q.1]?=some p)(hs:p[q.2]?=some s):PtOk ps (q.1,q.2+1):=⟨p,h,(List.getElem?_eq_some_iff.mp hs).1⟩
theorem pt_call{ps:Prg}{k:Nat}(h:k < ps.length):PtOk ps (k,0):=⟨ps[k],List.getElem?_eq_getElem h,Nat.zero_le _⟩
theorem ok_of{ps:Prg}{q:Pt}{p:List Stp}{s:Stp}(ok:PrgOk ps)(h:ps[q.1]?=some p)(hs:p[q.2]?=some s):StpOk ps.length p.length s:=ok p (List.mem_of_getElem? h) s (List.mem_of_getElem? hs)
abbrev nGo:List Str:=["program","answer","point","word","step","beneath","steps"]
theorem scGo:FnScope nGo ["program","answer","point"] (defScope sGo):=⟨rfl,rfl,rfl,by decide +kernel,rfl,by decide +kernel,by decide +kernel⟩
theorem ndGo1:(["to","answer","point"]:List Str).Nodup:=by decide +kernel
def spGo:ASp:=fun xs μ R=>∃(sw:Nat) (ps:Prg) (a:Nat) (q:Pt),xs=[.D (prgD sw ps),.D (natD a),.D (ptD q)]/\PtOk ps q/\∀p,μ p=none->R (.R p) (updM μ p (.lst (goL ps a q)))
theorem ok_go{n:Nat}(F:Fun K "goings_on" "goings_on" sGo f fd) (cWo:VCal P w K mg base n "word_at" ["program","point"] spWo):FnOk P w K mg base CX0 (n+1) f fd ["program","answer","point"] (cSp K 3 spGo):=by
 refine F.vok scGo fun cdv A outer s H E hr=>⟨_,(vss_cons (vs_set (i:=3) scGo.nd rfl (Or.inl rfl) (ve_call cWo hr rfl (va_cons (vv 0) (va_cons (vv 2) va_nil))))
   (vss_cons (vs_if (VW.pt (vw_or (vt_cmp o_isN (vv 3) ve_non (nomark _)) (vw_or1 (vt_cmp (o_eq hr) (vv 3) ve_str (nomark _))))) (vss_one (vs_ret (ve_lst (va_cons (ve_tup (va_cons (vv 1) (va_cons (ve_tup va_nil) va_nil))) va_nil)))) vss_nil)
   (vss_cons (vs_set (i:=4) scGo.nd rfl (Or.inl rfl) (ve_ix i_ix (ve_ix i_ix (ve_ix i_ix (vv 0) ve_int) (ve_ix i_ix (vv 2) ve_int)) (ve_ix i_ix (vv 2) ve_int)))
   (vss_cons (vs_set (i:=5) scGo.nd rfl (Or.inl rfl) (ve_tup (va_cons (ve_ix i_ix (vv 2) ve_int) (va_cons (ve_op o_add (ve_ix i_ix (vv 2) ve_int) ve_int) va_nil))))
   (vss_cons (vs_if (vt_cmp (o_eq hr) (vv 3) ve_str (nomark _)) (vss_one (vs_ret (ve_lst (va_cons (ve_tup (va_cons (vv 1) (va_cons (ve_tup (va_cons (ve_tup (va_cons (ve_ix i_ix (vv 4) ve_int) (va_cons ve_int va_nil))) (va_cons (vv 5) va_nil))) va_nil))) va_nil)))) vss_nil)
   (vss_cons (vs_if (vt_cmp (o_eq hr) (vv 3) ve_str (nomark _)) (vss_one (vs_ret (ve_lst (va_cons (ve_tup (va_cons (ve_ix i_ix (vv 4) ve_int) (va_cons (ve_tup (va_cons (vv 5) va_nil)) va_nil))) va_nil)))) vss_nil)
   (vss_cons (vs_set (i:=6) scGo.nd rfl (Or.inl rfl) (ve_slice (vv 4) (vo_some ve_int) vo_none))
   (vss_cons (vs_if (vt_cmp (o_eq hr) (vv 3) ve_str (nomark _)) (vss_one (vs_set (i:=6) scGo.nd rfl (Or.inl rfl) (ve_tup (va_cons (ve_ifExp (vt_cmp (o_eq hr) (vv 1) ve_int (nomark _)) (ve_ix i_ix (vv 4) ve_int) (ve_ix i_ix (vv 4) ve_int)) va_nil)))) vss_nil)
   (vss_one (vs_ret (ve_comp (N':=["to","answer","point"]) (mp:=[none,some 1,some 2]) rfl (vi_seq (vv 6)) (fun _ _ _ _=>(vg_name (i:=0) ndGo1 rfl (Or.inl rfl) (Or.inr rfl))) (fun _ _ _ _=>vifs_nil) (fun _ _ _ _=>(ve_tup (va_cons (vv 1) (va_cons (ve_tup (va_cons (ve_tup (va_cons (ve_ix i_ix (vv 2) ve_int) (va_cons (vv 0) va_nil))) va_nil)) va_nil)))) (compOk_of (N:=nGo) (pn:=(defScope sGo).names) (by decide +kernel))))))))))))),?_⟩
 rintro xs μ R _ ⟨sw,ps,a,q,rfl,hq,h⟩
 refine⟨sw,ps,q,rfl,hq,?_⟩
 cases e:stepAt ps q with
 | none =>
  rw [show wordD ps q=.none by unfold wordD;rw [e]]
  unfold goL at h
  rw [e]at h
  exact brT rfl (brT rfl fun p hp=>⟨_,Sub.refl,h p hp⟩)
 | some st =>
  rw [show wordD ps q=.str st.word by unfold wordD;rw [e]]
  unfold goL at h
  rw [e]at h
  obtain⟨pr,e1,e2⟩:=step_of e
  have i1:atI (ps.map prcD) (q.1:Int)=some (prcD pr):=atI_nat (by rw [List.getElem?_map,e1];rfl)
  have i2:atI (pr.map Stp.D) (q.2:Int)=some st.D:=atI_nat (by rw [List.getElem?_map,e2];rfl)
  refine brF rfl ?_
  cases st with
  | back=>exact wEq e_back_back fun p hp=>⟨_,Sub.refl,h p hp⟩
  | call k =>
   refine wNe n_call_back (opt_i rfl (opt_i rfl (opt_i i1 (opt_i rfl (opt_i i2 (opt_i rfl (opt_i rfl ?_)))))))
   exact wEq e_call_call (opt_i (atI_nat (j:=1) rfl) fun p hp=>⟨_,Sub.refl,h p hp⟩)
  | set v =>
   refine wNe n_set_back (opt_i rfl (opt_i rfl (opt_i i1 (opt_i rfl (opt_i i2 (opt_i rfl (opt_i rfl ?_)))))))
   exact wNe n_set_call (wEq e_set_set (opt_i (atI_nat (j:=1) rfl) fun p hp=>⟨_,Sub.refl,h p hp⟩))
  | iff x y =>
   refine wNe n_if_back (opt_i rfl (opt_i rfl (opt_i i1 (opt_i rfl (opt_i i2 (opt_i rfl (opt_i rfl ?_)))))))
   refine wNe n_if_call (wNe n_if_set (wEq e_if_if ⟨eqOk_int _,eqOk_int _,?_⟩))
   have e3:PyData.eqv (.int a) (.int 1)=decide (a=1):=by
    show((a:Int)==1)=_
    rw [Bool.eq_iff_iff];simp;omega
   refine br (fun c=>?_) (fun c=>?_)
   ·dsimp only at h
    rw [if_pos (of_decide_eq_true (e3 ▸ c))]at h
    exact opt_i (atI_nat (j:=1) rfl) (opt_i rfl fun p hp=>⟨rfl,brT rfl (opt_i rfl ⟨updM_same,by decide,rfl,_,Sub.refl,by rw [updM_updM];exact h p hp⟩)⟩)
   ·dsimp only at h
    rw [if_neg (of_decide_eq_false (e3 ▸ c))]at h
    exact opt_i (atI_nat (j:=2) rfl) (opt_i rfl fun p hp=>⟨rfl,brT rfl (opt_i rfl ⟨updM_same,by decide,rfl,_,Sub.refl,by rw [updM_updM];exact h p hp⟩)⟩)
  | ask x y =>
   refine wNe n_ask_back (opt_i rfl (opt_i rfl (opt_i i1 (opt_i rfl (opt_i i2 (opt_i rfl (opt_i rfl ?_)))))))
   refine wNe n_ask_call (wNe n_ask_set (wNe n_ask_if (opt_i rfl fun p hp=>⟨rfl,brT rfl (opt_i rfl ⟨updM_same,by decide,rfl,brT rfl (opt_i rfl ⟨updM_same,(show 1 < sizeLine by decide),rfl,_,Sub.refl,?_⟩)⟩)⟩)))
   rw [updM_updM,updM_updM]
   exact h p hp
  | chance x y =>
   refine wNe n_chance_back (opt_i rfl (opt_i rfl (opt_i i1 (opt_i rfl (opt_i i2 (opt_i rfl (opt_i rfl ?_)))))))
   refine wNe n_chance_call (wNe n_chance_set (wNe n_chance_if (opt_i rfl fun p hp=>⟨rfl,brT rfl (opt_i rfl ⟨updM_same,by decide,rfl,brT rfl (opt_i rfl ⟨updM_same,(show 1 < sizeLine by decide),rfl,_,Sub.refl,?_⟩)⟩)⟩)))
   rw [updM_updM,updM_updM]
   exact h p hp
  | mark =>
   refine wNe n_mark_back (opt_i rfl (opt_i rfl (opt_i i1 (opt_i rfl (opt_i i2 (opt_i rfl (opt_i rfl ?_)))))))
   exact wNe n_mark_call (wNe n_mark_set (wNe n_mark_if (opt_i rfl fun p hp=>⟨rfl,_,Sub.refl,h p hp⟩)))
end
section
variable {P:Program}{w:World}{K:PySem.W.Frag}{mg:Str->Option Value}{base:Heap}{f:Addr}{fd:FuncData}
def prcA(p:List Stp):AV:=.D (prcD p)
def stpA(s:Stp):AV:=.D s.D
theorem okA3:EqOk (.tuple [.str "ask",.str "chance",.str "if"]):=⟨by decide +kernel,by simp [PyData.depth,PyData.depthAll]⟩
theorem d_ask:([PyData.str "ask",.str "chance",.str "if"].any fun e=>PyData.eqv e (.str "ask"))=true:=by decide +kernel
theorem d_chance:([PyData.str "ask",.str "chance",.str "if"].any fun e=>PyData.eqv e (.str "chance"))=true:=by decide +kernel
theorem d_set:([PyData.str "ask",.str "chance",.str "if"].any fun e=>PyData.eqv e (.str "set"))=false:=by decide +kernel
theorem d_if:([PyData.str "ask",.str "chance",.str "if"].any fun e=>PyData.eqv e (.str "if"))=true:=by decide +kernel
theorem d_call:([PyData.str "ask",.str "chance",.str "if"].any fun e=>PyData.eqv e (.str "call"))=false:=by decide +kernel
theorem d_back:([PyData.str "ask",.str "chance",.str "if"].any fun e=>PyData.eqv e (.str "back"))=false:=by decide +kernel
theorem d_mark:([PyData.str "ask",.str "chance",.str "if"].any fun e=>PyData.eqv e (.str "mark"))=false:=by decide +kernel
theorem dats_prc(ps:List (List Stp)):dats (ps.map prcA)=some (ps.map prcD):=by
 rw [show ps.map prcA=(ps.map prcD).map .D by rw [List.map_map];rfl];exact dats_map _
theorem dats_stp(ps:List Stp):dats (ps.map stpA)=some (ps.map Stp.D):=by
 rw [show ps.map stpA=(ps.map Stp.D).map .D by rw [List.map_map];rfl];exact dats_map _
def SwOk(sw:Nat):Stp->Prop
 | .set v=>v<=sw
 | _=>True
abbrev nPr:List Str:=["_law_pot_here","_law_switches","_law_sizes","_law_procedures","_law_many","_law_steps_here","_law_at","_law_words","_law_word","_law_step"]
theorem scPr:FnScope nPr ["_law_pot_here"] (defScope sPr):=⟨rfl,rfl,rfl,by decide +kernel,rfl,by decide +kernel,by decide +kernel⟩
theorem ndPr1:(["_law_k","_law_pot_here"]:List Str).Nodup:=by decide +kernel
def spPr:ASp:=fun xs μ R=>∃a l,xs=[.R a]/\Pot μ a l/\∀(sw:Nat) (ps:Prg) (μ':M),PrgOk ps->0 < ps.length->sw<=1->ps.length<=3->(∀p∈ps,1<=p.length/\p.length<=4)->(∀p∈ps,∀s∈p,SwOk sw s)->Pot μ' a l->Ext2 a l μ μ'->R (.D (prgD sw ps)) μ'
theorem ne_kn{μ:M}{p b:Addr}{m:MO}(h:μ b=some m)(e:μ p=none):b≠p:=by intro z;subst z;rw [h]at e;cases e
theorem ok_pr{n:Nat}(F:Fun K "_law_program" "_law_program" sPr f fd) (cDr:VCal P w K mg base n "_law_draw" ["_law_pot_here","_law_many"] spDr) (m_range:mg "range" = none) (m_len:mg "len" = none) (m_tuple:mg "tuple" = none):FnOk P w K mg base CX0 (n+1) f fd ["_law_pot_here"] (cSp K 1 spPr):=by
 refine F.vok scPr fun cdv A outer s H E hr=>⟨_,(vss_cons (vs_set (i:=1) scPr.nd rfl (Or.inl rfl) (ve_call cDr hr rfl (va_cons (vv 0) (va_cons ve_int va_nil))))
   (vss_cons (vs_setC (i:=2) (N':=["_law_k","_law_pot_here"]) (mp:=[none,some 0]) rfl scPr.nd rfl rfl (vi_range1 rfl m_range (va_cons (ve_op o_add ve_int (ve_call cDr hr rfl (va_cons (vv 0) (va_cons ve_int va_nil)))) va_nil)) (fun _ _ _ _=>(vg_name (i:=0) ndPr1 rfl (Or.inl rfl) (Or.inr rfl))) (fun _ _ _ _=>vifs_nil) (fun _ _ _ _=>(ve_op o_add ve_int (ve_call cDr hr rfl (va_cons (vv 1) (va_cons ve_int va_nil))))) (compOk_of (N:=nPr) (pn:=(defScope sPr).names) (by decide +kernel)))
   (vss_cons (vs_set (i:=3) scPr.nd rfl (Or.inl rfl) (ve_lst va_nil))
   (vss_cons (vs_for PassesOwn.never rfl (vi_seq (vv 2)) (vg_name (i:=4) scPr.nd rfl (Or.inl rfl)) (vss_cons (vs_set (i:=5) scPr.nd rfl (Or.inl rfl) (ve_lst va_nil))
   (vss_cons (vs_for PassesOwn.never rfl (vi_range1 rfl m_range (va_cons (vv 4) va_nil)) (vg_name (i:=6) scPr.nd rfl (Or.inl rfl)) (vss_cons (vs_set (i:=7) scPr.nd rfl (Or.inl rfl) (ve_lst (va_cons ve_str (va_cons ve_str (va_cons ve_str (va_cons ve_str (va_cons ve_str (va_cons ve_str (va_cons ve_str (va_cons ve_str (va_cons ve_str va_nil)))))))))))
   (vss_cons (vs_set (i:=8) scPr.nd rfl (Or.inl rfl) (ve_ix i_ix (vv 7) (ve_call cDr hr rfl (va_cons (vv 0) (va_cons (ve_op o_add ve_int (ve_op o_mul ve_int (vv 1))) va_nil)))))
   (vss_cons (vs_set (i:=9) scPr.nd rfl (Or.inl rfl) (ve_tup (va_cons (vv 8) va_nil)))
   (vss_cons (vs_if (vt_cmp (o_in hr) (vv 8) (ve_tup (va_cons ve_str (va_cons ve_str (va_cons ve_str va_nil)))) (by with_unfolding_all rfl)) (vss_one (vs_set (i:=9) scPr.nd rfl (Or.inl rfl) (ve_tup (va_cons (vv 8) (va_cons (ve_call cDr hr rfl (va_cons (vv 0) (va_cons (vv 4) va_nil))) (va_cons (ve_call cDr hr rfl (va_cons (vv 0) (va_cons (vv 4) va_nil))) va_nil)))))) vss_nil)
   (vss_cons (vs_if (vt_cmp (o_eq hr) (vv 8) ve_str (nomark _)) (vss_one (vs_set (i:=9) scPr.nd rfl (Or.inl rfl) (ve_tup (va_cons (vv 8) (va_cons (ve_call cDr hr rfl (va_cons (vv 0) (va_cons (ve_callB c_len rfl m_len PySem.boot_len (va_cons (vv 2) va_nil)) va_nil))) va_nil))))) vss_nil)
   (vss_cons (vs_if (vt_cmp (o_eq hr) (vv 8) ve_str (nomark _)) (vss_one (vs_set (i:=9) scPr.nd rfl (Or.inl rfl) (ve_tup (va_cons (vv 8) (va_cons (ve_call cDr hr rfl (va_cons (vv 0) (va_cons ve_int va_nil))) va_nil))))) vss_nil)
   (vss_one (vs_expr (ve_ml PySem.F.slot_list_append PySem.F.type_list_append m_append (vv 5) (va_cons (vv 9) va_nil)))))))))))
   (vss_one (vs_expr (ve_ml PySem.F.slot_list_append PySem.F.type_list_append m_append (vv 3) (va_cons (ve_callTy c_tuple rfl m_tuple PyProof.Rows.boot_tuple (va_cons (vv 5) va_nil)) va_nil)))))))
   (vss_one (vs_ret (ve_tup (va_cons (vv 1) (va_cons (ve_callTy c_tuple rfl m_tuple PyProof.Rows.boot_tuple (va_cons (vv 3) va_nil)) va_nil))))))))),?_⟩
 rintro xs μ R _ ⟨a,l,rfl,hP,q⟩
 refine⟨a,l,2,rfl,hP,by decide,by decide,fun sw μ1 hsw P1 S1=>?_⟩
 refine seq_i (fun τ μ'=>∃(pz:Addr) (zs:List Nat),τ=[some (.R a),some (natA sw),some (.R pz),none,none,none,none,none,none,none]/\μ' pz=some (.lst (zs.map natA))/\a≠pz/\l≠pz/\0 < zs.length/\zs.length<=3/\(∀z∈zs,1<=z/\z<=4)/\Pot μ' a l/\Ext2 a l μ μ') (fun W' hW'=>?_) ?_
 ·refine⟨a,l,3,rfl,P1,by decide,by decide,fun c μ2 hc P2 S2=>⟨by omega,by omega,fun pz hpz=>?_⟩⟩
  have hne:=P2.ne hpz
  have hlen:(rngA 0 ((1:Int)+(c:Int)).toNat).length=1+c:=by rw [rngA_length];omega
  refine comp_i (fun i acc τ μ'=>∃(o:Option AV) (zs:List Nat),τ=[o,some (.R a)]/\acc=zs.map natA/\zs.length=i/\(∀z∈zs,1<=z/\z<=4)/\μ' pz=some (.lst acc)/\Pot μ' a l/\Ext2 a l μ μ') ⟨none,[],rfl,rfl,rfl,(fun _ z=>nomatch z),updM_same,P2.new hpz,(S1.trans S2).new hpz⟩ (fun _ _ _ _ _=>trivial) ?_ ?_
  ·rintro i x acc τ μ' W hx ⟨o,zs,rfl,rfl,hzl,hz,hm,P3,S3⟩ hW
   have hi:i < 1+c:=by rw [<- hlen];exact(List.getElem?_eq_some_iff.mp hx).1
   refine brT rfl ⟨a,l,4,rfl,P3,by decide,by decide,fun v μ4 hv P4 S4=>?_⟩
   have hm4:=S4 pz _ hne.1.symm hne.2.symm hm
   refine⟨hm4,by rw [List.length_map];exact small1000 (by omega),hW _ _ _ ⟨_,zs++[1+v],rfl,by rw [List.map_append];rfl,by rw [List.length_append,hzl];rfl,?_,updM_same,P4.other hne.1 hne.2,?_⟩⟩
   ·intro z h
    rcases List.mem_append.mp h with h | h
    ·exact hz z h
    ·rw [List.mem_singleton.mp h];omega
   ·exact(S3.trans S4).put ((S1.trans S2).none hne.1 hne.2 hpz)
  ·rintro acc τ μ' ⟨o,zs,rfl,rfl,hzl,hz,hm,P3,S3⟩
   exact hW' _ _ ⟨pz,zs,rfl,hm,hne.1,hne.2,by omega,by omega,hz,P3,S3⟩
 rintro τ μ2 ⟨pz,zs,rfl,hz,ha,hl,hz0,hz3,hzs,P2,S2⟩
 intro pp hpp
 have hpp1:=P2.ne hpp
 have hppz:pz≠pp:=ne_kn hz hpp
 refine seq_i (fun τ μ'=>∃(o4 o5 o6 o7 o8 o9:Option AV) (ps:Prg),τ=[some (.R a),some (natA sw),some (.R pz),some (.R pp),o4,o5,o6,o7,o8,o9]/\μ' pp=some (.lst (ps.map prcA))/\ps.length=zs.length/\(∀p∈ps,(1<=p.length/\p.length<=4)/\∀s∈p,StpOk zs.length p.length s/\SwOk sw s)/\Pot μ' a l/\Ext2 a l μ μ') (fun W' hW'=>?_) ?_
 ·refine opt_i (items_R (by rw [updM_ne hppz];exact hz)) ?_
  refine for_i (fun i τ μ'=>∃(o4 o5 o6 o7 o8 o9:Option AV) (ps:Prg),τ=[some (.R a),some (natA sw),some (.R pz),some (.R pp),o4,o5,o6,o7,o8,o9]/\μ' pp=some (.lst (ps.map prcA))/\ps.length=i/\(∀p∈ps,(1<=p.length/\p.length<=4)/\∀s∈p,StpOk zs.length p.length s/\SwOk sw s)/\μ' pz=some (.lst (zs.map natA))/\Pot μ' a l/\Ext2 a l μ μ')
   ⟨none,none,none,none,none,none,[],rfl,updM_same,rfl,(fun _ z=>nomatch z),by rw [updM_ne hppz];exact hz,P2.new hpp,S2.new hpp⟩ ?_ ?_ ?_
  ·rintro i τ μ' ⟨o4,o5,o6,o7,o8,o9,ps,rfl,h1,h2,h3,h4,h5,h6⟩
   exact items_R h4
  ·rintro i x τ μ' W hx ⟨o4,o5,o6,o7,o8,o9,ps,rfl,h1,h2,h3,h4,h5,h6⟩ hW
   rw [List.getElem?_map]at hx
   obtain⟨z,hzi,rfl⟩:=Option.map_eq_some_iff.mp hx
   have hi:i < zs.length:=(List.getElem?_eq_some_iff.mp hzi).1
   have hz14:=hzs z (List.mem_of_getElem? hzi)
   intro pst hpst
   have hst1:=h5.ne hpst
   have hstz:pz≠pst:=ne_kn h4 hpst
   have hstp:pp≠pst:=ne_kn h1 hpst
   refine seq_i (fun τ μ''=>∃(o6 o7 o8 o9:Option AV) (st:List Stp),τ=[some (.R a),some (natA sw),some (.R pz),some (.R pp),some (natA z),some (.R pst),o6,o7,o8,o9]/\μ'' pst=some (.lst (st.map stpA))/\st.length=z/\(∀s∈st,StpOk zs.length z s/\SwOk sw s)/\Pot μ'' a l/\Ext2 a l μ' μ'') (fun W3 hW3=>?_) ?_
   ·refine⟨by omega,by omega,?_⟩
    have hlen:(rngA 0 (z:Int).toNat).length=z:=by rw [rngA_length];omega
    refine for_i (fun j τ μ''=>∃(o6 o7 o8 o9:Option AV) (st:List Stp),τ=[some (.R a),some (natA sw),some (.R pz),some (.R pp),some (natA z),some (.R pst),o6,o7,o8,o9]/\μ'' pst=some (.lst (st.map stpA))/\st.length=j/\(∀s∈st,StpOk zs.length z s/\SwOk sw s)/\Pot μ'' a l/\Ext2 a l μ' μ'')
     ⟨o6,o7,o8,o9,[],rfl,updM_same,rfl,(fun _ z=>nomatch z),h5.new hpst,Ext2.refl.new hpst⟩ (fun _ _ _ _=>trivial) ?_ ?_
    ·rintro j x τ μ3 W4 hx ⟨o6,o7,o8,o9,st,rfl,k1,k2,k3,k4,k5⟩ hW4
     have hj:j < z:=by rw [<- hlen];exact(List.getElem?_eq_some_iff.mp hx).1
     intro pw hpw
     have hpw1:=k4.ne hpw
     have hstw:pst≠pw:=ne_kn k1 hpw
     have fin:∀(s:Stp) (μ4:M) (o6 o7 o8 o9:Option AV),StpOk zs.length z s/\SwOk sw s->Pot μ4 a l->Ext2 a l (updM μ3 pw (.lst [.D (.str "ask"),.D (.str "call"),.D (.str "chance"),.D (.str "back"),.D (.str "mark"),.D (.str "call"),.D (.str "set"),.D (.str "if"),.D (.str "set")])) μ4 ->
       (isLst μ4 (.R pst)/\opt (μ4 pst) fun m=>match m with
        | .lst ys=>ys.length < sizeLine/\W4 [some (.R a),some (natA sw),some (.R pz),some (.R pp),some (natA z),some (.R pst),o6,o7,o8,o9] (updM μ4 pst (.lst (ys++[stpA s])))
        | _=>False):=by
      intro s μ4 o6 o7 o8 o9 hs p4 s4
      have g1:=s4 pst _ hst1.1.symm hst1.2.symm (by rw [updM_ne hstw];exact k1)
      refine⟨opt_i g1 trivial,opt_i g1 ⟨by rw [List.length_map];exact small1000 (by omega),hW4 _ _ ⟨o6,o7,o8,o9,st++[s],rfl,by rw [updM_same,List.map_append];rfl,by rw [List.length_append,k2];rfl,?_,p4.other hst1.1 hst1.2,?_⟩⟩⟩
      ·intro t ht
       rcases List.mem_append.mp ht with ht | ht
       ·exact k3 t ht
       ·rw [List.mem_singleton.mp ht];exact hs
      ·exact((k5.new hpw).trans s4).put hpst
     refine seq_i (fun τ μ4=>∃(o9:Option AV) (wd:Stp),τ=[some (.R a),some (natA sw),some (.R pz),some (.R pp),some (natA z),some (.R pst),some x,some (.R pw),some (.D (.str wd.word)),o9]/\(∀v,wd=.set v->1<=sw)/\Pot μ4 a l/\Ext2 a l (updM μ3 pw (.lst [.D (.str "ask"),.D (.str "call"),.D (.str "chance"),.D (.str "back"),.D (.str "mark"),.D (.str "call"),.D (.str "set"),.D (.str "if"),.D (.str "set")])) μ4) (fun W5 hW5=>?_) ?_
     ·refine⟨.inl ⟨by decide,by decide⟩,a,l,6+3 * sw,rfl,k4.new hpw,by omega,by omega,fun v μ5 hv P5 S5=>?_⟩
      have g1:=S5 pw _ hpw1.1.symm hpw1.2.symm updM_same
      refine opt_i g1 ?_
      have hv9:v=0\/v=1\/v=2\/v=3\/v=4\/v=5\/v=6\/v=7\/v=8:=by omega
      rcases hv9 with rfl | rfl | rfl | rfl | rfl | rfl | rfl | rfl | rfl
      ·exact opt_i rfl (hW5 _ _ ⟨o9,.ask 0 0,rfl,(fun _ z=>nomatch z),P5,S5⟩)
      ·exact opt_i rfl (hW5 _ _ ⟨o9,.call 0,rfl,(fun _ z=>nomatch z),P5,S5⟩)
      ·exact opt_i rfl (hW5 _ _ ⟨o9,.chance 0 0,rfl,(fun _ z=>nomatch z),P5,S5⟩)
      ·exact opt_i rfl (hW5 _ _ ⟨o9,.back,rfl,(fun _ z=>nomatch z),P5,S5⟩)
      ·exact opt_i rfl (hW5 _ _ ⟨o9,.mark,rfl,(fun _ z=>nomatch z),P5,S5⟩)
      ·exact opt_i rfl (hW5 _ _ ⟨o9,.call 0,rfl,(fun _ z=>nomatch z),P5,S5⟩)
      ·exact opt_i rfl (hW5 _ _ ⟨o9,.set 0,rfl,(fun _ _=>by omega),P5,S5⟩)
      ·exact opt_i rfl (hW5 _ _ ⟨o9,.iff 0 0,rfl,(fun _ z=>nomatch z),P5,S5⟩)
      ·exact opt_i rfl (hW5 _ _ ⟨o9,.set 0,rfl,(fun _ _=>by omega),P5,S5⟩)
     ·rintro τ μ4 ⟨o9,wd,rfl,hwd,P4,S4⟩
      cases wd with
      | ask _ _ =>
       refine opt_i rfl ⟨eqOk_str (wOk _),okA3,brT d_ask ⟨a,l,z,rfl,P4,by omega,by omega,fun x1 μ5 hx1 P5 S5=>⟨a,l,z,rfl,P5,by omega,by omega,fun x2 μ6 hx2 P6 S6=>?_⟩⟩⟩
       exact wNe n_ask_call (wNe n_ask_set (fin (.ask x1 x2) _ _ _ _ _ ⟨⟨hx1,hx2⟩,trivial⟩ P6 ((S4.trans S5).trans S6)))
      | chance _ _ =>
       refine opt_i rfl ⟨eqOk_str (wOk _),okA3,brT d_chance ⟨a,l,z,rfl,P4,by omega,by omega,fun x1 μ5 hx1 P5 S5=>⟨a,l,z,rfl,P5,by omega,by omega,fun x2 μ6 hx2 P6 S6=>?_⟩⟩⟩
       exact wNe n_chance_call (wNe n_chance_set (fin (.chance x1 x2) _ _ _ _ _ ⟨⟨hx1,hx2⟩,trivial⟩ P6 ((S4.trans S5).trans S6)))
      | iff _ _ =>
       refine opt_i rfl ⟨eqOk_str (wOk _),okA3,brT d_if ⟨a,l,z,rfl,P4,by omega,by omega,fun x1 μ5 hx1 P5 S5=>⟨a,l,z,rfl,P5,by omega,by omega,fun x2 μ6 hx2 P6 S6=>?_⟩⟩⟩
       exact wNe n_if_call (wNe n_if_set (fin (.iff x1 x2) _ _ _ _ _ ⟨⟨hx1,hx2⟩,trivial⟩ P6 ((S4.trans S5).trans S6)))
      | call _ =>
       have gz0:=k5 pz _ ha.symm hl.symm h4
       have gz:μ4 pz=some (.lst (zs.map natA)):=S4 pz _ ha.symm hl.symm (by rw [updM_ne (ne_kn gz0 hpw)];exact gz0)
       refine opt_i rfl ⟨eqOk_str (wOk _),okA3,brF d_call (wEq e_call_call (opt_i gz ⟨a,l,zs.length,?_,P4,hz0,by omega,fun x1 μ5 hx1 P5 S5=>?_⟩))⟩
       ·rw [List.length_map]
       ·exact wNe n_call_set (fin (.call x1) _ _ _ _ _ ⟨hx1,trivial⟩ P5 (S4.trans S5))
      | set _ =>
       refine opt_i rfl ⟨eqOk_str (wOk _),okA3,brF d_set (wNe n_set_call (wEq e_set_set ⟨a,l,2,rfl,P4,by decide,by decide,fun x1 μ5 hx1 P5 S5=>?_⟩))⟩
       exact fin (.set x1) _ _ _ _ _ ⟨show x1<=1 by omega,show x1<=sw by have:=hwd _ rfl;omega⟩ P5 (S4.trans S5)
      | back=>exact opt_i rfl ⟨eqOk_str (wOk _),okA3,brF d_back (wNe n_back_call (wNe n_back_set (fin .back _ _ _ _ _ ⟨trivial,trivial⟩ P4 S4)))⟩
      | mark=>exact opt_i rfl ⟨eqOk_str (wOk _),okA3,brF d_mark (wNe n_mark_call (wNe n_mark_set (fin .mark _ _ _ _ _ ⟨trivial,trivial⟩ P4 S4)))⟩
    ·rintro τ μ3 ⟨o6,o7,o8,o9,st,rfl,k1,k2,k3,k4,k5⟩
     rw [hlen]at k2
     exact hW3 _ _ ⟨o6,o7,o8,o9,st,rfl,k1,k2,k3,k4,k5⟩
   ·rintro τ μ3 ⟨o6,o7,o8,o9,st,rfl,k1,k2,k3,k4,k5⟩
    have g1:=k5 pp _ hpp1.1.symm hpp1.2.symm h1
    refine⟨opt_i g1 trivial,opt_i (items_R k1) (opt_i (dats_stp st) (opt_i g1 ⟨by rw [List.length_map];exact small1000 (by omega),hW _ _ ⟨_,_,_,_,_,_,ps++[st],rfl,by rw [updM_same,List.map_append];rfl,by rw [List.length_append,h2];rfl,?_,by rw [updM_ne hppz];exact k5 pz _ ha.symm hl.symm h4,k4.other hpp1.1 hpp1.2,?_⟩⟩))⟩
    ·intro p hp
     rcases List.mem_append.mp hp with hp | hp
     ·exact h3 p hp
     ·rw [List.mem_singleton.mp hp,k2];exact⟨hz14,k3⟩
    ·exact(h6.trans k5).put (S2.none hpp1.1 hpp1.2 hpp)
  ·rintro τ μ' ⟨o4,o5,o6,o7,o8,o9,ps,rfl,h1,h2,h3,h4,h5,h6⟩
   rw [List.length_map]at h2
   exact hW' _ _ ⟨o4,o5,o6,o7,o8,o9,ps,rfl,h1,h2,h3,h5,h6⟩
 ·rintro τ μ' ⟨o4,o5,o6,o7,o8,o9,ps,rfl,h1,h2,h3,h5,h6⟩
  refine opt_i (items_R h1) (opt_i (dats_prc ps) ⟨_,Sub.refl,q sw ps _ ?_ (by omega) (by omega) (by omega) ?_ ?_ h5 h6⟩)
  ·intro p hp s hs
   rw [h2];exact((h3 p hp).2 s hs).1
  ·exact fun p hp=>(h3 p hp).1
  ·exact fun p hp s hs=>((h3 p hp).2 s hs).2
end
section
variable {P:Program}{w:World}{K:PySem.W.Frag}{mg:Str->Option Value}{base:Heap}{f:Addr}{fd:FuncData}
def ptA(q:Pt):AV:=.D (ptD q)
def ptsF:Nat->Prg->List Pt
 | _,[]=>[]
 | k,p :: ps=>(List.range (p.length+1)).map (fun j=>(k,j))++ptsF (k+1) ps
def pts(ps:Prg):List Pt:=ptsF 0 ps
theorem pts_mem:∀{k:Nat} {ps:Prg} {q:Pt},q∈ptsF k ps↔∃p,k<=q.1/\ps[q.1 - k]?=some p/\q.2<=p.length
 | k,[],q=>by simp [ptsF]
 | k,p :: ps,q=>by
  unfold ptsF
  rw [List.mem_append,List.mem_map,pts_mem]
  constructor
  ·rintro(⟨j,hj,rfl⟩ | ⟨p',h1,h2,h3⟩)
   ·have:=List.mem_range.mp hj
    exact⟨p,Nat.le_refl _,by simp,by show j<=_;omega⟩
   ·refine⟨p',by omega,?_,h3⟩
    rw [show q.1 - k=(q.1 - (k+1))+1 by omega,List.getElem?_cons_succ];exact h2
  ·rintro⟨p',h1,h2,h3⟩
   by_cases c:q.1=k
   ·rw [show q.1 - k=0 by omega]at h2
    cases h2
    exact .inl ⟨q.2,List.mem_range.mpr (by omega),by rw [<- c]⟩
   ·rw [show q.1 - k=(q.1 - (k+1))+1 by omega,List.getElem?_cons_succ]at h2
    exact .inr ⟨p',by omega,h2,h3⟩
theorem pt_in{ps:Prg}{q:Pt}:q∈pts ps↔PtOk ps q:=by
 unfold pts PtOk
 rw [pts_mem]
 simp
theorem pts_snoc:∀(k:Nat) (ps:Prg) (p:List Stp),ptsF k (ps++[p])=ptsF k ps++(List.range (p.length+1)).map fun j=>(k+ps.length,j)
 | k,[],p=>by simp [ptsF]
 | k,r :: ps,p=>by
  rw [List.cons_append,ptsF,ptsF,pts_snoc (k+1) ps p,List.append_assoc,List.length_cons,show k+1+ps.length=k+(ps.length+1) by omega]
theorem pts_nodup:∀(k:Nat) (ps:Prg),(ptsF k ps).Nodup
 | _,[]=>List.nodup_nil
 | k,p :: ps=>by
  unfold ptsF
  rw [List.nodup_append]
  refine⟨?_,pts_nodup (k+1) ps,?_⟩
  ·exact List.pairwise_map.mpr (List.nodup_range.imp fun h e=>h (Prod.mk.inj e).2)
  ·intro a ha b hb e
   obtain⟨j,_,rfl⟩:=List.mem_map.mp ha
   obtain⟨p',h,_⟩:=pts_mem.mp hb
   rw [<- e]at h
   exact absurd h (by show ¬k+1<=k;omega)
theorem pts_len:∀(k:Nat) (ps:Prg),(∀p∈ps,p.length<=4)->(ptsF k ps).length<=5 * ps.length
 | _,[],_=>by simp [ptsF]
 | k,p :: ps,h=>by
  have h1:=h p (.head _)
  have h2:=pts_len (k+1) ps fun r hr=>h r (.tail _ hr)
  unfold ptsF
  rw [List.length_append,List.length_map,List.length_range,List.length_cons]
  omega
def ix(ps:Prg)(q:Pt):Nat:=(pts ps).idxOf q
theorem ix_at{ps:Prg}{N:Nat}{q:Pt}(h:(pts ps)[N]?=some q):ix ps q=N:=by
 obtain⟨hN,e⟩:=List.getElem?_eq_some_iff.mp h
 unfold ix
 rw [<- e]
 exact(pts_nodup 0 ps).idxOf_getElem N hN
theorem ix_get{ps:Prg}{q:Pt}(h:q∈pts ps):(pts ps)[ix ps q]?=some q:=by
 have hl:=List.idxOf_lt_length_iff.mpr h
 unfold ix
 rw [List.getElem?_eq_getElem hl,List.getElem_idxOf hl]
theorem eqv_pt(a b:Pt):PyData.eqv (ptD a) (ptD b)=decide (a=b):=by
 rw [eqv_dec (by simp [ptD,natD,Cano,CanoAll]) (by simp [ptD,natD,Cano,CanoAll])]
 rw [Bool.eq_iff_iff,decide_eq_true_iff,decide_eq_true_iff]
 constructor
 ·intro h
  unfold ptD natD at h
  simp only [PyData.tuple.injEq,List.cons.injEq,PyData.int.injEq,and_true]at h
  exact Prod.ext (by omega) (by omega)
 ·rintro rfl;rfl
theorem find_pt:∀{l:List Pt} {q:Pt},q∈l->(l.map ptD).findIdx? (fun e=>PyData.eqv e (ptD q))=some (l.idxOf q)
 | [],_,h=>nomatch h
 | a :: l,q,h=>by
  rw [List.map_cons,List.findIdx?_cons,eqv_pt,List.idxOf_cons]
  by_cases c:a=q
  ·subst c;simp
  ·have hq:q∈l:=by
    rcases List.mem_cons.mp h with z | z
    ·exact absurd z.symm c
    ·exact z
   rw [find_pt hq,show(a==q)=false from beq_false_of_ne c]
   simp [c]
theorem pts_ok(l:List Pt):PyData.canLayAll0 (l.map ptD)=true/\PyData.depthAll (l.map ptD)<=2:=by
 induction l with
 | nil=>exact⟨rfl,by decide⟩
 | cons q l ih =>
  have h1:(ptD q).canLay0=true:=rfl
  have h2:(ptD q).depth<=2:=by simp [ptD,natD,PyData.depth,PyData.depthAll]
  refine⟨by simp [PyData.canLayAll0,h1,ih.1],?_⟩
  have:=ih.2
  simp only [List.map_cons,PyData.depthAll]
  omega
theorem eqOk_pts(l:List Pt):EqOk (.tuple (l.map ptD)):=⟨(pts_ok l).1,by have:=(pts_ok l).2;simp only [PyData.depth];omega⟩
theorem eqOk_pt(q:Pt):EqOk (ptD q):=⟨rfl,by simp [ptD,natD,PyData.depth,PyData.depthAll]⟩
theorem dats_pt(l:List Pt):dats (l.map ptA)=some (l.map ptD):=by
 rw [show l.map ptA=(l.map ptD).map .D by rw [List.map_map];rfl];exact dats_map _
theorem find_ix{ps:Prg}{q:Pt}(hq:PtOk ps q):((pts ps).map ptD).findIdx? (fun e=>PyData.eqv e (ptD q))=some (ix ps q):=find_pt (pt_in.mpr hq)
theorem rng_nat:∀(n k:Nat),rngA (k:Int) n=(List.range' k n).map natA
 | 0,k=>rfl
 | n+1,k=>by
  rw [List.range'_succ,List.map_cons,<- rng_nat n (k+1)]
  rfl
theorem rng_nat0(n:Nat):rngA 0 n=(List.range n).map natA:=by
 rw [List.range_eq_range'];exact rng_nat n 0
theorem unp2{a b:PyData}{i j:Nat}{τ:ASt}{μ:M}{R:ASt->M->Prop}(h:R ((τ.set i (some (.D a))).set j (some (.D b))) μ):wCons (wName i) (wCons (wName j) wNil) (List.map AV.D [a,b]) τ μ R:=h
theorem en_prc{ps:Prg}{i:Nat}{x:AV}(h:(enumA 0 (ps.map prcD))[i]?=some x):∃p,ps[i]?=some p/\x=.D (.tuple [.int i,prcD p]):=by
 obtain⟨d,hd,rfl⟩:=enumA_get h
 rw [List.getElem?_map]at hd
 obtain⟨p,hp,rfl⟩:=Option.map_eq_some_iff.mp hd
 exact⟨p,hp,by rw [Nat.zero_add]⟩
structure PgOk(sw:Nat)(ps:Prg):Prop where
 ok:PrgOk ps
 n0:0 < ps.length
 n3:ps.length<=3
 l:∀p∈ps,1<=p.length/\p.length<=4
 sw:sw<=1
theorem PgOk.len{sw:Nat}{ps:Prg}(h:PgOk sw ps):(pts ps).length<=15:=by
 have:=pts_len 0 ps fun p hp=>(h.l p hp).2
 have:=h.n3
 unfold pts
 omega
abbrev nAp:List Str:=["program","points","number","procedure"]
theorem scAp:FnScope nAp ["program"] (defScope sAp):=⟨rfl,rfl,rfl,by decide +kernel,rfl,by decide +kernel,by decide +kernel⟩
theorem ndAp1:(["step","number"]:List Str).Nodup:=by decide +kernel
def spAp:ASp:=fun xs μ R=>∃(sw:Nat) (ps:Prg),xs=[.D (prgD sw ps)]/\PgOk sw ps/\∀p μ',μ p=none->μ' p=some (.lst ((pts ps).map ptA))->Sub μ μ'->R (.R p) μ'
theorem ok_ap{n:Nat}(F:Fun K "all_points" "all_points" sAp f fd) (m_enumerate:mg "enumerate" = none) (m_range:mg "range" = none) (m_len:mg "len" = none):FnOk P w K mg base CX0 (n+1) f fd ["program"] (cSp K 1 spAp):=by
 refine F.vok scAp fun cdv A outer s H E hr=>⟨_,(vss_cons (vs_set (i:=1) scAp.nd rfl (Or.inl rfl) (ve_lst va_nil))
   (vss_cons (vs_for PassesOwn.never rfl (vi_enum rfl m_enumerate (ve_ix i_ix (vv 0) ve_int)) (vg_tup (n:=2) rfl (vgs_cons (vg_name (i:=2) scAp.nd rfl (Or.inr rfl)) (vgs_cons (vg_name (i:=3) scAp.nd rfl (Or.inl rfl)) vgs_nil))) (vss_one (vs_expr (ve_ml PySem.F.slot_list_extend PySem.F.type_list_extend m_extend (vv 1) (va_cons (ve_comp (N':=["step","number"]) (mp:=[none,some 2]) rfl (vi_range1 rfl m_range (va_cons (ve_op o_add (ve_callB c_len rfl m_len PySem.boot_len (va_cons (vv 3) va_nil)) ve_int) va_nil)) (fun _ _ _ _=>(vg_name (i:=0) ndAp1 rfl (Or.inl rfl) (Or.inr rfl))) (fun _ _ _ _=>vifs_nil) (fun _ _ _ _=>(ve_tup (va_cons (vv 1) (va_cons (vv 0) va_nil)))) (compOk_of (N:=nAp) (pn:=(defScope sAp).names) (by decide +kernel))) va_nil)))))
   (vss_one (vs_ret (vv 1))))),?_⟩
 rintro xs μ R _ ⟨sw,ps,rfl,hO,q⟩
 intro p hp
 refine seq_i (fun τ μ'=>∃o2 o3,τ=[some (.D (prgD sw ps)),some (.R p),o2,o3]/\μ' p=some (.lst ((pts ps).map ptA))/\Sub μ μ') (fun Z hZ=>?_) ?_
 ·refine opt_i (atI_nat (j:=1) rfl) (opt_i rfl (opt_i (dats_map _) ?_))
  refine for_i (fun i τ μ'=>∃o2 o3,τ=[some (.D (prgD sw ps)),some (.R p),o2,o3]/\μ' p=some (.lst ((ptsF 0 (ps.take i)).map ptA))/\Sub μ μ') ⟨none,none,rfl,updM_same,Sub.refl.new hp⟩ (fun _ _ _ _=>rfl) ?_ ?_
  ·rintro i y τ μ1 Z2 hy ⟨o2,o3,rfl,e1,S1⟩ hZ2
   obtain⟨pr,hpr,rfl⟩:=en_prc hy
   have hi:i < ps.length:=(List.getElem?_eq_some_iff.mp hpr).1
   have htk:ps.take (i+1)=ps.take i++[pr]:=by rw [List.take_succ,hpr];rfl
   have hl4:=(hO.l pr (List.mem_of_getElem? hpr)).2
   have hmin:(ps.take i).length=i:=by rw [List.length_take];omega
   refine⟨rfl,unp2 ?_⟩
   dsimp only [List.set]
   have hlp:(pr.map Stp.D).length=pr.length:=List.length_map _
   have hb:=pts_len 0 (ps.take i) fun p hp=>(hO.l p (List.mem_of_mem_take hp)).2
   rw [hmin]at hb
   have hn3:=hO.n3
   refine⟨opt_i e1 trivial,⟨by rw [hlp];omega,by rw [hlp];omega,fun pc hpc=>?_⟩⟩
   have hpp:p≠pc:=by rintro rfl;rw [e1]at hpc;cases hpc
   rw [hlp,show((pr.length:Int)+1).toNat=pr.length+1 by omega,rng_nat0]
   refine cmap (List.range (pr.length+1)) natA (fun j=>ptA (i,j)) (fun τ=>∃o,τ=[o,some (.D (.int i))]) ⟨none,rfl⟩ updM_same (seven (by rw [List.length_range];omega)) (fun _=>trivial) ?_ ?_
   ·rintro j x τ' acc W hj ⟨o,rfl⟩ hW
    exact hW _ ⟨_,rfl⟩
   ·have g1:updM (updM μ1 pc (.lst [])) pc (.lst ((List.range (pr.length+1)).map fun j=>ptA (i,j))) p=some (.lst ((ptsF 0 (ps.take i)).map ptA)):=by rw [updM_ne hpp,updM_ne hpp];exact e1
    refine opt_i g1 (opt_i updM_same ⟨seven (by rw [List.length_map,List.length_map,List.length_range];omega),hZ2 _ _ ⟨_,_,rfl,?_,((S1.new (S1.none hpc)).new (S1.none hpc)).new hp⟩⟩)
    rw [updM_same,htk,pts_snoc,hmin,Nat.zero_add,List.map_append,List.map_map];rfl
  ·rintro τ μ1 ⟨o2,o3,rfl,e1,S1⟩
   rw [enumA_length,List.length_map,List.take_length]at e1
   exact hZ _ _ ⟨_,_,rfl,e1,S1⟩
 rintro τ μ1 ⟨o2,o3,rfl,e1,S1⟩
 exact⟨_,Sub.refl,q p _ hp e1 S1⟩
def hnd(ps:Prg)(q:Pt):Nat:=match stepAt ps q with
 | some (.chance _ _)=>1
 | _=>0
theorem hnd_le(ps:Prg)(q:Pt):hnd ps q<=1:=by
 unfold hnd;split <;> decide
abbrev nOh:List Str:=["program","point"]
theorem scOh:FnScope nOh ["program","point"] (defScope sOh):=⟨rfl,rfl,rfl,by decide +kernel,rfl,by decide +kernel,by decide +kernel⟩
def spOh:ASp:=fun xs μ R=>∃(sw:Nat) (ps:Prg) (q:Pt),xs=[.D (prgD sw ps),.D (ptD q)]/\PtOk ps q/\R (.D (.int (hnd ps q:Nat))) μ
theorem n_none_chance:PyData.eqv .none (.str "chance")=false:=rfl
theorem n_none_mark:PyData.eqv .none (.str "mark")=false:=rfl
theorem ok_chance:EqOk (.str "chance"):=eqOk_str (by decide +kernel)
theorem ok_mark:EqOk (.str "mark"):=eqOk_str (by decide +kernel)
theorem ok_oh{n:Nat}{t1 t2:Tok}(F:Fun K "own_hand" "own_hand" sOh f fd) (cWo:VCal P w K mg base n "word_at" ["program","point"] spWo) (mOH:mg "OTHER_HAND" = some (.int 1 t1)) (mFH:mg "FIRST_HAND" = some (.int 0 t2)):FnOk P w K mg base CX0 (n+1) f fd ["program","point"] (cSp K 2 spOh):=by
 refine F.vok scOh fun cdv A outer s H E hr=>⟨_,(vss_one (vs_ret (ve_ifExp (vt_cmp (o_eq hr) (ve_call cWo hr rfl (va_cons (vv 0) (va_cons (vv 1) va_nil))) ve_str (nomark _)) (ve_glob rfl mOH (v:=.int 1) ⟨_,rfl⟩ (fun _=>dk_int)) (ve_glob rfl mFH (v:=.int 0) ⟨_,rfl⟩ (fun _=>dk_int))))),?_⟩
 rintro xs μ R _ ⟨sw,ps,q,rfl,hq,h⟩
 refine⟨sw,ps,q,rfl,hq,?_⟩
 unfold hnd at h
 cases e:stepAt ps q with
 | none =>
  rw [show wordD ps q=.none by unfold wordD;rw [e]]
  rw [e]at h
  exact⟨eqOk_none,ok_chance,brF n_none_chance ⟨μ,Sub.refl,h⟩⟩
 | some st =>
  rw [show wordD ps q=.str st.word by unfold wordD;rw [e]]
  rw [e]at h
  cases st with
  | ask x y=>exact wNe n_ask_chance ⟨μ,Sub.refl,h⟩
  | chance x y=>exact wEq e_chance_chance ⟨μ,Sub.refl,h⟩
  | set v=>exact wNe n_set_chance ⟨μ,Sub.refl,h⟩
  | iff x y=>exact wNe n_if_chance ⟨μ,Sub.refl,h⟩
  | call k=>exact wNe n_call_chance ⟨μ,Sub.refl,h⟩
  | back=>exact wNe n_back_chance ⟨μ,Sub.refl,h⟩
  | mark=>exact wNe n_mark_chance ⟨μ,Sub.refl,h⟩
abbrev nPf:List Str:=["answer","hand"]
theorem scPf:FnScope nPf ["answer","hand"] (defScope sPf):=⟨rfl,rfl,rfl,by decide +kernel,rfl,by decide +kernel,by decide +kernel⟩
def spPf:ASp:=fun xs μ R=>∃(a h:Int),xs=[.D (.int a),.D (.int h)]/\R (.D (.int (2 * a+h))) μ
theorem ok_pf{n:Nat}(F:Fun K "place_of" "place_of" sPf f fd):FnOk P w K mg base CX0 (n+1) f fd ["answer","hand"] (cSp K 2 spPf):=by
 refine F.vok scPf fun cdv A outer s H E hr=>⟨_,(vss_one (vs_ret (ve_op o_add (ve_op o_mul ve_int (vv 0)) (vv 1)))),?_⟩
 rintro xs μ R _ ⟨a,h,rfl,q⟩
 exact⟨.inl ⟨by decide,by decide⟩,⟨μ,Sub.refl,q⟩⟩
abbrev nOp:List Str:=["program","answer","point"]
theorem scOp:FnScope nOp ["program","answer","point"] (defScope sOp):=⟨rfl,rfl,rfl,by decide +kernel,rfl,by decide +kernel,by decide +kernel⟩
def spOp:ASp:=fun xs μ R=>∃(sw:Nat) (ps:Prg) (a:Nat) (q:Pt),xs=[.D (prgD sw ps),.D (.int a),.D (ptD q)]/\PtOk ps q/\R (.D (.int (2 * a+hnd ps q:Nat))) μ
theorem ok_op{n:Nat}(F:Fun K "own_place" "own_place" sOp f fd) (cOh:VCal P w K mg base n "own_hand" ["program","point"] spOh) (cPf:VCal P w K mg base n "place_of" ["answer","hand"] spPf):FnOk P w K mg base CX0 (n+1) f fd ["program","answer","point"] (cSp K 3 spOp):=by
 refine F.vok scOp fun cdv A outer s H E hr=>⟨_,(vss_one (vs_ret (ve_call cPf hr rfl (va_cons (vv 1) (va_cons (ve_call cOh hr rfl (va_cons (vv 0) (va_cons (vv 2) va_nil))) va_nil))))),?_⟩
 rintro xs μ R _ ⟨sw,ps,a,q,rfl,hq,h⟩
 refine⟨sw,ps,q,rfl,hq,a,hnd ps q,rfl,μ,Sub.refl,?_⟩
 exact h
end
section
variable {P:Program}{w:World}{K:PySem.W.Frag}{mg:Str->Option Value}{base:Heap}{f:Addr}{fd:FuncData}
structure Rul where
 p:Nat
 n:Nat
 g:Nat
 w:List Nat
def rulD(r:Rul):PyData:=.tuple [.int r.p,.int r.n,.int r.g,natsD r.w]
def rulA(r:Rul):AV:=.D (rulD r)
theorem dats_rul(l:List Rul):dats (l.map rulA)=some (l.map rulD):=by
 rw [show l.map rulA=(l.map rulD).map .D by rw [List.map_map];rfl];exact dats_map _
theorem rul_ok(r:Rul):(rulD r).canLay0=true/\(rulD r).depth<=3/\Cano (rulD r)=true:=by
 obtain⟨p,n,g,w⟩:=r
 have h1:=nats_ok (ns:=w)
 have h2:=nats_cano w
 simp only [rulD,natsD,PyData.canLay0,PyData.canLayAll0,PyData.depth,PyData.depthAll,Cano,CanoAll,h1.1,h2,Bool.and_true,Bool.true_and,true_and,and_true]
 have:=h1.2
 omega
theorem rul_cmp(a b:Rul):cmpb (rulD a) (rulD b)=true:=by
 obtain⟨p,n,g,w⟩:=a
 obtain⟨p',n',g',w'⟩:=b
 simp only [rulD,natsD,cmpb,cmpbs,nats_cmp,ite_self]
theorem rul_tok{l:List Rul}(h:l.length<=200):TOk (l.map rulD):=by
 refine⟨by rw [List.length_map];omega,fun d hd=>?_,fun d hd=>?_,fun d hd e he=>?_⟩
 ·obtain⟨a,ha,rfl⟩:=List.mem_map.mp hd
  obtain⟨h1,h2,h3⟩:=rul_ok a
  exact⟨h3,h1,by omega⟩
 ·obtain⟨a,ha,rfl⟩:=List.mem_map.mp hd
  exact⟨a.p,_,rfl⟩
 ·obtain⟨a,ha,rfl⟩:=List.mem_map.mp hd
  obtain⟨b,hb,rfl⟩:=List.mem_map.mp he
  exact rul_cmp a b
def crs(ps:Prg)(a:Nat)(q:Pt):Rul:=⟨2 * a+(1 - hnd ps q),ix ps q,2 * a+hnd ps q,[ix ps q]⟩
def goP(ps:Prg)(a:Nat)(q:Pt):List (Nat×List Pt):=match stepAt ps q with
 | none=>[(a,[])]
 | some .back=>[(a,[])]
 | some (.call k)=>[(a,[(k,0),(q.1,q.2+1)])]
 | some (.set v)=>[(v,[(q.1,q.2+1)])]
 | some (.iff x y)=>[(a,[(q.1,if a=1 then x else y)])]
 | some (.ask x y)=>[(a,[(q.1,x)]),(a,[(q.1,y)])]
 | some (.chance x y)=>[(a,[(q.1,x)]),(a,[(q.1,y)])]
 | some .mark=>[]
def goA(x:Nat×List Pt):AV:=.D (.tuple [natD x.1,pileD x.2])
theorem goL_eq(ps:Prg)(a:Nat)(q:Pt):goL ps a q=(goP ps a q).map goA:=by
 unfold goL goP
 cases stepAt ps q with
 | none=>rfl
 | some st=>cases st <;> rfl
theorem goP_ok{ps:Prg}{a:Nat}{q:Pt}(ok:PrgOk ps)(hq:PtOk ps q):(goP ps a q).length<=2/\∀x∈goP ps a q,x.2.length<=2/\∀r∈x.2,PtOk ps r:=by
 have one:∀(b:Nat) (r:Pt),PtOk ps r->∀x∈[(b,[r])],x.2.length<=2/\∀r∈x.2,PtOk ps r:=fun b r hr x hx=>by
  rw [List.mem_singleton.mp hx]
  exact⟨by show 1<=2;decide,fun r' h'=>by rw [List.mem_singleton.mp h'];exact hr⟩
 have two:∀(b:Nat) (r r2:Pt),PtOk ps r->PtOk ps r2->∀x∈[(b,[r]),(b,[r2])],x.2.length<=2/\∀r∈x.2,PtOk ps r:=fun b r r2 h1 h2 x hx=>by
  rcases List.mem_cons.mp hx with rfl | hx
  ·exact one b r h1 _ (.head _)
  ·exact one b r2 h2 x hx
 have nil:∀x∈[(a,([]:List Pt))],x.2.length<=2/\∀r∈x.2,PtOk ps r:=fun x hx=>by
  rw [List.mem_singleton.mp hx]
  exact⟨by show 0<=2;decide,fun _ z=>nomatch z⟩
 unfold goP
 cases e:stepAt ps q with
 | none=>exact⟨by show 1<=2;decide,nil⟩
 | some st =>
  obtain⟨p,e1,e2⟩:=step_of e
  have h:=ok_of ok e1 e2
  cases st with
  | back=>exact⟨by show 1<=2;decide,nil⟩
  | call k =>
   refine⟨by show 1<=2;decide,fun x hx=>?_⟩
   rw [List.mem_singleton.mp hx]
   refine⟨by show 2<=2;decide,fun r hr=>?_⟩
   rcases List.mem_cons.mp hr with rfl | hr
   ·exact pt_call h
   ·rw [List.mem_singleton.mp hr];exact pt_next e1 e2
  | set v=>exact⟨by show 1<=2;decide,one _ _ (pt_next e1 e2)⟩
  | iff x y=>exact⟨by show 1<=2;decide,one _ _ (by split <;> first | exact pt_to e1 h.1 | exact pt_to e1 h.2)⟩
  | ask x y=>exact⟨by show 2<=2;decide,two _ _ _ (pt_to e1 h.1) (pt_to e1 h.2)⟩
  | chance x y=>exact⟨by show 2<=2;decide,two _ _ _ (pt_to e1 h.1) (pt_to e1 h.2)⟩
  | mark=>exact⟨by show 0<=2;decide,fun _ z=>nomatch z⟩
def hd0(ps:Prg):List Pt->Nat
 | []=>0
 | r :: _=>hnd ps r
def own1(ps:Prg)(a:Nat)(q:Pt)(x:Nat×List Pt):Rul:=⟨2 * a+hnd ps q,ix ps q,2 * x.1+hd0 ps x.2,x.2.map (ix ps)⟩
def owns(ps:Prg)(a:Nat)(q:Pt):List Rul:=(goP ps a q).map (own1 ps a q)
abbrev nCr:List Str:=["program","points","answer","point","own","number"]
theorem scCr:FnScope nCr ["program","points","answer","point"] (defScope sCr):=⟨rfl,rfl,rfl,by decide +kernel,rfl,by decide +kernel,by decide +kernel⟩
def spCr:ASp:=fun xs μ R=>∃(sw:Nat) (ps:Prg) (pp:Addr) (a:Nat) (q:Pt),xs=[.D (prgD sw ps),.R pp,.D (.int a),.D (ptD q)]/\μ pp=some (.lst ((pts ps).map ptA))/\PtOk ps q/\R (rulA (crs ps a q)) μ
theorem ok_cr{n:Nat}(F:Fun K "crossing_rule" "crossing_rule" sCr f fd) (cOh:VCal P w K mg base n "own_hand" ["program","point"] spOh) (cPf:VCal P w K mg base n "place_of" ["answer","hand"] spPf):FnOk P w K mg base CX0 (n+1) f fd ["program","points","answer","point"] (cSp K 4 spCr):=by
 refine F.vok scCr fun cdv A outer s H E hr=>⟨_,(vss_cons (vs_set (i:=4) scCr.nd rfl (Or.inl rfl) (ve_call cOh hr rfl (va_cons (vv 0) (va_cons (vv 3) va_nil))))
   (vss_cons (vs_set (i:=5) scCr.nd rfl (Or.inl rfl) (ve_ml PySem.F.slot_list_index PySem.F.type_list_index (m_index hr) (vv 1) (va_cons (vv 3) va_nil)))
   (vss_one (vs_ret (ve_tup (va_cons (ve_call cPf hr rfl (va_cons (vv 2) (va_cons (ve_op o_sub ve_int (vv 4)) va_nil))) (va_cons (vv 5) (va_cons (ve_call cPf hr rfl (va_cons (vv 2) (va_cons (vv 4) va_nil))) (va_cons (ve_tup (va_cons (vv 5) va_nil)) va_nil))))))))),?_⟩
 rintro xs μ R _ ⟨sw,ps,pp,a,q,rfl,hp,hq,h⟩
 have hl:=hnd_le ps q
 refine seq_d ⟨sw,ps,q,rfl,hq,?_⟩
 refine seq_d ⟨opt_i hp trivial,opt_i rfl (opt_i hp (opt_i (dats_pt _) ⟨eqOk_pt q,eqOk_pts _,opt_i (find_ix hq) ?_⟩))⟩
 refine⟨a,1 - (hnd ps q:Int),rfl,a,hnd ps q,rfl,?_⟩
 refine⟨μ,Sub.refl,?_⟩
 have e:(2 * (a:Int)+(1 - (hnd ps q:Int)))=((2 * a+(1 - hnd ps q):Nat):Int):=by omega
 rw [e]
 exact h
abbrev nOr:List Str:=["program","points","answer","point","own","rules","further","put","place"]
theorem scOr:FnScope nOr ["program","points","answer","point"] (defScope sOr):=⟨rfl,rfl,rfl,by decide +kernel,rfl,by decide +kernel,by decide +kernel⟩
theorem ndOr1:(["one","points"]:List Str).Nodup:=by decide +kernel
def spOr:ASp:=fun xs μ R=>∃(sw:Nat) (ps:Prg) (pp:Addr) (a:Nat) (q:Pt),xs=[.D (prgD sw ps),.R pp,.D (.int a),.D (ptD q)]/\PrgOk ps/\μ pp=some (.lst ((pts ps).map ptA))/\PtOk ps q/\∀p μ',μ p=none->μ' p=some (.lst ((owns ps a q).map rulA))->Sub μ μ'->R (.R p) μ'
theorem pile_items{μ:M}(l:List Pt):items μ (.D (pileD l))=some (l.map ptA):=by
 show some ((l.map ptD).map AV.D)=_
 rw [List.map_map];rfl
theorem ok_or{n:Nat}{t2:Tok}(F:Fun K "own_rules" "own_rules" sOr f fd) (cGo:VCal P w K mg base n "goings_on" ["program","answer","point"] spGo) (cOp:VCal P w K mg base n "own_place" ["program","answer","point"] spOp) (cPf:VCal P w K mg base n "place_of" ["answer","hand"] spPf) (m_len:mg "len" = none) (m_tuple:mg "tuple" = none) (mFH:mg "FIRST_HAND" = some (.int 0 t2)):FnOk P w K mg base CX0 (n+1) f fd ["program","points","answer","point"] (cSp K 4 spOr):=by
 refine F.vok scOr fun cdv A outer s H E hr=>⟨_,(vss_cons (vs_set (i:=4) scOr.nd rfl (Or.inl rfl) (ve_call cOp hr rfl (va_cons (vv 0) (va_cons (vv 2) (va_cons (vv 3) va_nil)))))
   (vss_cons (vs_set (i:=5) scOr.nd rfl (Or.inl rfl) (ve_lst va_nil))
   (vss_cons (vs_for PassesOwn.never rfl (vi_seq (ve_call cGo hr rfl (va_cons (vv 0) (va_cons (vv 2) (va_cons (vv 3) va_nil))))) (vg_tup (n:=2) rfl (vgs_cons (vg_name (i:=6) scOr.nd rfl (Or.inl rfl)) (vgs_cons (vg_name (i:=7) scOr.nd rfl (Or.inl rfl)) vgs_nil))) (vss_cons (vs_set (i:=8) scOr.nd rfl (Or.inl rfl) (ve_ifExp (vt_cmp o_gt (ve_callB c_len rfl m_len PySem.boot_len (va_cons (vv 7) va_nil)) ve_int (nomark _)) (ve_call cOp hr rfl (va_cons (vv 0) (va_cons (vv 6) (va_cons (ve_ix i_ix (vv 7) ve_int) va_nil)))) (ve_call cPf hr rfl (va_cons (vv 6) (va_cons (ve_glob rfl mFH (v:=.int 0) ⟨_,rfl⟩ (fun _=>dk_int)) va_nil)))))
   (vss_one (vs_expr (ve_ml PySem.F.slot_list_append PySem.F.type_list_append m_append (vv 5) (va_cons (ve_tup (va_cons (vv 4) (va_cons (ve_ml PySem.F.slot_list_index PySem.F.type_list_index (m_index hr) (vv 1) (va_cons (vv 3) va_nil)) (va_cons (vv 8) (va_cons (ve_callTy c_tuple rfl m_tuple PyProof.Rows.boot_tuple (va_cons (ve_comp (N':=["one","points"]) (mp:=[none,some 1]) rfl (vi_seq (vv 7)) (fun _ _ _ _=>(vg_name (i:=0) ndOr1 rfl (Or.inl rfl) (Or.inr rfl))) (fun _ _ _ _=>vifs_nil) (fun _ _ _ _=>(ve_ml PySem.F.slot_list_index PySem.F.type_list_index (m_index hr) (vv 1) (va_cons (vv 0) va_nil))) (compOk_of (N:=nOr) (pn:=(defScope sOr).names) (by decide +kernel))) va_nil)) va_nil))))) va_nil))))))
   (vss_one (vs_ret (vv 5)))))),?_⟩
 rintro xs μ R _ ⟨sw,ps,pp,a,q,rfl,hO,hp,hq,h⟩
 obtain⟨g1,g2⟩:=goP_ok (a:=a) hO hq
 refine seq_d ⟨sw,ps,a,q,rfl,hq,?_⟩
 intro pr hpr
 have npr:pp≠pr:=by rintro rfl;rw [hp]at hpr;cases hpr
 refine seq_i (fun τ μ'=>∃o6 o7 o8,τ=[some (.D (prgD sw ps)),some (.R pp),some (.D (.int a)),some (.D (ptD q)),some (.D (.int (2 * a+hnd ps q:Nat))),some (.R pr),o6,o7,o8]/\μ' pr=some (.lst ((owns ps a q).map rulA))/\Sub μ μ') (fun Z hZ=>?_) ?_
 ·refine⟨sw,ps,a,q,rfl,hq,fun pg hpg=>?_⟩
  have nrg:pr≠pg:=by rintro rfl;rw [updM_same]at hpg;cases hpg
  have hpg0:μ pg=none:=by rw [updM_ne nrg.symm]at hpg;exact hpg
  have npg:pp≠pg:=by rintro rfl;rw [hp]at hpg0;cases hpg0
  rw [goL_eq]
  refine opt_i (items_R updM_same) ?_
  refine for_i (fun i τ μ'=>∃o6 o7 o8,τ=[some (.D (prgD sw ps)),some (.R pp),some (.D (.int a)),some (.D (ptD q)),some (.D (.int (2 * a+hnd ps q:Nat))),some (.R pr),o6,o7,o8]/\μ' pr=some (.lst ((((goP ps a q).take i).map (own1 ps a q)).map rulA))/\μ' pg=some (.lst ((goP ps a q).map goA))/\Sub μ μ') ⟨none,none,none,rfl,by rw [updM_ne nrg,updM_same];rfl,updM_same,(Sub.refl.new hpr).new hpg0⟩ (fun _ _ _ ⟨_,_,_,_,_,e,_⟩=>items_R e) ?_ ?_
  ·rintro i y τ μ1 Z2 hy ⟨o6,o7,o8,rfl,e1,e2,S1⟩ hZ2
   rw [List.getElem?_map]at hy
   obtain⟨x,hx,rfl⟩:=Option.map_eq_some_iff.mp hy
   have hi:i < (goP ps a q).length:=(List.getElem?_eq_some_iff.mp hx).1
   have htk:(goP ps a q).take (i+1)=(goP ps a q).take i++[x]:=by rw [List.take_succ,hx];rfl
   obtain⟨x1,x2⟩:=g2 x (List.mem_of_getElem? hx)
   refine⟨rfl,unp2 ?_⟩
   dsimp only [List.set]
   refine seq_i (fun τ μ'=>τ=[some (.D (prgD sw ps)),some (.R pp),some (.D (.int a)),some (.D (ptD q)),some (.D (.int (2 * a+hnd ps q:Nat))),some (.R pr),some (.D (natD x.1)),some (.D (pileD x.2)),some (.D (.int (2 * x.1+hd0 ps x.2:Nat)))]/\μ1=μ') (fun Z3 hZ3=>?_) ?_
   ·cases ex:x.2 with
    | nil=>exact dif (fun c=>absurd c (by decide)) (fun c=>⟨x.1,0,rfl,hZ3 _ _ ⟨by rw [ex];rfl,rfl⟩⟩)
    | cons r l =>
     refine dif (fun c=>?_) (fun c=>absurd (show(0:Int) < ((l.map ptD).length+1:Nat) by omega) c)
     refine opt_i (atI_nat (j:=0) rfl) ⟨sw,ps,x.1,r,rfl,x2 r (by rw [ex];exact .head _),hZ3 _ _ ⟨by rw [ex];rfl,rfl⟩⟩
   rintro τ _ ⟨rfl,rfl⟩
   have S2:=S1 pp _ hp
   refine⟨opt_i e1 trivial,opt_i S2 trivial,opt_i rfl (opt_i S2 (opt_i (dats_pt _) ⟨eqOk_pt q,eqOk_pts _,opt_i (find_ix hq) (opt_i (pile_items _) fun pc hpc=>?_)⟩))⟩
   have nc1:pp≠pc:=by rintro rfl;rw [S2]at hpc;cases hpc
   have nc2:pr≠pc:=by rintro rfl;rw [e1]at hpc;cases hpc
   have nc3:pg≠pc:=by rintro rfl;rw [e2]at hpc;cases hpc
   refine cmap x.2 ptA (fun r=>natA (ix ps r)) (fun τ=>∃o,τ=[o,some (.R pp)]) ⟨none,rfl⟩ updM_same (seven (by omega)) (fun _=>pile_items _) ?_ ?_
   ·rintro j r τ' acc W hj ⟨o,rfl⟩ hW
    have f0:updM (updM μ1 pc (.lst [])) pc (.lst acc) pp=some (.lst ((pts ps).map ptA)):=by rw [updM_ne nc1,updM_ne nc1];exact S2
    exact⟨opt_i f0 trivial,opt_i rfl (opt_i f0 (opt_i (dats_pt _) ⟨eqOk_pt r,eqOk_pts _,opt_i (find_ix (x2 r (List.mem_of_getElem? hj))) (hW _ ⟨_,rfl⟩)⟩))⟩
   ·rw [show(x.2.map fun r=>natA (ix ps r))=(x.2.map (ix ps)).map natA by rw [List.map_map];rfl]
    have f1:∀o:MO,updM (updM μ1 pc (.lst [])) pc o pr=some (.lst ((((goP ps a q).take i).map (own1 ps a q)).map rulA)):=fun o=>by rw [updM_ne nc2,updM_ne nc2];exact e1
    refine opt_i (items_R updM_same) (opt_i (dats_nat _) ?_)
    refine opt_i (f1 _) ⟨small1000 (by rw [List.length_map,List.length_map,List.length_take];omega),hZ2 _ _ ⟨_,_,_,rfl,?_,?_,((S1.new (S1.none hpc)).new (S1.none hpc)).new hpr⟩⟩
    ·rw [updM_same,htk,List.map_append,List.map_append];rfl
    ·rw [updM_ne nrg.symm,updM_ne nc3,updM_ne nc3];exact e2
  ·rintro τ μ1 ⟨o6,o7,o8,rfl,e1,e2,S1⟩
   rw [List.length_map,List.take_length]at e1
   exact hZ _ _ ⟨_,_,_,rfl,e1,S1⟩
 rintro τ μ1 ⟨o6,o7,o8,rfl,e1,S1⟩
 exact⟨_,Sub.refl,h pr _ hpr e1 S1⟩
end
section
variable {P:Program}{w:World}{K:PySem.W.Frag}{mg:Str->Option Value}{base:Heap}{f:Addr}{fd:FuncData}
def rul1(ps:Prg)(a:Nat)(q:Pt):List Rul:=crs ps a q :: owns ps a q
def rulP(ps:Prg)(a:Nat):List Rul:=(pts ps).flatMap (rul1 ps a)
def allR(sw:Nat)(ps:Prg):List Rul:=(List.range (sw+1)).flatMap (rulP ps)
theorem flat_le{α β:Type}(f:α->List β)(k:Nat):∀(l:List α),(∀a∈l,(f a).length<=k)->(l.flatMap f).length<=l.length * k
 | [],_=>by simp
 | a :: l,h=>by
  rw [List.flatMap_cons,List.length_append,List.length_cons,Nat.add_mul,Nat.one_mul]
  have h1:=h a (.head _)
  have h2:=flat_le f k l fun b hb=>h b (.tail _ hb)
  omega
theorem rul1_len{ps:Prg}{a:Nat}{q:Pt}(ok:PrgOk ps)(hq:PtOk ps q):(rul1 ps a q).length<=3:=by
 have:=(goP_ok (a:=a) ok hq).1
 show(owns ps a q).length+1<=3
 unfold owns
 rw [List.length_map];omega
theorem rulP_len{sw:Nat}{ps:Prg}(h:PgOk sw ps)(a j:Nat):(((pts ps).take j).flatMap (rul1 ps a)).length<=45:=by
 have h1:=flat_le (rul1 ps a) 3 ((pts ps).take j) fun q hq=>rul1_len h.ok (pt_in.mp (List.mem_of_mem_take hq))
 have h2:=h.len
 have h3:((pts ps).take j).length<=15:=by rw [List.length_take];omega
 omega
theorem rulP_len'{sw:Nat}{ps:Prg}(h:PgOk sw ps)(a:Nat):(rulP ps a).length<=45:=by
 have:=rulP_len h a (pts ps).length
 rw [List.take_length]at this;exact this
theorem allR_len{sw:Nat}{ps:Prg}(h:PgOk sw ps)(i:Nat)(hi:i<=2):((List.range i).flatMap (rulP ps)).length<=90:=by
 have:=flat_le (rulP ps) 45 (List.range i) fun a _=>rulP_len' h a
 rw [List.length_range]at this
 omega
def sgs:Str := "abcdefghijklmnopqrstuvwxyz"
theorem sgs_len:sgs.cps.toList.length=26:=by decide +kernel
theorem sgs_len2:sgs.length<=sizeLine:=by decide +kernel
def sg(i:Nat):Nat:=sgs.cps.toList.getD i 0
theorem sg_at{i:Nat}(h:i < 26):atI sgs.cps.toList (i:Int)=some (sg i):=by
 refine atI_nat ?_
 unfold sg
 rw [List.getD_eq_getElem?_getD,List.getElem?_eq_getElem (by rw [sgs_len];exact h)];rfl
def ltr(q:Pt):Str:=⟨#[sg q.1]⟩++⟨#[sg q.2]⟩
theorem pt_lt{sw:Nat}{ps:Prg}{q:Pt}(h:PgOk sw ps)(hq:PtOk ps q):q.1 < 3/\q.2 < 5:=by
 obtain⟨p,h1,h2⟩:=hq
 have h3:=(List.getElem?_eq_some_iff.mp h1).1
 have h4:=(h.l p (List.mem_of_getElem? h1)).2
 have h5:=h.n3
 omega
def plcs:List PyData:=[.tuple [.str "offone",.int 0],.tuple [.str "offtwo",.int 1],.tuple [.str "onone",.int 0],.tuple [.str "ontwo",.int 1]]
def plcD(sw:Nat):List PyData:=cutD plcs none (some (2 * ((sw:Int)+1)))
def ltrD(q:Pt):PyData:=.str (ltr q)
def gmD(sw:Nat)(ps:Prg)(es:List PyData):PyData:=.tuple [.tuple (plcD sw),.tuple ((pts ps).map ltrD),.tuple es]
abbrev nGf:List Str:=["program","points","rules","answer","point","letters"]
theorem scGf:FnScope nGf ["program"] (defScope sGf):=⟨rfl,rfl,rfl,by decide +kernel,rfl,by decide +kernel,by decide +kernel⟩
theorem ndGf1:(["procedure","step"]:List Str).Nodup:=by decide +kernel
def spGf:ASp:=fun xs μ R=>∃(sw:Nat) (ps:Prg),xs=[.D (prgD sw ps)]/\PgOk sw ps/\∀es μ',es.Nodup->(∀d,d∈es↔d∈(allR sw ps).map rulD)->es.Pairwise (fun a b=>ltT a b=true)->Sub μ μ'->R (.D (gmD sw ps es)) μ'
theorem dats_ltr(l:List Pt):dats (l.map fun q=>.D (ltrD q))=some (l.map ltrD):=by
 rw [show(l.map fun q=>AV.D (ltrD q))=(l.map ltrD).map .D by rw [List.map_map];rfl];exact dats_map _
theorem ok_gf{n:Nat}{t3:Tok}{pla:Addr}(F:Fun K "game_of" "game_of" sGf f fd) (cAp:VCal P w K mg base n "all_points" ["program"] spAp) (cCr:VCal P w K mg base n "crossing_rule" ["program","points","answer","point"] spCr) (cOr:VCal P w K mg base n "own_rules" ["program","points","answer","point"] spOr) (m_range:mg "range" = none) (m_tuple:mg "tuple" = none) (m_sorted:mg "sorted" = none) (m_set:mg "set" = none) (mPL:mg "PLACES" = some (.ref pla)) (hPL:∀H,Dk K H (.tuple plcs) (.ref pla)) (mSG:mg "SIGNS" = some (.str sgs t3)):FnOk P w K mg base CX0 (n+1) f fd ["program"] (cSp K 1 spGf):=by
 refine F.vok scGf fun cdv A outer s H E hr=>⟨_,(vss_cons (vs_set (i:=1) scGf.nd rfl (Or.inl rfl) (ve_call cAp hr rfl (va_cons (vv 0) va_nil)))
   (vss_cons (vs_set (i:=2) scGf.nd rfl (Or.inl rfl) (ve_lst va_nil))
   (vss_cons (vs_for PassesOwn.never rfl (vi_range1 rfl m_range (va_cons (ve_op o_add (ve_ix i_ix (vv 0) ve_int) ve_int) va_nil)) (vg_name (i:=3) scGf.nd rfl (Or.inl rfl)) (vss_one (vs_for PassesOwn.never rfl (vi_seq (vv 1)) (vg_name (i:=4) scGf.nd rfl (Or.inl rfl)) (vss_cons (vs_expr (ve_ml PySem.F.slot_list_append PySem.F.type_list_append m_append (vv 2) (va_cons (ve_call cCr hr rfl (va_cons (vv 0) (va_cons (vv 1) (va_cons (vv 3) (va_cons (vv 4) va_nil))))) va_nil)))
   (vss_one (vs_expr (ve_ml PySem.F.slot_list_extend PySem.F.type_list_extend m_extend (vv 2) (va_cons (ve_call cOr hr rfl (va_cons (vv 0) (va_cons (vv 1) (va_cons (vv 3) (va_cons (vv 4) va_nil))))) va_nil))))))))
   (vss_cons (vs_set (i:=5) scGf.nd rfl (Or.inl rfl) (ve_callTy c_tuple rfl m_tuple PyProof.Rows.boot_tuple (va_cons (ve_comp (N':=["procedure","step"]) (mp:=[none,none]) rfl (vi_seq (vv 1)) (fun _ _ _ _=>(vg_tup (n:=2) rfl (vgs_cons (vg_name (i:=0) ndGf1 rfl (Or.inl rfl) (Or.inr rfl)) (vgs_cons (vg_name (i:=1) ndGf1 rfl (Or.inl rfl) (Or.inr rfl)) vgs_nil)))) (fun _ _ _ _=>vifs_nil) (fun _ _ _ _=>(ve_op o_add (ve_ix i_ix (ve_glob rfl mSG (v:=.str sgs) ⟨_,rfl⟩ (fun _=>dk_str)) (vv 0)) (ve_ix i_ix (ve_glob rfl mSG (v:=.str sgs) ⟨_,rfl⟩ (fun _=>dk_str)) (vv 1)))) (compOk_of (N:=nGf) (pn:=(defScope sGf).names) (by decide +kernel))) va_nil)))
   (vss_one (vs_ret (ve_tup (va_cons (ve_slice (ve_glob rfl mPL (v:=.ref pla) rfl hPL) vo_none (vo_some (ve_op o_mul ve_int (ve_op o_add (ve_ix i_ix (vv 0) ve_int) ve_int)))) (va_cons (vv 5) (va_cons (ve_callTy c_tuple rfl m_tuple PyProof.Rows.boot_tuple (va_cons (ve_tset hr rfl m_sorted rfl m_set (vv 2)) va_nil)) va_nil)))))))))),?_⟩
 rintro xs μ R _ ⟨sw,ps,rfl,hO,q⟩
 have hsw:=hO.sw
 refine seq_d ⟨sw,ps,rfl,hO,fun pp μ1 hpp e1 S1=>?_⟩
 intro pr hpr
 have npr:pp≠pr:=by rintro rfl;rw [e1]at hpr;cases hpr
 have hpr0:μ pr=none:=S1.none hpr
 refine seq_i (fun τ μ'=>∃o3 o4,τ=[some (.D (prgD sw ps)),some (.R pp),some (.R pr),o3,o4,none]/\μ' pr=some (.lst ((allR sw ps).map rulA))/\μ' pp=some (.lst ((pts ps).map ptA))/\Sub μ μ') (fun Z hZ=>?_) ?_
 ·have hlen:(rngA 0 ((sw:Int)+1).toNat).length=sw+1:=by rw [rngA_length];omega
  refine opt_i (atI_nat (j:=0) rfl) ⟨by omega,by omega,?_⟩
  refine for_i (fun i τ μ'=>∃o3 o4,τ=[some (.D (prgD sw ps)),some (.R pp),some (.R pr),o3,o4,none]/\μ' pr=some (.lst (((List.range i).flatMap (rulP ps)).map rulA))/\μ' pp=some (.lst ((pts ps).map ptA))/\Sub μ μ') ⟨none,none,rfl,updM_same,by rw [updM_ne npr];exact e1,S1.new hpr0⟩ (fun _ _ _ _=>trivial) ?_ ?_
  ·rintro i y τ μ2 Z2 hy ⟨o3,o4,rfl,e2,f2,S2⟩ hZ2
   have hi:i < sw+1:=by rw [<- hlen];exact(List.getElem?_eq_some_iff.mp hy).1
   have ey:=rngA_get _ _ _ hy
   rw [Int.zero_add]at ey
   subst ey
   have hb:=allR_len hO i (by omega)
   refine opt_i (items_R f2) ?_
   refine for_i (fun j τ μ'=>∃o4,τ=[some (.D (prgD sw ps)),some (.R pp),some (.R pr),some (.D (.int i)),o4,none]/\μ' pr=some (.lst (((List.range i).flatMap (rulP ps)++((pts ps).take j).flatMap (rul1 ps i)).map rulA))/\μ' pp=some (.lst ((pts ps).map ptA))/\Sub μ μ') ⟨o4,rfl,by rw [List.take_zero,List.flatMap_nil,List.append_nil];exact e2,f2,S2⟩ (fun _ _ _ ⟨_,_,_,f,_⟩=>items_R f) ?_ ?_
   ·rintro j y τ μ3 Z3 hy ⟨o4',rfl,e3,f3,S3⟩ hZ3
    rw [List.getElem?_map]at hy
    obtain⟨r,hr',rfl⟩:=Option.map_eq_some_iff.mp hy
    have hj:j < (pts ps).length:=(List.getElem?_eq_some_iff.mp hr').1
    have hrq:PtOk ps r:=pt_in.mp (List.mem_of_getElem? hr')
    have htk:(pts ps).take (j+1)=(pts ps).take j++[r]:=by rw [List.take_succ,hr'];rfl
    have hb2:=rulP_len hO i j
    have hb3:(((List.range i).flatMap (rulP ps)++((pts ps).take j).flatMap (rul1 ps i)).map rulA).length<=135:=by rw [List.length_map,List.length_append];omega
    have hb4:(owns ps i r).length<=2:=by unfold owns;rw [List.length_map];exact(goP_ok hO.ok hrq).1
    refine seq_d ⟨opt_i e3 trivial,sw,ps,pp,i,r,rfl,f3,hrq,opt_i e3 ⟨small1000 (by omega),?_⟩⟩
    refine⟨opt_i updM_same trivial,sw,ps,pp,i,r,rfl,hO.ok,by rw [updM_ne npr];exact f3,hrq,fun p μ4 hp e4 S4=>?_⟩
    have g1:=S4 pr _ updM_same
    refine opt_i g1 (opt_i e4 ⟨seven (by rw [List.length_append,List.length_map (as:=owns ps i r),List.length_singleton];omega),hZ3 _ _ ⟨_,rfl,?_,?_,?_⟩⟩)
    ·rw [updM_same,htk,List.flatMap_append,List.flatMap_singleton]
     simp only [rul1,List.map_append,List.map_cons,List.append_assoc,List.cons_append,List.nil_append]
    ·rw [updM_ne npr];exact S4 pp _ (by rw [updM_ne npr];exact f3)
    ·exact Sub.new (fun b m h=>S4 b m ((S3.new hpr0) b m h)) hpr0
   ·rintro τ μ3 ⟨o4',rfl,e3,f3,S3⟩
    rw [List.length_map,List.take_length]at e3
    refine hZ2 _ _ ⟨_,_,rfl,?_,f3,S3⟩
    rw [e3,List.range_succ,List.flatMap_append,List.flatMap_singleton];rfl
  ·rintro τ μ2 ⟨o3,o4,rfl,e2,f2,S2⟩
   rw [hlen]at e2
   exact hZ _ _ ⟨_,_,rfl,e2,f2,S2⟩
 rintro τ μ2 ⟨o3,o4,rfl,e2,f2,S2⟩
 have hl15:=hO.len
 refine seq_i (fun τ μ'=>τ=[some (.D (prgD sw ps)),some (.R pp),some (.R pr),o3,o4,some (.D (.tuple ((pts ps).map ltrD)))]/\μ' pr=some (.lst ((allR sw ps).map rulA))/\Sub μ μ') (fun Z hZ=>?_) ?_
 ·refine opt_i (items_R f2) fun pc hpc=>?_
  have nc1:pp≠pc:=by rintro rfl;rw [f2]at hpc;cases hpc
  have nc2:pr≠pc:=by rintro rfl;rw [e2]at hpc;cases hpc
  refine cmap (pts ps) ptA (fun q=>.D (ltrD q)) (fun τ=>∃o1 o2,τ=[o1,o2]) ⟨none,none,rfl⟩ updM_same (seven (by omega)) (fun acc=>items_R (by rw [updM_ne nc1,updM_ne nc1];exact f2)) ?_ ?_
  ·rintro j r τ' acc W hj ⟨o1,o2,rfl⟩ hW
   have hr2:=pt_lt hO (pt_in.mp (List.mem_of_getElem? hj))
   refine⟨rfl,unp2 ?_⟩
   dsimp only [List.set]
   exact⟨sgs_len2,opt_i (sg_at (by omega)) ⟨sgs_len2,opt_i (sg_at (by omega)) ⟨seven (show 1+1<=1000 by decide),hW _ ⟨_,_,rfl⟩⟩⟩⟩
  ·refine opt_i (items_R updM_same) (opt_i (dats_ltr _) (hZ _ _ ⟨rfl,by rw [updM_ne nc2,updM_ne nc2];exact e2,(S2.new (S2.none hpc)).new (S2.none hpc)⟩))
 rintro τ μ3 ⟨rfl,e3,S3⟩
 refine opt_i (atI_nat (j:=0) rfl) ⟨.inl ⟨by decide,by decide⟩,?_⟩
 refine opt_i (items_R e3) (opt_i (dats_rul _) ⟨rul_tok (Nat.le_trans (allR_len hO (sw+1) (by omega)) (by decide)),fun es p h1 h2 h3 hp=>?_⟩)
 refine opt_i (items_R updM_same) (opt_i (dats_map _) ?_)
 exact⟨_,Sub.refl,q es _ h1 h2 h3 (S3.new (S3.none hp))⟩
def isM(ps:Prg)(N:Nat):Bool:=match(pts ps)[N]? with
 | some q=>match stepAt ps q with
  | some .mark=>true
  | _=>false
 | none=>false
def mks(ps:Prg):List Nat:=(List.range (pts ps).length).filter (isM ps)
def mrkD(a N:Nat):PyData:=.tuple [.int (2 * a:Nat),.int N,.tuple []]
def sayL(sw:Nat)(ps:Prg):List PyData:=(List.range (sw+1)).flatMap fun a=>(mks ps).map (mrkD a)
def sayD(sw:Nat)(ps:Prg):PyData:=.tuple [.int 0,.tuple (sayL sw ps),.tuple []]
theorem en_pt{l:List Pt}{i:Nat}{x:AV}(h:(enumA 0 (l.map ptD))[i]?=some x):∃q,l[i]?=some q/\x=.D (.tuple [.int i,ptD q]):=by
 obtain⟨d,hd,rfl⟩:=enumA_get h
 rw [List.getElem?_map]at hd
 obtain⟨p,hp,rfl⟩:=Option.map_eq_some_iff.mp hd
 exact⟨p,hp,by rw [Nat.zero_add]⟩
abbrev nSf:List Str:=["program","arrows","answer","number","point"]
theorem scSf:FnScope nSf ["program"] (defScope sSf):=⟨rfl,rfl,rfl,by decide +kernel,rfl,by decide +kernel,by decide +kernel⟩
def spSf:ASp:=fun xs μ R=>∃(sw:Nat) (ps:Prg),xs=[.D (prgD sw ps)]/\PgOk sw ps/\∀ μ',Sub μ μ'->R (.D (sayD sw ps)) μ'
theorem mks_len{sw:Nat}{ps:Prg}(h:PgOk sw ps)(j:Nat)(hj:j<=(pts ps).length):((List.range j).filter (isM ps)).length<=15:=by
 have:=List.length_filter_le (isM ps) (List.range j)
 rw [List.length_range]at this
 have:=h.len
 omega
theorem say_len{sw:Nat}{ps:Prg}(h:PgOk sw ps)(i:Nat)(hi:i<=2):((List.range i).flatMap fun a=>(mks ps).map (mrkD a)).length<=30:=by
 have:=flat_le (fun a=>(mks ps).map (mrkD a)) 15 (List.range i) fun a _=>by rw [List.length_map];exact mks_len h _ (Nat.le_refl _)
 rw [List.length_range]at this
 omega
theorem ok_sf{n:Nat}(F:Fun K "saying_of" "saying_of" sSf f fd) (cAp:VCal P w K mg base n "all_points" ["program"] spAp) (cOp:VCal P w K mg base n "own_place" ["program","answer","point"] spOp) (cWo:VCal P w K mg base n "word_at" ["program","point"] spWo) (m_range:mg "range" = none) (m_enumerate:mg "enumerate" = none) (m_tuple:mg "tuple" = none):FnOk P w K mg base CX0 (n+1) f fd ["program"] (cSp K 1 spSf):=by
 refine F.vok scSf fun cdv A outer s H E hr=>⟨_,(vss_cons (vs_set (i:=1) scSf.nd rfl (Or.inl rfl) (ve_lst va_nil))
   (vss_cons (vs_for PassesOwn.never rfl (vi_range1 rfl m_range (va_cons (ve_op o_add (ve_ix i_ix (vv 0) ve_int) ve_int) va_nil)) (vg_name (i:=2) scSf.nd rfl (Or.inl rfl)) (vss_one (vs_for PassesOwn.never rfl (vi_enum rfl m_enumerate (ve_call cAp hr rfl (va_cons (vv 0) va_nil))) (vg_tup (n:=2) rfl (vgs_cons (vg_name (i:=3) scSf.nd rfl (Or.inl rfl)) (vgs_cons (vg_name (i:=4) scSf.nd rfl (Or.inl rfl)) vgs_nil))) (vss_one (vs_if (vt_cmp (o_eq hr) (ve_call cWo hr rfl (va_cons (vv 0) (va_cons (vv 4) va_nil))) ve_str (nomark _)) (vss_one (vs_expr (ve_ml PySem.F.slot_list_append PySem.F.type_list_append m_append (vv 1) (va_cons (ve_tup (va_cons (ve_call cOp hr rfl (va_cons (vv 0) (va_cons (vv 2) (va_cons (vv 4) va_nil)))) (va_cons (vv 3) (va_cons (ve_tup va_nil) va_nil)))) va_nil)))) vss_nil)))))
   (vss_one (vs_ret (ve_tup (va_cons ve_int (va_cons (ve_callTy c_tuple rfl m_tuple PyProof.Rows.boot_tuple (va_cons (vv 1) va_nil)) (va_cons (ve_tup va_nil) va_nil)))))))),?_⟩
 rintro xs μ R _ ⟨sw,ps,rfl,hO,q⟩
 have hsw:=hO.sw
 intro pr hpr
 refine seq_i (fun τ μ'=>∃o2 o3 o4,τ=[some (.D (prgD sw ps)),some (.R pr),o2,o3,o4]/\μ' pr=some (.lst ((sayL sw ps).map .D))/\Sub μ μ') (fun Z hZ=>?_) ?_
 ·have hlen:(rngA 0 ((sw:Int)+1).toNat).length=sw+1:=by rw [rngA_length];omega
  refine opt_i (atI_nat (j:=0) rfl) ⟨by omega,by omega,?_⟩
  refine for_i (fun i τ μ'=>∃o2 o3 o4,τ=[some (.D (prgD sw ps)),some (.R pr),o2,o3,o4]/\μ' pr=some (.lst (((List.range i).flatMap fun a=>(mks ps).map (mrkD a)).map .D))/\Sub μ μ') ⟨none,none,none,rfl,updM_same,Sub.refl.new hpr⟩ (fun _ _ _ _=>trivial) ?_ ?_
  ·rintro i y τ μ2 Z2 hy ⟨o2,o3,o4,rfl,e2,S2⟩ hZ2
   have hi:i < sw+1:=by rw [<- hlen];exact(List.getElem?_eq_some_iff.mp hy).1
   have ey:=rngA_get _ _ _ hy
   rw [Int.zero_add]at ey
   subst ey
   have hb:=say_len hO i (by omega)
   refine⟨sw,ps,rfl,hO,fun pp μ3 hpp e3 S3=>opt_i (items_R e3) (opt_i (dats_pt _) ?_)⟩
   have npr:pp≠pr:=by rintro rfl;rw [e2]at hpp;cases hpp
   refine for_i (fun j τ μ'=>∃o3 o4,τ=[some (.D (prgD sw ps)),some (.R pr),some (.D (.int i)),o3,o4]/\μ' pr=some (.lst ((((List.range i).flatMap fun a=>(mks ps).map (mrkD a))++((List.range j).filter (isM ps)).map (mrkD i)).map .D))/\μ' pp=some (.lst ((pts ps).map ptA))/\Sub μ μ') ⟨o3,o4,rfl,by rw [List.range_zero,List.filter_nil,List.map_nil,List.append_nil];exact S3 _ _ e2,e3,fun b m h=>S3 b m (S2 b m h)⟩ (fun _ _ _ ⟨_,_,_,_,f,_⟩=>items_R f) ?_ ?_
   ·rintro j y τ μ4 Z3 hy ⟨o3',o4',rfl,e4,f4,S4⟩ hZ3
    obtain⟨r,hr',rfl⟩:=en_pt hy
    have hj:j < (pts ps).length:=(List.getElem?_eq_some_iff.mp hr').1
    have hrq:PtOk ps r:=pt_in.mp (List.mem_of_getElem? hr')
    have hb2:=mks_len hO j (by omega)
    have hb3:((((List.range i).flatMap fun a=>(mks ps).map (mrkD a))++((List.range j).filter (isM ps)).map (mrkD i)).map AV.D).length<=45:=by rw [List.length_map,List.length_append,List.length_map];omega
    refine⟨rfl,unp2 ?_⟩
    dsimp only [List.set]
    refine⟨sw,ps,r,rfl,hrq,?_⟩
    have no:isM ps j=false->Z3 [some (.D (prgD sw ps)),some (.R pr),some (.D (.int i)),some (.D (.int j)),some (.D (ptD r))] μ4:=fun hm=>by
     refine hZ3 _ _ ⟨_,_,rfl,?_,f4,S4⟩
     rw [List.range_succ,List.filter_append,List.filter_cons_of_neg (by rw [hm];decide),List.filter_nil,List.append_nil];exact e4
    have hM:isM ps j=match stepAt ps r with
      | some .mark=>true
      | _=>false:=by unfold isM;rw [hr']
    cases e:stepAt ps r with
    | none =>
     rw [show wordD ps r=.none by unfold wordD;rw [e]]
     exact⟨eqOk_none,ok_mark,brF n_none_mark (no (by rw [hM,e]))⟩
    | some st =>
     rw [show wordD ps r=.str st.word by unfold wordD;rw [e]]
     cases st with
     | ask x y=>exact wNe n_ask_mark (no (by rw [hM,e]))
     | chance x y=>exact wNe n_chance_mark (no (by rw [hM,e]))
     | set v=>exact wNe n_set_mark (no (by rw [hM,e]))
     | iff x y=>exact wNe n_if_mark (no (by rw [hM,e]))
     | call k=>exact wNe n_call_mark (no (by rw [hM,e]))
     | back=>exact wNe n_back_mark (no (by rw [hM,e]))
     | mark =>
      refine wEq e_mark_mark ⟨opt_i e4 trivial,sw,ps,i,r,rfl,hrq,?_⟩
      have hh:hnd ps r=0:=by unfold hnd;rw [e]
      rw [hh,Nat.add_zero]
      refine opt_i e4 ⟨small1000 (by omega),hZ3 _ _ ⟨_,_,rfl,?_,by rw [updM_ne npr];exact f4,S4.new hpr⟩⟩
      rw [updM_same,List.range_succ,List.filter_append,List.filter_cons_of_pos (by rw [hM,e]),List.filter_nil,List.map_append (l₁:=List.filter (isM ps) (List.range j)),<- List.append_assoc,List.map_append (l₂:=List.map (mrkD i) [j])];rfl
   ·rintro τ μ4 ⟨o3',o4',rfl,e4,f4,S4⟩
    rw [enumA_length,List.length_map]at e4
    refine hZ2 _ _ ⟨_,_,_,rfl,?_,S4⟩
    rw [e4,List.range_succ,List.flatMap_append,List.flatMap_singleton];rfl
  ·rintro τ μ2 ⟨o2,o3,o4,rfl,e2,S2⟩
   rw [hlen]at e2
   exact hZ _ _ ⟨_,_,_,rfl,e2,S2⟩
 rintro τ μ2 ⟨o2,o3,o4,rfl,e2,S2⟩
 exact opt_i (items_R e2) (opt_i (dats_map _) ⟨_,Sub.refl,q _ S2⟩)
abbrev nBf:List Str:=["program"]
theorem scBf:FnScope nBf ["program"] (defScope sBf):=⟨rfl,rfl,rfl,by decide +kernel,rfl,by decide +kernel,by decide +kernel⟩
def spBf:ASp:=fun xs μ R=>∃(sw:Nat) (ps:Prg),xs=[.D (prgD sw ps)]/\PgOk sw ps/\R (.D (.tuple [.int (hnd ps (0,0):Nat),.tuple [.int 0]])) μ
theorem ok_bf{n:Nat}(F:Fun K "begin_of" "begin_of" sBf f fd) (cOp:VCal P w K mg base n "own_place" ["program","answer","point"] spOp):FnOk P w K mg base CX0 (n+1) f fd ["program"] (cSp K 1 spBf):=by
 refine F.vok scBf fun cdv A outer s H E hr=>⟨_,(vss_one (vs_ret (ve_tup (va_cons (ve_call cOp hr rfl (va_cons (vv 0) (va_cons ve_int (va_cons (ve_tup (va_cons ve_int (va_cons ve_int va_nil))) va_nil)))) (va_cons (ve_tup (va_cons ve_int va_nil)) va_nil))))),?_⟩
 rintro xs μ R _ ⟨sw,ps,rfl,hO,q⟩
 refine⟨sw,ps,0,(0,0),rfl,pt_call hO.n0,⟨μ,Sub.refl,?_⟩⟩
 rw [show 2 * 0+hnd ps (0,0)=hnd ps (0,0) by omega]
 exact q
end
section
variable {P:Program}{w:World}{K:PySem.W.Frag}{mg:Str->Option Value}{base:Heap}{f:Addr}{fd:FuncData}
abbrev nWe:List Str:=["program","pile"]
theorem scWe:FnScope nWe ["program","pile"] (defScope sWe):=⟨rfl,rfl,rfl,by decide +kernel,rfl,by decide +kernel,by decide +kernel⟩
def spWe:ASp:=fun xs μ R=>∃sw ps l,xs=[.D (prgD sw ps),.D (pileD l)]/\(∀q∈l,PtOk ps q)/\R (.D (pileD (strip ps l))) μ
theorem ok_we{n:Nat}(F:Fun K "without_ends" "without_ends" sWe f fd) (cWo:VCal P w K mg base n "word_at" ["program","point"] spWo) (m_len:mg "len" = none):FnOk P w K mg base CX0 (n+1) f fd ["program","pile"] (cSp K 2 spWe):=by
 refine F.vok scWe fun cdv A outer s H E hr=>⟨_,(vss_cons (vs_while PassesOwn.never (VW.pt (vw_and (vt_cmp o_gt (ve_callB c_len rfl m_len PySem.boot_len (va_cons (vv 1) va_nil)) ve_int (nomark _)) (vw_and1 (vt_cmp o_isN (ve_call cWo hr rfl (va_cons (vv 0) (va_cons (ve_ix i_ix (vv 1) ve_int) va_nil))) ve_non (nomark _))))) (vss_one (vs_set (i:=1) scWe.nd rfl (Or.inl rfl) (ve_slice (vv 1) (vo_some ve_int) vo_none))))
   (vss_one (vs_ret (vv 1)))),?_⟩
 rintro xs μ R _ ⟨sw,ps,l,rfl,hl,h⟩
 refine while_i (fun m τ μ'=>∃r,m=r.length/\τ=[some (.D (prgD sw ps)),some (.D (pileD r))]/\μ'=μ/\(∀q∈r,PtOk ps q)/\strip ps r=strip ps l) l.length ⟨l,rfl,rfl,rfl,hl,rfl⟩ ?_
 rintro m τ μ' W ⟨r,rfl,rfl,rfl,hr',e⟩ hW
 cases r with
 | nil =>
  refine dif (fun c=>absurd c (by decide)) (fun c=>brF rfl ⟨μ',Sub.refl,?_⟩)
  rw [<- e]at h
  exact h
 | cons q r =>
  refine dif (fun c=>?_) (fun c=>absurd (show(0:Int) < ((r.map ptD).length+1:Nat) by omega) c)
  refine opt_i (atI_nat (j:=0) rfl) ⟨sw,ps,q,rfl,hr' q List.mem_cons_self,?_⟩
  cases e2:stepAt ps q with
  | none =>
   have hw:wordD ps q=.none:=by unfold wordD;rw [e2]
   rw [hw]
   refine brT rfl (hW r.length _ _ (Nat.lt_succ_self _) ⟨r,rfl,?_,rfl,fun x hx=>hr' x (List.mem_cons_of_mem _ hx),?_⟩)
   ·show [some (AV.D (prgD sw ps)),some (AV.D (.tuple (cutD (ptD q :: r.map ptD) (some 1) none)))]=_
    rw [cut1];rfl
   ·rw [<- e]
    show _=strip ps (q :: r)
    rw [strip,e2]
  | some st =>
   have hw:wordD ps q=.str st.word:=by unfold wordD;rw [e2]
   rw [hw]
   refine brF rfl ⟨μ',Sub.refl,?_⟩
   rw [<- e,strip,e2]at h
   exact h
def goR(ps:Prg):Nat->Nat->List Pt->List Nat->Nat->Str×Nat
 | _,_,[],_,st=>("over",st)
 | 0,_,_ :: _,_,st=>("more",st)
 | n+1,a,q :: r,cs,st=>match stepAt ps q with
  | none=>("over",st)
  | some .mark=>("marked",st+1)
  | some (.ask x y)=>match cs with
   | []=>("lacks",st)
   | c :: cs=>goR ps n a (strip ps ((q.1,if c=0 then x else y) :: r)) cs (st+1)
  | some (.chance x y)=>match cs with
   | []=>("lacks",st)
   | c :: cs=>goR ps n a (strip ps ((q.1,if c=0 then x else y) :: r)) cs (st+1)
  | some (.iff x y)=>goR ps n a (strip ps ((q.1,if a=1 then x else y) :: r)) cs (st+1)
  | some (.set v)=>goR ps n v (strip ps ((q.1,q.2+1) :: r)) cs (st+1)
  | some (.call k)=>goR ps n a (strip ps ((k,0) :: (q.1,q.2+1) :: r)) cs (st+1)
  | some .back=>goR ps n a (strip ps r) cs (st+1)
def resD(x:Str×Nat):PyData:=.tuple [.str x.1,natD x.2]
def runD(ps:Prg)(cs:List Nat)(most:Nat):PyData:=resD (goR ps most 0 (strip ps [(0,0)]) cs 0)
theorem all_cons{ps:Prg}{q:Pt}{r:List Pt}(h:PtOk ps q)(hr:∀x∈r,PtOk ps x):∀x∈q :: r,PtOk ps x:=fun x hx=>by
 rcases List.mem_cons.mp hx with rfl | hx
 ·exact h
 ·exact hr x hx
theorem strip_strip{ps:Prg}:∀(l:List Pt),strip ps (strip ps l)=strip ps l
 | []=>rfl
 | q :: r=>by
  cases e:stepAt ps q with
  | none=>rw [show strip ps (q :: r)=strip ps r by rw [strip,e]];exact strip_strip r
  | some s=>rw [show strip ps (q :: r)=q :: r by rw [strip,e]];rw [strip,e]
theorem okAC:EqOk (.tuple [.str "ask",.str "chance"]):=⟨by decide +kernel,by simp [PyData.depth,PyData.depthAll]⟩
abbrev nRp:List Str:=["program","choices","most","answer","pile","asked","steps","word","chosen","further"]
theorem scRp:FnScope nRp ["program","choices","most"] (defScope sRp):=⟨rfl,rfl,rfl,by decide +kernel,rfl,by decide +kernel,by decide +kernel⟩
structure RunIn(ps:Prg)(cs:List Nat)(most:Nat):Prop where
 ok:PrgOk ps
 ne:0 < ps.length
 cs:∀c∈cs,c<=1
 most:most<=60
def chD(cs:List Nat):PyData:=.tuple (cs.map natD)
def spRp:ASp:=fun xs μ R=>∃(sw:Nat) (ps:Prg) (cs:List Nat) (most:Nat),xs=[.D (prgD sw ps),.D (chD cs),.D (natD most)]/\RunIn ps cs most/\R (.D (runD ps cs most)) μ
theorem len_pos{α β:Type}{f:α->β}{x:α}{r:List α}:(0:Int) < (((x :: r).map f).length:Nat):=by simp
theorem drop_cons{cs:List Nat}{i c:Nat}{r:List Nat}(h:cs.drop i=c :: r):cs[i]?=some c/\cs.drop (i+1)=r:=by
 have h1:(cs.drop i)[0]?=some c:=by rw [h];rfl
 rw [List.getElem?_drop]at h1
 refine⟨by simpa using h1,?_⟩
 have:(cs.drop i).drop 1=r:=by rw [h];rfl
 rwa [List.drop_drop]at this
theorem ok_rp{n:Nat}{cw:Addr}(F:Fun K "run_program" "run_program" sRp f fd) (cWe:VCal P w K mg base n "without_ends" ["program","pile"] spWe) (cWo:VCal P w K mg base n "word_at" ["program","point"] spWo)
  (cGo:VCal P w K mg base n "goings_on" ["program","answer","point"] spGo) (m_len:mg "len" = none) (mCW:mg "CHOOSING_WORDS" = some (.ref cw)) (hCW:∀H,Dk K H (.tuple [.str "ask",.str "chance"]) (.ref cw)):FnOk P w K mg base CX0 (n+1) f fd ["program","choices","most"] (cSp K 3 spRp):=by
 refine F.vok scRp fun cdv A outer s H E hr=>⟨_,(vss_cons (vs_set (i:=3) scRp.nd rfl (Or.inl rfl) ve_int)
   (vss_cons (vs_set (i:=4) scRp.nd rfl (Or.inl rfl) (ve_call cWe hr rfl (va_cons (vv 0) (va_cons (ve_tup (va_cons (ve_tup (va_cons ve_int (va_cons ve_int va_nil))) va_nil)) va_nil))))
   (vss_cons (vs_set (i:=5) scRp.nd rfl (Or.inl rfl) ve_int)
   (vss_cons (vs_set (i:=6) scRp.nd rfl (Or.inl rfl) ve_int)
   (vss_cons (vs_while PassesOwn.never (VW.pt (vw_and (vt_cmp o_gt (ve_callB c_len rfl m_len PySem.boot_len (va_cons (vv 4) va_nil)) ve_int (nomark _)) (vw_and1 (vt_cmp o_lt (vv 6) (vv 2) (nomark _))))) (vss_cons (vs_set (i:=7) scRp.nd rfl (Or.inl rfl) (ve_call cWo hr rfl (va_cons (vv 0) (va_cons (ve_ix i_ix (vv 4) ve_int) va_nil))))
   (vss_cons (vs_if (vt_cmp (o_eq hr) (vv 7) ve_str (nomark _)) (vss_one (vs_ret (ve_tup (va_cons ve_str (va_cons (ve_op o_add (vv 6) ve_int) va_nil))))) vss_nil)
   (vss_cons (vs_set (i:=8) scRp.nd rfl (Or.inl rfl) ve_int)
   (vss_cons (vs_if (vt_cmp (o_in hr) (vv 7) (ve_glob rfl mCW (v:=.ref cw) rfl hCW) (by with_unfolding_all rfl)) (vss_cons (vs_if (vt_cmp (o_eq hr) (vv 5) (ve_callB c_len rfl m_len PySem.boot_len (va_cons (vv 1) va_nil)) (nomark _)) (vss_one (vs_ret (ve_tup (va_cons ve_str (va_cons (vv 6) va_nil))))) vss_nil)
   (vss_cons (vs_set (i:=8) scRp.nd rfl (Or.inl rfl) (ve_ix i_ix (vv 1) (vv 5)))
   (vss_one (vs_set (i:=5) scRp.nd rfl (Or.inl rfl) (ve_op o_add (vv 5) ve_int))))) vss_nil)
   (vss_cons (vs_set (i:=9) scRp.nd rfl (Or.inl rfl) (ve_ix i_ix (ve_call cGo hr rfl (va_cons (vv 0) (va_cons (vv 3) (va_cons (ve_ix i_ix (vv 4) ve_int) va_nil)))) (vv 8)))
   (vss_cons (vs_set (i:=3) scRp.nd rfl (Or.inl rfl) (ve_ix i_ix (vv 9) ve_int))
   (vss_cons (vs_set (i:=4) scRp.nd rfl (Or.inl rfl) (ve_call cWe hr rfl (va_cons (vv 0) (va_cons (ve_op o_add (ve_ix i_ix (vv 9) ve_int) (ve_slice (vv 4) (vo_some ve_int) vo_none)) va_nil))))
   (vss_one (vs_set (i:=6) scRp.nd rfl (Or.inl rfl) (ve_op o_add (vv 6) ve_int)))))))))))
   (vss_one (vs_ret (ve_ifExp (vt_cmp o_gt (ve_callB c_len rfl m_len PySem.boot_len (va_cons (vv 4) va_nil)) ve_int (nomark _)) (ve_tup (va_cons ve_str (va_cons (vv 6) va_nil))) (ve_tup (va_cons ve_str (va_cons (vv 6) va_nil))))))))))),?_⟩
 rintro xs μ R _ ⟨sw,ps,cs,most,rfl,hin,h⟩
 refine⟨sw,ps,[(0,0)],rfl,all_cons (pt_call hin.ne) (fun _ z=>nomatch z),?_⟩
 refine while_i (fun m τ μ'=>∃(a:Nat) (l:List Pt) (i st:Nat) (o1 o2 o3:Option AV),τ=[some (.D (prgD sw ps)),some (.D (chD cs)),some (.D (natD most)),some (.D (natD a)),some (.D (pileD l)),some (.D (natD i)),some (.D (natD st)),o1,o2,o3] /\
  Sub μ μ'/\st+m=most/\i<=cs.length/\(∀q∈l,PtOk ps q)/\strip ps l=l/\l.length<=st+1/\runD ps cs most=resD (goR ps m a l (cs.drop i) st)) most ⟨0,strip ps [(0,0)],0,0,none,none,none,rfl,Sub.refl,Nat.zero_add _,Nat.zero_le _,?_,?_,?_,?_⟩ ?_
 ·exact strip_ok (all_cons (pt_call hin.ne) (fun _ z=>nomatch z))
 ·exact strip_strip _
 ·exact strip_len _
 ·rfl
 rintro m τ μ' W ⟨a,l,i,st,o1,o2,o3,rfl,hs,em,hi,hl,el,hlen,er⟩ hW
 rw [er]at h
 cases l with
 | nil =>
  refine dif (fun c=>absurd c (by decide)) (fun c=>brF rfl (dif (fun c=>absurd c (by decide)) (fun c=>⟨μ,hs,?_⟩)))
  cases m <;> exact h
 | cons q r =>
  refine dif (fun _=>?_) (fun c=>absurd len_pos c)
  cases m with
  | zero =>
   exact dif (fun c=>absurd (show(st:Int) < most from c) (by omega)) (fun _=>dif (fun _=>⟨μ,hs,h⟩) (fun c=>absurd len_pos c))
  | succ m =>
   refine dif (fun _=>?_) (fun c=>absurd (show(st:Int) < (most:Int) by omega) c)
   refine opt_i (atI_nat (j:=0) rfl) ⟨sw,ps,q,rfl,hl q List.mem_cons_self,?_⟩
   obtain⟨s,e⟩:∃s,stepAt ps q=some s:=strip_head el
   obtain⟨pr,e1,e2⟩:=step_of e
   have hso:=ok_of hin.ok e1 e2
   rw [show wordD ps q=.str s.word by unfold wordD;rw [e]]
   cases s with
   | mark =>
    rw [goR,e]at h
    exact wEq e_mark_mark ⟨μ,hs,h⟩
   | back =>
    refine wNe n_back_mark (seq_d (asg_c ?_))
    refine seq_i (fun τ μ2=>∃(ch a2 i2:Nat) (pts:List Pt),τ=[some (.D (prgD sw ps)),some (.D (chD cs)),some (.D (natD most)),some (.D (natD a)),some (.D (pileD (q :: r))),some (.D (natD i2)),some (.D (natD st)),some (.D (.str "back")),some (.D (natD ch)),o3] /\
     μ2=μ'/\atI (goL ps a q) (ch:Int)=some (.D (.tuple [natD a2,.tuple (pts.map ptD)]))/\(∀x∈pts,PtOk ps x)/\pts.length<=2/\i2<=cs.length/\goR ps (m+1) a (q :: r) (cs.drop i) st=goR ps m a2 (strip ps (pts++r)) (cs.drop i2) (st+1)) (fun W' hW'=>?_) ?_
    ·refine opt_i rfl ⟨eqOk_str (wOk _),okAC,brF c_back (hW' _ _ ⟨0,a,i,[],rfl,rfl,by unfold goL;rw [e];rfl,?_,(Nat.le_of_ble_eq_true rfl),hi,by rw [goR,e];rfl⟩)⟩
     exact(fun _ z=>nomatch z)
    ·rintro τ μ2 ⟨ch,a2,i2,pts,rfl,rfl,hat,hok,hpl,hi2,hgo⟩
     have hr2:∀x∈pts++r,PtOk ps x:=fun x hx=>by
      rcases List.mem_append.mp hx with hx | hx
      ·exact hok x hx
      ·exact hl x (List.mem_cons_of_mem _ hx)
     have ecut:pts.map ptD++cutD (ptD q :: r.map ptD) (some 1) none=(pts++r).map ptD:=by rw [cut1,List.map_append]
     refine opt_i (atI_nat (j:=0) rfl) ⟨sw,ps,a,q,rfl,hl q List.mem_cons_self,fun p hp=>?_⟩
     refine opt_i updM_same (opt_i hat (opt_i rfl (opt_i rfl ⟨?_,sw,ps,pts++r,?_,hr2,?_⟩)))
     ·have:(pts.map ptD).length+(cutD (ptD q :: r.map ptD) (some 1) none).length<=1000:=by
       rw [cut1,List.length_map,List.length_map]
       have:=hin.most
       simp at hlen
       omega
      exact Nat.le_of_lt (small1000 this)
     ·show [AV.D (prgD sw ps),AV.D (.tuple (pts.map ptD++cutD (ptD q :: r.map ptD) (some 1) none))]=_
      rw [ecut];rfl
     ·refine hW m _ _ (Nat.lt_succ_self _) ⟨a2,strip ps (pts++r),i2,st+1,_,_,_,rfl,hs.new (hs.none hp),by omega,hi2,strip_ok hr2,strip_strip _,?_,by rw [er,hgo]⟩
      have:=strip_len (ps:=ps) (pts++r)
      rw [List.length_append]at this
      simp at hlen
      omega
   | call k =>
    refine wNe n_call_mark (seq_d (asg_c ?_))
    refine seq_i (fun τ μ2=>∃(ch a2 i2:Nat) (pts:List Pt),τ=[some (.D (prgD sw ps)),some (.D (chD cs)),some (.D (natD most)),some (.D (natD a)),some (.D (pileD (q :: r))),some (.D (natD i2)),some (.D (natD st)),some (.D (.str "call")),some (.D (natD ch)),o3] /\
     μ2=μ'/\atI (goL ps a q) (ch:Int)=some (.D (.tuple [natD a2,.tuple (pts.map ptD)]))/\(∀x∈pts,PtOk ps x)/\pts.length<=2/\i2<=cs.length/\goR ps (m+1) a (q :: r) (cs.drop i) st=goR ps m a2 (strip ps (pts++r)) (cs.drop i2) (st+1)) (fun W' hW'=>?_) ?_
    ·refine opt_i rfl ⟨eqOk_str (wOk _),okAC,brF c_call (hW' _ _ ⟨0,a,i,[(k,0),(q.1,q.2+1)],rfl,rfl,by unfold goL;rw [e];rfl,?_,(Nat.le_of_ble_eq_true rfl),hi,by rw [goR,e];rfl⟩)⟩
     exact all_cons (pt_call hso) (all_cons (pt_next e1 e2) (fun _ z=>nomatch z))
    ·rintro τ μ2 ⟨ch,a2,i2,pts,rfl,rfl,hat,hok,hpl,hi2,hgo⟩
     have hr2:∀x∈pts++r,PtOk ps x:=fun x hx=>by
      rcases List.mem_append.mp hx with hx | hx
      ·exact hok x hx
      ·exact hl x (List.mem_cons_of_mem _ hx)
     have ecut:pts.map ptD++cutD (ptD q :: r.map ptD) (some 1) none=(pts++r).map ptD:=by rw [cut1,List.map_append]
     refine opt_i (atI_nat (j:=0) rfl) ⟨sw,ps,a,q,rfl,hl q List.mem_cons_self,fun p hp=>?_⟩
     refine opt_i updM_same (opt_i hat (opt_i rfl (opt_i rfl ⟨?_,sw,ps,pts++r,?_,hr2,?_⟩)))
     ·have:(pts.map ptD).length+(cutD (ptD q :: r.map ptD) (some 1) none).length<=1000:=by
       rw [cut1,List.length_map,List.length_map]
       have:=hin.most
       simp at hlen
       omega
      exact Nat.le_of_lt (small1000 this)
     ·show [AV.D (prgD sw ps),AV.D (.tuple (pts.map ptD++cutD (ptD q :: r.map ptD) (some 1) none))]=_
      rw [ecut];rfl
     ·refine hW m _ _ (Nat.lt_succ_self _) ⟨a2,strip ps (pts++r),i2,st+1,_,_,_,rfl,hs.new (hs.none hp),by omega,hi2,strip_ok hr2,strip_strip _,?_,by rw [er,hgo]⟩
      have:=strip_len (ps:=ps) (pts++r)
      rw [List.length_append]at this
      simp at hlen
      omega
   | set v =>
    refine wNe n_set_mark (seq_d (asg_c ?_))
    refine seq_i (fun τ μ2=>∃(ch a2 i2:Nat) (pts:List Pt),τ=[some (.D (prgD sw ps)),some (.D (chD cs)),some (.D (natD most)),some (.D (natD a)),some (.D (pileD (q :: r))),some (.D (natD i2)),some (.D (natD st)),some (.D (.str "set")),some (.D (natD ch)),o3] /\
     μ2=μ'/\atI (goL ps a q) (ch:Int)=some (.D (.tuple [natD a2,.tuple (pts.map ptD)]))/\(∀x∈pts,PtOk ps x)/\pts.length<=2/\i2<=cs.length/\goR ps (m+1) a (q :: r) (cs.drop i) st=goR ps m a2 (strip ps (pts++r)) (cs.drop i2) (st+1)) (fun W' hW'=>?_) ?_
    ·refine opt_i rfl ⟨eqOk_str (wOk _),okAC,brF c_set (hW' _ _ ⟨0,v,i,[(q.1,q.2+1)],rfl,rfl,by unfold goL;rw [e];rfl,?_,(Nat.le_of_ble_eq_true rfl),hi,by rw [goR,e];rfl⟩)⟩
     exact all_cons (pt_next e1 e2) (fun _ z=>nomatch z)
    ·rintro τ μ2 ⟨ch,a2,i2,pts,rfl,rfl,hat,hok,hpl,hi2,hgo⟩
     have hr2:∀x∈pts++r,PtOk ps x:=fun x hx=>by
      rcases List.mem_append.mp hx with hx | hx
      ·exact hok x hx
      ·exact hl x (List.mem_cons_of_mem _ hx)
     have ecut:pts.map ptD++cutD (ptD q :: r.map ptD) (some 1) none=(pts++r).map ptD:=by rw [cut1,List.map_append]
     refine opt_i (atI_nat (j:=0) rfl) ⟨sw,ps,a,q,rfl,hl q List.mem_cons_self,fun p hp=>?_⟩
     refine opt_i updM_same (opt_i hat (opt_i rfl (opt_i rfl ⟨?_,sw,ps,pts++r,?_,hr2,?_⟩)))
     ·have:(pts.map ptD).length+(cutD (ptD q :: r.map ptD) (some 1) none).length<=1000:=by
       rw [cut1,List.length_map,List.length_map]
       have:=hin.most
       simp at hlen
       omega
      exact Nat.le_of_lt (small1000 this)
     ·show [AV.D (prgD sw ps),AV.D (.tuple (pts.map ptD++cutD (ptD q :: r.map ptD) (some 1) none))]=_
      rw [ecut];rfl
     ·refine hW m _ _ (Nat.lt_succ_self _) ⟨a2,strip ps (pts++r),i2,st+1,_,_,_,rfl,hs.new (hs.none hp),by omega,hi2,strip_ok hr2,strip_strip _,?_,by rw [er,hgo]⟩
      have:=strip_len (ps:=ps) (pts++r)
      rw [List.length_append]at this
      simp at hlen
      omega
   | iff x y =>
    refine wNe n_if_mark (seq_d (asg_c ?_))
    refine seq_i (fun τ μ2=>∃(ch a2 i2:Nat) (pts:List Pt),τ=[some (.D (prgD sw ps)),some (.D (chD cs)),some (.D (natD most)),some (.D (natD a)),some (.D (pileD (q :: r))),some (.D (natD i2)),some (.D (natD st)),some (.D (.str "if")),some (.D (natD ch)),o3] /\
     μ2=μ'/\atI (goL ps a q) (ch:Int)=some (.D (.tuple [natD a2,.tuple (pts.map ptD)]))/\(∀x∈pts,PtOk ps x)/\pts.length<=2/\i2<=cs.length/\goR ps (m+1) a (q :: r) (cs.drop i) st=goR ps m a2 (strip ps (pts++r)) (cs.drop i2) (st+1)) (fun W' hW'=>?_) ?_
    ·refine opt_i rfl ⟨eqOk_str (wOk _),okAC,brF c_if (hW' _ _ ⟨0,a,i,[(q.1,if a=1 then x else y)],rfl,rfl,by unfold goL;rw [e];rfl,?_,(Nat.le_of_ble_eq_true rfl),hi,by rw [goR,e];rfl⟩)⟩
     refine all_cons ?_ (fun _ z=>nomatch z)
     split
     ·exact pt_to e1 hso.1
     ·exact pt_to e1 hso.2
    ·rintro τ μ2 ⟨ch,a2,i2,pts,rfl,rfl,hat,hok,hpl,hi2,hgo⟩
     have hr2:∀x∈pts++r,PtOk ps x:=fun x hx=>by
      rcases List.mem_append.mp hx with hx | hx
      ·exact hok x hx
      ·exact hl x (List.mem_cons_of_mem _ hx)
     have ecut:pts.map ptD++cutD (ptD q :: r.map ptD) (some 1) none=(pts++r).map ptD:=by rw [cut1,List.map_append]
     refine opt_i (atI_nat (j:=0) rfl) ⟨sw,ps,a,q,rfl,hl q List.mem_cons_self,fun p hp=>?_⟩
     refine opt_i updM_same (opt_i hat (opt_i rfl (opt_i rfl ⟨?_,sw,ps,pts++r,?_,hr2,?_⟩)))
     ·have:(pts.map ptD).length+(cutD (ptD q :: r.map ptD) (some 1) none).length<=1000:=by
       rw [cut1,List.length_map,List.length_map]
       have:=hin.most
       simp at hlen
       omega
      exact Nat.le_of_lt (small1000 this)
     ·show [AV.D (prgD sw ps),AV.D (.tuple (pts.map ptD++cutD (ptD q :: r.map ptD) (some 1) none))]=_
      rw [ecut];rfl
     ·refine hW m _ _ (Nat.lt_succ_self _) ⟨a2,strip ps (pts++r),i2,st+1,_,_,_,rfl,hs.new (hs.none hp),by omega,hi2,strip_ok hr2,strip_strip _,?_,by rw [er,hgo]⟩
      have:=strip_len (ps:=ps) (pts++r)
      rw [List.length_append]at this
      simp at hlen
      omega
   | ask x y =>
    refine wNe n_ask_mark (seq_d (asg_c ?_))
    refine seq_i (fun τ μ2=>∃(ch a2 i2:Nat) (pts:List Pt),τ=[some (.D (prgD sw ps)),some (.D (chD cs)),some (.D (natD most)),some (.D (natD a)),some (.D (pileD (q :: r))),some (.D (natD i2)),some (.D (natD st)),some (.D (.str "ask")),some (.D (natD ch)),o3] /\
     μ2=μ'/\atI (goL ps a q) (ch:Int)=some (.D (.tuple [natD a2,.tuple (pts.map ptD)]))/\(∀x∈pts,PtOk ps x)/\pts.length<=2/\i2<=cs.length/\goR ps (m+1) a (q :: r) (cs.drop i) st=goR ps m a2 (strip ps (pts++r)) (cs.drop i2) (st+1)) (fun W' hW'=>?_) ?_
    ·refine opt_i rfl ⟨eqOk_str (wOk _),okAC,brT c_ask ⟨eqOk_int _,eqOk_int _,?_⟩⟩
     cases ec:cs.drop i with
     | nil =>
      have e0:i=cs.length:=by have:=List.drop_eq_nil_iff.mp ec;omega
      refine brT ?_ ⟨μ,hs,?_⟩
      ·rw [e0]
       show PyData.eqv (.int _) (.int ((cs.map natD).length:Nat))=true
       rw [eqv_int];simp
      ·rw [ec,goR,e]at h
       exact h
     | cons c cr =>
      obtain⟨hc,hcr⟩:=drop_cons ec
      have hlt:i < cs.length:=(List.getElem?_eq_some_iff.mp hc).1
      have hc1:=hin.cs c (List.mem_of_getElem? hc)
      have ich:atI (cs.map natD) (i:Int)=some (natD c):=atI_nat (by rw [List.getElem?_map,hc];rfl)
      refine brF ?_ (opt_i ich (hW' _ _ ⟨c,a,i+1,[(q.1,if c=0 then x else y)],rfl,rfl,?_,?_,(Nat.le_of_ble_eq_true rfl),hlt,?_⟩))
      ·show PyData.eqv (.int _) (.int ((cs.map natD).length:Nat))=false
       rw [eqv_int,List.length_map];exact decide_eq_false (by omega)
      ·unfold goL;rw [e]
       have:c=0\/c=1:=by omega
       rcases this with rfl | rfl <;> rfl
      ·refine all_cons ?_ (fun _ z=>nomatch z)
       split
       ·exact pt_to e1 hso.1
       ·exact pt_to e1 hso.2
      ·rw [ec,hcr,goR,e];rfl
    ·rintro τ μ2 ⟨ch,a2,i2,pts,rfl,rfl,hat,hok,hpl,hi2,hgo⟩
     have hr2:∀x∈pts++r,PtOk ps x:=fun x hx=>by
      rcases List.mem_append.mp hx with hx | hx
      ·exact hok x hx
      ·exact hl x (List.mem_cons_of_mem _ hx)
     have ecut:pts.map ptD++cutD (ptD q :: r.map ptD) (some 1) none=(pts++r).map ptD:=by rw [cut1,List.map_append]
     refine opt_i (atI_nat (j:=0) rfl) ⟨sw,ps,a,q,rfl,hl q List.mem_cons_self,fun p hp=>?_⟩
     refine opt_i updM_same (opt_i hat (opt_i rfl (opt_i rfl ⟨?_,sw,ps,pts++r,?_,hr2,?_⟩)))
     ·have:(pts.map ptD).length+(cutD (ptD q :: r.map ptD) (some 1) none).length<=1000:=by
       rw [cut1,List.length_map,List.length_map]
       have:=hin.most
       simp at hlen
       omega
      exact Nat.le_of_lt (small1000 this)
     ·show [AV.D (prgD sw ps),AV.D (.tuple (pts.map ptD++cutD (ptD q :: r.map ptD) (some 1) none))]=_
      rw [ecut];rfl
     ·refine hW m _ _ (Nat.lt_succ_self _) ⟨a2,strip ps (pts++r),i2,st+1,_,_,_,rfl,hs.new (hs.none hp),by omega,hi2,strip_ok hr2,strip_strip _,?_,by rw [er,hgo]⟩
      have:=strip_len (ps:=ps) (pts++r)
      rw [List.length_append]at this
      simp at hlen
      omega
   | chance x y =>
    refine wNe n_chance_mark (seq_d (asg_c ?_))
    refine seq_i (fun τ μ2=>∃(ch a2 i2:Nat) (pts:List Pt),τ=[some (.D (prgD sw ps)),some (.D (chD cs)),some (.D (natD most)),some (.D (natD a)),some (.D (pileD (q :: r))),some (.D (natD i2)),some (.D (natD st)),some (.D (.str "chance")),some (.D (natD ch)),o3] /\
     μ2=μ'/\atI (goL ps a q) (ch:Int)=some (.D (.tuple [natD a2,.tuple (pts.map ptD)]))/\(∀x∈pts,PtOk ps x)/\pts.length<=2/\i2<=cs.length/\goR ps (m+1) a (q :: r) (cs.drop i) st=goR ps m a2 (strip ps (pts++r)) (cs.drop i2) (st+1)) (fun W' hW'=>?_) ?_
    ·refine opt_i rfl ⟨eqOk_str (wOk _),okAC,brT c_chance ⟨eqOk_int _,eqOk_int _,?_⟩⟩
     cases ec:cs.drop i with
     | nil =>
      have e0:i=cs.length:=by have:=List.drop_eq_nil_iff.mp ec;omega
      refine brT ?_ ⟨μ,hs,?_⟩
      ·rw [e0]
       show PyData.eqv (.int _) (.int ((cs.map natD).length:Nat))=true
       rw [eqv_int];simp
      ·rw [ec,goR,e]at h
       exact h
     | cons c cr =>
      obtain⟨hc,hcr⟩:=drop_cons ec
      have hlt:i < cs.length:=(List.getElem?_eq_some_iff.mp hc).1
      have hc1:=hin.cs c (List.mem_of_getElem? hc)
      have ich:atI (cs.map natD) (i:Int)=some (natD c):=atI_nat (by rw [List.getElem?_map,hc];rfl)
      refine brF ?_ (opt_i ich (hW' _ _ ⟨c,a,i+1,[(q.1,if c=0 then x else y)],rfl,rfl,?_,?_,(Nat.le_of_ble_eq_true rfl),hlt,?_⟩))
      ·show PyData.eqv (.int _) (.int ((cs.map natD).length:Nat))=false
       rw [eqv_int,List.length_map];exact decide_eq_false (by omega)
      ·unfold goL;rw [e]
       have:c=0\/c=1:=by omega
       rcases this with rfl | rfl <;> rfl
      ·refine all_cons ?_ (fun _ z=>nomatch z)
       split
       ·exact pt_to e1 hso.1
       ·exact pt_to e1 hso.2
      ·rw [ec,hcr,goR,e];rfl
    ·rintro τ μ2 ⟨ch,a2,i2,pts,rfl,rfl,hat,hok,hpl,hi2,hgo⟩
     have hr2:∀x∈pts++r,PtOk ps x:=fun x hx=>by
      rcases List.mem_append.mp hx with hx | hx
      ·exact hok x hx
      ·exact hl x (List.mem_cons_of_mem _ hx)
     have ecut:pts.map ptD++cutD (ptD q :: r.map ptD) (some 1) none=(pts++r).map ptD:=by rw [cut1,List.map_append]
     refine opt_i (atI_nat (j:=0) rfl) ⟨sw,ps,a,q,rfl,hl q List.mem_cons_self,fun p hp=>?_⟩
     refine opt_i updM_same (opt_i hat (opt_i rfl (opt_i rfl ⟨?_,sw,ps,pts++r,?_,hr2,?_⟩)))
     ·have:(pts.map ptD).length+(cutD (ptD q :: r.map ptD) (some 1) none).length<=1000:=by
       rw [cut1,List.length_map,List.length_map]
       have:=hin.most
       simp at hlen
       omega
      exact Nat.le_of_lt (small1000 this)
     ·show [AV.D (prgD sw ps),AV.D (.tuple (pts.map ptD++cutD (ptD q :: r.map ptD) (some 1) none))]=_
      rw [ecut];rfl
     ·refine hW m _ _ (Nat.lt_succ_self _) ⟨a2,strip ps (pts++r),i2,st+1,_,_,_,rfl,hs.new (hs.none hp),by omega,hi2,strip_ok hr2,strip_strip _,?_,by rw [er,hgo]⟩
      have:=strip_len (ps:=ps) (pts++r)
      rw [List.length_append]at this
      simp at hlen
      omega
end
section
variable {P:Program}{w:World}{K:PySem.W.Frag}{mg:Str->Option Value}{base:Heap}{f:Addr}{fd:FuncData}
def stD(ps:Prg)(q:Pt):PyData:=match stepAt ps q with
 | some s=>s.D
 | none=>.none
theorem pts_split:∀(k i:Nat) (ps:Prg),i<=ps.length->ptsF k ps=ptsF k (ps.take i)++ptsF (k+i) (ps.drop i)
 | k,0,ps,_=>rfl
 | k,i+1,[],h=>absurd h (by simp)
 | k,i+1,p :: ps,h=>by
  rw [List.take_succ_cons,List.drop_succ_cons,ptsF,ptsF,List.append_assoc,pts_split (k+1) i ps (by simpa using h),show k+1+i=k+(i+1) by omega]
theorem pts_at{ps:Prg}{i x:Nat}{p:List Stp}(h:ps[i]?=some p)(hx:x<=p.length):(pts ps)[(ptsF 0 (ps.take i)).length+x]?=some (i,x):=by
 have hi:=(List.getElem?_eq_some_iff.mp h).1
 unfold pts
 rw [pts_split 0 i ps (by omega),List.getElem?_append_right (by omega),Nat.add_sub_cancel_left,Nat.zero_add]
 have hd:ps.drop i=p :: ps.drop (i+1):=by
  rw [List.drop_eq_getElem_cons hi]
  rw [List.getElem?_eq_getElem hi]at h
  cases h;rfl
 rw [hd,ptsF,List.getElem?_append_left (by rw [List.length_map,List.length_range];omega),List.getElem?_map,List.getElem?_range (by omega)];rfl
theorem ix_in{ps:Prg}{i x:Nat}{p:List Stp}(h:ps[i]?=some p)(hx:x<=p.length):ix ps (i,x)=ix ps (i,0)+x:=by
 rw [ix_at (pts_at h hx),ix_at (pts_at h (Nat.zero_le _))];omega
def fsA(ps:Prg)(q:Pt):AV:=.D (.tuple [stD ps q,.int (ix ps (q.1,0):Nat)])
abbrev nSq:List Str:=["_law_program_here","_law_found","_law_steps_here","_law_first"]
theorem scSq:FnScope nSq ["_law_program_here"] (defScope sSq):=⟨rfl,rfl,rfl,by decide +kernel,rfl,by decide +kernel,by decide +kernel⟩
theorem ndSq1:(["_law_step","_law_first"]:List Str).Nodup:=by decide +kernel
def spSq:ASp:=fun xs μ R=>∃(sw:Nat) (ps:Prg),xs=[.D (prgD sw ps)]/\PgOk sw ps/\∀p μ',μ p=none->μ' p=some (.lst ((pts ps).map (fsA ps)))->Sub μ μ'->R (.R p) μ'
theorem ok_sq{n:Nat}(F:Fun K "_law_steps" "_law_steps" sSq f fd) (m_len:mg "len" = none):FnOk P w K mg base CX0 (n+1) f fd ["_law_program_here"] (cSp K 1 spSq):=by
 refine F.vok scSq fun cdv A outer s H E hr=>⟨_,(vss_cons (vs_set (i:=1) scSq.nd rfl (Or.inl rfl) (ve_lst va_nil))
   (vss_cons (vs_for PassesOwn.never rfl (vi_seq (ve_ix i_ix (vv 0) ve_int)) (vg_name (i:=2) scSq.nd rfl (Or.inl rfl)) (vss_cons (vs_set (i:=3) scSq.nd rfl (Or.inr rfl) (ve_callB c_len rfl m_len PySem.boot_len (va_cons (vv 1) va_nil)))
   (vss_one (vs_expr (ve_ml PySem.F.slot_list_extend PySem.F.type_list_extend m_extend (vv 1) (va_cons (ve_op o_add (ve_comp (N':=["_law_step","_law_first"]) (mp:=[none,some 3]) rfl (vi_seq (vv 2)) (fun _ _ _ _=>(vg_name (i:=0) ndSq1 rfl (Or.inl rfl) (Or.inr rfl))) (fun _ _ _ _=>vifs_nil) (fun _ _ _ _=>(ve_tup (va_cons (vv 0) (va_cons (vv 1) va_nil)))) (compOk_of (N:=nSq) (pn:=(defScope sSq).names) (by decide +kernel))) (ve_lst (va_cons (ve_tup (va_cons ve_non (va_cons (vv 3) va_nil))) va_nil))) va_nil))))))
   (vss_one (vs_ret (vv 1))))),?_⟩
 rintro xs μ R _ ⟨sw,ps,rfl,hO,q⟩
 intro p hp
 refine seq_i (fun τ μ'=>∃o2 o3,τ=[some (.D (prgD sw ps)),some (.R p),o2,o3]/\μ' p=some (.lst ((pts ps).map (fsA ps)))/\Sub μ μ') (fun Z hZ=>?_) ?_
 ·have ei:∀ μ':M,items μ' (.D (.tuple (ps.map prcD)))=some (ps.map prcA):=fun μ'=>by
   show some ((ps.map prcD).map AV.D)=_
   rw [List.map_map];rfl
  refine opt_i (atI_nat (j:=1) rfl) (opt_i (ei _) ?_)
  refine for_i (fun i τ μ'=>∃o2 o3,τ=[some (.D (prgD sw ps)),some (.R p),o2,o3]/\μ' p=some (.lst ((ptsF 0 (ps.take i)).map (fsA ps)))/\Sub μ μ') ⟨none,none,rfl,updM_same,Sub.refl.new hp⟩ (fun _ _ _ _=>ei _) ?_ ?_
  ·rintro i y τ μ1 Z2 hy ⟨o2,o3,rfl,e1,S1⟩ hZ2
   rw [List.getElem?_map]at hy
   obtain⟨pr,hpr,rfl⟩:=Option.map_eq_some_iff.mp hy
   have hi:i < ps.length:=(List.getElem?_eq_some_iff.mp hpr).1
   have htk:ps.take (i+1)=ps.take i++[pr]:=by rw [List.take_succ,hpr];rfl
   have hl4:=(hO.l pr (List.mem_of_getElem? hpr)).2
   have hmin:(ps.take i).length=i:=by rw [List.length_take];omega
   have hb:=pts_len 0 (ps.take i) fun p hp=>(hO.l p (List.mem_of_mem_take hp)).2
   rw [hmin]at hb
   have hn3:=hO.n3
   have hfx:ix ps (i,0)=(ptsF 0 (ps.take i)).length:=ix_at (pts_at hpr (Nat.zero_le _))
   refine seq_i (fun τ μ'=>τ=[some (.D (prgD sw ps)),some (.R p),some (.D (prcD pr)),some (.D (.int (ix ps (i,0):Nat)))]/\μ1=μ') (fun Z3 hZ3=>opt_i e1 (hZ3 _ _ ⟨by rw [hfx,List.length_map];rfl,rfl⟩)) ?_
   rintro τ _ ⟨rfl,rfl⟩
   have es:∀ μ':M,items μ' (.D (prcD pr))=some (pr.map stpA):=fun μ'=>by
    show some ((pr.map Stp.D).map AV.D)=_
    rw [List.map_map];rfl
   refine⟨opt_i e1 trivial,opt_i (es _) fun pc hpc=>?_⟩
   have hpp:p≠pc:=by rintro rfl;rw [e1]at hpc;cases hpc
   refine comp_i (fun j acc τ' μ'=>∃oa,τ'=[oa,some (.D (.int (ix ps (i,0):Nat)))]/\acc=((List.range j).map fun j=>((i,j):Pt)).map (fsA ps)/\μ' pc=some (.lst acc)/\μ' p=some (.lst ((ptsF 0 (ps.take i)).map (fsA ps)))/\Sub μ μ') ⟨none,rfl,rfl,updM_same,by rw [updM_ne hpp];exact e1,S1.new (S1.none hpc)⟩ (fun _ _ _ _ _=>es _) ?_ ?_
   ·rintro j y acc τ' μ2 Z3 hy ⟨oa,rfl,rfl,e2,f2,S2⟩ hZ3
    rw [List.getElem?_map]at hy
    obtain⟨st,hst,rfl⟩:=Option.map_eq_some_iff.mp hy
    have hj:j < pr.length:=(List.getElem?_eq_some_iff.mp hst).1
    have e:stepAt ps (i,j)=some st:=by unfold stepAt;rw [hpr];exact hst
    refine brT rfl ⟨e2,small1000 (by simp only [List.length_map,List.length_range];omega),hZ3 _ _ _ ⟨_,rfl,?_,updM_same,by rw [updM_ne hpp];exact f2,S2.new (S1.none hpc)⟩⟩
    rw [List.range_succ,List.map_append,List.map_append]
    have:fsA ps (i,j)=.D (.tuple [st.D,.int (ix ps (i,0):Nat)]):=by unfold fsA stD;rw [e]
    simp only [List.map_cons,List.map_nil,this]
   ·rintro acc τ' μ2 ⟨oa,rfl,rfl,e2,f2,S2⟩
    rw [List.length_map]at e2
    refine fun pd hpd=>?_
    have h1:pc≠pd:=by rintro rfl;rw [e2]at hpd;cases hpd
    have h2:p≠pd:=by rintro rfl;rw [f2]at hpd;cases hpd
    have g1:∀o:MO,updM μ2 pd o pc=some (.lst (((List.range pr.length).map fun j=>((i,j):Pt)).map (fsA ps))):=fun o=>by rw [updM_ne h1];exact e2
    refine opt_i (g1 _) (opt_i updM_same ⟨seven (by simp only [List.length_map,List.length_range,List.length_singleton];omega),fun pe hpe=>?_⟩)
    have h3:p≠pe:=by rintro rfl;rw [updM_ne h2,f2]at hpe;cases hpe
    have g2:∀o o':MO,updM (updM μ2 pd o) pe o' p=some (.lst ((ptsF 0 (ps.take i)).map (fsA ps))):=fun o o'=>by rw [updM_ne h3,updM_ne h2];exact f2
    refine opt_i (g2 _ _) (opt_i updM_same ⟨seven (by simp only [List.length_map,List.length_append,List.length_range,List.length_singleton];omega),hZ2 _ _ ⟨_,_,rfl,?_,?_⟩⟩)
    ·have en:stepAt ps (i,pr.length)=none:=by unfold stepAt;rw [hpr];exact List.getElem?_eq_none_iff.mpr (Nat.le_refl _)
     have:fsA ps (i,pr.length)=.D (.tuple [.none,.int (ix ps (i,0):Nat)]):=by unfold fsA stD;rw [en]
     rw [updM_same,htk,pts_snoc,hmin,Nat.zero_add,List.range_succ]
     simp only [List.map_append,List.map_cons,List.map_nil,this]
    ·exact((S2.new (S2.none hpd)).new ((S2.new (S2.none hpd)).none hpe)).new hp
  ·rintro τ μ1 ⟨o2,o3,rfl,e1,S1⟩
   rw [List.length_map,List.take_length]at e1
   exact hZ _ _ ⟨_,_,rfl,e1,S1⟩
 rintro τ μ1 ⟨o2,o3,rfl,e1,S1⟩
 exact⟨_,Sub.refl,q p _ hp e1 S1⟩
def mkW(sw:Nat)(ps:Prg):List Arw:=(List.range (sw+1)).flatMap fun a=>(mks ps).map fun N=>⟨2 * a,N,[],none⟩
theorem mkW_D(sw:Nat)(ps:Prg):sayL sw ps=(mkW sw ps).map arwD:=by
 unfold sayL mkW
 rw [List.map_flatMap]
 congr 1
 funext a
 rw [List.map_map];rfl
theorem mk_rd{sw:Nat}{ps:Prg}{p N:Nat}{w:List Nat}:rd (mkW sw ps) [] (N :: w) p=true↔(∃a,a<=sw/\p=2 * a)/\N∈mks ps:=by
 show((mkW sw ps).any fun a=>decide (a.p=p/\a.x=N) && a.ts.all fun t=>rd (mkW sw ps) [] w t)=true↔_
 rw [List.any_eq_true]
 constructor
 ·rintro⟨x,hx,h⟩
  obtain⟨a,ha,hx⟩:=List.mem_flatMap.mp hx
  obtain⟨k,hk,rfl⟩:=List.mem_map.mp hx
  have h1:=of_decide_eq_true (Bool.and_eq_true_iff.mp h).1
  have ha:=List.mem_range.mp ha
  exact⟨⟨a,by omega,h1.1.symm⟩,by rw [<- h1.2];exact hk⟩
 ·rintro⟨⟨a,ha,rfl⟩,hN⟩
  refine⟨⟨2 * a,N,[],none⟩,List.mem_flatMap.mpr ⟨a,List.mem_range.mpr (by omega),List.mem_map.mpr ⟨N,hN,rfl⟩⟩,?_⟩
  rw [decide_eq_true ⟨rfl,rfl⟩];rfl
abbrev nIi:List Str:=["saying","place","pile"]
theorem scIi:FnScope nIi ["saying","place","pile"] (defScope sIi):=⟨rfl,rfl,rfl,by decide +kernel,rfl,by decide +kernel,by decide +kernel⟩
def spIi:ASp:=fun xs μ R=>∃(sw:Nat) (ps:Prg) (p:Nat) (W:List Nat),xs=[.D (sayD sw ps),.D (.int p),.D (natsD W)]/\PgOk sw ps/\∀ μ',Sub μ μ'->R (.D (.bool (rd (mkW sw ps) [] W p))) μ'
theorem ok_ii{n:Nat}(F:Fun K "is_in" "is_in" sIi f fd) (cRe:VCal P w K mg base n "reads" ["arrows","ends","stand","pile"] spRe):FnOk P w K mg base CX0 (n+1) f fd ["saying","place","pile"] (cSp K 3 spIi):=by
 refine F.vok scIi fun cdv A outer s H E hr=>⟨_,(vss_one (vs_ret (ve_call cRe hr rfl (va_cons (ve_ix i_ix (vv 0) ve_int) (va_cons (ve_ix i_ix (vv 0) ve_int) (va_cons (vv 1) (va_cons (vv 2) va_nil))))))),?_⟩
 rintro xs μ R _ ⟨sw,ps,p,W,rfl,hO,q⟩
 have hl:=say_len hO (sw+1) (by have:=hO.sw;omega)
 have hl2:(mkW sw ps).length<=30:=by
  have:(sayL sw ps).length<=30:=hl
  rw [mkW_D,List.length_map]at this;exact this
 refine opt_i (atI_nat (j:=1) rfl) (opt_i (atI_nat (j:=2) rfl) ⟨mkW sw ps,[],p,W,?_,by omega,fun a ha=>?_,Nat.zero_le _,fun μ1 S1=>⟨_,Sub.refl,q _ S1⟩⟩)
 ·rw [mkW_D];rfl
 ·obtain⟨b,_,ha⟩:=List.mem_flatMap.mp ha
  obtain⟨k,_,rfl⟩:=List.mem_map.mp ha
  exact Nat.zero_le _
end
section
variable {P:Program}{w:World}{K:PySem.W.Frag}{mg:Str->Option Value}{base:Heap}{f:Addr}{fd:FuncData}
theorem eqv_two(a b c d:Int):PyData.eqv (.tuple [.int a,.int b]) (.tuple [.int c,.int d])=(decide (a=c) && decide (b=d)):=by
 rw [eqv_dec rfl rfl,Bool.eq_iff_iff,Bool.and_eq_true_iff,decide_eq_true_iff,decide_eq_true_iff,decide_eq_true_iff]
 simp only [PyData.tuple.injEq,List.cons.injEq,PyData.int.injEq,and_true]
theorem nats_inj{a b:List Nat}(h:natsD a=natsD b):a=b:=by
 unfold natsD at h
 rw [PyData.tuple.injEq]at h
 induction a generalizing b with
 | nil=>cases b with
  | nil=>rfl
  | cons y b=>cases h
 | cons x a ih=>cases b with
  | nil=>cases h
  | cons y b =>
   simp only [List.map_cons,List.cons.injEq,PyData.int.injEq]at h
   rw [ih h.2,show x=y by omega]
theorem eqv_nats(a b:List Nat):PyData.eqv (natsD a) (natsD b)=decide (a=b):=by
 rw [eqv_dec (show Cano (natsD a)=true by simp only [natsD,Cano];exact nats_cano a) (show Cano (natsD b)=true by simp only [natsD,Cano];exact nats_cano b),Bool.eq_iff_iff,decide_eq_true_iff,decide_eq_true_iff]
 exact⟨nats_inj,fun h=>by rw [h]⟩
theorem filt_one{α:Type}{A:List α}{g:α->Bool}{r:α}(hn:A.Nodup)(hr:r∈A)(hf:g r=true)(hu:∀x∈A,g x=true->x=r):A.filter g=[r]:=by
 induction A with
 | nil=>cases hr
 | cons a A ih =>
  obtain⟨h1,h2⟩:=List.nodup_cons.mp hn
  cases c:g a with
  | true =>
   have e:=hu a (.head _) c
   subst e
   rw [List.filter_cons_of_pos c]
   congr 1
   rw [List.filter_eq_nil_iff]
   intro x hx hg
   have:=hu x (.tail _ hx) hg
   subst this
   exact h1 hx
  | false =>
   rw [List.filter_cons_of_neg (by rw [c];exact Bool.false_ne_true)]
   refine ih h2 ?_ fun x hx=>hu x (.tail _ hx)
   rcases List.mem_cons.mp hr with rfl | h
   ·rw [c]at hf;cases hf
   ·exact h
def fb(p N:Nat)(r:Rul):Bool:=decide (r.p=p) && decide (r.n=N)
theorem eqOk_two(a b:Int):EqOk (.tuple [.int a,.int b]):=⟨rfl,by simp [PyData.depth,PyData.depthAll]⟩
theorem rul_items{μ:M}(A:List Rul):items μ (.D (.tuple (A.map rulD)))=some (A.map rulA):=by
 show some ((A.map rulD).map AV.D)=_
 rw [List.map_map];rfl
abbrev nLr:List Str:=["_law_game","_law_steps_here","_law_place","_law_pile","_law_choice","_law_here","_law_step","_law_first"]
theorem scLr:FnScope nLr ["_law_game","_law_steps_here","_law_place","_law_pile","_law_choice"] (defScope sLr):=⟨rfl,rfl,rfl,by decide +kernel,rfl,by decide +kernel,by decide +kernel⟩
theorem ndLr1:(["_law_rule_here","_law_place","_law_pile"]:List Str).Nodup:=by decide +kernel
theorem ndLr2:(["_law_rule_here","_law_first","_law_step","_law_choice"]:List Str).Nodup:=by decide +kernel
structure LrIn(ps:Prg)(A:List Rul)(p N:Nat)(q:Pt)(r0:Rul)(ch:AV):Prop where
 l:A.length<=200
 n:A.Nodup
 m:r0∈A
 hp:r0.p=p
 hk:r0.n=N
 hq:(pts ps)[N]?=some q
 hc:(ch=.D .none/\∀r∈A,r.p=p->r.n=N->r=r0)\/∃(c x y:Nat) (st:Stp),ch=.D (.int c)/\c<=1/\stepAt ps q=some st/\(st=.ask x y\/st=.chance x y)/\r0.w=[ix ps (q.1,0)+(if c=0 then x else y)]/\∀r∈A,r.p=p->r.n=N->r.w=r0.w->r=r0
def spLr:ASp:=fun xs μ R=>∃(sw:Nat) (ps:Prg) (A:List Rul) (pst:Addr) (p N:Nat) (W:List Nat) (q:Pt) (r0:Rul) (ch:AV),xs=[.D (gmD sw ps (A.map rulD)),.R pst,.D (.int p),.D (natsD (N :: W)),ch]/\μ pst=some (.lst ((pts ps).map (fsA ps)))/\LrIn ps A p N q r0 ch/\∀ μ',Sub μ μ'->R (rulA r0) μ'
theorem ok_lr{n:Nat}(F:Fun K "_law_rule" "_law_rule" sLr f fd) (m_len:mg "len" = none):FnOk P w K mg base CX0 (n+1) f fd ["_law_game","_law_steps_here","_law_place","_law_pile","_law_choice"] (cSp K 5 spLr):=by
 refine F.vok scLr fun cdv A' outer s H E hr=>⟨_,(vss_cons (vs_setC (i:=5) (N':=["_law_rule_here","_law_place","_law_pile"]) (mp:=[none,some 2,some 3]) rfl scLr.nd rfl rfl (vi_seq (ve_ix i_ix (vv 0) ve_int)) (fun _ _ _ _=>(vg_name (i:=0) ndLr1 rfl (Or.inl rfl) (Or.inr rfl))) (fun _ _ _ _=>(vifs_one (vt_cmp (o_eq hr) (ve_slice (vv 0) vo_none (vo_some ve_int)) (ve_tup (va_cons (vv 1) (va_cons (ve_ix i_ix (vv 2) ve_int) va_nil))) (nomark _)))) (fun _ _ _ _=>(vv 0)) (compOk_of (N:=nLr) (pn:=(defScope sLr).names) (by decide +kernel)))
   (vss_cons (vs_asg (ve_ix i_ix (vv 1) (ve_ix i_ix (vv 3) ve_int)) (vg_tup (n:=2) rfl (vgs_cons (vg_name (i:=6) scLr.nd rfl (Or.inr rfl)) (vgs_cons (vg_name (i:=7) scLr.nd rfl (Or.inr rfl)) vgs_nil))))
   (vss_cons (vs_if (vt_cmp o_notN (vv 4) ve_non (nomark _)) (vss_one (vs_setC (i:=5) (N':=["_law_rule_here","_law_first","_law_step","_law_choice"]) (mp:=[none,some 7,some 6,some 4]) rfl scLr.nd rfl rfl (vi_seq (vv 5)) (fun _ _ _ _=>(vg_name (i:=0) ndLr2 rfl (Or.inl rfl) (Or.inr rfl))) (fun _ _ _ _=>(vifs_one (vt_cmp (o_eq hr) (ve_ix i_ix (vv 0) ve_int) (ve_tup (va_cons (ve_op o_add (vv 1) (ve_ix i_ix (vv 2) (ve_op o_add ve_int (vv 3)))) va_nil)) (nomark _)))) (fun _ _ _ _=>(vv 0)) (compOk_of (N:=nLr) (pn:=(defScope sLr).names) (by decide +kernel)))) vss_nil)
   (vss_cons (vs_if (vt_cmp (o_ne hr) (ve_callB c_len rfl m_len PySem.boot_len (va_cons (vv 5) va_nil)) ve_int (nomark _)) (vss_one (vs_ret ve_non)) vss_nil)
   (vss_one (vs_ret (ve_ix i_ix (vv 5) ve_int))))))),?_⟩
 rintro xs μ R _ ⟨sw,ps,A,pst,p,N,W,q,r0,ch,rfl,hp,I,h⟩
 have hAl:=I.l
 refine seq_i (fun τ μ'=>∃ph,τ=[some (.D (gmD sw ps (A.map rulD))),some (.R pst),some (.D (.int p)),some (.D (natsD (N :: W))),some ch,some (.R ph),none,none]/\μ' ph=some (.lst ((A.filter (fb p N)).map rulA))/\μ' pst=some (.lst ((pts ps).map (fsA ps)))/\Sub μ μ') (fun Z hZ=>?_) ?_
 ·refine opt_i (atI_nat (j:=2) rfl) (opt_i (rul_items A) fun pc hpc=>?_)
  have nc:pst≠pc:=by rintro rfl;rw [hp]at hpc;cases hpc
  refine cmapf A rulA (fb p N) rulA (fun τ=>∃o,τ=[o,some (.D (.int p)),some (.D (natsD (N :: W)))]) ⟨none,rfl⟩ updM_same (seven (by omega)) (fun _=>rul_items A) ?_ ?_
  ·rintro j r τ' acc V V2 hj ⟨o,rfl⟩ h1 h2
   refine opt_i (atI_nat (j:=0) rfl) ⟨eqOk_two r.p r.n,eqOk_two p N,?_⟩
   have e:PyData.eqv (.tuple [.int r.p,.int r.n]) (.tuple [.int p,.int N])=fb p N r:=by
    rw [eqv_two]
    unfold fb
    rw [Bool.eq_iff_iff]
    simp only [Bool.and_eq_true_iff,decide_eq_true_iff]
    omega
   show brP (PyData.eqv (.tuple [.int r.p,.int r.n]) (.tuple [.int p,.int N])) _ _
   rw [e]
   cases c:fb p N r with
   | true=>exact brT rfl (h1 c _ ⟨_,rfl⟩)
   | false=>exact brF rfl (h2 c _ ⟨_,rfl⟩)
  ·exact hZ _ _ ⟨pc,rfl,updM_same,by rw [updM_ne nc,updM_ne nc];exact hp,(Sub.refl.new hpc).new hpc⟩
 rintro τ μ1 ⟨ph,rfl,e1,f1,S1⟩
 have i1:atI ((pts ps).map (fsA ps)) (N:Int)=some (fsA ps q):=atI_nat (by rw [List.getElem?_map,I.hq];rfl)
 have hm0:fb p N r0=true:=by unfold fb;rw [decide_eq_true I.hp,decide_eq_true I.hk];rfl
 refine seq_d (opt_i (atI_nat (j:=0) rfl) (opt_i f1 (opt_i i1 ⟨rfl,unp2 ?_⟩)))
 dsimp only [List.set]
 refine seq_i (fun τ μ'=>∃ph o6 o7,τ=[some (.D (gmD sw ps (A.map rulD))),some (.R pst),some (.D (.int p)),some (.D (natsD (N :: W))),some ch,some (.R ph),o6,o7]/\μ' ph=some (.lst [rulA r0])/\Sub μ μ') (fun Z hZ=>?_) ?_
 ·rcases I.hc with⟨rfl,hu⟩ | ⟨c,x,y,st,rfl,hc,est,hst,hw,hu⟩
  ·refine brF rfl (hZ _ _ ⟨ph,_,_,rfl,?_,S1⟩)
   rw [e1,filt_one I.n I.m hm0 fun r hr hg=>hu r hr (of_decide_eq_true (Bool.and_eq_true_iff.mp hg).1) (of_decide_eq_true (Bool.and_eq_true_iff.mp hg).2)];rfl
  ·refine brT rfl (opt_i (items_R e1) fun pc hpc=>?_)
   have nc:ph≠pc:=by rintro rfl;rw [e1]at hpc;cases hpc
   have hsd:stD ps q=.tuple [.str st.word,.int x,.int y]:=by
    unfold stD;rw [est]
    rcases hst with rfl | rfl <;> rfl
   rw [hsd]
   have hfl:=List.length_filter_le (fb p N) A
   refine cmapf (A.filter (fb p N)) rulA (fun r=>decide (r.w=r0.w)) rulA (fun τ=>∃o,τ=[o,some (.D (.int (ix ps (q.1,0):Nat))),some (.D (.tuple [.str st.word,.int x,.int y])),some (.D (.int c))]) ⟨none,rfl⟩ updM_same (seven (by omega)) (fun _=>items_R (by rw [updM_ne nc,updM_ne nc];exact e1)) ?_ ?_
   ·rintro j r τ' acc V V2 hj ⟨o,rfl⟩ h1 h2
    have it:atI [PyData.str st.word,.int x,.int y] (1+(c:Int))=some (.int ((if c=0 then x else y:Nat):Int)):=by
     rcases(show c=0\/c=1 by omega) with rfl | rfl <;> rfl
    refine opt_i (atI_nat (j:=3) rfl) (opt_i it ⟨nats_eqOk,nats_eqOk (ns:=[ix ps (q.1,0)+(if c=0 then x else y)]),?_⟩)
    show brP (PyData.eqv (natsD r.w) (natsD [ix ps (q.1,0)+(if c=0 then x else y)])) _ _
    rw [eqv_nats,<- hw]
    by_cases d:r.w=r0.w
    ·rw [decide_eq_true d];exact brT rfl (h1 (decide_eq_true d) _ ⟨_,rfl⟩)
    ·rw [decide_eq_false d];exact brF rfl (h2 (decide_eq_false d) _ ⟨_,rfl⟩)
   ·refine hZ _ _ ⟨pc,_,_,rfl,?_,(S1.new (S1.none hpc)).new (S1.none hpc)⟩
    rw [updM_same,filt_one (I.n.sublist List.filter_sublist) (List.mem_filter.mpr ⟨I.m,hm0⟩) (decide_eq_true rfl) fun r hr hg=>?_]
    ·rfl
    ·obtain⟨hr,hg2⟩:=List.mem_filter.mp hr
     exact hu r hr (of_decide_eq_true (Bool.and_eq_true_iff.mp hg2).1) (of_decide_eq_true (Bool.and_eq_true_iff.mp hg2).2) (of_decide_eq_true hg)
 rintro τ μ2 ⟨ph2,o6,o7,rfl,e2,S2⟩
 refine seq_d (opt_i e2 ⟨eqOk_int _,eqOk_int _,brF rfl ?_⟩)
 exact opt_i e2 (opt_i (atI_nat (j:=0) rfl) ⟨_,Sub.refl,h _ S2⟩)
end
section
variable {P:Program}{w:World}{K:PySem.W.Frag}{mg:Str->Option Value}{base:Heap}{f:Addr}{fd:FuncData}
theorem all_mem{sw:Nat}{ps:Prg}{r:Rul}:r∈allR sw ps↔∃a,a<=sw/\∃q∈pts ps,r=crs ps a q\/∃x∈goP ps a q,r=own1 ps a q x:=by
 unfold allR rulP rul1 owns
 constructor
 ·intro h
  obtain⟨a,ha,h⟩:=List.mem_flatMap.mp h
  obtain⟨q,hq,h⟩:=List.mem_flatMap.mp h
  have ha:=List.mem_range.mp ha
  refine⟨a,by omega,q,hq,?_⟩
  rcases List.mem_cons.mp h with h | h
  ·exact .inl h
  ·obtain⟨x,hx,rfl⟩:=List.mem_map.mp h
   exact .inr ⟨x,hx,rfl⟩
 ·rintro⟨a,ha,q,hq,h⟩
  refine List.mem_flatMap.mpr ⟨a,List.mem_range.mpr (by omega),List.mem_flatMap.mpr ⟨q,hq,?_⟩⟩
  rcases h with rfl | ⟨x,hx,rfl⟩
  ·exact .head _
  ·exact .tail _ (List.mem_map.mpr ⟨x,hx,rfl⟩)
theorem ix_inj{ps:Prg}{q q':Pt}(h:q∈pts ps)(h':q'∈pts ps)(e:ix ps q=ix ps q'):q=q':=by
 have:=ix_get h
 rw [e,ix_get h']at this
 cases this;rfl
theorem rl_cross{sw:Nat}{ps:Prg}{a h:Nat}{q:Pt}(ha:a<=sw)(hh:h<=1)(hq:q∈pts ps)(hne:h≠hnd ps q):crs ps a q∈allR sw ps/\(crs ps a q).p=2 * a+h/\∀r∈allR sw ps,r.p=2 * a+h->r.n=ix ps q->r=crs ps a q:=by
 have hl:=hnd_le ps q
 refine⟨all_mem.mpr ⟨a,ha,q,hq,.inl rfl⟩,by show 2 * a+(1 - hnd ps q)=_;omega,fun r hr h1 h2=>?_⟩
 obtain⟨a',ha',q',hq',hr⟩:=all_mem.mp hr
 have hl':=hnd_le ps q'
 rcases hr with rfl | ⟨x,hx,rfl⟩
 ·have e:=ix_inj hq' hq h2
  subst e
  have h1:2 * a'+(1 - hnd ps q')=2 * a+h:=h1
  rw [show a'=a by omega]
 ·have e:=ix_inj hq' hq h2
  subst e
  have h1:2 * a'+hnd ps q'=2 * a+h:=h1
  exact absurd (show h=hnd ps q' by omega) hne
theorem rl_own{sw:Nat}{ps:Prg}{a:Nat}{q:Pt}(ha:a<=sw)(hq:q∈pts ps):(∀x∈goP ps a q,own1 ps a q x∈allR sw ps)/\∀r∈allR sw ps,r.p=2 * a+hnd ps q->r.n=ix ps q->∃x∈goP ps a q,r=own1 ps a q x:=by
 have hl:=hnd_le ps q
 refine⟨fun x hx=>all_mem.mpr ⟨a,ha,q,hq,.inr ⟨x,hx,rfl⟩⟩,fun r hr h1 h2=>?_⟩
 obtain⟨a',ha',q',hq',hr⟩:=all_mem.mp hr
 have hl':=hnd_le ps q'
 rcases hr with rfl | ⟨x,hx,rfl⟩
 ·have e:=ix_inj hq' hq h2
  subst e
  have h1:2 * a'+(1 - hnd ps q')=2 * a+hnd ps q':=h1
  omega
 ·have e:=ix_inj hq' hq h2
  subst e
  have h1:2 * a'+hnd ps q'=2 * a+hnd ps q':=h1
  have:a'=a:=by omega
  subst this
  exact⟨x,hx,rfl⟩
def off(ps:Prg)(h:Nat):List Pt->Nat
 | []=>0
 | q :: _=>if h=hnd ps q then 0 else 1
theorem off_le(ps:Prg)(h:Nat)(l:List Pt):off ps h l<=1:=by
 cases l with
 | nil=>exact Nat.zero_le _
 | cons q l =>
  show(if h=hnd ps q then 0 else 1)<=1
  split <;> decide
structure PlI(sw:Nat)(ps:Prg)(cs:List Nat)(most:Nat)(res:Str×Nat)(i a h:Nat)(pile:List Pt)(u d:Nat):Prop where
 pa:a<=sw
 ph:h<=1
 ok:∀q∈pile,PtOk ps q
 pu:u<=cs.length
 pd:d<=most
 re:res=goR ps (most - d) a (strip ps pile) (cs.drop u) d
 pot:6 * (most - d)+2 * pile.length+off ps h pile+i<=6 * most+3
theorem strip_some{ps:Prg}{q:Pt}{r:List Pt}{st:Stp}(e:stepAt ps q=some st):strip ps (q :: r)=q :: r:=by rw [strip,e]
theorem strip_none{ps:Prg}{q:Pt}{r:List Pt}(e:stepAt ps q=none):strip ps (q :: r)=strip ps r:=by rw [strip,e]
section
variable {sw:Nat}{ps:Prg}{cs:List Nat}{most:Nat}{res:Str×Nat}{i a h u d:Nat}{q:Pt}{r:List Pt}
theorem PlI.cross(I:PlI sw ps cs most res i a h (q :: r) u d)(hne:h≠hnd ps q):PlI sw ps cs most res (i+1) a (hnd ps q) (q :: r) u d:=by
 refine⟨I.pa,hnd_le ps q,I.ok,I.pu,I.pd,I.re,?_⟩
 have h1:6 * (most - d)+2 * (q :: r).length+(if h=hnd ps q then 0 else 1)+i<=6 * most+3:=I.pot
 show 6 * (most - d)+2 * (q :: r).length+(if hnd ps q=hnd ps q then 0 else 1)+(i+1)<=6 * most+3
 rw [if_neg hne]at h1
 rw [if_pos rfl]
 omega
theorem PlI.ends(I:PlI sw ps cs most res i a h (q :: r) u d)(e:stepAt ps q=none):PlI sw ps cs most res (i+1) a 0 r u d:=by
 refine⟨I.pa,Nat.zero_le _,fun x hx=>I.ok x (.tail _ hx),I.pu,I.pd,by rw [I.re,strip_none e],?_⟩
 have h1:=I.pot
 have h2:=off_le ps 0 r
 rw [List.length_cons]at h1
 omega
theorem PlI.step{a' h' u':Nat}{l:List Pt}(I:PlI sw ps cs most res i a h (q :: r) u d)(hd:d < most)(h1:a'<=sw)(h2:h'<=1)(h3:∀x∈l,PtOk ps x)(h4:u'<=cs.length)(hl:l.length<=r.length+2)(hr:goR ps (most - d) a (strip ps (q :: r)) (cs.drop u) d=goR ps (most - (d+1)) a' (strip ps l) (cs.drop u') (d+1)):PlI sw ps cs most res (i+1) a' h' l u' (d+1):=by
 refine⟨h1,h2,h3,h4,hd,I.re.trans hr,?_⟩
 have h1:=I.pot
 have h2:=off_le ps h' l
 rw [List.length_cons]at h1
 omega
theorem goR_succ(hd:d < most):most - d=(most - (d+1))+1:=by omega
theorem PlI.marked(I:PlI sw ps cs most res i a h (q :: r) u d)(hd:d < most)(e:stepAt ps q=some .mark):res=(("marked" : Str),d+1):=by
 rw [I.re,strip_some e,goR_succ hd,goR,e]
theorem PlI.over(I:PlI sw ps cs most res i a h [] u d):res=(("over" : Str),d):=by
 rw [I.re]
 show goR ps (most - d) a [] _ d=_
 cases most - d <;> rfl
theorem PlI.more{st:Stp}(I:PlI sw ps cs most res i a h (q :: r) u d)(hd:d=most)(e:stepAt ps q=some st):res=(("more" : Str),d):=by
 rw [I.re,strip_some e,show most - d=0 by omega];rfl
theorem PlI.lacks{x y:Nat}{st:Stp}(I:PlI sw ps cs most res i a h (q :: r) u d)(hd:d < most)(hu:u=cs.length)(e:stepAt ps q=some st)(hs:st=.ask x y\/st=.chance x y):res=(("lacks" : Str),d):=by
 have hc:cs.drop u=[]:=by rw [hu];exact List.drop_length
 rcases hs with rfl | rfl <;> rw [I.re,strip_some e,goR_succ hd,goR,e,hc]
theorem PlI.end_(I:PlI sw ps cs most res (6 * most+20) a h r u d):False:=by
 have:=I.pot
 omega
end
end
section
variable {P:Program}{w:World}{K:PySem.W.Frag}{mg:Str->Option Value}{base:Heap}{f:Addr}{fd:FuncData}
theorem rulD_inj{a b:Rul}(h:rulD a=rulD b):a=b:=by
 obtain⟨p,n,g,w⟩:=a
 obtain⟨p',n',g',w'⟩:=b
 unfold rulD at h
 rw [PyData.tuple.injEq]at h
 simp only [List.cons.injEq,PyData.int.injEq,and_true]at h
 obtain⟨h1,h2,h3,h4⟩:=h
 rw [show p=p' by omega,show n=n' by omega,show g=g' by omega,nats_inj h4]
theorem rul_back{sw:Nat}{ps:Prg}{es:List PyData}(hn:es.Nodup)(hm:∀d,d∈es↔d∈(allR sw ps).map rulD):∃A:List Rul,es=A.map rulD/\A.Nodup/\∀r,r∈A↔r∈allR sw ps:=by
 obtain⟨A,rfl,_⟩:=unmap (g:=rulD) (B:=allR sw ps) fun e he=>(hm e).mp he
 refine⟨A,rfl,?_,fun r=>?_⟩
 ·exact(List.pairwise_map.mp hn).imp fun h e=>h (by rw [e])
 ·constructor
  ·intro h
   obtain⟨b,hb,e⟩:=List.mem_map.mp ((hm _).mp (List.mem_map.mpr ⟨r,h,rfl⟩))
   rw [<- rulD_inj e];exact hb
  ·intro h
   obtain⟨b,hb,e⟩:=List.mem_map.mp ((hm _).mpr (List.mem_map.mpr ⟨r,h,rfl⟩))
   rw [<- rulD_inj e];exact hb
theorem cutD_take{α:Type}(g:α->PyData)(xs:List α)(n:Nat):cutD (xs.map g) none (some (n:Int))=(xs.take n).map g:=by
 unfold cutD
 rw [HT.sIx_none,HT.sIx_nat,List.drop_zero,Nat.sub_zero,<- List.map_take,List.length_map]
 by_cases h:n<=xs.length
 ·rw [Nat.min_eq_left h]
 ·rw [Nat.min_eq_right (by omega),List.take_length,List.take_of_length_le (by omega)]
theorem mks_st{ps:Prg}{q:Pt}(hq:q∈pts ps)(h:ix ps q∈mks ps):stepAt ps q=some .mark:=by
 have h1:=(List.mem_filter.mp h).2
 unfold isM at h1
 rw [ix_get hq]at h1
 dsimp only at h1
 cases e:stepAt ps q with
 | none=>rw [e]at h1;cases h1
 | some st =>
  rw [e]at h1
  cases st with
  | mark=>rfl
  | _=>cases h1
theorem st_mks{ps:Prg}{q:Pt}(hq:q∈pts ps)(e:stepAt ps q=some .mark):ix ps q∈mks ps:=by
 refine List.mem_filter.mpr ⟨List.mem_range.mpr (List.idxOf_lt_length_iff.mpr hq),?_⟩
 unfold isM
 rw [ix_get hq]
 dsimp only
 rw [e]
abbrev nPl:List Str:=["_law_program_here","_law_choices","_law_most","_law_game","_law_saying","_law_steps_here","_law_place","_law_pile","_law_used","_law_done","_law_turn","_law_step","_law_first","_law_is_own","_law_choice","_law_rule_here"]
theorem scPl:FnScope nPl ["_law_program_here","_law_choices","_law_most"] (defScope sPl):=⟨rfl,rfl,rfl,by decide +kernel,rfl,by decide +kernel,by decide +kernel⟩
def spPl:ASp:=fun xs μ R=>∃(sw:Nat) (ps:Prg) (cs:List Nat) (most:Nat),xs=[.D (prgD sw ps),.D (chD cs),.D (natD most)]/\PgOk sw ps/\(∀p∈ps,∀s∈p,SwOk sw s)/\(∀c∈cs,c<=1)/\most<=60/\∀ μ',Sub μ μ'->R (.D (runD ps cs most)) μ'
theorem ok_pl{n:Nat}(F:Fun K "_law_play" "_law_play" sPl f fd) (cGf:VCal P w K mg base n "game_of" ["program"] spGf) (cSf:VCal P w K mg base n "saying_of" ["program"] spSf) (cSq:VCal P w K mg base n "_law_steps" ["_law_program_here"] spSq) (cBf:VCal P w K mg base n "begin_of" ["program"] spBf) (cIi:VCal P w K mg base n "is_in" ["saying","place","pile"] spIi) (cLr:VCal P w K mg base n "_law_rule" ["_law_game","_law_steps_here","_law_place","_law_pile","_law_choice"] spLr) (m_range:mg "range" = none) (m_len:mg "len" = none) (m_int:mg "int" = none):FnOk P w K mg base CX0 (n+1) f fd ["_law_program_here","_law_choices","_law_most"] (cSp K 3 spPl):=by
 refine F.vok scPl fun cdv A' outer s H E hr=>⟨_,(vss_cons (vs_set (i:=3) scPl.nd rfl (Or.inl rfl) (ve_call cGf hr rfl (va_cons (vv 0) va_nil)))
   (vss_cons (vs_set (i:=4) scPl.nd rfl (Or.inl rfl) (ve_call cSf hr rfl (va_cons (vv 0) va_nil)))
   (vss_cons (vs_set (i:=5) scPl.nd rfl (Or.inl rfl) (ve_call cSq hr rfl (va_cons (vv 0) va_nil)))
   (vss_cons (vs_asg (ve_call cBf hr rfl (va_cons (vv 0) va_nil)) (vg_tup (n:=2) rfl (vgs_cons (vg_name (i:=6) scPl.nd rfl (Or.inl rfl)) (vgs_cons (vg_name (i:=7) scPl.nd rfl (Or.inl rfl)) vgs_nil))))
   (vss_cons (vs_set (i:=8) scPl.nd rfl (Or.inl rfl) ve_int)
   (vss_cons (vs_set (i:=9) scPl.nd rfl (Or.inl rfl) ve_int)
   (vss_cons (vs_for PassesOwn.never rfl (vi_range1 rfl m_range (va_cons (ve_op o_add (ve_op o_mul ve_int (vv 2)) ve_int) va_nil)) (vg_name (i:=10) scPl.nd rfl (Or.inl rfl)) (vss_cons (vs_if (VW.pt (vw_and (vt_val (ve_call cIi hr rfl (va_cons (vv 4) (va_cons (vv 6) (va_cons (ve_slice (vv 7) vo_none (vo_some ve_int)) va_nil))))) (vw_and1 (vt_cmp o_lt (vv 9) (vv 2) (nomark _))))) (vss_one (vs_ret (ve_tup (va_cons ve_str (va_cons (ve_op o_add (vv 9) ve_int) va_nil))))) vss_nil)
   (vss_cons (vs_if (vt_cmp (o_eq hr) (ve_callB c_len rfl m_len PySem.boot_len (va_cons (vv 7) va_nil)) ve_int (nomark _)) (vss_one (vs_ret (ve_tup (va_cons ve_str (va_cons (vv 9) va_nil))))) vss_nil)
   (vss_cons (vs_asg (ve_ix i_ix (vv 5) (ve_ix i_ix (vv 7) ve_int)) (vg_tup (n:=2) rfl (vgs_cons (vg_name (i:=11) scPl.nd rfl (Or.inl rfl)) (vgs_cons (vg_name (i:=12) scPl.nd rfl (Or.inl rfl)) vgs_nil))))
   (vss_cons (vs_set (i:=13) scPl.nd rfl (Or.inl rfl) (ve_cmp (o_eq hr) (ve_op o_mod (vv 6) ve_int) (ve_callTy c_int rfl m_int PyProof.Rows.boot_int (va_cons (ve_and (ve_cmp o_notN (vv 11) ve_non (nomark _)) (ve_one (ve_cmp (o_eq hr) (ve_ix i_ix (vv 11) ve_int) ve_str (nomark _)))) va_nil)) (nomark _)))
   (vss_cons (vs_if (VW.pt (vw_and (vt_val (vv 13)) (vw_and (vt_cmp o_notN (vv 11) ve_non (nomark _)) (vw_and1 (vt_cmp (o_eq hr) (vv 9) (vv 2) (nomark _)))))) (vss_one (vs_ret (ve_tup (va_cons ve_str (va_cons (vv 9) va_nil))))) vss_nil)
   (vss_cons (vs_set (i:=14) scPl.nd rfl (Or.inl rfl) ve_non)
   (vss_cons (vs_if (VW.pt (vw_and (vt_val (vv 13)) (vw_and (vt_cmp o_notN (vv 11) ve_non (nomark _)) (vw_and1 (vt_cmp (o_in hr) (ve_ix i_ix (vv 11) ve_int) (ve_tup (va_cons ve_str (va_cons ve_str va_nil))) (by with_unfolding_all rfl)))))) (vss_cons (vs_if (vt_cmp (o_eq hr) (vv 8) (ve_callB c_len rfl m_len PySem.boot_len (va_cons (vv 1) va_nil)) (nomark _)) (vss_one (vs_ret (ve_tup (va_cons ve_str (va_cons (vv 9) va_nil))))) vss_nil)
   (vss_cons (vs_set (i:=14) scPl.nd rfl (Or.inl rfl) (ve_ix i_ix (vv 1) (vv 8)))
   (vss_one (vs_set (i:=8) scPl.nd rfl (Or.inl rfl) (ve_op o_add (vv 8) ve_int))))) vss_nil)
   (vss_cons (vs_set (i:=15) scPl.nd rfl (Or.inl rfl) (ve_call cLr hr rfl (va_cons (vv 3) (va_cons (vv 5) (va_cons (vv 6) (va_cons (vv 7) (va_cons (vv 14) va_nil)))))))
   (vss_cons (vs_if (vt_cmp o_isN (vv 15) ve_non (nomark _)) (vss_one (vs_ret (ve_tup (va_cons ve_str (va_cons (vv 9) va_nil))))) vss_nil)
   (vss_cons (vs_set (i:=9) scPl.nd rfl (Or.inl rfl) (ve_op o_add (vv 9) (ve_callTy c_int rfl m_int PyProof.Rows.boot_int (va_cons (ve_and (vv 13) (ve_one (ve_cmp o_notN (vv 11) ve_non (nomark _)))) va_nil))))
   (vss_one (vs_par (i:=6) (j:=7) rfl scPl.nd rfl rfl (by decide) rfl rfl (va_cons (ve_ix i_ix (vv 15) ve_int) (va_cons (ve_op o_add (ve_ix i_ix (vv 15) ve_int) (ve_slice (vv 7) (vo_some ve_int) vo_none)) va_nil)) rfl)))))))))))))
   (vss_one (vs_ret (ve_tup (va_cons ve_str (va_cons (vv 9) va_nil)))))))))))),?_⟩
 rintro xs μ R _ ⟨sw,ps,cs,most,rfl,hO,hS,hcs,hmo,q⟩
 generalize hres:goR ps most 0 (strip ps [(0,0)]) cs 0=res
 have q':∀ μ',Sub μ μ'->R (.D (resD res)) μ':=fun μ' S=>by rw [<- hres];exact q μ' S
 refine seq_d ⟨sw,ps,rfl,hO,fun es μ1 hn hm hs S1=>?_⟩
 obtain⟨A,rfl,hAn,hA⟩:=rul_back hn hm
 have hAl:A.length<=90:=by
  have:=sub_len2 hn fun d hd=>(hm d).mp hd
  rw [List.length_map,List.length_map]at this
  exact Nat.le_trans this (allR_len hO (sw+1) (by have:=hO.sw;omega))
 refine seq_d ⟨sw,ps,rfl,hO,fun μ2 S2=>?_⟩
 refine seq_d ⟨sw,ps,rfl,hO,fun pst μ3 hpst e3 S3=>?_⟩
 refine seq_d ⟨sw,ps,rfl,hO,⟨rfl,unp2 ?_⟩⟩
 have S03:Sub μ μ3:=fun b m h=>S3 b m (S2 b m (S1 b m h))
 have h00:(pts ps)[0]?=some (0,0):=by
  have h0:=hO.n0
  cases ps with
  | nil=>exact absurd h0 (by decide)
  | cons p ps=>show(ptsF 0 (p :: ps))[0]?=_;unfold ptsF;rw [List.range_succ_eq_map];rfl
 refine seq_d (seq_d ?_)
 refine seq_i (fun τ μ'=>False) (fun Z hZ=>?_) (fun _ _ h=>h.elim)
 have hlen:(rngA 0 (6 * (most:Int)+20).toNat).length=6 * most+20:=by rw [rngA_length];omega
 refine⟨.inl ⟨by decide,by decide⟩,by omega,by omega,?_⟩
 refine for_i (fun i τ μ'=>∃(a h:Nat) (pile:List Pt) (u d:Nat) (o10 o11 o12 o13 o14 o15:Option AV),τ=[some (.D (prgD sw ps)),some (.D (chD cs)),some (.D (natD most)),some (.D (gmD sw ps (A.map rulD))),some (.D (sayD sw ps)),some (.R pst),some (.D (.int (2 * a+h:Nat))),some (.D (natsD (pile.map (ix ps)))),some (.D (.int (u:Nat))),some (.D (.int (d:Nat))),o10,o11,o12,o13,o14,o15]/\μ' pst=some (.lst ((pts ps).map (fsA ps)))/\PlI sw ps cs most res i a h pile u d/\Sub μ μ') ⟨0,hnd ps (0,0),[(0,0)],0,0,none,none,none,none,none,none,?_,e3,⟨Nat.zero_le _,hnd_le ps (0,0),?_,Nat.zero_le _,Nat.zero_le _,hres.symm,?_⟩,S03⟩ (fun _ _ _ _=>trivial) ?_ ?_
 ·show _=([some (.D (prgD sw ps)),some (.D (chD cs)),some (.D (natD most)),some (.D (gmD sw ps (A.map rulD))),some (.D (sayD sw ps)),some (.R pst),some (.D (.int (2 * 0+hnd ps (0,0):Nat))),some (.D (natsD ([ix ps (0,0)]))),some (.D (.int (0:Nat))),some (.D (.int (0:Nat))),none,none,none,none,none,none]:ASt)
  rw [show ix ps (0,0)=0 from ix_at h00,show 2 * 0+hnd ps (0,0)=hnd ps (0,0) by omega];rfl
 ·intro x hx
  rw [List.mem_singleton.mp hx];exact pt_call hO.n0
 ·have:=off_le ps (hnd ps (0,0)) [(0,0)]
  show 6 * (most - 0)+2 * 1+_+0<=_
  omega
 ·rintro i y τ μ4 Z2 hy ⟨a,h,pile,u,d,o10,o11,o12,o13,o14,o15,rfl,f4,I,S4⟩ hZ2
  have hi:i < 6 * most+20:=by rw [<- hlen];exact(List.getElem?_eq_some_iff.mp hy).1
  have hpl:pile.length<=190:=by have:=I.pot;omega
  have hdm:=I.pd
  refine seq_i (fun τ μ'=>τ=[some (.D (prgD sw ps)),some (.D (chD cs)),some (.D (natD most)),some (.D (gmD sw ps (A.map rulD))),some (.D (sayD sw ps)),some (.R pst),some (.D (.int (2 * a+h:Nat))),some (.D (natsD (pile.map (ix ps)))),some (.D (.int (u:Nat))),some (.D (.int (d:Nat))),some y,o11,o12,o13,o14,o15]/\μ' pst=some (.lst ((pts ps).map (fsA ps)))/\Sub μ μ'/\∀x r,pile=x :: r->stepAt ps x=some .mark->h=0->d=most) (fun Z3 hZ3=>?_) ?_
  ·refine⟨sw,ps,2 * a+h,(pile.map (ix ps)).take 6,?_,hO,fun μ5 S5=>?_⟩
   ·show [AV.D (sayD sw ps),AV.D (.int (2 * a+h:Nat)),AV.D (.tuple (cutD ((pile.map (ix ps)).map fun(n:Nat)=>PyData.int n) none (some ((6:Nat):Int))))]=_
    rw [cutD_take];rfl
   have f5:=S5 _ _ f4
   have T5:Sub μ μ5:=fun b m hb=>S5 b m (S4 b m hb)
   cases c:rd (mkW sw ps) [] ((pile.map (ix ps)).take 6) (2 * a+h) with
   | false =>
    refine brF rfl (brF rfl (hZ3 _ _ ⟨rfl,f5,T5,fun x r ep est h0=>?_⟩))
    subst ep
    have hx:=pt_in.mpr (I.ok x (.head _))
    have:rd (mkW sw ps) [] (((x :: r).map (ix ps)).take 6) (2 * a+h)=true:=mk_rd.mpr ⟨⟨a,I.pa,by omega⟩,st_mks hx est⟩
    rw [c]at this;cases this
   | true =>
    cases pile with
    | nil=>cases c
    | cons x r =>
     obtain⟨⟨a',_,e'⟩,hmk⟩:=mk_rd.mp c
     have hst:=mks_st (pt_in.mpr (I.ok x (.head _))) hmk
     refine brT rfl (dif (fun c2=>⟨_,Sub.refl,?_⟩) (fun c2=>hZ3 _ _ ⟨rfl,f5,T5,fun x' r' ep est h0=>by omega⟩))
     have hr':=I.marked (by omega) hst
     have:=q' μ5 T5
     rw [hr']at this
     exact this
  rintro τ μ5 ⟨rfl,f5,S5,hmk⟩
  cases pile with
  | nil =>
   refine seq_d ⟨eqOk_int _,eqOk_int _,brT rfl ⟨_,Sub.refl,?_⟩⟩
   have:=q' μ5 S5
   rw [I.over]at this
   exact this
  | cons x r =>
  refine seq_d ⟨eqOk_int _,eqOk_int _,brF (by rw [eqv_int,decide_eq_false (by simp only [List.map_cons,List.length_cons];omega)]) ?_⟩
  have hx:=I.ok x (.head _)
  have i1:atI ((pts ps).map (fsA ps)) (ix ps x:Int)=some (fsA ps x):=atI_nat (by rw [List.getElem?_map,ix_get (pt_in.mpr hx)];rfl)
  refine seq_d (opt_i (atI_nat (j:=0) rfl) (opt_i f5 (opt_i i1 ⟨rfl,unp2 ?_⟩)))
  have hlh:=hnd_le ps x
  have hph:=I.ph
  refine seq_i (fun τ μ'=>τ=[some (.D (prgD sw ps)),some (.D (chD cs)),some (.D (natD most)),some (.D (gmD sw ps (A.map rulD))),some (.D (sayD sw ps)),some (.R pst),some (.D (.int (2 * a+h:Nat))),some (.D (natsD ((x :: r).map (ix ps)))),some (.D (.int (u:Nat))),some (.D (.int (d:Nat))),some y,some (.D (stD ps x)),some (.D (.int (ix ps (x.1,0):Nat))),some (.D (.bool (decide (h=hnd ps x)))),o14,o15]/\μ5=μ') (fun Z3 hZ3=>?_) ?_
  ·have em:((2 * a+h:Nat):Int) % 2=(h:Int):=by omega
   have go:∀k:Nat,k=hnd ps x->EqOk (.int (((2 * a+h:Nat):Int) % 2))/\EqOk (.int (k:Int))/\Z3 [some (.D (prgD sw ps)),some (.D (chD cs)),some (.D (natD most)),some (.D (gmD sw ps (A.map rulD))),some (.D (sayD sw ps)),some (.R pst),some (.D (.int (2 * a+h:Nat))),some (.D (natsD ((x :: r).map (ix ps)))),some (.D (.int (u:Nat))),some (.D (.int (d:Nat))),some y,some (.D (stD ps x)),some (.D (.int (ix ps (x.1,0):Nat))),some (.D (.bool (PyData.eqv (.int (((2 * a+h:Nat):Int) % 2)) (.int (k:Int))))),o14,o15] μ5:=fun k hk=>by
    refine⟨eqOk_int _,eqOk_int _,?_⟩
    rw [em,eqv_int]
    have:decide ((h:Int)=(k:Int))=decide (h=hnd ps x):=by
     rw [Bool.eq_iff_iff,decide_eq_true_iff,decide_eq_true_iff];omega
    rw [this]
    exact hZ3 _ _ ⟨rfl,rfl⟩
   refine⟨show(0:Int) < 2 by decide,?_⟩
   cases e:stepAt ps x with
   | none =>
    rw [show stD ps x=.none by unfold stD;rw [e]]at go ⊢
    exact brF rfl (go 0 (by unfold hnd;rw [e]))
   | some st =>
    rw [show stD ps x=st.D by unfold stD;rw [e]]at go ⊢
    refine brT rfl (opt_i (atI_nat (j:=0) rfl) ⟨eqOk_str (wOk st),ok_chance,?_⟩)
    cases st with
    | chance y z=>rw [show PyData.eqv (.str (Stp.chance y z).word) (.str "chance")=true from e_chance_chance];exact go 1 (by unfold hnd;rw [e])
    | ask y z=>rw [show PyData.eqv (.str (Stp.ask y z).word) (.str "chance")=false from n_ask_chance];exact go 0 (by unfold hnd;rw [e])
    | set v=>rw [show PyData.eqv (.str (Stp.set v).word) (.str "chance")=false from n_set_chance];exact go 0 (by unfold hnd;rw [e])
    | iff y z=>rw [show PyData.eqv (.str (Stp.iff y z).word) (.str "chance")=false from n_if_chance];exact go 0 (by unfold hnd;rw [e])
    | call k=>rw [show PyData.eqv (.str (Stp.call k).word) (.str "chance")=false from n_call_chance];exact go 0 (by unfold hnd;rw [e])
    | back=>rw [show PyData.eqv (.str Stp.back.word) (.str "chance")=false from n_back_chance];exact go 0 (by unfold hnd;rw [e])
    | mark=>rw [show PyData.eqv (.str Stp.mark.word) (.str "chance")=false from n_mark_chance];exact go 0 (by unfold hnd;rw [e])
  rintro τ _ ⟨rfl,rfl⟩
  have hxp:=pt_in.mpr hx
  by_cases own:h=hnd ps x
  ·rw [decide_eq_true own]
   obtain⟨w1,w2⟩:=rl_own I.pa hxp
   have rule1:∀y0,goP ps a x=[y0]->LrIn ps A (2 * a+h) (ix ps x) x (own1 ps a x y0) (.D .none):=fun y0 hy0 =>
    ⟨by omega,hAn,(hA _).mpr (w1 y0 (by rw [hy0];exact .head _)),by show 2 * a+hnd ps x=_;rw [own],rfl,ix_get hxp,.inl ⟨rfl,fun r' hr' h1 h2=>by
     obtain⟨y',hy',e'⟩:=w2 r' ((hA r').mp hr') (by rw [h1,own]) h2
     rw [hy0]at hy'
     rw [e',List.mem_singleton.mp hy']⟩⟩
   cases e:stepAt ps x with
   | none =>
    rw [show stD ps x=.none by unfold stD;rw [e]]
    have hg:goP ps a x=[(a,[])]:=by unfold goP;rw [e]
    refine seq_d (brT rfl (brF rfl (brF rfl (seq_d (seq_d (brT rfl (brF rfl (brF rfl ?_))))))))
    refine seq_d ⟨sw,ps,A,pst,2 * a+h,ix ps x,r.map (ix ps),x,own1 ps a x (a,[]),.D .none,rfl,f5,rule1 _ hg,fun μ6 S6=>?_⟩
    refine seq_d (brF rfl (seq_d (brT rfl (opt_i (atI_nat (j:=2) rfl) (opt_i (atI_nat (j:=3) rfl) ⟨?_,hZ2 _ _ ⟨a,0,r,u,d,some y,some (.D .none),some (.D (.int (ix ps (x.1,0):Nat))),some (.D (.bool true)),some (.D .none),some (rulA (own1 ps a x (a,[]))),?_,S6 _ _ f5,I.ends e,fun b m hb=>S6 b m (S5 b m hb)⟩⟩)))))
    ·show([]:List PyData).length+(cutD (PyData.int (ix ps x) :: ((r.map (ix ps)).map fun(n:Nat)=>PyData.int n)) (some 1) none).length<=sizeLine
     rw [cut1]
     refine seven ?_
     simp only [List.length_map,List.length_cons,List.length_nil]at hpl ⊢
     omega
    ·have e7:AV.D (.tuple ([]++cutD (PyData.int (ix ps x) :: ((r.map (ix ps)).map fun(n:Nat)=>PyData.int n)) (some 1) none))=.D (natsD (r.map (ix ps))):=by rw [cut1];rfl
     exact congrArg (fun z:AV=>([some (.D (prgD sw ps)),some (.D (chD cs)),some (.D (natD most)),some (.D (gmD sw ps (A.map rulD))),some (.D (sayD sw ps)),some (.R pst),some (.D (.int (2 * a+0:Nat))),some z,some (.D (.int (u:Nat))),some (.D (.int (d:Nat))),some y,some (.D .none),some (.D (.int (ix ps (x.1,0):Nat))),some (.D (.bool true)),some (.D .none),some (rulA (own1 ps a x (a,[])))]:ASt)) e7
   | some st =>
    obtain⟨pr,e1,e2⟩:=step_of e
    have hst:=ok_of hO.ok e1 e2
    have hg2:=(goP_ok (a:=a) hO.ok hx).2
    rw [show stD ps x=st.D by unfold stD;rw [e]]
    by_cases hd:d=most
    ·refine seq_d (brT rfl (brT rfl ⟨eqOk_int _,eqOk_int _,brT (by show PyData.eqv (.int d) (.int most)=true;rw [eqv_int,decide_eq_true (by rw [hd])]) ⟨_,Sub.refl,?_⟩⟩))
     have:=q' μ5 S5
     rw [I.more hd e]at this
     exact this
    have hdl:d < most:=by omega
    refine seq_d (brT rfl (brT rfl ⟨eqOk_int _,eqOk_int _,brF (by show PyData.eqv (.int d) (.int most)=false;rw [eqv_int,decide_eq_false (by omega)]) ?_⟩))
    refine seq_d ?_
    refine seq_i (fun τ μ'=>∃(y0:Nat×List Pt) (ch:AV) (u':Nat),τ=[some (.D (prgD sw ps)),some (.D (chD cs)),some (.D (natD most)),some (.D (gmD sw ps (A.map rulD))),some (.D (sayD sw ps)),some (.R pst),some (.D (.int (2 * a+h:Nat))),some (.D (natsD ((x :: r).map (ix ps)))),some (.D (.int (u':Nat))),some (.D (.int (d:Nat))),some y,some (.D st.D),some (.D (.int (ix ps (x.1,0):Nat))),some (.D (.bool true)),some ch,o15]/\μ5=μ'/\LrIn ps A (2 * a+h) (ix ps x) x (own1 ps a x y0) ch/\y0.1<=sw/\(∀t∈y0.2,PtOk ps t)/\y0.2.length<=2/\u'<=cs.length/\goR ps (most - d) a (strip ps (x :: r)) (cs.drop u) d=goR ps (most - (d+1)) y0.1 (strip ps (y0.2++r)) (cs.drop u') (d+1)) (fun Z3 hZ3=>?_) ?_
    ·refine brT rfl (brT rfl (opt_i (atI_nat (j:=0) rfl) (opt_i rfl ⟨eqOk_str (wOk st),okAC,?_⟩)))
     have gR:∀(X:Str×Nat),goR ps (most - (d+1)+1) a (x :: r) (cs.drop u) d=X->goR ps (most - d) a (strip ps (x :: r)) (cs.drop u) d=X:=fun X hX=>by rw [strip_some e,goR_succ hdl];exact hX
     have ch2:∀y' z',(st=.ask y' z'\/st=.chance y' z')->y' < pr.length->z' < pr.length->∀c:Nat,c<=1->LrIn ps A (2 * a+h) (ix ps x) x (own1 ps a x (a,[(x.1,if c=0 then y' else z')])) (.D (.int c)):=fun y' z' hs hy' hz' c hc=>by
      have hg:goP ps a x=[(a,[(x.1,y')]),(a,[(x.1,z')])]:=by unfold goP;rw [e];rcases hs with rfl | rfl <;> rfl
      have ht:(if c=0 then y' else z') < pr.length:=by split <;> omega
      refine⟨by omega,hAn,(hA _).mpr (w1 _ ?_),by show 2 * a+hnd ps x=_;rw [own],rfl,ix_get hxp,.inr ⟨c,y',z',st,rfl,hc,e,hs,?_,fun r' hr' h1 h2 h3=>?_⟩⟩
      ·rw [hg]
       split
       ·exact .head _
       ·exact .tail _ (.head _)
      ·show [ix ps (x.1,if c=0 then y' else z')]=_
       rw [ix_in e1 (Nat.le_of_lt ht)]
      ·obtain⟨v,hv,e'⟩:=w2 r' ((hA r').mp hr') (by rw [h1,own]) h2
       rw [hg]at hv
       have hv2:∃t,t < pr.length/\v=(a,[(x.1,t)]):=by
        rcases List.mem_cons.mp hv with rfl | hv
        ·exact⟨y',hy',rfl⟩
        ·exact⟨z',hz',List.mem_singleton.mp hv⟩
       obtain⟨t,htl,rfl⟩:=hv2
       rw [e']at h3
       have h4:ix ps (x.1,t)=ix ps (x.1,if c=0 then y' else z'):=(List.cons.inj h3).1
       have h5:=ix_inj (pt_in.mpr (pt_to e1 htl)) (pt_in.mpr (pt_to e1 ht)) h4
       rw [e',h5]
     cases st with
     | mark=>exact absurd (hmk x r rfl e (by rw [own];unfold hnd;rw [e])) hd
     | back =>
      have hg:goP ps a x=[(a,[])]:=by unfold goP;rw [e]
      exact brF c_back (hZ3 _ _ ⟨(a,[]),.D .none,u,rfl,rfl,rule1 _ hg,I.pa,(fun _ z=>nomatch z),by show 0<=2;decide,I.pu,gR _ (by rw [goR,e];rfl)⟩)
     | call k =>
      have hg:goP ps a x=[(a,[(k,0),(x.1,x.2+1)])]:=by unfold goP;rw [e]
      exact brF c_call (hZ3 _ _ ⟨_,.D .none,u,rfl,rfl,rule1 _ hg,I.pa,(hg2 _ (by rw [hg];exact .head _)).2,by show 2<=2;decide,I.pu,gR _ (by rw [goR,e];rfl)⟩)
     | set v =>
      have hg:goP ps a x=[(v,[(x.1,x.2+1)])]:=by unfold goP;rw [e]
      exact brF c_set (hZ3 _ _ ⟨_,.D .none,u,rfl,rfl,rule1 _ hg,hS pr (List.mem_of_getElem? e1) _ (List.mem_of_getElem? e2),(hg2 _ (by rw [hg];exact .head _)).2,by show 1<=2;decide,I.pu,gR _ (by rw [goR,e];rfl)⟩)
     | iff y' z' =>
      have hg:goP ps a x=[(a,[(x.1,if a=1 then y' else z')])]:=by unfold goP;rw [e]
      exact brF c_if (hZ3 _ _ ⟨_,.D .none,u,rfl,rfl,rule1 _ hg,I.pa,(hg2 _ (by rw [hg];exact .head _)).2,by show 1<=2;decide,I.pu,gR _ (by rw [goR,e];rfl)⟩)
     | ask y' z' =>
      refine brT c_ask ?_
      have hlm:(cs.map natD).length=cs.length:=List.length_map _
      have hpu:=I.pu
      by_cases hu:u=cs.length
      ·refine seq_d ⟨eqOk_int _,eqOk_int _,brT (by rw [eqv_int,decide_eq_true (by rw [hlm,hu])]) ⟨_,Sub.refl,?_⟩⟩
       have:=q' μ5 S5
       rw [I.lacks hdl hu e (.inl rfl)]at this
       exact this
      have hul:u < cs.length:=by omega
      have hdr:cs.drop u=cs[u] :: cs.drop (u+1):=List.drop_eq_getElem_cons hul
      have hc:=hcs cs[u] (List.getElem_mem hul)
      have iu:atI (cs.map natD) (u:Int)=some (natD cs[u]):=atI_nat (by rw [List.getElem?_map,List.getElem?_eq_getElem hul];rfl)
      refine seq_d ⟨eqOk_int _,eqOk_int _,brF (by rw [eqv_int,decide_eq_false (by rw [hlm];omega)]) (seq_d (opt_i iu ?_))⟩
      have L2:=ch2 y' z' (.inl rfl) hst.1 hst.2 cs[u] hc
      refine hZ3 _ _ ⟨(a,[(x.1,if cs[u]=0 then y' else z')]),.D (.int (cs[u]:Nat)),u+1,rfl,rfl,L2,I.pa,fun t ht=>?_,by show 1<=2;decide,hul,gR _ (by rw [goR,e,hdr];rfl)⟩
      rw [List.mem_singleton.mp ht]
      exact pt_to e1 (by split <;> first | exact hst.1 | exact hst.2)
     | chance y' z' =>
      refine brT c_chance ?_
      have hlm:(cs.map natD).length=cs.length:=List.length_map _
      have hpu:=I.pu
      by_cases hu:u=cs.length
      ·refine seq_d ⟨eqOk_int _,eqOk_int _,brT (by rw [eqv_int,decide_eq_true (by rw [hlm,hu])]) ⟨_,Sub.refl,?_⟩⟩
       have:=q' μ5 S5
       rw [I.lacks hdl hu e (.inr rfl)]at this
       exact this
      have hul:u < cs.length:=by omega
      have hdr:cs.drop u=cs[u] :: cs.drop (u+1):=List.drop_eq_getElem_cons hul
      have hc:=hcs cs[u] (List.getElem_mem hul)
      have iu:atI (cs.map natD) (u:Int)=some (natD cs[u]):=atI_nat (by rw [List.getElem?_map,List.getElem?_eq_getElem hul];rfl)
      refine seq_d ⟨eqOk_int _,eqOk_int _,brF (by rw [eqv_int,decide_eq_false (by rw [hlm];omega)]) (seq_d (opt_i iu ?_))⟩
      have L2:=ch2 y' z' (.inr rfl) hst.1 hst.2 cs[u] hc
      refine hZ3 _ _ ⟨(a,[(x.1,if cs[u]=0 then y' else z')]),.D (.int (cs[u]:Nat)),u+1,rfl,rfl,L2,I.pa,fun t ht=>?_,by show 1<=2;decide,hul,gR _ (by rw [goR,e,hdr];rfl)⟩
      rw [List.mem_singleton.mp ht]
      exact pt_to e1 (by split <;> first | exact hst.1 | exact hst.2)
    rintro τ _ ⟨y0,ch,u',rfl,rfl,L0,g1,g2,g3,g4,g5⟩
    refine seq_d ⟨sw,ps,A,pst,2 * a+h,ix ps x,r.map (ix ps),x,own1 ps a x y0,ch,rfl,f5,L0,fun μ6 S6=>?_⟩
    have hh:hd0 ps y0.2<=1:=by
     cases y0.2 with
     | nil=>exact Nat.zero_le _
     | cons t l=>exact hnd_le ps t
    refine seq_d (brF rfl (seq_d (brT rfl (opt_i (atI_nat (j:=2) rfl) (opt_i (atI_nat (j:=3) rfl) ⟨?_,hZ2 _ _ ⟨y0.1,hd0 ps y0.2,y0.2++r,u',d+1,some y,some (.D st.D),some (.D (.int (ix ps (x.1,0):Nat))),some (.D (.bool true)),some ch,some (rulA (own1 ps a x y0)),?_,S6 _ _ f5,I.step hdl g1 hh (fun t ht=>?_) g4 (by rw [List.length_append];omega) g5,fun b m hb=>S6 b m (S5 b m hb)⟩⟩)))))
    ·show((y0.2.map (ix ps)).map fun(n:Nat)=>PyData.int n).length+(cutD (PyData.int (ix ps x) :: ((r.map (ix ps)).map fun(n:Nat)=>PyData.int n)) (some 1) none).length<=sizeLine
     rw [cut1]
     refine seven ?_
     simp only [List.length_map,List.length_cons]at hpl ⊢
     omega
    ·have e7:AV.D (.tuple (((y0.2.map (ix ps)).map fun(n:Nat)=>PyData.int n)++cutD (PyData.int (ix ps x) :: ((r.map (ix ps)).map fun(n:Nat)=>PyData.int n)) (some 1) none))=.D (natsD ((y0.2++r).map (ix ps))):=by rw [cut1,List.map_append];unfold natsD;rw [List.map_append]
     exact congrArg (fun z:AV=>([some (.D (prgD sw ps)),some (.D (chD cs)),some (.D (natD most)),some (.D (gmD sw ps (A.map rulD))),some (.D (sayD sw ps)),some (.R pst),some (.D (.int (2 * y0.1+hd0 ps y0.2:Nat))),some z,some (.D (.int (u':Nat))),some (.D (.int ((d+1):Nat))),some y,some (.D st.D),some (.D (.int (ix ps (x.1,0):Nat))),some (.D (.bool true)),some ch,some (rulA (own1 ps a x y0))]:ASt)) e7
    ·rcases List.mem_append.mp ht with ht | ht
     ·exact g2 t ht
     ·exact I.ok t (.tail _ ht)
  ·rw [decide_eq_false own]
   obtain⟨c1,c2,c3⟩:=rl_cross I.pa I.ph hxp own
   refine seq_d (brF rfl (brF rfl (seq_d (seq_d (brF rfl (brF rfl ?_))))))
   refine seq_d ⟨sw,ps,A,pst,2 * a+h,ix ps x,r.map (ix ps),x,crs ps a x,.D .none,rfl,f5,⟨by omega,hAn,(hA _).mpr c1,c2,rfl,ix_get hxp,.inl ⟨rfl,fun r' hr'=>c3 r' ((hA r').mp hr')⟩⟩,fun μ6 S6=>?_⟩
   refine seq_d (brF rfl (seq_d (brF rfl (opt_i (atI_nat (j:=2) rfl) (opt_i (atI_nat (j:=3) rfl) ⟨?_,hZ2 _ _ ⟨a,hnd ps x,x :: r,u,d,some y,some (.D (stD ps x)),some (.D (.int (ix ps (x.1,0):Nat))),some (.D (.bool false)),some (.D .none),some (rulA (crs ps a x)),?_,S6 _ _ f5,I.cross own,fun b m hb=>S6 b m (S5 b m hb)⟩⟩)))))
   ·show([ix ps x].map fun(n:Nat)=>PyData.int n).length+(cutD (PyData.int (ix ps x) :: ((r.map (ix ps)).map fun(n:Nat)=>PyData.int n)) (some 1) none).length<=sizeLine
    rw [cut1]
    refine seven ?_
    simp only [List.length_map,List.length_cons,List.length_nil]at hpl ⊢
    omega
   ·have e7:AV.D (.tuple ([PyData.int (ix ps x)]++cutD (PyData.int (ix ps x) :: ((r.map (ix ps)).map fun(n:Nat)=>PyData.int n)) (some 1) none))=.D (natsD ((x :: r).map (ix ps))):=by rw [cut1];rfl
    exact congrArg (fun z:AV=>([some (.D (prgD sw ps)),some (.D (chD cs)),some (.D (natD most)),some (.D (gmD sw ps (A.map rulD))),some (.D (sayD sw ps)),some (.R pst),some (.D (.int (2 * a+hnd ps x:Nat))),some z,some (.D (.int (u:Nat))),some (.D (.int (d:Nat))),some y,some (.D (stD ps x)),some (.D (.int (ix ps (x.1,0):Nat))),some (.D (.bool false)),some (.D .none),some (rulA (crs ps a x))]:ASt)) e7
 ·rintro τ μ4 ⟨a,h,pile,u,d,o10,o11,o12,o13,o14,o15,rfl,f4,I,S4⟩
  rw [hlen]at I
  exact I.end_.elim
end
section
variable {P:Program}{w:World}{K:PySem.W.Frag}{mg:Str->Option Value}{base:Heap}{f:Addr}{fd:FuncData}
theorem Pot.sub{μ ν:M}{a l:Addr}(h:Pot μ a l)(S:Sub μ ν):Pot ν a l :=
 let⟨sd,nm,ns,h⟩:=h;⟨sd,nm,ns,S _ _ h.ha,S _ _ h.hl,h.s0,h.s1,h.n0,h.p0,h.ne⟩
theorem goR_word{ps:Prg}:∀(n a:Nat) (l:List Pt) (cs:List Nat) (st:Nat),PyData.canLay0 (.str (goR ps n a l cs st).1)=true/\(goR ps n a l cs st).2<=st+n:=by
 have k1:PyData.canLay0 (.str "over")=true:=by decide +kernel
 have k2:PyData.canLay0 (.str "more")=true:=by decide +kernel
 have k3:PyData.canLay0 (.str "marked")=true:=by decide +kernel
 have k4:PyData.canLay0 (.str "lacks")=true:=by decide +kernel
 intro n
 induction n with
 | zero =>
  intro a l cs st
  cases l with
  | nil=>exact⟨k1,Nat.le_refl _⟩
  | cons q r=>exact⟨k2,Nat.le_refl _⟩
 | succ n ih =>
  intro a l cs st
  cases l with
  | nil=>exact⟨k1,by show st<=_;omega⟩
  | cons q r =>
   have go:∀a l cs,PyData.canLay0 (.str (goR ps n a l cs (st+1)).1)=true/\(goR ps n a l cs (st+1)).2<=st+(n+1):=fun a l cs=>⟨(ih a l cs (st+1)).1,by have:=(ih a l cs (st+1)).2;omega⟩
   rw [goR]
   split
   ·exact⟨k1,by show st<=_;omega⟩
   ·exact⟨k3,by show st+1<=_;omega⟩
   ·split
    ·exact⟨k4,by show st<=_;omega⟩
    ·exact go _ _ _
   ·split
    ·exact⟨k4,by show st<=_;omega⟩
    ·exact go _ _ _
   ·exact go _ _ _
   ·exact go _ _ _
   ·exact go _ _ _
   ·exact go _ _ _
theorem run_ok(ps:Prg)(cs:List Nat)(most:Nat):EqOk (runD ps cs most):=by
 have h:=(goR_word (ps:=ps) most 0 (strip ps [(0,0)]) cs 0).1
 unfold runD resD
 constructor
 ·simp only [PyData.canLay0,PyData.canLayAll0,natD]at h ⊢
  rw [h];rfl
 ·simp [PyData.depth,PyData.depthAll,natD]
theorem draws{mp:List (Option Nat)}{kp:M->Prop}{a l pc:Addr}{μ0 μ1:M}{c:Nat}{W:M->Prop}{τ0:ASt}{te:AE}(hτ:τ0=[none,some (.R a)])(hc:c<=60)(P1:Pot μ1 a l)(S1:Ext2 a l μ0 μ1)(hpc:μ1 pc=none)(hk:∀ μ,kp μ)
  (hte:∀(x:AV) (μ:M) (R:AV->M->Prop),Pot μ a l->(∀(v:Nat) (μ':M),v < 2->Pot μ' a l->Ext2 a l μ μ'->R (.D (.int v)) μ')->te [some x,some (.R a)] μ R)
  (hW:∀(cs:List Nat) (μ:M),(∀c∈cs,c<=1)->μ pc=some (.lst (cs.map natA))->Pot μ a l->Ext2 a l μ0 μ->W μ):cl pc (wName 0) vYes te kp W (rngA 0 (c:Int).toNat) [] τ0 (updM μ1 pc (.lst [])):=by
 have hne:=P1.ne hpc
 have hlen:(rngA 0 (c:Int).toNat).length=c:=by rw [rngA_length];omega
 subst hτ
 refine comp_i (fun i acc τ μ'=>∃(o:Option AV) (cs:List Nat),τ=[o,some (.R a)]/\acc=cs.map natA/\cs.length=i/\(∀c∈cs,c<=1)/\μ' pc=some (.lst acc)/\Pot μ' a l/\Ext2 a l μ0 μ') ⟨none,[],rfl,rfl,rfl,(fun _ z=>nomatch z),updM_same,P1.new hpc,S1.new hpc⟩ (fun _ _ _ _ _=>hk _) ?_ ?_
 ·rintro i x acc τ μ' W' hx ⟨o,cs,rfl,rfl,hcl,hcs,hm,P3,S3⟩ hW'
  have hi:i < c:=by rw [<- hlen];exact(List.getElem?_eq_some_iff.mp hx).1
  refine brT rfl (hte x μ' _ P3 fun v μ4 hv P4 S4=>?_)
  have hm4:=S4 pc _ hne.1.symm hne.2.symm hm
  refine⟨hm4,by rw [List.length_map];exact small1000 (by omega),hW' _ _ _ ⟨_,cs++[v],rfl,by rw [List.map_append];rfl,by rw [List.length_append,hcl];rfl,?_,updM_same,P4.other hne.1 hne.2,(S3.trans S4).put (S1.none hne.1 hne.2 hpc)⟩⟩
  intro z h
  rcases List.mem_append.mp h with h | h
  ·exact hcs z h
  ·rw [List.mem_singleton.mp h];omega
 ·rintro acc τ μ' ⟨o,cs,rfl,rfl,hcl,hcs,hm,P3,S3⟩
  exact hW cs μ' hcs hm P3 S3
abbrev nLaw:List Str:=["_law_script","_law_pot_here","_law_program_here","_law_k","_law_choices","_law_most"]
theorem scLaw:FnScope nLaw ["_law_script"] (defScope sLaw):=⟨rfl,rfl,rfl,by decide +kernel,rfl,by decide +kernel,by decide +kernel⟩
theorem ndLaw1:(["_law_j","_law_pot_here"]:List Str).Nodup:=by decide +kernel
def spL:ASp:=fun xs _ R=>∃ns:List Int,xs=[.D (scrD ns)]/\ns.length<=63/\∀ μ',R (.D (.bool true)) μ'
theorem ok_lawV{n:Nat}(F:Fun K "law" "law" sLaw f fd) (cPo:VCal P w K mg base n "_law_pot" ["_law_script","_law_base"] spPo) (cPr:VCal P w K mg base n "_law_program" ["_law_pot_here"] spPr) (cDr:VCal P w K mg base n "_law_draw" ["_law_pot_here","_law_many"] spDr)
  (cPl:VCal P w K mg base n "_law_play" ["_law_program_here","_law_choices","_law_most"] spPl) (cRp:VCal P w K mg base n "run_program" ["program","choices","most"] spRp) (m_range:mg "range" = none) (m_tuple:mg "tuple" = none):FnOk P w K mg base CX0 (n+1) f fd ["_law_script"] (cSp K 1 spL):=by
 refine F.vok scLaw fun cdv A outer s H E hr=>⟨_,(vss_cons (vs_set (i:=1) scLaw.nd rfl (Or.inr rfl) (ve_call cPo hr rfl (va_cons (vv 0) (va_cons ve_int va_nil))))
   (vss_cons (vs_set (i:=2) scLaw.nd rfl (Or.inl rfl) (ve_call cPr hr rfl (va_cons (vv 1) va_nil)))
   (vss_cons (vs_for PassesOwn.never rfl (vi_range1 rfl m_range (va_cons ve_int va_nil)) (vg_name (i:=3) scLaw.nd rfl (Or.inl rfl)) (vss_cons (vs_set (i:=4) scLaw.nd rfl (Or.inl rfl) (ve_callTy c_tuple rfl m_tuple PyProof.Rows.boot_tuple (va_cons (ve_comp (N':=["_law_j","_law_pot_here"]) (mp:=[none,some 1]) rfl (vi_range1 rfl m_range (va_cons (ve_call cDr hr rfl (va_cons (vv 1) (va_cons ve_int va_nil))) va_nil)) (fun _ _ _ _=>(vg_name (i:=0) ndLaw1 rfl (Or.inl rfl) (Or.inr rfl))) (fun _ _ _ _=>vifs_nil) (fun _ _ _ _=>(ve_call cDr hr rfl (va_cons (vv 1) (va_cons ve_int va_nil)))) (compOk_of (N:=nLaw) (pn:=(defScope sLaw).names) (by decide +kernel))) va_nil)))
   (vss_cons (vs_set (i:=5) scLaw.nd rfl (Or.inl rfl) (ve_op o_add ve_int (ve_call cDr hr rfl (va_cons (vv 1) (va_cons (ve_ix i_ix (ve_lst (va_cons ve_int (va_cons ve_int va_nil))) (ve_call cDr hr rfl (va_cons (vv 1) (va_cons ve_int va_nil)))) va_nil)))))
   (vss_one (vs_if (vt_cmp (o_ne hr) (ve_call cPl hr rfl (va_cons (vv 2) (va_cons (vv 4) (va_cons (vv 5) va_nil)))) (ve_call cRp hr rfl (va_cons (vv 2) (va_cons (vv 4) (va_cons (vv 5) va_nil)))) (nomark _)) (vss_one (vs_ret ve_bl)) vss_nil)))))
   (vss_one (vs_ret ve_bl))))),?_⟩
 rintro xs μ R _ ⟨ns,rfl,hns,q⟩
 refine⟨ns,0,rfl,by decide,hns,fun a l μ1 _ _ P1 _=>⟨a,l,rfl,P1,fun sw ps μ2 h1 h2 h3 h4 h5 h6 P2 S2=>?_⟩⟩
 have hO:PgOk sw ps:=⟨h1,h2,h4,h5,h3⟩
 refine⟨by decide,by decide,?_⟩
 refine for_i (fun i τ μ'=>∃(o3 o4 o5:Option AV),τ=[some (.D (scrD ns)),some (.R a),some (.D (prgD sw ps)),o3,o4,o5]/\Pot μ' a l) ⟨none,none,none,rfl,P2⟩ (fun _ _ _ _=>trivial) ?_ ?_
 ·rintro i x τ μ3 W hx ⟨o3,o4,o5,rfl,P3⟩ hW
  refine seq_i (fun τ μ'=>∃(cs:List Nat),τ=[some (.D (scrD ns)),some (.R a),some (.D (prgD sw ps)),some x,some (.D (chD cs)),o5]/\(∀c∈cs,c<=1)/\Pot μ' a l) (fun W3 hW3=>?_) ?_
  ·refine⟨a,l,11,rfl,P3,by decide,by decide,fun c μ4 hc P4 S4=>⟨by omega,by omega,fun pc hpc=>?_⟩⟩
   refine draws (mp:=[]) (l:=l) rfl (by omega) P4 S4 hpc (fun _=>trivial) (fun x μ R p k=>⟨a,l,2,rfl,p,by decide,by decide,k⟩) fun cs μ5 hcs hm P5 S5=>?_
   exact opt_i (items_R hm) (opt_i (dats_nat cs) (hW3 _ _ ⟨cs,rfl,hcs,P5⟩))
  rintro τ μ4 ⟨cs,rfl,hcs,P4⟩
  refine seq_i (fun τ μ'=>∃(mo:Nat),τ=[some (.D (scrD ns)),some (.R a),some (.D (prgD sw ps)),some x,some (.D (chD cs)),some (.D (natD mo))]/\mo<=60/\Pot μ' a l) (fun W3 hW3=>?_) ?_
  ·intro pl hpl
   have hpl1:=P4.ne hpl
   refine⟨a,l,2,rfl,P4.new hpl,by decide,by decide,fun v μ5 hv P5 S5=>?_⟩
   have g:=S5 pl _ hpl1.1.symm hpl1.2.symm updM_same
   have hv2:v=0\/v=1:=by omega
   rcases hv2 with rfl | rfl
   ·refine opt_i g (opt_i rfl ⟨a,l,8,rfl,P5,by decide,by decide,fun u μ6 hu P6 S6=>hW3 _ _ ⟨1+u,rfl,by omega,P6⟩⟩)
   ·refine opt_i g (opt_i rfl ⟨a,l,40,rfl,P5,by decide,by decide,fun u μ6 hu P6 S6=>hW3 _ _ ⟨1+u,rfl,by omega,P6⟩⟩)
  rintro τ μ5 ⟨mo,rfl,hmo,P5⟩
  refine⟨sw,ps,cs,mo,rfl,hO,h6,hcs,hmo,fun μ6 S6=>⟨sw,ps,cs,mo,rfl,⟨h1,h2,hcs,hmo⟩,run_ok _ _ _,run_ok _ _ _,brF ?_ (hW _ _ ⟨_,_,_,rfl,P5.sub S6⟩)⟩⟩
  rw [PySem.SeqAt.eqv_refl _ (run_ok _ _ _).1];rfl
 ·rintro τ μ' ⟨o3,o4,o5,rfl,_⟩
  exact⟨_,Sub.refl,q _⟩
def spLaw(K:PySem.W.Frag):Sp:=fun vs H Q _=>∃(a:Addr) (ns:List Int),vs=[.ref a]/\SqL K H a (ns.map V.int)/\Only H/\ns.length<=63/\∀H',Q (.bl true) H'
theorem dk_ints{H:Hp}:∀(ns:List Int),DkAll K H (ns.map .int) (ns.map V.int)
 | []=>dks_nil
 | n :: ns=>dks_cons dk_int (dk_ints ns)
theorem ok_law{n:Nat}(F:Fun K "law" "law" sLaw f fd) (cPo:VCal P w K mg base n "_law_pot" ["_law_script","_law_base"] spPo) (cPr:VCal P w K mg base n "_law_program" ["_law_pot_here"] spPr) (cDr:VCal P w K mg base n "_law_draw" ["_law_pot_here","_law_many"] spDr)
  (cPl:VCal P w K mg base n "_law_play" ["_law_program_here","_law_choices","_law_most"] spPl) (cRp:VCal P w K mg base n "run_program" ["program","choices","most"] spRp) (m_range:mg "range" = none) (m_tuple:mg "tuple" = none):FnOk P w K mg base CX0 (n+1) f fd ["_law_script"] (spLaw K):=by
 refine(ok_lawV F cPo cPr cDr cPl cRp m_range m_tuple).imp ?_
 rintro vs H Q E ⟨a,ns,rfl,hS,hO,hl,q⟩
 refine⟨[.D (scrD ns)],fun _=>none,fun v _=>v=.D (.bool true),rfl,.cons ?_ .nil,(fun _ _ z=>nomatch z),⟨ns,rfl,hl,fun _=>rfl⟩,?_⟩
 ·refine dk_lst (xs:=ns.map V.int) ?_ (dk_ints ns)
  rcases hS with(h | h) | h
  ·rcases hO a with z | ⟨o,xs,z⟩
   ·rw [z]at h;cases h
   ·rw [z]at h;cases h
  ·exact .inl h
  ·exact .inr h
 ·rintro x μ v H' _ _ rx rfl
  cases RelA.bl rx
  exact q _
end
theorem len_1{us:List Value}(h:us.length=1):∃a0,us=[a0]:=by
 obtain⟨a0,t,rfl,h2⟩:=len_succ h
 rw [List.eq_nil_of_length_eq_zero h2];exact⟨a0,rfl⟩
theorem len_2{us:List Value}(h:us.length=2):∃a0 a1,us=[a0,a1]:=by
 obtain⟨a0,t,rfl,h2⟩:=len_succ h
 obtain⟨a1,rfl⟩:=len_1 h2
 exact⟨a0,a1,rfl⟩
theorem len_3{us:List Value}(h:us.length=3):∃a0 a1 a2,us=[a0,a1,a2]:=by
 obtain⟨a0,t,rfl,h2⟩:=len_succ h
 obtain⟨a1,a2,rfl⟩:=len_2 h2
 exact⟨a0,a1,a2,rfl⟩
theorem len_4{us:List Value}(h:us.length=4):∃a0 a1 a2 a3,us=[a0,a1,a2,a3]:=by
 obtain⟨a0,t,rfl,h2⟩:=len_succ h
 obtain⟨a1,a2,a3,rfl⟩:=len_3 h2
 exact⟨a0,a1,a2,a3,rfl⟩
theorem len_5{us:List Value}(h:us.length=5):∃a0 a1 a2 a3 a4,us=[a0,a1,a2,a3,a4]:=by
 obtain⟨a0,t,rfl,h2⟩:=len_succ h
 obtain⟨a1,a2,a3,a4,rfl⟩:=len_4 h2
 exact⟨a0,a1,a2,a3,a4,rfl⟩
theorem all_mk{l:PySem.W.OpenLaw}{w:World}{K:PySem.W.Frag}{h:Heap}{mg:Str->Option Value}{fa f1 f2 f3 f4 f5 f6 f7 f8 f9 f10 f11 f12 f13 f14 f15 f16 f17 f18 f19 f20 f21 f22 f23:Addr}(X:K.In h)(G:h.Ns mainGlobals mg)(hfa:mg "law" = some (.ref fa))
  {od1 an1 od2 an2 od3 an3 od4 an4 od5 an5 od6 an6 od7 an7 od8 an8 od9 an9 od10 an10 od11 an11 od12 an12 od13 an13 od14 an14 od15 an15 od16 an16 od17 an17 od18 an18 od19 an19 od20 an20 od21 an21 od22 an22 od23 an23:Option Addr} {sl1 sl2 sl3 sl4 sl5 sl6 sl7 sl8 sl9 sl10 sl11 sl12 sl13 sl14 sl15 sl16 sl17 sl18 sl19 sl20 sl21 sl22 sl23:Array (Option Value)} {oc1 kV1 dc1 pm1 cd1 ct1 oc2 kV2 dc2 pm2 cd2 ct2 oc3 kV3 dc3 pm3 cd3 ct3 oc4 kV4 dc4 pm4 cd4 ct4 oc5 kV5 dc5 pm5 cd5 ct5 oc6 kV6 dc6 pm6 cd6 ct6 oc7 kV7 dc7 pm7 cd7 ct7 oc8 kV8 dc8 pm8 cd8 ct8 oc9 kV9 dc9 pm9 cd9 ct9 oc10 kV10 dc10 pm10 cd10 ct10 oc11 kV11 dc11 pm11 cd11 ct11 oc12 kV12 dc12 pm12 cd12 ct12 oc13 kV13 dc13 pm13 cd13 ct13 oc14 kV14 dc14 pm14 cd14 ct14 oc15 kV15 dc15 pm15 cd15 ct15 oc16 kV16 dc16 pm16 cd16 ct16 oc17 kV17 dc17 pm17 cd17 ct17 oc18 kV18 dc18 pm18 cd18 ct18 oc19 kV19 dc19 pm19 cd19 ct19 oc20 kV20 dc20 pm20 cd20 ct20 oc21 kV21 dc21 pm21 cd21 ct21 oc22 kV22 dc22 pm22 cd22 ct22 oc23 kV23 dc23 pm23 cd23 ct23:Value}
  {pla cw pa0 pa1 pa2 pa3:Addr} {kdw kd0 kd1 kd2 kd3 kd4:Option Addr} {knw kn0 kn1 kn2 kn3 kn4:Nat} {ksw ks0 ks1 ks2 ks3 ks4:Array (Option Value)} {tw1 tw2 t1 t2 t3 q0 r0 q1 r1 q2 r2 q3 r3:Tok}
  (a1:PySem.W.nsIn K mainGlobals "word_at" = some (some (.ref f1)))
  (l1:K.lookup f1=some ⟨oc1,od1,.func (PySem.W.fnOf "word_at" "word_at" (defArgs sWo) (defBody sWo) (defScope sWo) .none kV1 dc1 pm1 an1 cd1 ct1),sl1⟩)
  (c_1:PySem.W.codeIn K cd1 "word_at" = true)
  (k1:PySem.W.keepIn K (.ref f1)=true)
  (a2:PySem.W.nsIn K mainGlobals "goings_on" = some (some (.ref f2)))
  (l2:K.lookup f2=some ⟨oc2,od2,.func (PySem.W.fnOf "goings_on" "goings_on" (defArgs sGo) (defBody sGo) (defScope sGo) .none kV2 dc2 pm2 an2 cd2 ct2),sl2⟩)
  (c_2:PySem.W.codeIn K cd2 "goings_on" = true)
  (k2:PySem.W.keepIn K (.ref f2)=true)
  (a3:PySem.W.nsIn K mainGlobals "run_program" = some (some (.ref f3)))
  (l3:K.lookup f3=some ⟨oc3,od3,.func (PySem.W.fnOf "run_program" "run_program" (defArgs sRp) (defBody sRp) (defScope sRp) .none kV3 dc3 pm3 an3 cd3 ct3),sl3⟩)
  (c_3:PySem.W.codeIn K cd3 "run_program" = true)
  (k3:PySem.W.keepIn K (.ref f3)=true)
  (a4:PySem.W.nsIn K mainGlobals "without_ends" = some (some (.ref f4)))
  (l4:K.lookup f4=some ⟨oc4,od4,.func (PySem.W.fnOf "without_ends" "without_ends" (defArgs sWe) (defBody sWe) (defScope sWe) .none kV4 dc4 pm4 an4 cd4 ct4),sl4⟩)
  (c_4:PySem.W.codeIn K cd4 "without_ends" = true)
  (k4:PySem.W.keepIn K (.ref f4)=true)
  (a5:PySem.W.nsIn K mainGlobals "game_of" = some (some (.ref f5)))
  (l5:K.lookup f5=some ⟨oc5,od5,.func (PySem.W.fnOf "game_of" "game_of" (defArgs sGf) (defBody sGf) (defScope sGf) .none kV5 dc5 pm5 an5 cd5 ct5),sl5⟩)
  (c_5:PySem.W.codeIn K cd5 "game_of" = true)
  (k5:PySem.W.keepIn K (.ref f5)=true)
  (a6:PySem.W.nsIn K mainGlobals "saying_of" = some (some (.ref f6)))
  (l6:K.lookup f6=some ⟨oc6,od6,.func (PySem.W.fnOf "saying_of" "saying_of" (defArgs sSf) (defBody sSf) (defScope sSf) .none kV6 dc6 pm6 an6 cd6 ct6),sl6⟩)
  (c_6:PySem.W.codeIn K cd6 "saying_of" = true)
  (k6:PySem.W.keepIn K (.ref f6)=true)
  (a7:PySem.W.nsIn K mainGlobals "begin_of" = some (some (.ref f7)))
  (l7:K.lookup f7=some ⟨oc7,od7,.func (PySem.W.fnOf "begin_of" "begin_of" (defArgs sBf) (defBody sBf) (defScope sBf) .none kV7 dc7 pm7 an7 cd7 ct7),sl7⟩)
  (c_7:PySem.W.codeIn K cd7 "begin_of" = true)
  (k7:PySem.W.keepIn K (.ref f7)=true)
  (a8:PySem.W.nsIn K mainGlobals "all_points" = some (some (.ref f8)))
  (l8:K.lookup f8=some ⟨oc8,od8,.func (PySem.W.fnOf "all_points" "all_points" (defArgs sAp) (defBody sAp) (defScope sAp) .none kV8 dc8 pm8 an8 cd8 ct8),sl8⟩)
  (c_8:PySem.W.codeIn K cd8 "all_points" = true)
  (k8:PySem.W.keepIn K (.ref f8)=true)
  (a9:PySem.W.nsIn K mainGlobals "own_hand" = some (some (.ref f9)))
  (l9:K.lookup f9=some ⟨oc9,od9,.func (PySem.W.fnOf "own_hand" "own_hand" (defArgs sOh) (defBody sOh) (defScope sOh) .none kV9 dc9 pm9 an9 cd9 ct9),sl9⟩)
  (c_9:PySem.W.codeIn K cd9 "own_hand" = true)
  (k9:PySem.W.keepIn K (.ref f9)=true)
  (a10:PySem.W.nsIn K mainGlobals "own_place" = some (some (.ref f10)))
  (l10:K.lookup f10=some ⟨oc10,od10,.func (PySem.W.fnOf "own_place" "own_place" (defArgs sOp) (defBody sOp) (defScope sOp) .none kV10 dc10 pm10 an10 cd10 ct10),sl10⟩)
  (c_10:PySem.W.codeIn K cd10 "own_place" = true)
  (k10:PySem.W.keepIn K (.ref f10)=true)
  (a11:PySem.W.nsIn K mainGlobals "place_of" = some (some (.ref f11)))
  (l11:K.lookup f11=some ⟨oc11,od11,.func (PySem.W.fnOf "place_of" "place_of" (defArgs sPf) (defBody sPf) (defScope sPf) .none kV11 dc11 pm11 an11 cd11 ct11),sl11⟩)
  (c_11:PySem.W.codeIn K cd11 "place_of" = true)
  (k11:PySem.W.keepIn K (.ref f11)=true)
  (a12:PySem.W.nsIn K mainGlobals "crossing_rule" = some (some (.ref f12)))
  (l12:K.lookup f12=some ⟨oc12,od12,.func (PySem.W.fnOf "crossing_rule" "crossing_rule" (defArgs sCr) (defBody sCr) (defScope sCr) .none kV12 dc12 pm12 an12 cd12 ct12),sl12⟩)
  (c_12:PySem.W.codeIn K cd12 "crossing_rule" = true)
  (k12:PySem.W.keepIn K (.ref f12)=true)
  (a13:PySem.W.nsIn K mainGlobals "own_rules" = some (some (.ref f13)))
  (l13:K.lookup f13=some ⟨oc13,od13,.func (PySem.W.fnOf "own_rules" "own_rules" (defArgs sOr) (defBody sOr) (defScope sOr) .none kV13 dc13 pm13 an13 cd13 ct13),sl13⟩)
  (c_13:PySem.W.codeIn K cd13 "own_rules" = true)
  (k13:PySem.W.keepIn K (.ref f13)=true)
  (a14:PySem.W.nsIn K mainGlobals "reads" = some (some (.ref f14)))
  (l14:K.lookup f14=some ⟨oc14,od14,.func (PySem.W.fnOf "reads" "reads" (defArgs sRe) (defBody sRe) (defScope sRe) .none kV14 dc14 pm14 an14 cd14 ct14),sl14⟩)
  (c_14:PySem.W.codeIn K cd14 "reads" = true)
  (k14:PySem.W.keepIn K (.ref f14)=true)
  (a15:PySem.W.nsIn K mainGlobals "reading_with" = some (some (.ref f15)))
  (l15:K.lookup f15=some ⟨oc15,od15,.func (PySem.W.fnOf "reading_with" "reading_with" (defArgs sRw) (defBody sRw) (defScope sRw) .none kV15 dc15 pm15 an15 cd15 ct15),sl15⟩)
  (c_15:PySem.W.codeIn K cd15 "reading_with" = true)
  (k15:PySem.W.keepIn K (.ref f15)=true)
  (a16:PySem.W.nsIn K mainGlobals "is_in" = some (some (.ref f16)))
  (l16:K.lookup f16=some ⟨oc16,od16,.func (PySem.W.fnOf "is_in" "is_in" (defArgs sIi) (defBody sIi) (defScope sIi) .none kV16 dc16 pm16 an16 cd16 ct16),sl16⟩)
  (c_16:PySem.W.codeIn K cd16 "is_in" = true)
  (k16:PySem.W.keepIn K (.ref f16)=true)
  (a17:PySem.W.nsIn K mainGlobals "_law_pot" = some (some (.ref f17)))
  (l17:K.lookup f17=some ⟨oc17,od17,.func (PySem.W.fnOf "_law_pot" "_law_pot" (defArgs sPo) (defBody sPo) (defScope sPo) .none kV17 dc17 pm17 an17 cd17 ct17),sl17⟩)
  (c_17:PySem.W.codeIn K cd17 "_law_pot" = true)
  (k17:PySem.W.keepIn K (.ref f17)=true)
  (a18:PySem.W.nsIn K mainGlobals "_law_draw" = some (some (.ref f18)))
  (l18:K.lookup f18=some ⟨oc18,od18,.func (PySem.W.fnOf "_law_draw" "_law_draw" (defArgs sDr) (defBody sDr) (defScope sDr) .none kV18 dc18 pm18 an18 cd18 ct18),sl18⟩)
  (c_18:PySem.W.codeIn K cd18 "_law_draw" = true)
  (k18:PySem.W.keepIn K (.ref f18)=true)
  (a19:PySem.W.nsIn K mainGlobals "_law_program" = some (some (.ref f19)))
  (l19:K.lookup f19=some ⟨oc19,od19,.func (PySem.W.fnOf "_law_program" "_law_program" (defArgs sPr) (defBody sPr) (defScope sPr) .none kV19 dc19 pm19 an19 cd19 ct19),sl19⟩)
  (c_19:PySem.W.codeIn K cd19 "_law_program" = true)
  (k19:PySem.W.keepIn K (.ref f19)=true)
  (a20:PySem.W.nsIn K mainGlobals "_law_steps" = some (some (.ref f20)))
  (l20:K.lookup f20=some ⟨oc20,od20,.func (PySem.W.fnOf "_law_steps" "_law_steps" (defArgs sSq) (defBody sSq) (defScope sSq) .none kV20 dc20 pm20 an20 cd20 ct20),sl20⟩)
  (c_20:PySem.W.codeIn K cd20 "_law_steps" = true)
  (k20:PySem.W.keepIn K (.ref f20)=true)
  (a21:PySem.W.nsIn K mainGlobals "_law_rule" = some (some (.ref f21)))
  (l21:K.lookup f21=some ⟨oc21,od21,.func (PySem.W.fnOf "_law_rule" "_law_rule" (defArgs sLr) (defBody sLr) (defScope sLr) .none kV21 dc21 pm21 an21 cd21 ct21),sl21⟩)
  (c_21:PySem.W.codeIn K cd21 "_law_rule" = true)
  (k21:PySem.W.keepIn K (.ref f21)=true)
  (a22:PySem.W.nsIn K mainGlobals "_law_play" = some (some (.ref f22)))
  (l22:K.lookup f22=some ⟨oc22,od22,.func (PySem.W.fnOf "_law_play" "_law_play" (defArgs sPl) (defBody sPl) (defScope sPl) .none kV22 dc22 pm22 an22 cd22 ct22),sl22⟩)
  (c_22:PySem.W.codeIn K cd22 "_law_play" = true)
  (k22:PySem.W.keepIn K (.ref f22)=true)
  (a23:PySem.W.nsIn K mainGlobals "law" = some (some (.ref f23)))
  (l23:K.lookup f23=some ⟨oc23,od23,.func (PySem.W.fnOf "law" "law" (defArgs sLaw) (defBody sLaw) (defScope sLaw) .none kV23 dc23 pm23 an23 cd23 ct23),sl23⟩)
  (c_23:PySem.W.codeIn K cd23 "law" = true)
  (k23:PySem.W.keepIn K (.ref f23)=true)
  (z_len:PySem.W.nsIn K mainGlobals "len" = some none)
  (z_range:PySem.W.nsIn K mainGlobals "range" = some none)
  (z_tuple:PySem.W.nsIn K mainGlobals "tuple" = some none)
  (z_sorted:PySem.W.nsIn K mainGlobals "sorted" = some none)
  (z_set:PySem.W.nsIn K mainGlobals "set" = some none)
  (z_enumerate:PySem.W.nsIn K mainGlobals "enumerate" = some none)
  (z_reversed:PySem.W.nsIn K mainGlobals "reversed" = some none)
  (z_all:PySem.W.nsIn K mainGlobals "all" = some none)
  (z_int:PySem.W.nsIn K mainGlobals "int" = some none)
  (y1:PySem.W.nsIn K mainGlobals "OTHER_HAND" = some (some (.int 1 t1)))
  (y2:PySem.W.nsIn K mainGlobals "FIRST_HAND" = some (some (.int 0 t2)))
  (y3:PySem.W.nsIn K mainGlobals "SIGNS" = some (some (.str "abcdefghijklmnopqrstuvwxyz" t3)))
  (y4:PySem.W.nsIn K mainGlobals "PLACES" = some (some (.ref pla)))
  (y5:K.lookup pla=some ⟨.type "tuple",kd0,.seq #[.ref pa0,.ref pa1,.ref pa2,.ref pa3] kn0,ks0⟩)
  (w0:K.lookup pa0=some ⟨.type "tuple",kd1,.seq #[.str "offone" q0,.int 0 r0] kn1,ks1⟩)
  (w1:K.lookup pa1=some ⟨.type "tuple",kd2,.seq #[.str "offtwo" q1,.int 1 r1] kn2,ks2⟩)
  (w2:K.lookup pa2=some ⟨.type "tuple",kd3,.seq #[.str "onone" q2,.int 0 r2] kn3,ks3⟩)
  (w3:K.lookup pa3=some ⟨.type "tuple",kd4,.seq #[.str "ontwo" q3,.int 1 r3] kn4,ks4⟩)
  (v1:PySem.W.nsIn K mainGlobals "CHOOSING_WORDS" = some (some (.ref cw)))
  (v2:K.lookup cw=some ⟨.type "tuple",kdw,.seq #[.str "ask" tw1,.str "chance" tw2] knw,ksw⟩) :
  ∃fd:FuncData,(∀(s:Shared) (v:Value),BindsTo s fd ⟨[v],[]⟩ [("_law_script",v)])/\∀base:Heap,K.In base->base.Ns mainGlobals mg->FnOk l.prog w K mg base CX0 65 fa fd ["_law_script"] (spLaw K):=by
 have e:=hfa.symm.trans (PySem.W.mg_of X G a23)
 cases e
 have F1:=fun_mk (st:=sWo) l1 c_1 k1
 have F2:=fun_mk (st:=sGo) l2 c_2 k2
 have F3:=fun_mk (st:=sRp) l3 c_3 k3
 have F4:=fun_mk (st:=sWe) l4 c_4 k4
 have F5:=fun_mk (st:=sGf) l5 c_5 k5
 have F6:=fun_mk (st:=sSf) l6 c_6 k6
 have F7:=fun_mk (st:=sBf) l7 c_7 k7
 have F8:=fun_mk (st:=sAp) l8 c_8 k8
 have F9:=fun_mk (st:=sOh) l9 c_9 k9
 have F10:=fun_mk (st:=sOp) l10 c_10 k10
 have F11:=fun_mk (st:=sPf) l11 c_11 k11
 have F12:=fun_mk (st:=sCr) l12 c_12 k12
 have F13:=fun_mk (st:=sOr) l13 c_13 k13
 have F14:=fun_mk (st:=sRe) l14 c_14 k14
 have F15:=fun_mk (st:=sRw) l15 c_15 k15
 have F16:=fun_mk (st:=sIi) l16 c_16 k16
 have F17:=fun_mk (st:=sPo) l17 c_17 k17
 have F18:=fun_mk (st:=sDr) l18 c_18 k18
 have F19:=fun_mk (st:=sPr) l19 c_19 k19
 have F20:=fun_mk (st:=sSq) l20 c_20 k20
 have F21:=fun_mk (st:=sLr) l21 c_21 k21
 have F22:=fun_mk (st:=sPl) l22 c_22 k22
 have F23:=fun_mk (st:=sLaw) l23 c_23 k23
 have b1:=F1.binds (ps:=["program","point"]) fun _ _ _ _ _ _ us hl=>by obtain⟨a0,a1,rfl⟩:=len_2 hl;rfl
 have b2:=F2.binds (ps:=["program","answer","point"]) fun _ _ _ _ _ _ us hl=>by obtain⟨a0,a1,a2,rfl⟩:=len_3 hl;rfl
 have b3:=F3.binds (ps:=["program","choices","most"]) fun _ _ _ _ _ _ us hl=>by obtain⟨a0,a1,a2,rfl⟩:=len_3 hl;rfl
 have b4:=F4.binds (ps:=["program","pile"]) fun _ _ _ _ _ _ us hl=>by obtain⟨a0,a1,rfl⟩:=len_2 hl;rfl
 have b5:=F5.binds (ps:=["program"]) fun _ _ _ _ _ _ us hl=>by obtain⟨a0,rfl⟩:=len_1 hl;rfl
 have b6:=F6.binds (ps:=["program"]) fun _ _ _ _ _ _ us hl=>by obtain⟨a0,rfl⟩:=len_1 hl;rfl
 have b7:=F7.binds (ps:=["program"]) fun _ _ _ _ _ _ us hl=>by obtain⟨a0,rfl⟩:=len_1 hl;rfl
 have b8:=F8.binds (ps:=["program"]) fun _ _ _ _ _ _ us hl=>by obtain⟨a0,rfl⟩:=len_1 hl;rfl
 have b9:=F9.binds (ps:=["program","point"]) fun _ _ _ _ _ _ us hl=>by obtain⟨a0,a1,rfl⟩:=len_2 hl;rfl
 have b10:=F10.binds (ps:=["program","answer","point"]) fun _ _ _ _ _ _ us hl=>by obtain⟨a0,a1,a2,rfl⟩:=len_3 hl;rfl
 have b11:=F11.binds (ps:=["answer","hand"]) fun _ _ _ _ _ _ us hl=>by obtain⟨a0,a1,rfl⟩:=len_2 hl;rfl
 have b12:=F12.binds (ps:=["program","points","answer","point"]) fun _ _ _ _ _ _ us hl=>by obtain⟨a0,a1,a2,a3,rfl⟩:=len_4 hl;rfl
 have b13:=F13.binds (ps:=["program","points","answer","point"]) fun _ _ _ _ _ _ us hl=>by obtain⟨a0,a1,a2,a3,rfl⟩:=len_4 hl;rfl
 have b14:=F14.binds (ps:=["arrows","ends","stand","pile"]) fun _ _ _ _ _ _ us hl=>by obtain⟨a0,a1,a2,a3,rfl⟩:=len_4 hl;rfl
 have b15:=F15.binds (ps:=["arrows","reading","letter"]) fun _ _ _ _ _ _ us hl=>by obtain⟨a0,a1,a2,rfl⟩:=len_3 hl;rfl
 have b16:=F16.binds (ps:=["saying","place","pile"]) fun _ _ _ _ _ _ us hl=>by obtain⟨a0,a1,a2,rfl⟩:=len_3 hl;rfl
 have b17:=F17.binds (ps:=["_law_script","_law_base"]) fun _ _ _ _ _ _ us hl=>by obtain⟨a0,a1,rfl⟩:=len_2 hl;rfl
 have b18:=F18.binds (ps:=["_law_pot_here","_law_many"]) fun _ _ _ _ _ _ us hl=>by obtain⟨a0,a1,rfl⟩:=len_2 hl;rfl
 have b19:=F19.binds (ps:=["_law_pot_here"]) fun _ _ _ _ _ _ us hl=>by obtain⟨a0,rfl⟩:=len_1 hl;rfl
 have b20:=F20.binds (ps:=["_law_program_here"]) fun _ _ _ _ _ _ us hl=>by obtain⟨a0,rfl⟩:=len_1 hl;rfl
 have b21:=F21.binds (ps:=["_law_game","_law_steps_here","_law_place","_law_pile","_law_choice"]) fun _ _ _ _ _ _ us hl=>by obtain⟨a0,a1,a2,a3,a4,rfl⟩:=len_5 hl;rfl
 have b22:=F22.binds (ps:=["_law_program_here","_law_choices","_law_most"]) fun _ _ _ _ _ _ us hl=>by obtain⟨a0,a1,a2,rfl⟩:=len_3 hl;rfl
 have m_len:=PySem.W.mg_none_of X G z_len
 have m_range:=PySem.W.mg_none_of X G z_range
 have m_tuple:=PySem.W.mg_none_of X G z_tuple
 have m_sorted:=PySem.W.mg_none_of X G z_sorted
 have m_set:=PySem.W.mg_none_of X G z_set
 have m_enumerate:=PySem.W.mg_none_of X G z_enumerate
 have m_reversed:=PySem.W.mg_none_of X G z_reversed
 have m_all:=PySem.W.mg_none_of X G z_all
 have m_int:=PySem.W.mg_none_of X G z_int
 have mOH:=PySem.W.mg_of X G y1
 have mFH:=PySem.W.mg_of X G y2
 have mSG:mg "SIGNS" = some (.str sgs t3):=PySem.W.mg_of X G y3
 have mPL:=PySem.W.mg_of X G y4
 have d0:∀H,Dk K H (.tuple [.str "offone",.int 0]) (.ref pa0):=fun H=>dk_tupK (xs:=[.str "offone",.int 0]) rfl w0 rfl rfl (show 2<=sizeLine by decide) (.cons ⟨q0,rfl⟩ (.cons ⟨r0,rfl⟩ .nil)) (dks_cons dk_str (dks_cons dk_int dks_nil))
 have d1:∀H,Dk K H (.tuple [.str "offtwo",.int 1]) (.ref pa1):=fun H=>dk_tupK (xs:=[.str "offtwo",.int 1]) rfl w1 rfl rfl (show 2<=sizeLine by decide) (.cons ⟨q1,rfl⟩ (.cons ⟨r1,rfl⟩ .nil)) (dks_cons dk_str (dks_cons dk_int dks_nil))
 have d2:∀H,Dk K H (.tuple [.str "onone",.int 0]) (.ref pa2):=fun H=>dk_tupK (xs:=[.str "onone",.int 0]) rfl w2 rfl rfl (show 2<=sizeLine by decide) (.cons ⟨q2,rfl⟩ (.cons ⟨r2,rfl⟩ .nil)) (dks_cons dk_str (dks_cons dk_int dks_nil))
 have d3:∀H,Dk K H (.tuple [.str "ontwo",.int 1]) (.ref pa3):=fun H=>dk_tupK (xs:=[.str "ontwo",.int 1]) rfl w3 rfl rfl (show 2<=sizeLine by decide) (.cons ⟨q3,rfl⟩ (.cons ⟨r3,rfl⟩ .nil)) (dks_cons dk_str (dks_cons dk_int dks_nil))
 have hPL:∀H,Dk K H (.tuple plcs) (.ref pla):=fun H=>dk_tupK (xs:=[.ref pa0,.ref pa1,.ref pa2,.ref pa3]) rfl y5 rfl rfl (show 4<=sizeLine by decide) (.cons rfl (.cons rfl (.cons rfl (.cons rfl .nil)))) (dks_cons (d0 H) (dks_cons (d1 H) (dks_cons (d2 H) (dks_cons (d3 H) dks_nil))))
 have mCW:=PySem.W.mg_of X G v1
 have hCW:∀H,Dk K H (.tuple [.str "ask",.str "chance"]) (.ref cw):=fun H=>dk_tupK (xs:=[.str "ask",.str "chance"]) rfl v2 rfl rfl (show 2<=sizeLine by decide) (.cons ⟨tw1,rfl⟩ (.cons ⟨tw2,rfl⟩ .nil)) (dks_cons dk_str (dks_cons dk_str dks_nil))
 refine⟨PySem.W.fnOf "law" "law" (defArgs sLaw) (defBody sLaw) (defScope sLaw) .none kV23 dc23 pm23 an23 cd23 ct23,fun s v=>.of_eq rfl,fun base _ _=>?_⟩
 have g1:=ok_wo (P:=l.prog) (w:=w) (mg:=mg) (base:=base) (n:=0) F1 m_len
 have q1:VCal l.prog w K mg base 1 "word_at" ["program","point"] _:=⟨_,_,g1,b1,k1,PySem.W.mg_of X G a1⟩
 have g2:=ok_go (P:=l.prog) (w:=w) (mg:=mg) (base:=base) (n:=1) F2 (q1.mono (by decide))
 have q2:VCal l.prog w K mg base 2 "goings_on" ["program","answer","point"] _:=⟨_,_,g2,b2,k2,PySem.W.mg_of X G a2⟩
 have g4:=ok_we (P:=l.prog) (w:=w) (mg:=mg) (base:=base) (n:=1) F4 (q1.mono (by decide)) m_len
 have q4:VCal l.prog w K mg base 2 "without_ends" ["program","pile"] _:=⟨_,_,g4,b4,k4,PySem.W.mg_of X G a4⟩
 have g3:=ok_rp (P:=l.prog) (w:=w) (mg:=mg) (base:=base) (n:=2) F3 (q4.mono (by decide)) (q1.mono (by decide)) (q2.mono (by decide)) m_len mCW hCW
 have q3:VCal l.prog w K mg base 3 "run_program" ["program","choices","most"] _:=⟨_,_,g3,b3,k3,PySem.W.mg_of X G a3⟩
 have g8:=ok_ap (P:=l.prog) (w:=w) (mg:=mg) (base:=base) (n:=0) F8 m_enumerate m_range m_len
 have q8:VCal l.prog w K mg base 1 "all_points" ["program"] _:=⟨_,_,g8,b8,k8,PySem.W.mg_of X G a8⟩
 have g9:=ok_oh (P:=l.prog) (w:=w) (mg:=mg) (base:=base) (n:=1) F9 (q1.mono (by decide)) mOH mFH
 have q9:VCal l.prog w K mg base 2 "own_hand" ["program","point"] _:=⟨_,_,g9,b9,k9,PySem.W.mg_of X G a9⟩
 have g11:=ok_pf (P:=l.prog) (w:=w) (mg:=mg) (base:=base) (n:=0) F11
 have q11:VCal l.prog w K mg base 1 "place_of" ["answer","hand"] _:=⟨_,_,g11,b11,k11,PySem.W.mg_of X G a11⟩
 have g12:=ok_cr (P:=l.prog) (w:=w) (mg:=mg) (base:=base) (n:=2) F12 (q9.mono (by decide)) (q11.mono (by decide))
 have q12:VCal l.prog w K mg base 3 "crossing_rule" ["program","points","answer","point"] _:=⟨_,_,g12,b12,k12,PySem.W.mg_of X G a12⟩
 have g10:=ok_op (P:=l.prog) (w:=w) (mg:=mg) (base:=base) (n:=2) F10 (q9.mono (by decide)) (q11.mono (by decide))
 have q10:VCal l.prog w K mg base 3 "own_place" ["program","answer","point"] _:=⟨_,_,g10,b10,k10,PySem.W.mg_of X G a10⟩
 have g13:=ok_or (P:=l.prog) (w:=w) (mg:=mg) (base:=base) (n:=3) F13 (q2.mono (by decide)) (q10.mono (by decide)) (q11.mono (by decide)) m_len m_tuple mFH
 have q13:VCal l.prog w K mg base 4 "own_rules" ["program","points","answer","point"] _:=⟨_,_,g13,b13,k13,PySem.W.mg_of X G a13⟩
 have g5:=ok_gf (P:=l.prog) (w:=w) (mg:=mg) (base:=base) (n:=4) F5 (q8.mono (by decide)) (q12.mono (by decide)) (q13.mono (by decide)) m_range m_tuple m_sorted m_set mPL hPL mSG
 have q5:VCal l.prog w K mg base 5 "game_of" ["program"] _:=⟨_,_,g5,b5,k5,PySem.W.mg_of X G a5⟩
 have g6:=ok_sf (P:=l.prog) (w:=w) (mg:=mg) (base:=base) (n:=3) F6 (q8.mono (by decide)) (q10.mono (by decide)) (q1.mono (by decide)) m_range m_enumerate m_tuple
 have q6:VCal l.prog w K mg base 4 "saying_of" ["program"] _:=⟨_,_,g6,b6,k6,PySem.W.mg_of X G a6⟩
 have g7:=ok_bf (P:=l.prog) (w:=w) (mg:=mg) (base:=base) (n:=3) F7 (q10.mono (by decide))
 have q7:VCal l.prog w K mg base 4 "begin_of" ["program"] _:=⟨_,_,g7,b7,k7,PySem.W.mg_of X G a7⟩
 have g15:=ok_rw (P:=l.prog) (w:=w) (mg:=mg) (base:=base) (n:=0) F15 m_all
 have q15:VCal l.prog w K mg base 1 "reading_with" ["arrows","reading","letter"] _:=⟨_,_,g15,b15,k15,PySem.W.mg_of X G a15⟩
 have g14:=ok_re (P:=l.prog) (w:=w) (mg:=mg) (base:=base) (n:=1) F14 (q15.mono (by decide)) m_reversed
 have q14:VCal l.prog w K mg base 2 "reads" ["arrows","ends","stand","pile"] _:=⟨_,_,g14,b14,k14,PySem.W.mg_of X G a14⟩
 have g16:=ok_ii (P:=l.prog) (w:=w) (mg:=mg) (base:=base) (n:=2) F16 (q14.mono (by decide))
 have q16:VCal l.prog w K mg base 3 "is_in" ["saying","place","pile"] _:=⟨_,_,g16,b16,k16,PySem.W.mg_of X G a16⟩
 have g17:=ok_po (P:=l.prog) (w:=w) (mg:=mg) (base:=base) (n:=0) F17
 have q17:VCal l.prog w K mg base 1 "_law_pot" ["_law_script","_law_base"] _:=⟨_,_,g17,b17,k17,PySem.W.mg_of X G a17⟩
 have g18:=ok_dr (P:=l.prog) (w:=w) (mg:=mg) (base:=base) (n:=0) F18 m_len
 have q18:VCal l.prog w K mg base 1 "_law_draw" ["_law_pot_here","_law_many"] _:=⟨_,_,g18,b18,k18,PySem.W.mg_of X G a18⟩
 have g19:=ok_pr (P:=l.prog) (w:=w) (mg:=mg) (base:=base) (n:=1) F19 (q18.mono (by decide)) m_range m_len m_tuple
 have q19:VCal l.prog w K mg base 2 "_law_program" ["_law_pot_here"] _:=⟨_,_,g19,b19,k19,PySem.W.mg_of X G a19⟩
 have g20:=ok_sq (P:=l.prog) (w:=w) (mg:=mg) (base:=base) (n:=0) F20 m_len
 have q20:VCal l.prog w K mg base 1 "_law_steps" ["_law_program_here"] _:=⟨_,_,g20,b20,k20,PySem.W.mg_of X G a20⟩
 have g21:=ok_lr (P:=l.prog) (w:=w) (mg:=mg) (base:=base) (n:=0) F21 m_len
 have q21:VCal l.prog w K mg base 1 "_law_rule" ["_law_game","_law_steps_here","_law_place","_law_pile","_law_choice"] _:=⟨_,_,g21,b21,k21,PySem.W.mg_of X G a21⟩
 have g22:=ok_pl (P:=l.prog) (w:=w) (mg:=mg) (base:=base) (n:=5) F22 (q5.mono (by decide)) (q6.mono (by decide)) (q20.mono (by decide)) (q7.mono (by decide)) (q16.mono (by decide)) (q21.mono (by decide)) m_range m_len m_int
 have q22:VCal l.prog w K mg base 6 "_law_play" ["_law_program_here","_law_choices","_law_most"] _:=⟨_,_,g22,b22,k22,PySem.W.mg_of X G a22⟩
 have g23:=ok_law (P:=l.prog) (w:=w) (mg:=mg) (base:=base) (n:=6) F23 (q17.mono (by decide)) (q19.mono (by decide)) (q18.mono (by decide)) (q22.mono (by decide)) (q3.mono (by decide)) m_range m_tuple
 exact g23.mono (by decide)
theorem walk{l:PySem.W.OpenLaw}{q:Program}{loose:List Str}{XP:(Str->Option Value)->Heap->Prop}{YP:World->Heap->Prop}{d:DefRec}{K:Params->PySem.W.Frag}(hn:l.most=some 63)(hdf:d.params.defaults=[])
  (hY:∀(w:World) (h:Heap),YP w h->(K w.params).In h)
  (F:∀(w:World) (mg:Str->Option Value) (fa:Addr) (h:Heap),(K w.params).In h->h.Ns mainGlobals mg->mg d.name=some (.ref fa) ->
   ∃fd:FuncData,(∀(s:Shared) (u:Value),BindsTo s fd ⟨[u],[]⟩ [("_law_script",u)])/\∀base:Heap,(K w.params).In base->base.Ns mainGlobals mg->FnOk l.prog w (K w.params) mg base CX0 65 fa fd ["_law_script"] (spLaw (K w.params))) :
  PySem.W.WalkO q loose XP YP l.row.toRowW d [] (fun f vs=>PySem.call f vs) :=
 L2.walk_of (n:=63) (k:=65) (x := "_law_script") (CX:=fun _=>CX0) (sp:=fun w=>spLaw (K w.params)) hn (by decide) hdf ⟨rfl,by decide,by decide,rfl⟩ hY F (fun _ _ a ns hl hO hS=>⟨a,ns,rfl,hS,hO,hl,fun _=>rfl⟩) fun _ _ _ _ _ z=>z
end K55
theorem PySem.W.Fast.tw11895791801148734523:True:=trivial
theorem PySem.W.Fast.tw10984281523716472731:True:=trivial
theorem PySem.W.Fast.tw16287022549192801686:True:=trivial
theorem PySem.W.Fast.tw14210957915400644631:True:=trivial
theorem PySem.W.Fast.tw15301844070822700850:True:=trivial
theorem PySem.W.Fast.tw11631454445793176914:True:=trivial
theorem PySem.W.Fast.tw5909327423521017026:True:=trivial
theorem PySem.W.Fast.tw17666245851882786571:True:=trivial
theorem PySem.W.Fast.tw3090904871381736904:True:=trivial
theorem PySem.W.Fast.tw10635272073545511387:True:=trivial
theorem PySem.W.Fast.tw12461317449834442738:True:=trivial
theorem PySem.W.Fast.tw585542752278621099:True:=trivial
theorem PySem.W.Fast.tw4380490112134505739:True:=trivial
theorem PySem.W.Fast.tw15558376850436367203:True:=trivial
theorem PySem.W.Fast.tw16499424789780290374:True:=trivial
theorem PySem.W.Fast.tw980196699127090447:True:=trivial
theorem PySem.W.Fast.tw1594252148315277205:True:=trivial
theorem PySem.W.Fast.tw8907826620043668078:True:=trivial
theorem PySem.W.Fast.tw7468830577526048716:True:=trivial
theorem PySem.W.Fast.tw15935521135329675170:True:=trivial
theorem PySem.W.Fast.tw16260913743568565321:True:=trivial
theorem PySem.W.Fast.tw16318674873958266657:True:=trivial
theorem PySem.W.Fast.tw12522192013281429596:True:=trivial
theorem PySem.W.Fast.tw13100337368975994875:True:=trivial
theorem PySem.W.Fast.tw1474029286445005646:True:=trivial
theorem PySem.W.Fast.tw7925823355431779767:True:=trivial
theorem PySem.W.Fast.tw11917174309132795208:True:=trivial
theorem PySem.W.Fast.tw3496562922298890980:True:=trivial
theorem PySem.W.Fast.tw334498882789332114:True:=trivial
theorem PySem.W.Fast.tw15910996733881138302:True:=trivial
theorem PySem.W.Fast.tw1443715585956731677:True:=trivial
theorem PySem.W.Fast.tw7870612205507974155:True:=trivial
theorem PySem.W.Fast.tw5032441153954296972:True:=trivial
theorem PySem.W.Fast.tw5212769740942632894:True:=trivial
theorem PySem.W.Fast.tw9206689135918360409:True:=trivial
theorem PySem.W.Fast.tw8143810179054256082:True:=trivial
theorem PySem.W.Fast.tw11651780054878411158:True:=trivial
theorem PySem.W.Fast.tw14729300881357184390:True:=trivial
theorem PySem.W.Fast.tw5862112080351959183:True:=trivial
theorem PySem.W.Fast.tw7726998277927376661:True:=trivial
theorem PySem.W.Fast.tw2926431067859240185:True:=trivial
theorem PySem.W.Fast.tw52348355491650752:True:=trivial
theorem PySem.W.Fast.tw8249373330085576830:True:=trivial
theorem PySem.W.Fast.tw12532706870868995635:True:=trivial
theorem PySem.W.Fast.tw14662206943689598721:True:=trivial
theorem PySem.W.Fast.tw10545217226812428157:True:=trivial
theorem PySem.W.Fast.tw14983327607464744935:True:=trivial
theorem PySem.W.Fast.tw16543457879657148269:True:=trivial
theorem PySem.W.Fast.tw11551829830536850107:True:=trivial
theorem PySem.W.Fast.tw5919893684789532671:True:=trivial
theorem PySem.W.Fast.tw17577435903709063389:True:=trivial
theorem PySem.W.Fast.tw13414330235321036984:True:=trivial
theorem PySem.W.Fast.tw6679175525743636915:True:=trivial
theorem PySem.W.Fast.tw2161840381528978500:True:=trivial
theorem PySem.W.Fast.tw15775345212923252691:True:=trivial
theorem PySem.W.Fast.tw193275107006545037:True:=trivial
theorem PySem.W.Fast.tw4566762437338356726:True:=trivial
theorem PySem.W.Fast.tw10186307253745738069:True:=trivial
open PySem PySem.W PyProof.Rows
set_option maxRecDepth 100000 in
set_option maxHeartbeats 0 in
theorem PySem.Challenge.cw_pileduel_k55_whole_runs_are_plays_holds : PySem.Challenge.rw_pileduel_k55_whole_runs_are_plays.Holds := by
 w_on;o_law;k_head;(case hw=>w_witness2)
 k_fill
 refine K55.walk (l:=PySem.Challenge.rw_pileduel_k55_whole_runs_are_plays) rfl rfl (fun w h Y=>PySem.W.kIn_of Y) ?F
 case F =>
  intro w mg fa h KX G hmg
  refine' K55.all_mk KX G hmg ?a1 ?l1 ?c_1 ?k1 ?a2 ?l2 ?c_2 ?k2 ?a3 ?l3 ?c_3 ?k3 ?a4 ?l4 ?c_4 ?k4 ?a5 ?l5 ?c_5 ?k5 ?a6 ?l6 ?c_6 ?k6 ?a7 ?l7 ?c_7 ?k7 ?a8 ?l8 ?c_8 ?k8 ?a9 ?l9 ?c_9 ?k9 ?a10 ?l10 ?c_10 ?k10 ?a11 ?l11 ?c_11 ?k11 ?a12 ?l12 ?c_12 ?k12 ?a13 ?l13 ?c_13 ?k13 ?a14 ?l14 ?c_14 ?k14 ?a15 ?l15 ?c_15 ?k15 ?a16 ?l16 ?c_16 ?k16 ?a17 ?l17 ?c_17 ?k17 ?a18 ?l18 ?c_18 ?k18 ?a19 ?l19 ?c_19 ?k19 ?a20 ?l20 ?c_20 ?k20 ?a21 ?l21 ?c_21 ?k21 ?a22 ?l22 ?c_22 ?k22 ?a23 ?l23 ?c_23 ?k23 ?z_len ?z_range ?z_tuple ?z_sorted ?z_set ?z_enumerate ?z_reversed ?z_all ?z_int ?y1 ?y2 ?y3 ?y4 ?y5 ?w0 ?w1 ?w2 ?w3 ?v1 ?v2
  (case a1=>k_is)
  (case l1=>k_is)
  (case c_1=>k_is)
  (case k1=>k_is)
  (case a2=>k_is)
  (case l2=>k_is)
  (case c_2=>k_is)
  (case k2=>k_is)
  (case a3=>k_is)
  (case l3=>k_is)
  (case c_3=>k_is)
  (case k3=>k_is)
  (case a4=>k_is)
  (case l4=>k_is)
  (case c_4=>k_is)
  (case k4=>k_is)
  (case a5=>k_is)
  (case l5=>k_is)
  (case c_5=>k_is)
  (case k5=>k_is)
  (case a6=>k_is)
  (case l6=>k_is)
  (case c_6=>k_is)
  (case k6=>k_is)
  (case a7=>k_is)
  (case l7=>k_is)
  (case c_7=>k_is)
  (case k7=>k_is)
  (case a8=>k_is)
  (case l8=>k_is)
  (case c_8=>k_is)
  (case k8=>k_is)
  (case a9=>k_is)
  (case l9=>k_is)
  (case c_9=>k_is)
  (case k9=>k_is)
  (case a10=>k_is)
  (case l10=>k_is)
  (case c_10=>k_is)
  (case k10=>k_is)
  (case a11=>k_is)
  (case l11=>k_is)
  (case c_11=>k_is)
  (case k11=>k_is)
  (case a12=>k_is)
  (case l12=>k_is)
  (case c_12=>k_is)
  (case k12=>k_is)
  (case a13=>k_is)
  (case l13=>k_is)
  (case c_13=>k_is)
  (case k13=>k_is)
  (case a14=>k_is)
  (case l14=>k_is)
  (case c_14=>k_is)
  (case k14=>k_is)
  (case a15=>k_is)
  (case l15=>k_is)
  (case c_15=>k_is)
  (case k15=>k_is)
  (case a16=>k_is)
  (case l16=>k_is)
  (case c_16=>k_is)
  (case k16=>k_is)
  (case a17=>k_is)
  (case l17=>k_is)
  (case c_17=>k_is)
  (case k17=>k_is)
  (case a18=>k_is)
  (case l18=>k_is)
  (case c_18=>k_is)
  (case k18=>k_is)
  (case a19=>k_is)
  (case l19=>k_is)
  (case c_19=>k_is)
  (case k19=>k_is)
  (case a20=>k_is)
  (case l20=>k_is)
  (case c_20=>k_is)
  (case k20=>k_is)
  (case a21=>k_is)
  (case l21=>k_is)
  (case c_21=>k_is)
  (case k21=>k_is)
  (case a22=>k_is)
  (case l22=>k_is)
  (case c_22=>k_is)
  (case k22=>k_is)
  (case a23=>k_is)
  (case l23=>k_is)
  (case c_23=>k_is)
  (case k23=>k_is)
  (case z_len=>k_is)
  (case z_range=>k_is)
  (case z_tuple=>k_is)
  (case z_sorted=>k_is)
  (case z_set=>k_is)
  (case z_enumerate=>k_is)
  (case z_reversed=>k_is)
  (case z_all=>k_is)
  (case z_int=>k_is)
  (case y1=>k_is)
  (case y2=>k_is)
  (case y3=>k_is)
  (case y4=>k_is)
  (case y5=>k_is)
  (case w0=>k_is)
  (case w1=>k_is)
  (case w2=>k_is)
  (case w3=>k_is)
  (case v1=>k_is)
  (case v2=>k_is)
