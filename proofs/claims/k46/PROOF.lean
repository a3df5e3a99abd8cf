import PyProof.Rows.All
import Wide.All
import OpenK.AllK
import Wide.FinOn
import Lean
import PyProof.EqAt
import PyProof.EqKinds
import PyProof.TupleCall
import PyProof.CompFree
import PyProof.CompUse
import PyProof.CollectIter
import PyProof.ListNew
import KE.KRevIter
import PyProof.EnumMake
import PyProof.Draws
import PyProof.TupleIter
import PyProof.WalksMore
import PyProof.ReprRoads
import PyProof.P3Eq
import PyProof.NeData
import PyProof.EqLayable
import PyProof.Rows.RegFStrParts
import PyProof.AutoListH
import KE.KItemsList
import KE.KDictList
import PyProof.StrBlockG
import PyProof.StrLawsOcc
import PyProof.StrLawsTight
import PyProof.StrLawsChain
import PyProof.Rows.Range3
import PyProof.MinMaxWalk
import PyProof.WalkInts
import PyProof.ExcClass3
import PyProof.ExcInit
import PyProof.InstStoreFacts
import PyProof.ExcArgsOwn
import KE.KIsAll
import PyProof.RaisesMany
import PyProof.RulesTry
import PyProof.Raises
import PyProof.RulesAs
import PyProof.NsDelKeeps
import PyProof.PassesOwn
import PyProof.Rows.CatchHere
import KE.KSortTup
import PyProof.FactsAll.tuple_2
import PyProof.TupleKey
import PyProof.Rows.RowHeap
import PyProof.SetKind
import PyProof.SetNew
import PyProof.DictIter
import PyProof.CollectWalk
import PyProof.Walks
import PyProof.ZipIter
import KE.KRevSl
import KE.KStateDown
import PyProof.SetRoads
import PySem.Challenge.RW_pileduel_k46_turned_and_renamed
set_option Elab.async false
set_option linter.all false
set_option maxRecDepth 100000
namespace L2
theorem ex12 {α : Sort _} {a b : α -> Prop} {P : Prop} (h : ∃ x, a x /\ b x) (k : ∀ x, a x -> b x -> P) : P := Exists.elim h fun x y => k x y.1 y.2
theorem ex23 {α β : Sort _} {a b c : α -> β -> Prop} {P : Prop} (h : ∃ x y, a x y /\ b x y /\ c x y) (k : ∀ x y, a x y -> b x y -> c x y -> P) : P := Exists.elim h fun x h => Exists.elim h fun y h => k x y h.1 h.2.1 h.2.2
theorem ex34 {α β γ : Sort _} {a b c d : α -> β -> γ -> Prop} {P : Prop} (h : ∃ x y z, a x y z /\ b x y z /\ c x y z /\ d x y z) (k : ∀ x y z, a x y z -> b x y z -> c x y z -> d x y z -> P) : P := Exists.elim h fun x h => Exists.elim h fun y h => Exists.elim h fun z h => k x y z h.1 h.2.1 h.2.2.1 h.2.2.2
theorem ex45 {α β γ δ : Sort _} {a b c d e : α -> β -> γ -> δ -> Prop} {P : Prop} (h : ∃ x y z u, a x y z u /\ b x y z u /\ c x y z u /\ d x y z u /\ e x y z u) (k : ∀ x y z u, a x y z u -> b x y z u -> c x y z u -> d x y z u -> e x y z u -> P) : P := Exists.elim h fun x h => Exists.elim h fun y h => Exists.elim h fun z h => Exists.elim h fun u h => k x y z u h.1 h.2.1 h.2.2.1 h.2.2.2.1 h.2.2.2.2
theorem ex46 {α β γ δ : Sort _} {a b c d e f : α -> β -> γ -> δ -> Prop} {P : Prop} (h : ∃ x y z u, a x y z u /\ b x y z u /\ c x y z u /\ d x y z u /\ e x y z u /\ f x y z u) (k : ∀ x y z u, a x y z u -> b x y z u -> c x y z u -> d x y z u -> e x y z u -> f x y z u -> P) : P := Exists.elim h fun x h => Exists.elim h fun y h => Exists.elim h fun z h => Exists.elim h fun u h => k x y z u h.1 h.2.1 h.2.2.1 h.2.2.2.1 h.2.2.2.2.1 h.2.2.2.2.2
theorem ex64 {α β γ δ ε ζ : Sort _} {a b c d : α -> β -> γ -> δ -> ε -> ζ -> Prop} {P : Prop} (h : ∃ x y z u v w, a x y z u v w /\ b x y z u v w /\ c x y z u v w /\ d x y z u v w) (k : ∀ x y z u v w, a x y z u v w -> b x y z u v w -> c x y z u v w -> d x y z u v w -> P) : P := Exists.elim h fun x h => Exists.elim h fun y h => Exists.elim h fun z h => Exists.elim h fun u h => Exists.elim h fun v h => Exists.elim h fun w h => k x y z u v w h.1 h.2.1 h.2.2.1 h.2.2.2
open PySem PySem.Spec PyProof.Rows
abbrev Key := Sum Int Str
def keyIs : Key -> Value -> Bool
 | .inl k, v => Value.isInt k v
 | .inr x, v => Value.isStrOf x v
def keyH (w : World) : Key -> Int
 | .inl k => hashInt k
 | .inr x => hashStr w x
theorem keyIs_shape : ∀ {k : Key} {v : Value}, keyIs k v = true -> (∃ i t, k = Sum.inl i /\ v = Value.int i t) \/ (∃ x t, k = Sum.inr x /\ v = Value.str x t)
 | .inl i, v, h => by
  obtain ⟨t, e⟩ := Value.isInt_shape (k := i) (v := v) h
  exact .inl ⟨i, t, rfl, e⟩
 | .inr x, v, h => by
  obtain ⟨t, e⟩ := Value.isStrOf_shape (x := x) (v := v) h
  exact .inr ⟨x, t, rfl, e⟩
theorem keyIs_int (i : Int) (t : Tok) : keyIs (.inl i) (.int i t) = true := by simp [keyIs, Value.isInt]
theorem keyIs_str (x : Str) (t : Tok) : keyIs (.inr x) (.str x t) = true := by simp [keyIs, Value.isStrOf]
theorem key_ll (a b : Int) : decide ((Sum.inl a : Key) = Sum.inl b) = (a == b) := by
 by_cases e : a = b
 ·subst e; simp
 ·have h : ¬ (Sum.inl a : Key) = Sum.inl b := fun q => e (Sum.inl.inj q)
  rw [decide_eq_false h]
  exact (beq_eq_false_iff_ne.mpr e).symm
theorem key_rr (a b : Str) : decide ((Sum.inr a : Key) = Sum.inr b) = decide (a = b) := by
 by_cases e : a = b
 ·subst e; simp
 ·have h : ¬ (Sum.inr a : Key) = Sum.inr b := fun q => e (Sum.inr.inj q)
  rw [decide_eq_false h, decide_eq_false e]
theorem key_lr (a : Int) (b : Str) : decide ((Sum.inl a : Key) = Sum.inr b) = false := decide_eq_false (fun q => nomatch q)
theorem key_rl (a : Str) (b : Int) : decide ((Sum.inr a : Key) = Sum.inl b) = false := decide_eq_false (fun q => nomatch q)
def mixKind (prog : Program) (w : World) : PySem.KeyKind prog w Key where
 is := keyIs
 hash := keyH w
 inj := fun v a b ha hb => by
  rcases keyIs_shape ha with ⟨i, t, rfl, rfl⟩ | ⟨x, t, rfl, rfl⟩
  ·rcases keyIs_shape hb with ⟨j, u, rfl, e⟩ | ⟨y, u, rfl, e⟩
   ·injection e with e1 _; rw [e1]
   ·exact nomatch e
  ·rcases keyIs_shape hb with ⟨j, u, rfl, e⟩ | ⟨y, u, rfl, e⟩
   ·exact nomatch e
   ·injection e with e1 _; rw [e1]
 byValue := fun k v h => by
  rcases keyIs_shape h with ⟨i, t, rfl, rfl⟩ | ⟨x, t, rfl, rfl⟩ <;> rfl
 pyHash := fun hv h => by
  rcases keyIs_shape hv with ⟨i, t, rfl, rfl⟩ | ⟨x, t, rfl, rfl⟩
  ·exact wpAny_pyHash_int h
  ·exact wpAny_pyHash_str h
 eqBool := fun hu hv h => by
  rcases keyIs_shape hu with ⟨i, t, rfl, rfl⟩ | ⟨x, t, rfl, rfl⟩
  ·rcases keyIs_shape hv with ⟨j, u, rfl, rfl⟩ | ⟨y, u, rfl, rfl⟩
   ·rw [key_ll] at h; exact wpAny_eqBool_int h
   ·rw [key_lr] at h; exact SeqAt.EqAt.int_str i t y u _ _ _ _ h
  ·rcases keyIs_shape hv with ⟨j, u, rfl, rfl⟩ | ⟨y, u, rfl, rfl⟩
   ·rw [key_rl] at h; exact SeqAt.EqAt.str_int x t j u _ _ _ _ h
   ·rw [key_rr] at h; exact wpAny_eqBool_str h
 «strs» := fun k x t v h => by
  rcases keyIs_shape h with ⟨i, u, rfl, e⟩ | ⟨y, u, rfl, e⟩
  ·exact nomatch e
  ·injection e with e1 _
   subst e1
   cases v <;> rfl
theorem mixKind_int (prog : Program) (w : World) (i : Int) (t : Tok) : (mixKind prog w).is (.inl i) (.int i t) = true := keyIs_int i t
theorem mixKind_str (prog : Program) (w : World) (x : Str) (t : Tok) : (mixKind prog w).is (.inr x) (.str x t) = true := keyIs_str x t
end L2
namespace L2
open PySem PySem.Spec PyProof.Rows
inductive V where
 | non | bl (b : Bool) | int (i : Int) | str (x : Str) | byt (b : Array UInt8) | flt (b : UInt64) | ref (a : Addr) | ty (n : String)
 deriving DecidableEq
def RelV : V -> Value -> Prop
 | .non, u => u = Value.none
 | .bl b, u => u = Value.bool b
 | .int i, u => ∃ t, u = Value.int i t
 | .str x, u => ∃ t, u = Value.str x t
 | .byt b, u => ∃ t, u = Value.bytes b t
 | .flt b, u => ∃ t, u = Value.float b t
 | .ref a, u => u = Value.ref a
 | .ty n, u => u = Value.type n
abbrev Vals : List V -> List Value -> Prop := Paired RelV
theorem Vals.length {xs : List V} {us : List Value} (r : Vals xs us) : xs.length = us.length := Paired.length r
theorem Vals.get : ∀ {xs : List V} {us : List Value} {i : Nat} {x : V}, Vals xs us -> xs[i]? = some x -> ∃ u, us[i]? = some u /\ RelV x u
 | _, _, _, _, .nil, e => by simp at e
 | _, _, 0, _, .cons r _, e => by simp at e; subst e; exact ⟨_, rfl, r⟩
 | _, _, i + 1, x, .cons _ t, e => by
  obtain ⟨u, h1, h2⟩ := Vals.get (i := i) (x := x) t (by simpa using e)
  exact ⟨u, by simpa using h1, h2⟩
theorem Vals.set {x : V} {u : Value} (r : RelV x u) : ∀ {xs : List V} {us : List Value} (i : Nat), Vals xs us -> Vals (xs.set i x) (us.set i u)
 | _, _, _, .nil => .nil
 | _, _, 0, .cons _ t => .cons r t
 | _, _, i + 1, .cons q t => .cons q (Vals.set r i t)
theorem Vals.append : ∀ {xs ys : List V} {us ws : List Value}, Vals xs us -> Vals ys ws -> Vals (xs ++ ys) (us ++ ws)
 | _, _, _, _, .nil, s => s
 | _, _, _, _, .cons r t, s => .cons r (Vals.append t s)
theorem Vals.take : ∀ {xs : List V} {us : List Value} (n : Nat), Vals xs us -> Vals (xs.take n) (us.take n)
 | _, _, 0, _ => .nil
 | _, _, _ + 1, .nil => .nil
 | _, _, n + 1, .cons r t => .cons r (Vals.take n t)
theorem Vals.drop : ∀ {xs : List V} {us : List Value} (n : Nat), Vals xs us -> Vals (xs.drop n) (us.drop n)
 | _, _, 0, r => r
 | _, _, _ + 1, .nil => .nil
 | _, _, n + 1, .cons _ t => Vals.drop n t
def RelO : Option V -> Option Value -> Prop
 | some v, some u => RelV v u
 | none, none => True
 | _, _ => False
def KV {κ : Type} : List (κ × V) -> List (κ × Value) -> Prop := Paired fun (p : κ × V) (q : κ × Value) => p.1 = q.1 /\ RelV p.2 q.2
def kV : Key -> V
 | .inl i => .int i
 | .inr x => .str x
mutual
def hashD (w : World) : PyData -> Int
 | .int i => keyH w (.inl i)
 | .str x => keyH w (.inr x)
 | .tuple ds => reduceHash (Builtin.Tuple.tupleHashOf (hashDs w ds))
 | _ => 0
def hashDs (w : World) : List PyData -> List Int
 | [] => []
 | d :: ds => hashD w d :: hashDs w ds
end
def entD (w : World) (x : PyData × Addr × Value) : DictEntry := ⟨hashD w x.1, .ref x.2.1, x.2.2⟩
def IsDD (w : World) (h : Heap) (a : Addr) (xs : List (PyData × Addr × Value)) : Prop :=
 ∃ o es ep, h.get? a = some o /\ o.ExactDict /\ o.data = .dict es ep /\ es.toList = xs.map (entD w) /\ (xs.map (·.1)).Nodup /\ (a == sysModules) = false /\ xs.length <= sizeLine
inductive HO where
 | lst (xs : List V)
 | tup (xs : List V)
 | dK (kvs : List (Key × V)) | dT (kvs : List (List Key × V))
 | set (S : Int -> Bool) (n : Nat)
 | ins (C dx : Addr) (fs : List (Str × V))
 | own (x : Addr)
 | xd (fs : List (Str × V))
 | met (f x : Addr)
 | rng (lo hi : Int)
 | frz (o : Obj) (u : HO)
 | tbl (ps : Array Value)
 | ext (φ : Heap -> Prop)
 | dd (xs : List (PyData × Addr × Value))
abbrev Hp := Addr -> Option HO
def upd (H : Hp) (a : Addr) (o : HO) : Hp := fun b => if b = a then some o else H b
theorem upd_same {H : Hp} {a : Addr} {o : HO} : upd H a o a = some o := by unfold upd; rw [if_pos rfl]
theorem upd_ne {H : Hp} {a b : Addr} {o : HO} (h : b ≠ a) : upd H a o b = H b := by unfold upd; rw [if_neg h]
theorem ne_of {H : Hp} {a b : Addr} {o u : HO} (h : H a = some o) (h' : H b = some u) (d : o ≠ u) : a ≠ b := by
 intro e; subst e; rw [h] at h'; exact d (Option.some.inj h')
theorem ne_of_none {H : Hp} {a b : Addr} {o : HO} (h : H a = some o) (h' : H b = none) : a ≠ b := by
 intro e; subst e; rw [h] at h'; cases h'
section
variable (P : Program) (w : World)
def ObjOk (H : Hp) (h : Heap) (a : Addr) : HO -> Prop
 | .lst xs => xs.length <= sizeLine /\ ∃ (its : List Value) (n : Nat), Vals xs its /\ h.get? a = some { cls := .type "list", data := .seq its.toArray n }
 | .tup xs => xs.length <= sizeLine /\ ∃ its : List Value, Vals xs its /\ IsTup h a its.toArray
 | .dK kvs => kvs.length <= sizeLine /\ (a == sysModules) = false /\ ∃ vs, KV kvs vs /\ h.DictOf (mixKind P w) a vs
 | .dT kvs => kvs.length <= sizeLine /\ (a == sysModules) = false /\ ∃ xs : List (List Key × Addr × Value),
   Paired (fun (p : List Key × V) (q : List Key × Addr × Value) => p.1 = q.1 /\ H q.2.1 = some (.tup (p.1.map kV)) /\ RelV p.2 q.2.2) kvs xs /\
   ∃ o es ep, h.get? a = some o /\ o.ExactDict /\ o.data = .dict es ep /\ es.toList = xs.map (entryOfKey (tupleKind (mixKind P w))) /\ (xs.map (·.1)).Nodup
 | .set S n => h.SetOf (intKind P w) a S n
 | .ins C dx fs => H dx = some (.own a) /\ fs.length <= 1000 /\ dx ≠ a /\ h.get? a = some (PySem.W.instObj C dx) /\
   ∃ mA, h.Ns1 dx mA /\ (∀ f, RelO (fs.lookup f) (mA f)) /\ PySem.Within mA (fs.map (·.1))
 | .own _ => ∃ o, h.get? a = some o
 | .xd fs => ∃ mA, h.Ns1 a mA /\ ∀ f, RelO (fs.lookup f) (mA f)
 | .rng lo hi => ∃ t u v, h.get? a = some { cls := .type "range", data := .fields #[.int lo t, .int hi u, .int 1 v] }
 | .frz o u => h.get? a = some o /\ ObjOk H h a u
 | .tbl ps => h.get? a = some { cls := .none, data := .fields ps }
 | .met f x => h.get? a = some (PySem.W.methodObj (.ref f) (.ref x))
 | .ext φ => φ h /\ (∃ o, h.get? a = some o) /\ ∀ h1 h2 : Heap, φ h1 -> (∀ o, h1.get? a = some o -> h2.get? a = some o) -> φ h2
 | .dd xs => IsDD w h a xs
def HOk (H : Hp) (h : Heap) : Prop := ∀ a o, H a = some o -> ObjOk P w H h a o
end
section
variable {P : Program} {w : World} {H H' : Hp} {h h' : Heap} {a : Addr} {o : HO}
theorem ObjOk.lt (x : ObjOk P w H h a o) : a < h.objs.size := by
 cases o with
 | lst xs => obtain ⟨_, _, _, _, e⟩ := x; exact Heap.lt_size e
 | tup xs => obtain ⟨_, _, _, p⟩ := x; exact p.lt
 | dK kvs => obtain ⟨_, _, _, _, o, _, _, e, _⟩ := x; exact Heap.lt_size e
 | dT kvs => obtain ⟨_, _, _, _, o, _, _, e, _⟩ := x; exact Heap.lt_size e
 | set S n => obtain ⟨o, _, _, _, e, _⟩ := x; exact Heap.lt_size e
 | ins C dx fs => obtain ⟨_, _, _, e, _⟩ := x; exact Heap.lt_size e
 | own y => obtain ⟨_, e⟩ := x; exact Heap.lt_size e
 | xd fs => obtain ⟨_, ⟨_, _, _, e, _⟩, _⟩ := x; exact Heap.lt_size e
 | rng lo hi => obtain ⟨_, _, _, e⟩ := x; exact Heap.lt_size e
 | frz ob u => obtain ⟨e, _⟩ := x; exact Heap.lt_size e
 | tbl ps => exact Heap.lt_size (show h.get? a = some _ from x)
 | met f y => exact Heap.lt_size (show h.get? a = some _ from x)
 | ext φ => obtain ⟨_, ⟨_, e⟩, _⟩ := x; exact Heap.lt_size e
 | dd xs => obtain ⟨_, _, _, e, _⟩ := x; exact Heap.lt_size e
theorem Paired.mapP {α β : Type} {F G : α -> β -> Prop} : ∀ {l₁ : List α} {l₂ : List β}, Paired F l₁ l₂ -> (∀ a b, F a b -> G a b) -> Paired G l₁ l₂
 | _, _, .nil, _ => .nil
 | _, _, .cons r t, f => .cons (f _ _ r) (Paired.mapP t f)
theorem ObjOk.stay (x : ObjOk P w H h a o) (k : ∀ b u, (b = a \/ H b = some (.own a)) -> h.get? b = some u -> h'.get? b = some u)
  (ho : ∀ b, H b = some (.own a) -> H' b = some (.own a)) (ht : ∀ b xs, H b = some (.tup xs) -> H' b = some (.tup xs)) : ObjOk P w H' h' a o := by
 induction o with
 | lst xs => obtain ⟨z, its, n, r, e⟩ := x; exact ⟨z, its, n, r, k _ _ (.inl rfl) e⟩
 | tup xs => obtain ⟨z, its, r, ob, e, c⟩ := x; exact ⟨z, its, r, ob, k _ _ (.inl rfl) e, c⟩
 | dK kvs => obtain ⟨z, y, vs, r, ob, es, ep, e, c⟩ := x; exact ⟨z, y, vs, r, ob, es, ep, k _ _ (.inl rfl) e, c⟩
 | dT kvs =>
  obtain ⟨z, y, xs, r, ob, es, ep, e, c⟩ := x
  exact ⟨z, y, xs, Paired.mapP r fun p q z => ⟨z.1, ht _ _ z.2.1, z.2.2⟩, ob, es, ep, k _ _ (.inl rfl) e, c⟩
 | set S n => obtain ⟨ob, es, ep, t, e, c⟩ := x; exact ⟨ob, es, ep, t, k _ _ (.inl rfl) e, c⟩
 | ins C dx fs =>
  obtain ⟨d, z, ne, e, mA, ⟨od, es, ep, e2, c⟩, r⟩ := x
  exact ⟨ho _ d, z, ne, k _ _ (.inl rfl) e, mA, ⟨od, es, ep, k _ _ (.inr d) e2, c⟩, r⟩
 | own y => obtain ⟨ob, e⟩ := x; exact ⟨ob, k _ _ (.inl rfl) e⟩
 | xd fs => obtain ⟨mA, ⟨od, es, ep, e, c⟩, r⟩ := x; exact ⟨mA, ⟨od, es, ep, k _ _ (.inl rfl) e, c⟩, r⟩
 | rng lo hi => obtain ⟨t, u, v, e⟩ := x; exact ⟨t, u, v, k _ _ (.inl rfl) e⟩
 | frz ob u ih => obtain ⟨e, q⟩ := x; exact ⟨k _ _ (.inl rfl) e, ih q⟩
 | tbl ps =>
  have e : h.get? a = some { cls := .none, data := .fields ps } := x
  show h'.get? a = some { cls := .none, data := .fields ps }
  exact k a _ (.inl rfl) e
 | met f y =>
  have e : h.get? a = some (PySem.W.methodObj (.ref f) (.ref y)) := x
  show h'.get? a = some (PySem.W.methodObj (.ref f) (.ref y))
  exact k a _ (.inl rfl) e
 | ext φ => obtain ⟨p, ⟨o, e⟩, st⟩ := x; exact ⟨st _ _ p fun o q => k _ _ (.inl rfl) q, ⟨o, k _ _ (.inl rfl) e⟩, st⟩
 | dd xs => obtain ⟨o, es, ep, e, c⟩ := x; exact ⟨o, es, ep, k _ _ (.inl rfl) e, c⟩
theorem HOk.lt (x : HOk P w H h) (e : H a = some o) : a < h.objs.size := (x a o e).lt
theorem HOk.fresh (x : HOk P w H h) (e : h.objs.size <= a) : H a = none := by
 cases q : H a with
 | none => rfl
 | some u => exact absurd (Nat.lt_of_lt_of_le (x.lt q) e) (Nat.lt_irrefl _)
theorem HOk.kept (x : HOk P w H h) (k : ∀ b u, h.get? b = some u -> h'.get? b = some u) : HOk P w H h' := fun a o e =>
 (x a o e).stay (fun b u _ q => k b u q) (fun _ q => q) fun _ _ q => q
theorem HOk.laid (x : HOk P w H h) (k : ∀ b u, h.get? b = some u -> h'.get? b = some u) (hp : h.objs.size <= a) (new : ObjOk P w (upd H a o) h' a o) : HOk P w (upd H a o) h' := fun b u e => by
 have hn := x.fresh hp
 by_cases hb : b = a
 ·subst hb; rw [upd_same] at e; cases e; exact new
 ·rw [upd_ne hb] at e
  exact (x b u e).stay (fun c v _ q => k c v q) (fun c q => by rw [upd_ne (ne_of_none q hn)]; exact q) fun c xs q => by rw [upd_ne (ne_of_none q hn)]; exact q
end
def Rd (H : Hp) (a : Addr) (u : HO) : Prop := H a = some u \/ ∃ o, H a = some (.frz o u)
theorem Rd.ok {P : Program} {w : World} {H : Hp} {h : Heap} {a : Addr} {u : HO} (r : Rd H a u) (x : HOk P w H h) : ObjOk P w H h a u := by
 rcases r with r | ⟨o, r⟩
 ·exact x a u r
 ·obtain ⟨_, q⟩ := x a _ r
  exact q
def Mut : Option HO -> Prop
 | some (.lst _) => True
 | some (.dK _) => True
 | some (.dT _) => True
 | some (.set _ _) => True
 | some (.ins _ _ _) => True
 | some (.ext _) => True
 | some (.dd _) => True
 | _ => False
section
variable {P : Program} {w : World} {H : Hp} {h h' : Heap} {x e : Addr} {o' : HO}
theorem HOk.write (ok : HOk P w H h) (mu : Mut (H x)) (he : e = x \/ H e = some (.own x)) (k : ∀ b u, b ≠ e -> h.get? b = some u -> h'.get? b = some u) (heo : ∃ u, h'.get? e = some u)
  (new : ObjOk P w (upd H x o') h' x o') : HOk P w (upd H x o') h' := fun b u q => by
 have nown : ∀ c y, H c = some (.own y) -> c ≠ x := fun c y r z => by subst z; rw [r] at mu; exact mu
 have ntup : ∀ c xs, H c = some (.tup xs) -> c ≠ x := fun c xs r z => by subst z; rw [r] at mu; exact mu
 by_cases hb : b = x
 ·subst hb; rw [upd_same] at q; cases q; exact new
 ·rw [upd_ne hb] at q
  by_cases hbe : b = e
  ·have q' : H b = some (.own x) := by
    rcases he with z | z
    ·exact absurd (hbe.trans z) hb
    ·rw [hbe]; exact z
   rw [q] at q'; cases q'
   obtain ⟨v, hv⟩ := heo
   exact ⟨v, by rw [hbe]; exact hv⟩
  ·refine (ok b u q).stay (fun c v hc r => k c v ?_ r) (fun c r => by rw [upd_ne (nown c b r)]; exact r) fun c xs r => by rw [upd_ne (ntup c xs r)]; exact r
   rcases hc with rfl | hc
   ·exact hbe
   ·rintro rfl
    rcases he with z | z
    ·exact nown c b hc z
    ·rw [hc] at z; cases z; exact hb rfl
end
structure Un (fs ex : List Addr) (H H' : Hp) (h h' : Heap) : Prop where
 keep : ∀ b o, h.get? b = some o -> H b = none -> b ∉ fs -> b ∉ ex -> h'.get? b = some o
 slot : ∀ b o, h.get? b = some o -> H b = none -> b ∈ fs -> b ∉ ex -> ∃ sl, h'.get? b = some { o with slots := sl }
 free : ∀ b o, h.get? b = some o -> H b = none -> b ∉ ex -> H' b = none
 there : ∀ b o, h.get? b = some o -> b ∉ ex -> ∃ o', h'.get? b = some o'
 tups : ∀ b xs, H b = some (.tup xs) -> H' b = some (.tup xs)
 frzs : ∀ b o u, H b = some (.frz o u) -> H' b = some (.frz o u)
 tbls : ∀ b ps, H b = some (.tbl ps) -> ∃ more, H' b = some (.tbl (ps ++ more))
section
variable {fs fs' ex ex' : List Addr} {H H1 H2 : Hp} {h h1 h2 h' : Heap} {a x e : Addr} {o : HO}
theorem Un.any (u : Un fs ex H H1 h h1) {b : Addr} {ob : Obj} (q : h.get? b = some ob) (n : H b = none) (hx : b ∉ ex) : ∃ sl, h1.get? b = some { ob with slots := sl } := by
 by_cases hb : b ∈ fs
 ·exact u.slot b ob q n hb hx
 ·exact ⟨ob.slots, u.keep b ob q n hb hx⟩
theorem Un.kept (k : ∀ b u, h.get? b = some u -> h'.get? b = some u) : Un fs ex H H h h' :=
 ⟨fun b ob q _ _ _ => k b ob q, fun b ob q _ _ _ => ⟨ob.slots, k b ob q⟩, fun _ _ _ n _ => n, fun b ob q _ => ⟨ob, k b ob q⟩, fun _ _ q => q, fun _ _ _ q => q, fun _ ps q => ⟨#[], by rw [q]; simp⟩⟩
theorem Un.refl : Un fs ex H H h h := Un.kept fun _ _ q => q
theorem Un.laid (k : ∀ b u, h.get? b = some u -> h'.get? b = some u) (hp : h.objs.size <= a) (hn : H a = none) : Un fs ex H (upd H a o) h h' where
 keep := fun b u q _ _ _ => k b u q
 slot := fun b u q _ _ _ => ⟨u.slots, k b u q⟩
 free := fun b u q n _ => by rw [upd_ne (Nat.ne_of_lt (Nat.lt_of_lt_of_le (Heap.lt_size q) hp))]; exact n
 there := fun b u q _ => ⟨u, k b u q⟩
 tups := fun b xs q => by rw [upd_ne (ne_of_none q hn)]; exact q
 frzs := fun b u xs q => by rw [upd_ne (ne_of_none q hn)]; exact q
 tbls := fun b ps q => ⟨#[], by rw [upd_ne (ne_of_none q hn), q]; simp⟩
theorem Un.write (mu : Mut (H x)) (he : e = x \/ H e = some (.own x)) (k : ∀ b u, b ≠ e -> h.get? b = some u -> h'.get? b = some u) (heo : ∃ u, h'.get? e = some u) : Un fs ex H (upd H x o) h h' := by
 have hx : ∀ b, H b = none -> b ≠ x := fun b n z => by subst z; rw [n] at mu; exact mu
 have hb : ∀ b, H b = none -> b ≠ e := fun b n z => by
  subst z
  rcases he with r | r
  ·exact hx b n r
  ·rw [n] at r; cases r
 have hm : ∀ b u, H b = some u -> ¬ Mut (some u) -> b ≠ x := fun b u q nm z => by subst z; rw [q] at mu; exact nm mu
 refine ⟨fun b u q n _ _ => k b u (hb b n) q, fun b u q n _ _ => ⟨u.slots, k b u (hb b n) q⟩, fun b u q n _ => by rw [upd_ne (hx b n)]; exact n, fun b u q _ => ?_,
  fun b xs q => by rw [upd_ne (hm b _ q fun z => z)]; exact q, fun b u xs q => by rw [upd_ne (hm b _ q fun z => z)]; exact q, fun b ps q => ⟨#[], by rw [upd_ne (hm b _ q fun z => z), q]; simp⟩⟩
 by_cases hbe : b = e
 ·subst hbe; exact heo
 ·exact ⟨u, k b u hbe q⟩
end
def trk (h : Heap) (H : Hp) : List Addr := (List.range h.objs.size).filter fun a => (H a).isSome
def hidT (h : Heap) (H : Hp) : Heap := PySem.W.hideAll h (trk h H)
theorem hidT_size (h : Heap) (H : Hp) : (hidT h H).objs.size = h.objs.size := PySem.W.hideAll_size _ _
theorem hidT_get {h : Heap} {H : Hp} {b : Addr} {o : Obj} (e : h.get? b = some o) (n : H b = none) : (hidT h H).get? b = some o :=
 PySem.W.hideAll_get _ e fun hm => by
  have q : (H b).isSome = true := (List.mem_filter.mp hm).2
  rw [n] at q; simp at q
theorem of_hidT {h : Heap} {H : Hp} {b : Addr} {o : Obj} (e : (hidT h H).get? b = some o) : h.get? b = some o /\ H b = none := by
 have e' : h.get? b = some o := PySem.W.of_hideAll (trk h H) e
 refine ⟨e', ?_⟩
 cases q : H b with
 | none => rfl
 | some x =>
  have hm : b ∈ trk h H := List.mem_filter.mpr ⟨List.mem_range.mpr (Heap.lt_size e'), by simp [q]⟩
  have z : (hidT h H).get? b = none := PySem.W.hideAll_none (trk h H) hm
  rw [z] at e; cases e
def allNews (g h : Heap) (L : Addr) : List (Addr × Obj) := (List.range h.objs.size).filterMap fun a => if a = L \/ (g.get? a).isSome = true then none else (h.get? a).map fun o => (a, o)
def rest (g h : Heap) (L d : Addr) : List (Addr × Obj) := (allNews g h L).filter fun p => decide (p.1 ≠ d)
end L2
namespace L2
open PySem PySem.Spec PyProof.Rows
structure Mod (K : PySem.W.Frag) (mg : Str -> Option Value) (base : Heap) : Prop where
 kin : K.In base
 glob : base.Ns mainGlobals mg
 blt : ∃ mb, base.Ns builtinsNs mb /\ ∀ x : Str, x ≠ "__name__" -> mb x = bootBuiltins x
 nolimit : base.NoLimit
structure Cx where
 prog : Program
 w : World
 K : PySem.W.Frag
 mg : Str -> Option Value
 base : Heap
 A : Around
 N : List Str
 s₀ : Shared
 H₀ : Hp
 env : Env
 outer : List Env
 stack : List Env
 ex : List Addr
 fn : Str -> Bool
 calm : Bool
 pn : List (Addr × Obj)
 xe : Value -> Shared -> Prop
def frs (l : List Env) : List Addr := l.filterMap (·.frame)
abbrev Cx.fs (X : Cx) : List Addr := frs X.outer
def Vis (sc : Scope) (x : Str) : Prop := sc.names.lookup x = some .local \/ sc.names.lookup x = some .cell \/ sc.names.lookup x = some .free
def Loc (sc : Scope) (x : Str) : Prop := sc.names.lookup x = some .local \/ sc.names.lookup x = some .cell
def Look (env : Env) (h : Heap) (m : Str -> Option Value) (x : Str) (u : Value) : Prop :=
 (env.kindOf x = some .local /\ m x = some u) \/ ((env.kindOf x = some .cell \/ env.kindOf x = some .free) /\ ∃ c, env.cells.lookup x = some c /\ h.IsCell c (some u))
structure Cx.Ok (X : Cx) : Prop where
 mod : Mod X.K X.mg X.base
 kind : X.env.scope.kind = .function
 glob : X.env.globals = mainGlobals
 blt : X.env.builtins = builtinsNs
 above : X.s₀.heap.objs.size <= X.env.locals
 inj : ∀ x y c, X.env.cells.lookup x = some c -> X.env.cells.lookup y = some c -> x = y
 has : ∀ x, (X.env.kindOf x = some .cell \/ X.env.kindOf x = some .free) -> ∃ c, X.env.cells.lookup x = some c
 cab : ∀ x c, X.fn x = true -> X.env.cells.lookup x = some c -> X.s₀.heap.objs.size <= c
 hd : X.calm = true -> X.A.handled = none
 frames : X.A.frames = some X.stack
 stk : X.stack = X.outer \/ (X.stack = X.env :: X.outer /\ X.env.frame = some X.env.locals)
 exf : ∀ b ∈ X.ex, b ≠ X.env.locals /\ ∀ x c, X.env.cells.lookup x = some c -> c ≠ b
 bs : ∀ b o, X.base.get? b = some o -> X.s₀.heap.get? b = some o /\ X.H₀ b = none
 bsz : X.base.objs.size <= X.s₀.heap.objs.size
 noex : ∀ b o, X.base.get? b = some o -> b ∉ X.ex
 exfs : ∀ b ∈ X.ex, b ∉ X.fs
 funs : X.s₀.heap.FunFrames X.base X.outer
 frf : ∀ b ∈ X.fs, X.H₀ b = none
structure Inv (X : Cx) (pins : List (Addr × Obj)) (σ : List (Option V)) (H : Hp) (s : Shared) : Prop where
 ok : X.Ok
 os : s.os = X.s₀.os
 bare : AllBare s.gens
 base : Un X.fs X.ex X.H₀ H X.s₀.heap s.heap
 loc : ∃ m, s.heap.Ns X.env.locals m /\ ∀ (i : Nat) (x : Str) (v : V), X.N[i]? = some x -> σ[i]? = some (some v) -> Vis X.env.scope x -> ∃ u, RelV v u /\ Look X.env s.heap m x u
 cell : ∀ x c, X.env.cells.lookup x = some c -> ∃ v, s.heap.IsCell c v
 free : H X.env.locals = none
 freeC : ∀ x c, X.env.cells.lookup x = some c -> H c = none
 pin : ∀ p ∈ X.pn ++ pins, s.heap.get? p.1 = some p.2 /\ H p.1 = none /\ p.1 ≠ X.env.locals /\ p.1 ∉ X.fs /\ ∀ v, p.2.data ≠ .cell v
 hok : HOk X.prog X.w H s.heap
 len : σ.length = X.N.length
section
variable {X : Cx} {pins : List (Addr × Obj)} {σ : List (Option V)} {H H' : Hp} {s : Shared} {h' : Heap}
theorem Cx.Ok.nofr (ok : X.Ok) {b : Addr} {o : Obj} (e : X.base.get? b = some o) : b ∉ X.fs := fun hb => by
 have := (ok.funs.mem hb).1
 rw [e] at this; cases this
theorem Inv.bs (I : Inv X pins σ H s) : ∀ b o, X.base.get? b = some o -> s.heap.get? b = some o /\ H b = none := fun b o e =>
 ⟨I.base.keep b o (I.ok.bs b o e).1 (I.ok.bs b o e).2 (I.ok.nofr e) (I.ok.noex b o e), I.base.free b o (I.ok.bs b o e).1 (I.ok.bs b o e).2 (I.ok.noex b o e)⟩
theorem Inv.bk (I : Inv X pins σ H s) : ∀ b o, X.base.get? b = some o -> s.heap.get? b = some o := fun b o e => (I.bs b o e).1
theorem Inv.mod (I : Inv X pins σ H s) : Mod X.K X.mg X.base := I.ok.mod
theorem Inv.kIn (I : Inv X pins σ H s) : X.K.In s.heap := I.ok.mod.kin.keeps I.bk
theorem Inv.lt (I : Inv X pins σ H s) : X.env.locals < s.heap.objs.size := let ⟨_, hn, _⟩ := I.loc; hn.lt
theorem Inv.sz (I : Inv X pins σ H s) : X.s₀.heap.objs.size <= s.heap.objs.size := Nat.le_trans I.ok.above (Nat.le_of_lt I.lt)
theorem Inv.nofs (I : Inv X pins σ H s) {a : Addr} (h : s.heap.objs.size <= a) : a ∉ X.fs := fun hb => by
 obtain ⟨_, o, ho, _⟩ := I.ok.funs.mem hb
 exact absurd (Nat.lt_of_lt_of_le (Heap.lt_size ho) (Nat.le_trans I.sz h)) (Nat.lt_irrefl _)
theorem Inv.cne (I : Inv X pins σ H s) : ∀ x c, X.env.cells.lookup x = some c -> c ≠ X.env.locals := fun x c e z => by
 obtain ⟨v, o, ho, hd⟩ := I.cell x c e
 obtain ⟨m, ⟨o', es, ep, ho', hd', _⟩, _⟩ := I.loc
 rw [z, ho'] at ho; cases ho; rw [hd'] at hd; cases hd
theorem Inv.funs (I : Inv X pins σ H s) : s.heap.FunFrames X.base X.outer := by
 have all : ∀ (l : List Env), (∀ b ∈ frs l, b ∈ X.fs) -> X.s₀.heap.FunFrames X.base l -> s.heap.FunFrames X.base l := by
  intro l
  induction l with
  | nil => intro _ _; trivial
  | cons env r ih =>
   intro hs hl
   obtain ⟨hk, ⟨L, o, hf, hn, ho, hd⟩, hr⟩ := hl
   have hL : L ∈ X.fs := hs L (by unfold frs; rw [List.filterMap_cons, hf]; exact List.mem_cons_self)
   obtain ⟨sl, e⟩ := I.base.slot L o ho (I.ok.frf L hL) hL fun z => I.ok.exfs L z hL
   exact ⟨hk, ⟨L, _, hf, hn, e, hd⟩, ih (fun b hb => hs b (by unfold frs; rw [List.filterMap_cons, hf]; exact List.mem_cons_of_mem _ hb)) hr⟩
 exact all X.outer (fun _ hb => hb) I.ok.funs
theorem Inv.stack (I : Inv X pins σ H s) : s.heap.FunFrames X.base X.stack := by
 rcases I.ok.stk with e | ⟨e, hf⟩
 ·rw [e]; exact I.funs
 ·rw [e]
  obtain ⟨m, hn, _⟩ := I.loc
  refine .cons (by rw [I.ok.kind]; decide) hf hn ?_ I.funs
  exact Heap.get?_none_of_le (Nat.le_trans I.ok.bsz I.ok.above)
theorem Inv.stkSub (I : Inv X pins σ H s) : ∀ b ∈ frs X.stack, b ∈ X.env.locals :: X.fs := fun b hb => by
 rcases I.ok.stk with e | ⟨e, hf⟩
 ·rw [e] at hb; exact List.mem_cons_of_mem _ hb
 ·rw [e] at hb
  unfold frs at hb
  rw [List.filterMap_cons, hf] at hb
  exact hb
theorem Inv.stkFree (I : Inv X pins σ H s) : ∀ b ∈ frs X.stack, H b = none := fun b hb => by
 rcases List.mem_cons.mp (I.stkSub b hb) with e | hb
 ·rw [e]; exact I.free
 ·obtain ⟨_, o, ho, _⟩ := I.ok.funs.mem hb
  exact I.base.free b o ho (I.ok.frf b hb) fun z => I.ok.exfs b z hb
theorem Inv.step {g' : Array GenState} {t' : Nat} {d' : Drawn} {ch : List Addr} (I : Inv X pins σ H s)
  (hch : ∀ b ∈ ch, (b ∈ X.ex \/ X.s₀.heap.objs.size <= b) /\ b ≠ X.env.locals /\ (∀ x c, X.env.cells.lookup x = some c -> c ≠ b) /\ ∀ p ∈ X.pn ++ pins, p.1 ≠ b)
  (keep : ∀ b o, b ≠ X.env.locals -> b ∉ X.fs -> b ∉ ch -> s.heap.get? b = some o -> H b = none -> h'.get? b = some o)
  (slot : ∀ b o, b ≠ X.env.locals -> b ∈ X.fs -> b ∉ ch -> s.heap.get? b = some o -> H b = none -> ∃ sl, h'.get? b = some { o with slots := sl }) (free : ∀ b o, b ∉ ch -> s.heap.get? b = some o -> H b = none -> H' b = none)
  (there : ∀ b o, b ∉ ch -> s.heap.get? b = some o -> ∃ o', h'.get? b = some o')
  (tups : ∀ b xs, H b = some (.tup xs) -> H' b = some (.tup xs)) (frzs : ∀ b o u, H b = some (.frz o u) -> H' b = some (.frz o u)) (tbls : ∀ b ps, H b = some (.tbl ps) -> ∃ more, H' b = some (.tbl (ps ++ more)))
  (ns : ∀ m, s.heap.Ns X.env.locals m -> h'.Ns X.env.locals m) (hok : HOk X.prog X.w H' h') (hg : AllBare g') :
  Inv X pins σ H' { s with heap := h', gens := g', drawn := d', toks := t' } := by
 have neL : ∀ b o, X.s₀.heap.get? b = some o -> b ≠ X.env.locals := fun b o e => Nat.ne_of_lt (Nat.lt_of_lt_of_le (Heap.lt_size e) I.ok.above)
 have neC : ∀ b o, X.s₀.heap.get? b = some o -> b ∉ X.ex -> b ∉ ch := fun b o e hx hb => by
  rcases (hch b hb).1 with z | z
  ·exact hx z
  ·exact absurd (Nat.lt_of_lt_of_le (Heap.lt_size e) z) (Nat.lt_irrefl _)
 have cellK : ∀ x c, X.env.cells.lookup x = some c -> ∀ v, s.heap.IsCell c v -> h'.IsCell c v := fun x c e v ⟨o, ho, hd⟩ => by
  have nch : c ∉ ch := fun z => (hch c z).2.2.1 x c e rfl
  by_cases hc : c ∈ X.fs
  ·obtain ⟨sl, q⟩ := slot c o (I.cne x c e) hc nch ho (I.freeC x c e)
   exact ⟨_, q, hd⟩
  ·exact ⟨o, keep c o (I.cne x c e) hc nch ho (I.freeC x c e), hd⟩
 refine ⟨I.ok, I.os, hg, ⟨fun b o e n hb hx => ?_, fun b o e n hb hx => ?_, fun b o e n hx => ?_, fun b o e hx => ?_, fun b xs e => tups b xs (I.base.tups b xs e), fun b o xs e => frzs b o xs (I.base.frzs b o xs e), fun b ps e => ?_⟩, ?_, fun x c e => ?_, ?_, fun x c e => ?_, fun p hp => ?_, hok, I.len⟩
 ·exact keep b o (neL b o e) hb (neC b o e hx) (I.base.keep b o e n hb hx) (I.base.free b o e n hx)
 ·obtain ⟨sl, e1⟩ := I.base.slot b o e n hb hx
  obtain ⟨sl', e2⟩ := slot b _ (neL b o e) hb (neC b o e hx) e1 (I.base.free b o e n hx)
  exact ⟨sl', e2⟩
 ·obtain ⟨o', e1⟩ := I.base.there b o e hx
  exact free b o' (neC b o e hx) e1 (I.base.free b o e n hx)
 ·obtain ⟨o', e1⟩ := I.base.there b o e hx
  exact there b o' (neC b o e hx) e1
 ·obtain ⟨m1, e1⟩ := I.base.tbls b ps e
  obtain ⟨m2, e2⟩ := tbls b _ e1
  exact ⟨m1 ++ m2, by rw [e2, Array.append_assoc]⟩
 ·obtain ⟨m, hn, hl⟩ := I.loc
  refine ⟨m, ns m hn, fun i x v e1 e2 e3 => ?_⟩
  obtain ⟨u, r, l⟩ := hl i x v e1 e2 e3
  refine ⟨u, r, ?_⟩
  rcases l with l | ⟨k, c, e, z⟩
  ·exact .inl l
  ·exact .inr ⟨k, c, e, cellK x c e _ z⟩
 ·obtain ⟨v, z⟩ := I.cell x c e
  exact ⟨v, cellK x c e v z⟩
 ·obtain ⟨m, ⟨o, _, _, ho, _⟩, _⟩ := I.loc
  exact free _ o (fun z => (hch _ z).2.1 rfl) ho I.free
 ·obtain ⟨v, o, ho, hd⟩ := I.cell x c e
  exact free c o (fun z => (hch c z).2.2.1 x c e rfl) ho (I.freeC x c e)
 ·obtain ⟨e, n, ne, nf, d⟩ := I.pin p hp
  have nch : p.1 ∉ ch := fun z => (hch p.1 z).2.2.2 p hp rfl
  exact ⟨keep p.1 p.2 ne nf nch e n, free p.1 p.2 nch e n, ne, nf, d⟩
theorem Inv.un {t' : Nat} (I : Inv X pins σ H s) (u : Un X.fs [] H H' s.heap h') (hok : HOk X.prog X.w H' h') : Inv X pins σ H' { s with heap := h', toks := t' } := by
 obtain ⟨m, ⟨o, es, ep, ho, r⟩, _⟩ := id I.loc
 obtain ⟨sl, hL⟩ := u.any ho I.free (by simp)
 exact I.step (g' := s.gens) (d' := s.drawn) (ch := []) (fun _ z => nomatch z) (fun b o _ hb _ e n => u.keep b o e n hb (by simp)) (fun b o _ hb _ e n => u.slot b o e n hb (by simp)) (fun b o _ e n => u.free b o e n (by simp)) (fun b o _ e => u.there b o e (by simp)) u.tups u.frzs u.tbls (fun m' hm => by
  obtain ⟨o', es', ep', ho', r'⟩ := hm
  rw [ho] at ho'; cases ho'
  exact ⟨_, es', ep', hL, r'⟩) hok I.bare
theorem Inv.call {g' : Array GenState} {t' : Nat} {d' : Drawn} {ch : List Addr} (I : Inv X pins σ H s) (u : Un (frs X.stack) ch H H' s.heap h') (hok : HOk X.prog X.w H' h') (hg : AllBare g')
  (hch : ∀ b ∈ ch, (b ∈ X.ex \/ X.s₀.heap.objs.size <= b) /\ b ≠ X.env.locals /\ (∀ x c, X.env.cells.lookup x = some c -> c ≠ b) /\ ∀ p ∈ X.pn ++ pins, p.1 ≠ b) :
  Inv X pins σ H' { s with heap := h', gens := g', drawn := d', toks := t' } := by
 obtain ⟨m, ⟨o, es, ep, ho, r⟩, _⟩ := id I.loc
 obtain ⟨sl, hL⟩ := u.any ho I.free fun z => (hch _ z).2.1 rfl
 exact I.step (ch := ch) hch (fun b o hL hb hc e n => u.keep b o e n (fun z => (List.mem_cons.mp (I.stkSub b z)).elim hL hb) hc) (fun b o _ _ hc e n => u.any e n hc) (fun b o hc e n => u.free b o e n hc) (fun b o hc e => u.there b o e hc) u.tups u.frzs u.tbls (fun m' hm => by
  obtain ⟨o', es', ep', ho', r'⟩ := hm
  rw [ho] at ho'; cases ho'
  exact ⟨_, es', ep', hL, r'⟩) hok hg
theorem Inv.turned {t' : Nat} {it : Addr} (I : Inv X pins σ H s) (k : ∀ b o, b ≠ it -> s.heap.get? b = some o -> h'.get? b = some o) (hn : H it = none) (hL : it ≠ X.env.locals)
  (h1 : it ∈ X.ex \/ X.s₀.heap.objs.size <= it) (h2 : ∀ x c, X.env.cells.lookup x = some c -> c ≠ it) (h3 : ∀ p ∈ X.pn ++ pins, p.1 ≠ it) : Inv X pins σ H { s with heap := h', toks := t' } := by
 have nit : ∀ b u, H b = some u -> b ≠ it := fun b u e z => by rw [z, hn] at e; cases e
 refine I.step (g' := s.gens) (d' := s.drawn) (ch := [it]) (fun b hb => ?_) (fun b o _ _ hc e _ => k b o (fun z => hc (by simp [z])) e) (fun b o _ _ hc e _ => ⟨o.slots, k b o (fun z => hc (by simp [z])) e⟩) (fun _ _ _ _ n => n)
  (fun b o hc e => ⟨o, k b o (fun z => hc (by simp [z])) e⟩) (fun _ _ e => e) (fun _ _ _ e => e) (fun b ps e => ⟨#[], by rw [e]; simp⟩) (fun m hm => ?_) (fun b u e => ?_) I.bare
 ·have e : b = it := by simpa using hb
  subst e
  exact ⟨h1, hL, h2, h3⟩
 ·obtain ⟨o, es, ep, ho, r⟩ := hm
  exact ⟨o, es, ep, k _ o (Ne.symm hL) ho, r⟩
 ·refine (I.hok b u e).stay (fun c v hc q => k c v ?_ q) (fun _ q => q) fun _ _ q => q
  rcases hc with z | z
  ·rw [z]; exact nit b u e
  ·exact nit c _ z
theorem Inv.tok (I : Inv X pins σ H s) (t : Nat) : Inv X pins σ H { s with toks := t } := I.un (h' := s.heap) (t' := t) Un.refl I.hok
theorem Inv.kept {t' : Nat} (I : Inv X pins σ H s) (k : ∀ b u, s.heap.get? b = some u -> h'.get? b = some u) : Inv X pins σ H { s with heap := h', toks := t' } := I.un (Un.kept k) (I.hok.kept k)
theorem Inv.laid {a : Addr} {o : HO} {t' : Nat} (I : Inv X pins σ H s) (k : ∀ b u, s.heap.get? b = some u -> h'.get? b = some u) (hp : s.heap.objs.size <= a) (new : ObjOk X.prog X.w (upd H a o) h' a o) :
  Inv X pins σ (upd H a o) { s with heap := h', toks := t' } := I.un (Un.laid k hp (I.hok.fresh hp)) (I.hok.laid k hp new)
theorem Inv.write {x e : Addr} {o : HO} {t' : Nat} (I : Inv X pins σ H s) (mu : Mut (H x)) (he : e = x \/ H e = some (.own x)) (k : ∀ b u, b ≠ e -> s.heap.get? b = some u -> h'.get? b = some u) (heo : ∃ u, h'.get? e = some u)
  (new : ObjOk X.prog X.w (upd H x o) h' x o) : Inv X pins σ (upd H x o) { s with heap := h', toks := t' } := I.un (Un.write mu he k heo) (I.hok.write mu he k heo new)
theorem Inv.pins_of {pins' : List (Addr × Obj)} (I : Inv X pins σ H s) (h : ∀ p ∈ pins', s.heap.get? p.1 = some p.2 /\ H p.1 = none /\ p.1 ≠ X.env.locals /\ p.1 ∉ X.fs /\ ∀ v, p.2.data ≠ .cell v) : Inv X pins' σ H s :=
 ⟨I.ok, I.os, I.bare, I.base, I.loc, I.cell, I.free, I.freeC, fun p hp => (List.mem_append.mp hp).elim (fun z => I.pin p (List.mem_append_left _ z)) (h p), I.hok, I.len⟩
theorem nodup_ix {N : List Str} (hN : N.Nodup) {i j : Nat} {x : Str} (a : N[i]? = some x) (b : N[j]? = some x) : i = j := by
 obtain ⟨h1, e1⟩ := List.getElem?_eq_some_iff.mp a
 obtain ⟨h2, e2⟩ := List.getElem?_eq_some_iff.mp b
 exact (List.getElem_inj hN).mp (e1.trans e2.symm)
theorem store_ok2 {M : Model} {A : Around} {E : Value -> Shared -> Prop} {i : Nat} {x : Str} {v : V} {u : Value} {Q : Unit -> Shared -> Prop} (I : Inv X pins σ H s) (hN : X.N.Nodup) (hi : X.N[i]? = some x) (hx : Loc X.env.scope x) (r : RelV v u)
  (h : ∀ s', Inv X pins (σ.set i (some v)) H s' -> (∃ a, Heap.SameBut a s.heap s'.heap /\ (a = X.env.locals \/ X.env.cells.lookup x = some a)) -> Q () s') (hf : X.fn x = true \/ X.env.scope.names.lookup x = some .local := by first | exact .inl rfl | exact .inr rfl | assumption) : wpAny M A (storeName X.env x u) Q E s := by
 obtain ⟨m, hn, hl⟩ := id I.loc
 have hcls : (X.env.scope.kind == .class || (X.env.scope.kind == .module && X.env.locals != X.env.globals)) = false := by rw [I.ok.kind]; rfl
 have hiσ : i < σ.length := by rw [I.len]; exact (List.getElem?_eq_some_iff.mp hi).1
 have cne := I.cne
 have tracked : ∀ {a : Addr} {h' : Heap}, (∃ o, s.heap.get? a = some o /\ H a = none) -> Heap.SameBut a s.heap h' -> HOk X.prog X.w H h' := fun {a h'} ha hs b ob e => by
  obtain ⟨_, _, hfree⟩ := ha
  refine (I.hok b ob e).stay (fun c w' hc q => (hs.2 c ?_).trans q) (fun _ q => q) fun _ _ q => q
  rintro rfl
  rcases hc with rfl | hc
  ·rw [hfree] at e; cases e
  ·rw [hfree] at hc; cases hc
 rcases hx with hk | hk
 ·refine wpAny_storeName_local hk hn (fun h' hn' hs => ?_) hcls
  obtain ⟨oL, _, _, hoL, _⟩ := id hn
  refine h _ ⟨I.ok, I.os, I.bare, ⟨fun b o e n hb hx => ?_, fun b o e n hb hx => ?_, I.base.free, fun b o e hx => ?_, I.base.tups, I.base.frzs, I.base.tbls⟩, ⟨_, hn', fun j y v' e1 e2 e3 => ?_⟩, fun y c e => ?_, I.free, I.freeC, fun p hp => ?_, tracked ⟨oL, hoL, I.free⟩ hs, by simpa using I.len⟩ ⟨_, hs, .inl rfl⟩
  ·exact (hs.2 b (Nat.ne_of_lt (Nat.lt_of_lt_of_le (Heap.lt_size e) I.ok.above))).trans (I.base.keep b o e n hb hx)
  ·obtain ⟨sl, e1⟩ := I.base.slot b o e n hb hx
   exact ⟨sl, (hs.2 b (Nat.ne_of_lt (Nat.lt_of_lt_of_le (Heap.lt_size e) I.ok.above))).trans e1⟩
  ·obtain ⟨o', e1⟩ := I.base.there b o e hx
   exact ⟨o', (hs.2 b (Nat.ne_of_lt (Nat.lt_of_lt_of_le (Heap.lt_size e) I.ok.above))).trans e1⟩
  ·by_cases hj : j = i
   ·subst hj
    rw [hi] at e1; cases e1
    rw [List.getElem?_set_self hiσ] at e2
    cases e2
    exact ⟨u, r, .inl ⟨hk, by simp⟩⟩
   ·rw [List.getElem?_set_ne (Ne.symm hj)] at e2
    obtain ⟨u', r', q⟩ := hl j y v' e1 e2 e3
    refine ⟨u', r', ?_⟩
    rcases q with ⟨k, e⟩ | ⟨k, c, e, z⟩
    ·refine .inl ⟨k, ?_⟩
     have : y ≠ x := fun e => hj (nodup_ix hN e1 (e ▸ hi))
     simp [this, e]
    ·exact .inr ⟨k, c, e, z.sameBut hs (cne y c e)⟩
  ·obtain ⟨w', z⟩ := I.cell y c e
   exact ⟨w', z.sameBut hs (cne y c e)⟩
  ·obtain ⟨e, n, ne, nf, d⟩ := I.pin p hp
   exact ⟨(hs.2 p.1 ne).trans e, n, ne, nf, d⟩
 ·have hfn : X.fn x = true := by
   rcases hf with z | z
   ·exact z
   ·rw [z] at hk; cases hk
  obtain ⟨c, hc⟩ := I.ok.has x (.inl hk)
  obtain ⟨w', z⟩ := I.cell x c hc
  refine wpAny_storeName_cell I.ok.kind hk hc z (fun h' hc' hs => ?_)
  obtain ⟨oc, hoc, hocd⟩ := id z
  refine h { s with heap := h' } ⟨I.ok, I.os, I.bare, ⟨fun b o e n hb hx => ?_, fun b o e n hb hx => ?_, I.base.free, fun b o e hx => ?_, I.base.tups, I.base.frzs, I.base.tbls⟩, ⟨m, hn.sameBut hs (Ne.symm (cne x c hc)), fun j y v' e1 e2 e3 => ?_⟩, fun y c' e => ?_, I.free, I.freeC, fun p hp => ?_, tracked ⟨oc, hoc, I.freeC x c hc⟩ hs, by simpa using I.len⟩ ⟨c, hs, .inr hc⟩
  ·exact (hs.2 b (Nat.ne_of_lt (Nat.lt_of_lt_of_le (Heap.lt_size e) (I.ok.cab x c hfn hc)))).trans (I.base.keep b o e n hb hx)
  ·obtain ⟨sl, e1⟩ := I.base.slot b o e n hb hx
   exact ⟨sl, (hs.2 b (Nat.ne_of_lt (Nat.lt_of_lt_of_le (Heap.lt_size e) (I.ok.cab x c hfn hc)))).trans e1⟩
  ·obtain ⟨o', e1⟩ := I.base.there b o e hx
   exact ⟨o', (hs.2 b (Nat.ne_of_lt (Nat.lt_of_lt_of_le (Heap.lt_size e) (I.ok.cab x c hfn hc)))).trans e1⟩
  ·by_cases hj : j = i
   ·subst hj
    rw [hi] at e1; cases e1
    rw [List.getElem?_set_self hiσ] at e2
    cases e2
    exact ⟨u, r, .inr ⟨.inl hk, c, hc, hc'⟩⟩
   ·rw [List.getElem?_set_ne (Ne.symm hj)] at e2
    obtain ⟨u', r', q⟩ := hl j y v' e1 e2 e3
    refine ⟨u', r', ?_⟩
    rcases q with q | ⟨k, c', e, z'⟩
    ·exact .inl q
    ·refine .inr ⟨k, c', e, z'.sameBut hs ?_⟩
     rintro rfl
     exact hj (nodup_ix hN e1 (I.ok.inj _ _ _ e hc ▸ hi))
  ·by_cases hcc : c' = c
   ·subst hcc; exact ⟨_, hc'⟩
   ·obtain ⟨w2, z2⟩ := I.cell y c' e
    exact ⟨w2, z2.sameBut hs hcc⟩
  ·obtain ⟨e, n, ne, nf, d⟩ := I.pin p hp
   refine ⟨(hs.2 p.1 ?_).trans e, n, ne, nf, d⟩
   intro q
   rw [q, hoc] at e
   have q' : oc = p.2 := Option.some.inj e
   exact d w' (by rw [<- q']; exact hocd)
theorem store_ok {M : Model} {A : Around} {E : Value -> Shared -> Prop} {i : Nat} {x : Str} {v : V} {u : Value} {Q : Unit -> Shared -> Prop} (I : Inv X pins σ H s) (hN : X.N.Nodup) (hi : X.N[i]? = some x) (hx : Loc X.env.scope x) (r : RelV v u)
  (h : ∀ s', Inv X pins (σ.set i (some v)) H s' -> Q () s') (hf : X.fn x = true \/ X.env.scope.names.lookup x = some .local := by first | exact .inl rfl | exact .inr rfl | assumption) : wpAny M A (storeName X.env x u) Q E s :=
 store_ok2 I hN hi hx r (fun s' I' _ => h s' I') hf
theorem Inv.call' {s' : Shared} {ch : List Addr} (I : Inv X pins σ H s) (ho : s'.os = s.os) (u : Un (frs X.stack) ch H H' s.heap s'.heap) (hok : HOk X.prog X.w H' s'.heap) (hg : AllBare s'.gens)
  (hch : ∀ b ∈ ch, (b ∈ X.ex \/ X.s₀.heap.objs.size <= b) /\ b ≠ X.env.locals /\ (∀ x c, X.env.cells.lookup x = some c -> c ≠ b) /\ ∀ p ∈ X.pn ++ pins, p.1 ≠ b) : Inv X pins σ H' s' := by
 obtain ⟨h', g', d', t', o'⟩ := s'
 have e : o' = s.os := ho
 subst e
 exact I.call (g' := g') (t' := t') (d' := d') u hok hg hch
end
abbrev XK := Value -> Option Addr -> Hp -> Prop
abbrev St := List (Option V)
abbrev VK := V -> Hp -> Prop
abbrev TE := St -> Hp -> VK -> Prop
abbrev TT := St -> Hp -> (Bool -> Hp -> Prop) -> Prop
abbrev TA := St -> Hp -> (List V -> Hp -> Prop) -> Prop
structure Ends where
 nx : St -> Hp -> Prop
 rt : VK
 bk : St -> Hp -> Prop := fun _ _ => False
 ct : St -> Hp -> Prop := fun _ _ => False
abbrev TS := Ends -> St -> Hp -> Prop
def EP (X : Cx) (pins : List (Addr × Obj)) (σ : St) (Q : VK) (u : Value) (s' : Shared) : Prop := ∃ v H', Inv X pins σ H' s' /\ RelV v u /\ Q v H'
def TP (X : Cx) (pins : List (Addr × Obj)) (σ : St) (Q : Bool -> Hp -> Prop) (b : Bool) (s' : Shared) : Prop := ∃ H', Inv X pins σ H' s' /\ Q b H'
def AP (X : Cx) (pins : List (Addr × Obj)) (σ : St) (Q : List V -> Hp -> Prop) (us : List Value) (s' : Shared) : Prop := ∃ vs H', Inv X pins σ H' s' /\ Vals vs us /\ Q vs H'
def SP (X : Cx) (pins : List (Addr × Obj)) (D : Ends) (f : Flow) (s' : Shared) : Prop :=
 match f with
 | .next => ∃ σ' H', Inv X pins σ' H' s' /\ D.nx σ' H'
 | .brk => ∃ σ' H', Inv X pins σ' H' s' /\ D.bk σ' H'
 | .cont => ∃ σ' H', Inv X pins σ' H' s' /\ D.ct σ' H'
 | .ret u => ∃ v σ' H', Inv X pins σ' H' s' /\ RelV v u /\ D.rt v H'
def PE (X : Cx) (e : Expr) (t : TE) : Prop :=
 ∀ (pins : List (Addr × Obj)) (s : Shared) (σ : St) (H : Hp) (Q : VK), Inv X pins σ H s -> t σ H Q -> wpAny (model X.prog X.w) X.A (eval e X.env) (EP X pins σ Q) X.xe s
def PT (X : Cx) (e : Expr) (t : TT) : Prop :=
 ∀ (pins : List (Addr × Obj)) (s : Shared) (σ : St) (H : Hp) (Q : Bool -> Hp -> Prop), Inv X pins σ H s -> t σ H Q -> wpAny (model X.prog X.w) X.A (isTrue e X.env (eval e X.env)) (TP X pins σ Q) X.xe s
def PW (X : Cx) (e : Expr) (t : TT) : Prop :=
 ∀ (whole : Sem Value) (pins : List (Addr × Obj)) (s : Shared) (σ : St) (H : Hp) (Q : Bool -> Hp -> Prop), Inv X pins σ H s -> t σ H Q -> wpAny (model X.prog X.w) X.A (isTrue e X.env whole) (TP X pins σ Q) X.xe s
theorem PW.pt {X : Cx} {e : Expr} {t : TT} (h : PW X e t) : PT X e t := h _
def PA (X : Cx) (es : List Expr) (t : TA) : Prop :=
 ∀ (pos : Pos) (pins : List (Addr × Obj)) (s : Shared) (σ : St) (H : Hp) (Q : List V -> Hp -> Prop), Inv X pins σ H s -> t σ H Q -> wpAny (model X.prog X.w) X.A (spliced (backTo pos (starEach es X.env))) (AP X pins σ Q) X.xe s
def PS (X : Cx) (st : Stmt) (t : TS) : Prop :=
 ∀ (pins : List (Addr × Obj)) (s : Shared) (σ : St) (H : Hp) (D : Ends), Inv X pins σ H s -> t D σ H -> wpAny (model X.prog X.w) X.A (exec st X.env) (SP X pins D) X.xe s
def PSs (X : Cx) (st : List Stmt) (t : TS) : Prop :=
 ∀ (pins : List (Addr × Obj)) (s : Shared) (σ : St) (H : Hp) (D : Ends), Inv X pins σ H s -> t D σ H -> wpAny (model X.prog X.w) X.A (execs st X.env) (SP X pins D) X.xe s
theorem thn {α : Type} {t : Sem α} {Q Q' : α -> Shared -> Prop} {M : Model} {A : Around} {E : Value -> Shared -> Prop} {s : Shared} (h : wpAny M A t Q E s) (hQ : ∀ a s, Q a s -> Q' a s) : wpAny M A t Q' E s := wpAny_mono h hQ fun _ _ x => x
end L2
namespace L2
open PySem PySem.Spec PyProof.Rows
section
variable {X : Cx}
def tVar (i : Nat) : TE := fun σ H Q => ∃ v, σ[i]? = some (some v) /\ Q v H
def tC (v : V) : TE := fun _ H Q => Q v H
theorem pe_var {i : Nat} {x : Str} {pos : Pos} (hN : X.N[i]? = some x) (hv : Vis X.env.scope x) (hd : (x == ("__debug__" : Str)) = false := by decide) (hcd : (x == ("__classdict__" : Str)) = false := by decide) : PE X (.Name x pos) (tVar i) := by
 intro pins s σ H Q I h
 obtain ⟨v, e, h⟩ := h
 obtain ⟨m, hn, hl⟩ := I.loc
 obtain ⟨u, r, l⟩ := hl i x v hN e hv
 have fin : EP X pins σ Q u s := ⟨v, H, I, r, h⟩
 rcases l with ⟨hk, hm⟩ | ⟨hk, c, hc, hcell⟩
 ·exact wpAny_Name (wpAny_loadName_local I.ok.kind hk hn hm fin) hd
 ·rcases hk with hk | hk
  ·exact wpAny_Name (wpAny_loadName_cell I.ok.kind hk hc hcell fin) hd
  ·exact wpAny_Name (wpAny_loadName_free I.ok.kind hk hc hcell fin hcd) hd
theorem pe_int {i j pos} : PE X (.Constant (.int i) j pos) (tC (.int i)) := fun _ _ _ H _ I h => wpAny_Constant_int ⟨.int i, H, I.tok _, ⟨_, rfl⟩, h⟩
theorem pe_bl {b j pos} : PE X (.Constant (.bool b) j pos) (tC (.bl b)) := fun _ _ _ H _ I h => Constant_bool ⟨.bl b, H, I, rfl, h⟩
theorem pe_non {j pos} : PE X (.Constant .none j pos) (tC .non) := fun _ _ _ H _ I h => Constant_none ⟨.non, H, I, rfl, h⟩
theorem pe_str {x j pos} : PE X (.Constant (.str x) j pos) (tC (.str x)) := fun _ _ _ H _ I h => Calls.Constant_str ⟨.str x, H, I.tok _, ⟨_, rfl⟩, h⟩
def Gl (X : Cx) (x : Str) : Prop := X.env.kindOf x = some .globalImplicit
theorem ld_glob {E : Value -> Shared -> Prop} {pins : List (Addr × Obj)} {s : Shared} {σ : St} {H : Hp} {x : Str} {u : Value} {pos : Pos} {Q : Value -> Shared -> Prop} (I : Inv X pins σ H s) (hg : Gl X x) (hm : X.mg x = some u) (h : Q u s)
  (hd : (x == ("__debug__" : Str)) = false := by decide) : wpAny (model X.prog X.w) X.A (eval (.Name x pos) X.env) Q E s :=
 Calls.Name_function_global I.ok.kind hg (Calls.loadGlobal_global (by rw [I.ok.glob]; exact I.mod.glob.keeps I.bk) hm h) hd
theorem ld_blt {E : Value -> Shared -> Prop} {pins : List (Addr × Obj)} {s : Shared} {σ : St} {H : Hp} {x : Str} {u : Value} {pos : Pos} {Q : Value -> Shared -> Prop} (I : Inv X pins σ H s) (hg : Gl X x) (hm : X.mg x = none) (hv : bootBuiltins x = some u) (h : Q u s)
  (hn : x ≠ "__name__" := by decide) (hd : (x == ("__debug__" : Str)) = false := by decide) : wpAny (model X.prog X.w) X.A (eval (.Name x pos) X.env) Q E s := by
 obtain ⟨mb, h1, h2⟩ := I.mod.blt
 exact Calls.Name_function_global I.ok.kind hg (Calls.loadGlobal_builtin (by rw [I.ok.glob]; exact I.mod.glob.keeps I.bk) hm (by rw [I.ok.blt]; exact h1.keeps I.bk) ((h2 x hn).trans hv) h) hd
theorem pe_glob {x : Str} {v : V} {u : Value} {pos : Pos} (hg : Gl X x) (hm : X.mg x = some u) (r : RelV v u) (hd : (x == ("__debug__" : Str)) = false := by decide) : PE X (.Name x pos) (tC v) :=
 fun _ _ _ H _ I h => ld_glob I hg hm ⟨v, H, I, r, h⟩ hd
variable {a b : Expr} {ta tb : TE} {pos : Pos}
def tB (t : TE) : TT := fun σ H Q => t σ H fun x H1 => ∃ c, x = .bl c /\ Q c H1
theorem pt_val {e : Expr} {t : TE} (h : PE X e t) (he : ∀ whole, isTrue e X.env whole = (do let v <- whole; standAt e.pos; holding [v] (truthy v)) := by intro _; rfl) : PT X e (tB t) := by
 intro pins s σ H Q I hw
 refine isTrue_plain (thn (h pins s σ H _ I hw) fun v s1 zz206 => ex23 zz206 fun x H1 I1 r1 q1 => ?_) (he _)
 obtain ⟨d, rfl, q⟩ := q1
 cases r1
 exact wpAny_truthy_bool ⟨H1, I1, q⟩
variable {tA tB' : TT} {rest : List Expr}
def tAnd (t u : TT) : TT := fun σ H Q => t σ H fun c H1 => if c = true then u σ H1 Q else Q false H1
def tOr (t u : TT) : TT := fun σ H Q => t σ H fun c H1 => if c = true then Q true H1 else u σ H1 Q
def tNot (t : TT) : TT := fun σ H Q => t σ H fun c H1 => Q (!c) H1
theorem pw_and1 (ha : PT X a tA) : PW X (.BoolOp .And [a] pos) tA := by
 intro wh pins s σ H Q I h
 refine isTrue_and (thn (ha pins s σ H Q I h) fun c s1 e => ?_)
 cases c with
 | true => exact isTrue_and_nil e
 | false => exact e
theorem pw_or1 (ha : PT X a tA) : PW X (.BoolOp .Or [a] pos) tA := by
 intro wh pins s σ H Q I h
 refine isTrue_or (thn (ha pins s σ H Q I h) fun c s1 e => ?_)
 cases c with
 | false => exact isTrue_or_nil e
 | true => exact e
theorem pw_and (ha : PT X a tA) (hb : PW X (.BoolOp .And (b :: rest) pos) tB') : PW X (.BoolOp .And (a :: b :: rest) pos) (tAnd tA tB') := by
 intro wh pins s σ H Q I h
 refine isTrue_and (thn (ha pins s σ H _ I h) fun c s1 ⟨H1, I1, q1⟩ => ?_)
 cases c with
 | true => exact hb wh pins s1 σ H1 Q I1 q1
 | false => exact ⟨H1, I1, q1⟩
theorem pw_or (ha : PT X a tA) (hb : PW X (.BoolOp .Or (b :: rest) pos) tB') : PW X (.BoolOp .Or (a :: b :: rest) pos) (tOr tA tB') := by
 intro wh pins s σ H Q I h
 refine isTrue_or (thn (ha pins s σ H _ I h) fun c s1 ⟨H1, I1, q1⟩ => ?_)
 cases c with
 | true => exact ⟨H1, I1, q1⟩
 | false => exact hb wh pins s1 σ H1 Q I1 q1
theorem pt_not (ha : PT X a tA) : PT X (.UnaryOp .Not a pos) (tNot tA) := by
 intro pins s σ H Q I h
 exact isTrue_not (ha pins s σ H (fun c H1 => Q (!c) H1) I h)
def tAndV (ta tb : TE) : TE := fun σ H Q => ta σ H fun x H1 => ∃ c, x = .bl c /\ if c = true then tb σ H1 Q else Q (.bl false) H1
def tNotV (ta : TE) : TE := fun σ H Q => ta σ H fun x H1 => ∃ c, x = .bl c /\ Q (.bl (!c)) H1
theorem pe_one {op} {t : TE} (h : PE X a t) : PE X (.BoolOp op [a] pos) t := fun pins s σ H Q I hw => BoolOp_one (h pins s σ H Q I hw)
theorem pe_and (ha : PE X a ta) (hb : PE X (.BoolOp .And (b :: rest) pos) tb) : PE X (.BoolOp .And (a :: b :: rest) pos) (tAndV ta tb) := by
 intro pins s σ H Q I h
 refine BoolOp_and (thn (ha pins s σ H _ I h) fun v s1 zz207 => ex23 zz207 fun x H1 I1 r1 q1 => ?_)
 obtain ⟨c, rfl, q1⟩ := q1
 cases r1
 refine wpAny_truthy_bool ?_
 cases c with
 | true => exact hb pins s1 σ H1 Q I1 q1
 | false => exact ⟨.bl false, H1, I1, rfl, q1⟩
theorem pe_not (ha : PE X a ta) : PE X (.UnaryOp .Not a pos) (tNotV ta) := by
 intro pins s σ H Q I h
 refine UnaryOp_ (thn (ha pins s σ H _ I h) fun v s1 zz209 => ex23 zz209 fun x H1 I1 r1 q1 => ?_)
 obtain ⟨c, rfl, q1⟩ := q1
 cases r1
 exact not_of (wpAny_truthy_bool ⟨.bl (!c), H1, I1, rfl, q1⟩)
end
end L2
namespace L2
open PySem PySem.Spec PyProof.Rows
def SqL (K : PySem.W.Frag) (H : Hp) (a : Addr) (xs : List V) : Prop :=
 Rd H a (.lst xs) \/
  ∃ (o : Obj) (its : Array Value) (n : Nat), K.lookup a = some o /\ o.cls = .type "list" /\ o.dict = none /\ o.data = .seq its n /\ its.size <= sizeLine /\ Vals xs its.toList
def SqT (K : PySem.W.Frag) (H : Hp) (a : Addr) (xs : List V) : Prop :=
 Rd H a (.tup xs) \/
  ∃ (o : Obj) (its : Array Value) (n : Nat), K.lookup a = some o /\ o.cls = .type "tuple" /\ o.data = .seq its n /\ its.size <= sizeLine /\ Vals xs its.toList
def absV : Value -> Option V
 | .none => some .non
 | .bool b => some (.bl b)
 | .int i _ => some (.int i)
 | .str x _ => some (.str x)
 | .bytes b _ => some (.byt b)
 | .float b _ => some (.flt b)
 | .ref a => some (.ref a)
 | .type n => some (.ty n)
 | _ => none
theorem RelV.abs {x : V} {u : Value} (r : RelV x u) : absV u = some x := by
 cases x with
 | non => cases r; rfl
 | bl _ => cases r; rfl
 | int _ => obtain ⟨t, rfl⟩ := r; rfl
 | str _ => obtain ⟨t, rfl⟩ := r; rfl
 | byt _ => obtain ⟨t, rfl⟩ := r; rfl
 | flt _ => obtain ⟨t, rfl⟩ := r; rfl
 | ref _ => cases r; rfl
 | ty _ => cases r; rfl
theorem RelV.inj {x y : V} {u : Value} (r : RelV x u) (q : RelV y u) : x = y := Option.some.inj (r.abs.symm.trans q.abs)
theorem Vals.inj : ∀ {xs ys : List V} {us : List Value}, Vals xs us -> Vals ys us -> xs = ys
 | _, _, _, .nil, .nil => rfl
 | _, _, _, .cons r t, .cons r' t' => by rw [r.inj r', Vals.inj t t']
section
variable {X : Cx} {pins : List (Addr × Obj)} {σ : St} {H : Hp} {s : Shared} {a : Addr} {xs ys : List V}
theorem SqL.of {K : PySem.W.Frag} (h : H a = some (.lst xs)) : SqL K H a xs := .inl (.inl h)
theorem SqT.of {K : PySem.W.Frag} (h : H a = some (.tup xs)) : SqT K H a xs := .inl (.inl h)
theorem Inv.list (I : Inv X pins σ H s) (h : SqL X.K H a xs) : ∃ its : List Value, Vals xs its /\ PlainL s.heap a its.toArray /\ xs.length <= sizeLine := by
 rcases h with h | ⟨o, its, n, hk, hc, hd, hs, hz, r⟩
 ·obtain ⟨z, its, n, r, e⟩ := h.ok I.hok
  exact ⟨its, r, ⟨_, n, e, rfl, rfl, rfl⟩, z⟩
 ·refine ⟨its.toList, r, ⟨o, n, I.kIn a o hk, hc, hd, by simpa using hs⟩, ?_⟩
  have e := r.length
  simp only [Array.length_toList] at e
  omega
theorem Inv.tuple (I : Inv X pins σ H s) (h : SqT X.K H a xs) : ∃ its : List Value, Vals xs its /\ IsTup s.heap a its.toArray /\ xs.length <= sizeLine := by
 rcases h with h | ⟨o, its, n, hk, hc, hs, hz, r⟩
 ·obtain ⟨z, its, r, p⟩ := h.ok I.hok
  exact ⟨its, r, p, z⟩
 ·refine ⟨its.toList, r, ⟨o, I.kIn a o hk, hc, n, by simpa using hs⟩, ?_⟩
  have e := r.length
  simp only [Array.length_toList] at e
  omega
theorem Inv.list_inj (I : Inv X pins σ H s) (h : SqL X.K H a xs) (h' : SqL X.K H a ys) : xs = ys := by
 obtain ⟨its, r, ⟨o, n, e, _, _, d⟩, _⟩ := I.list h
 obtain ⟨its', r', ⟨o', n', e', _, _, d'⟩, _⟩ := I.list h'
 rw [e] at e'; cases e'
 rw [d] at d'
 injection d' with d1 _
 have : its = its' := by simpa using congrArg Array.toList d1
 subst this
 exact r.inj r'
theorem Inv.tuple_inj (I : Inv X pins σ H s) (h : SqT X.K H a xs) (h' : SqT X.K H a ys) : xs = ys := by
 obtain ⟨its, r, ⟨o, e, _, n, d⟩, _⟩ := I.tuple h
 obtain ⟨its', r', ⟨o', e', _, n', d'⟩, _⟩ := I.tuple h'
 rw [e] at e'; cases e'
 rw [d] at d'
 injection d' with d1 _
 have : its = its' := by simpa using congrArg Array.toList d1
 subst this
 exact r.inj r'
end
abbrev Cx.wish (X : Cx) (E : Value -> Shared -> Prop) : Cx := { X with xe := E }
abbrev Cx.nox (X : Cx) : Cx := X.wish fun _ _ => False
theorem Cx.Ok.wish {X : Cx} (ok : X.Ok) (E : Value -> Shared -> Prop) : (X.wish E).Ok :=
 ⟨ok.mod, ok.kind, ok.glob, ok.blt, ok.above, ok.inj, ok.has, ok.cab, ok.hd, ok.frames, ok.stk, ok.exf, ok.bs, ok.bsz, ok.noex, ok.exfs, ok.funs, ok.frf⟩
theorem Cx.Ok.unwish {X : Cx} {E : Value -> Shared -> Prop} (ok : (X.wish E).Ok) : X.Ok :=
 ⟨ok.mod, ok.kind, ok.glob, ok.blt, ok.above, ok.inj, ok.has, ok.cab, ok.hd, ok.frames, ok.stk, ok.exf, ok.bs, ok.bsz, ok.noex, ok.exfs, ok.funs, ok.frf⟩
section
variable {X : Cx} {pins : List (Addr × Obj)} {σ : St} {H : Hp} {s : Shared} {E : Value -> Shared -> Prop}
theorem Inv.wish (I : Inv X pins σ H s) (E : Value -> Shared -> Prop) : Inv (X.wish E) pins σ H s := ⟨I.ok.wish E, I.os, I.bare, I.base, I.loc, I.cell, I.free, I.freeC, I.pin, I.hok, I.len⟩
theorem Inv.unwish (I : Inv (X.wish E) pins σ H s) : Inv X pins σ H s := ⟨I.ok.unwish, I.os, I.bare, I.base, I.loc, I.cell, I.free, I.freeC, I.pin, I.hok, I.len⟩
theorem SP.unwish {D : Ends} {f : Flow} {s' : Shared} (h : SP (X.wish E) pins D f s') : SP X pins D f s' := by
 cases f with
 | next => obtain ⟨σ', H', I, q⟩ := h; exact ⟨σ', H', I.unwish, q⟩
 | brk => obtain ⟨σ', H', I, q⟩ := h; exact ⟨σ', H', I.unwish, q⟩
 | cont => obtain ⟨σ', H', I, q⟩ := h; exact ⟨σ', H', I.unwish, q⟩
 | ret u => obtain ⟨v, σ', H', I, r, q⟩ := h; exact ⟨v, σ', H', I.unwish, r, q⟩
theorem PSs.nox {st : List Stmt} {t : TS} (h : PSs X.nox st t) : PSs X st t := fun pins s σ H D I hw =>
 wpAny_mono (h pins s σ H D (I.wish _) hw) (fun _ _ q => q.unwish) fun _ _ z => False.elim z
end
section
variable {X : Cx} {st : Stmt} {rest : List Stmt} {t u : TS} {e : Expr} {te : TE} {pos : Pos}
def tNext : TS := fun D σ H => D.nx σ H
def tSeq (t u : TS) : TS := fun D σ H => t { D with nx := u D } σ H
theorem pss_nil : PSs X [] tNext := fun _ _ σ H _ I h => wpAny_execs_nil ⟨σ, H, I, h⟩
theorem pss_cons (h1 : PS X st t) (h2 : PSs X rest u) : PSs X (st :: rest) (tSeq t u) := by
 intro pins s σ H D I h
 refine wpAny_execs_cons (thn (h1 pins s σ H { D with nx := u D } I h) fun f s1 q => ?_)
 cases f with
 | next =>
  obtain ⟨σ', H', I', q⟩ := q
  exact h2 pins s1 σ' H' D I' q
 | ret v => exact q
 | brk => exact q
 | cont => exact q
theorem pss_one (h1 : PS X st t) : PSs X [st] t := by
 intro pins s σ H D I h
 refine wpAny_execs_cons (thn (h1 pins s σ H D I h) fun f s1 q => ?_)
 cases f with
 | next => exact wpAny_execs_nil q
 | ret v => exact q
 | brk => exact q
 | cont => exact q
theorem Inv.quiet {pins : List (Addr × Obj)} {σ : St} {H : Hp} {s : Shared} (I : Inv X pins σ H s) : interactive X.env = false := by simp [interactive, I.ok.kind]
def tDrop (te : TE) : TS := fun D σ H => te σ H fun _ H1 => D.nx σ H1
theorem ps_expr (he : PE X e te) (hs : swapsWith e none pos.line X.env = pure false := by rfl) : PS X (.Expr e pos) (tDrop te) := by
 intro pins s σ H D I h
 exact wpAny_Expr_any (thn (he pins s σ H _ I h) fun v s1 zz210 => ex23 zz210 fun x H1 I1 r1 q1 => ⟨σ, H1, I1, q1⟩) I.quiet hs
def tRet (te : TE) : TS := fun D σ H => te σ H D.rt
theorem ps_ret (he : PE X e te) : PS X (.Return (some e) pos) (tRet te) := by
 intro pins s σ H D I h
 exact wpAny_Return_some (thn (he pins s σ H _ I h) fun v s1 zz211 => ex23 zz211 fun x H1 I1 r1 q1 => ⟨x, σ, H1, I1, r1, q1⟩)
def tIfS (c : TT) (t u : TS) : TS := fun D σ H => c σ H fun b H1 => if b = true then t D σ H1 else u D σ H1
theorem ps_if {c : Expr} {a b : List Stmt} {tc : TT} (hc : PT X c tc) (ha : PSs X a t) (hb : PSs X b u) : PS X (.If c a b pos) (tIfS tc t u) := by
 intro pins s σ H D I h
 refine wpAny_If (thn (hc pins s σ H _ I h) fun d s1 ⟨H1, I1, q1⟩ => ?_)
 cases d with
 | true => exact ha pins s1 σ H1 D I1 q1
 | false => exact hb pins s1 σ H1 D I1 q1
end
abbrev TG := V -> St -> Hp -> (St -> Hp -> Prop) -> Prop
abbrev TGs := List V -> St -> Hp -> (St -> Hp -> Prop) -> Prop
def PG (X : Cx) (target : Expr) (t : TG) : Prop :=
 ∀ (pins : List (Addr × Obj)) (s : Shared) (σ : St) (H : Hp) (v : V) (u : Value) (Q : St -> Hp -> Prop), Inv X pins σ H s -> RelV v u -> t v σ H Q ->
  wpAny (model X.prog X.w) X.A (assign target X.env u) (fun _ s' => ∃ σ' H', Inv X pins σ' H' s' /\ Q σ' H') X.xe s
def PGs (X : Cx) (ts : List Expr) (t : TGs) : Prop :=
 ∀ (pins : List (Addr × Obj)) (s : Shared) (σ : St) (H : Hp) (vs : List V) (us : List Value) (Q : St -> Hp -> Prop), Inv X pins σ H s -> Vals vs us -> t vs σ H Q ->
  wpAny (model X.prog X.w) X.A (assignInOrder ((assignEach ts X.env).map (·.2)) us) (fun _ s' => ∃ σ' H', Inv X pins σ' H' s' /\ Q σ' H') X.xe s
abbrev TSet := V -> V -> V -> Hp -> (Hp -> Prop) -> Prop
def PSet (X : Cx) (t : TSet) : Prop :=
 ∀ (pins : List (Addr × Obj)) (s : Shared) (σ : St) (H : Hp) (o i v : V) (ov iv u : Value) (Q : Hp -> Prop), Inv X pins σ H s -> RelV o ov -> RelV i iv -> RelV v u -> t o i v H Q ->
  wpAny (model X.prog X.w) X.A (setItem ov iv u) (fun _ s' => ∃ H', Inv X pins σ H' s' /\ Q H') X.xe s
section
variable {X : Cx} {pos : Pos}
def gName (i : Nat) : TG := fun v σ H Q => Q (σ.set i (some v)) H
theorem pg_name {i : Nat} {x : Str} (hN : X.N.Nodup) (hi : X.N[i]? = some x) (hx : Loc X.env.scope x) (hf : X.fn x = true \/ X.env.scope.names.lookup x = some .local := by first | exact .inl rfl | exact .inr rfl | assumption) : PG X (.Name x pos) (gName i) := by
 intro pins s σ H v u Q I r h
 exact wpAny_assign_Name (store_ok I hN hi hx r (fun s' I' => ⟨_, H, I', h⟩) hf)
def gNil : TGs := fun vs σ H Q => vs = [] /\ Q σ H
def gCons (t : TG) (u : TGs) : TGs := fun vs σ H Q => ∃ v r, vs = v :: r /\ t v σ H fun σ' H' => u r σ' H' Q
theorem pgs_nil : PGs X [] gNil := by
 intro pins s σ H vs us Q I r h
 obtain ⟨e, h⟩ := h
 subst e
 cases r
 exact assignInOrder_nil ⟨σ, H, I, h⟩
theorem pgs_cons {e : Expr} {es : List Expr} {t : TG} {u : TGs} (h1 : PG X e t) (h2 : PGs X es u)
  (hs : (assignEach (e :: es) X.env).map (·.2) = assign e X.env :: (assignEach es X.env).map (·.2) := by rfl) : PGs X (e :: es) (gCons t u) := by
 intro pins s σ H vs us Q I r h
 obtain ⟨v, vr, e1, h⟩ := h
 subst e1
 cases r with
 | cons r rr =>
  rw [hs]
  refine assignInOrder_cons (thn (h1 pins s σ H _ _ _ I r h) fun _ s1 zz501 => ?_)
  obtain ⟨σ1, H1, I1, q1⟩ := zz501
  exact h2 pins s1 σ1 H1 _ _ Q I1 rr q1
def gTup (K : PySem.W.Frag) (n : Nat) (t : TGs) : TG := fun v σ H Q => ∃ a xs, v = .ref a /\ SqT K H a xs /\ xs.length = n /\ t xs σ H Q
theorem pg_tup {es : List Expr} {k : Nat} {t : TGs} {n : Nat} (hc : X.calm = true) (h : PGs X es t)
  (hn : (assignEach es X.env).length = n := by rfl) (hst : (assignEach es X.env).findIdx? (·.1) = none := by rfl) : PG X (.Tuple es k pos) (gTup X.K n t) := by
 intro pins s σ H v u Q I r hw
 obtain ⟨a, xs, e1, hq, hl, hw⟩ := hw
 subst e1
 cases r
 obtain ⟨its, rv, ht, hz⟩ := I.tuple hq
 refine assign_Tuple_tuple (I.ok.hd hc) ht (by simp [hn, <- hl, rv.length]) hst fun h' hx => ?_
 have I1 : Inv X pins σ H { s with heap := h' } := I.kept (t' := s.toks) fun b o e => hx b o (Nat.ne_of_lt (Heap.lt_size e)) e
 exact h pins _ σ H xs _ Q I1 (by simpa using rv) hw
def gSub (to ti : TE) (t : TSet) : TG := fun v σ H Q => to σ H fun o H1 => ti σ H1 fun i H2 => t o i v H2 fun H3 => Q σ H3
theorem pg_sub {o i : Expr} {to ti : TE} {t : TSet} (ho : PE X o to) (hi : PE X i ti) (hs : PSet X t)
  (ha : ∀ v, assign (.Subscript o i pos) X.env v = (do
   let ov <- holding [v] (eval o X.env)
   let iv <- holding [v, ov] (eval i X.env)
   standAt pos
   holding [v, ov, iv] (setItem ov iv v)
   release [v, ov, iv] []) := by intro _; rfl) : PG X (.Subscript o i pos) (gSub to ti t) := by
 intro pins s σ H v u Q I r h
 rw [ha]
 refine wpAny_bind (wpAny_holding (thn (ho pins s σ H _ I h) fun ov s1 zz212 => ex23 zz212 fun x H1 I1 r1 q1 => ?_))
 refine wpAny_bind (wpAny_holding (thn (hi pins s1 σ H1 _ I1 q1) fun iv s2 zz213 => ex23 zz213 fun y H2 I2 r2 q2 => ?_))
 refine wpAny_bind (wpAny_standAt (wpAny_bind (wpAny_holding (thn (hs pins s2 σ H2 x y v ov iv u _ I2 r1 r2 r q2) fun _ s3 ⟨H3, I3, q3⟩ => ?_))))
 exact wpAny_release ⟨σ, H3, I3, q3⟩
def tAsg (te : TE) (g : TG) : TS := fun D σ H => te σ H fun x H1 => g x σ H1 D.nx
theorem ps_asg {tg e : Expr} {te : TE} {g : TG} (he : PE X e te) (hg : PG X tg g) (hs : swapsWithSole [tg] e pos.line X.env = pure false := by rfl) (hw : swappedStores [tg] e X.env = pure none := by rfl)
  (h1 : (assignEach [tg] X.env).map (·.2) = [assign tg X.env] := by rfl) : PS X (.Assign [tg] e pos) (tAsg te g) := by
 intro pins s σ H D I h
 refine wpAny_Assign_stores (thn (he pins s σ H _ I h) fun v s1 zz214 => ex23 zz214 fun x H1 I1 r1 q1 => ?_) hs hw
 rw [h1]
 exact thn (hg pins s1 σ H1 x v _ I1 r1 q1) fun _ s2 q => q
theorem ps_set {i : Nat} {x : Str} {e : Expr} {te : TE} {pos' : Pos} (hN : X.N.Nodup) (hi : X.N[i]? = some x) (hx : Loc X.env.scope x) (he : PE X e te) (hs : swapsWith e (some (.Name x pos')) pos.line X.env = pure false := by rfl) (hf : X.fn x = true \/ X.env.scope.names.lookup x = some .local := by first | exact .inl rfl | exact .inr rfl | assumption) :
  PS X (.Assign [.Name x pos'] e pos) (tAsg te (gName i)) := by
 intro pins s σ H D I h
 refine wpAny_Assign_Name (thn (he pins s σ H _ I h) fun v s1 zz215 => ex23 zz215 fun y H1 I1 r1 q1 => ?_) hs
 exact store_ok I1 hN hi hx r1 (fun s2 I2 => ⟨_, H1, I2, q1⟩) hf
end
section
variable {X : Cx} {pos : Pos}
def tWhile (c : TT) (tb : TS) : TS := fun D σ H => ∃ W : Nat -> St -> Hp -> Prop, (∃ m, W m σ H) /\ ∀ m σ H, W m σ H ->
 c σ H fun b H1 => if b = true then ∃ N : St -> Hp -> Prop, (∀ σ' H', N σ' H' -> ∃ m', m' < m /\ W m' σ' H') /\ tb { D with nx := N, ct := N, bk := D.nx } σ H1 else D.nx σ H1
theorem ps_while {c : Expr} {body : List Stmt} {tc : TT} {tb : TS} (hp : PassesOwn (model X.prog X.w) X.A X.env X.xe) (hc : PT X c tc) (hb : PSs X body tb) : PS X (.While c body [] pos) (tWhile tc tb) := by
 intro pins s σ H D I h
 obtain ⟨W, ⟨m0, w0⟩, turn⟩ := h
 refine wpAny_While (codeAny_whileLoop (fun n s' => ∃ σ' H', Inv X pins σ' H' s' /\ W n σ' H') ?_ m0 ⟨σ, H, I, w0⟩)
 rintro n s1 ⟨σ1, H1, I1, w1⟩
 refine wpAny_passesOwn hp (thn (hc pins s1 σ1 H1 _ I1 (turn n σ1 H1 w1)) fun b s2 ⟨H2, I2, q2⟩ => ?_)
 cases b with
 | true =>
  obtain ⟨N, hN, q2⟩ := q2
  rw [if_pos rfl]
  refine wpAny_passesOwn hp (thn (hb pins s2 σ1 H2 _ I2 q2) fun f s3 q3 => ?_)
  cases f with
  | next =>
   obtain ⟨σ3, H3, I3, n3⟩ := q3
   obtain ⟨m', hm, w3⟩ := hN σ3 H3 n3
   exact ⟨m', hm, σ3, H3, I3, w3⟩
  | cont =>
   obtain ⟨σ3, H3, I3, n3⟩ := q3
   obtain ⟨m', hm, w3⟩ := hN σ3 H3 n3
   exact ⟨m', hm, σ3, H3, I3, w3⟩
  | brk => exact q3
  | ret v => exact q3
 | false =>
  rw [if_neg Bool.false_ne_true]
  exact wpAny_execs_nil ⟨σ1, H2, I2, q2⟩
end
structure It where
 go : Nat -> Hp -> Prop
 yld : Nat -> Hp -> V -> Hp -> Prop
 stop : Nat -> Hp -> Prop
def FpOk (X : Cx) (pins : List (Addr × Obj)) (H : Hp) (b : Addr) : Prop :=
 H b = none /\ b ≠ X.env.locals /\ b ∉ X.fs /\ (b ∈ X.ex \/ X.s₀.heap.objs.size <= b) /\ (∀ x c, X.env.cells.lookup x = some c -> c ≠ b) /\ ∀ p ∈ X.pn ++ pins, p.1 ≠ b
theorem Inv.fpOk {X : Cx} {pins : List (Addr × Obj)} {σ : St} {H H' : Hp} {s : Shared} {b : Addr} (I : Inv X pins σ H s) (hb : s.heap.objs.size <= b) (hn : H' b = none) : FpOk X pins H' b := by
 refine ⟨hn, Nat.ne_of_gt (Nat.lt_of_lt_of_le I.lt hb), I.nofs hb, .inr (Nat.le_trans I.sz hb), fun x c e z => ?_, fun p hp z => ?_⟩
 ·obtain ⟨v, q⟩ := I.cell x c e
  exact absurd (Nat.lt_of_lt_of_le q.lt (by rw [z]; exact hb)) (Nat.lt_irrefl _)
 ·exact absurd (Nat.lt_of_lt_of_le (Heap.lt_size (I.pin p hp).1) (by rw [z]; exact hb)) (Nat.lt_irrefl _)
structure Turn (P : Program) (w : World) (K : PySem.W.Frag) (tg : Expr) (J : It) (fp : List Addr) (it : Addr) (tn : Nat -> Heap -> Prop) : Prop where
 mem : it ∈ fp
 obj : ∀ i h, tn i h -> ∀ b ∈ fp, ∃ o, h.get? b = some o /\ ∀ v, o.data ≠ .cell v
 keep : ∀ i h h', tn i h -> (∀ b ∈ fp, ∀ o, h.get? b = some o -> h'.get? b = some o) -> tn i h'
 item : ∀ (X : Cx), X.prog = P -> X.w = w -> X.K = K -> X.calm = true -> ∀ (i : Nat) (pins : List (Addr × Obj)) (s : Shared) (σ : St) (H : Hp) (E : Value -> Shared -> Prop), Inv X pins σ H s -> (∀ b ∈ fp, FpOk X pins H b) -> tn i s.heap -> J.go i H ->
  wpAny (model P w) X.A (pyNext (.ref it)) (fun r s1 => ∃ u, r = some u /\
   wpAny (model P w) X.A (letOwnedTupleGo tg (.ref it) u) (fun _ s2 => ∃ x H', Inv X pins σ H' s2 /\ RelV x u /\ J.yld i H x H' /\ tn (i + 1) s2.heap /\ ∀ b ∈ fp, H' b = none) E s1) E s
 done : ∀ (X : Cx), X.prog = P -> X.w = w -> X.K = K -> X.calm = true -> ∀ (i : Nat) (pins : List (Addr × Obj)) (s : Shared) (σ : St) (H : Hp) (E : Value -> Shared -> Prop), Inv X pins σ H s -> (∀ b ∈ fp, FpOk X pins H b) -> tn i s.heap -> J.stop i H ->
  wpAny (model P w) X.A (pyNext (.ref it)) (fun r s1 => r = none /\ Inv X pins σ H s1) E s
 self : ∀ (A : Around) (i : Nat) (s : Shared) (Q : Value -> Shared -> Prop) (E : Value -> Shared -> Prop), tn i s.heap -> Q (.ref it) s -> wpAny (model P w) A (pyIter (.ref it)) Q E s
abbrev TI := St -> Hp -> (It -> Hp -> Prop) -> Prop
def PIE (X : Cx) (pins : List (Addr × Obj)) (σ : St) (tg : Expr) (R : It -> Hp -> Prop) (itv : Value) (s2 : Shared) : Prop :=
 ∃ (it : Addr) (fp : List Addr) (tn : Nat -> Heap -> Prop) (J : It) (H' : Hp), itv = .ref it /\ Inv X pins σ H' s2 /\ Turn X.prog X.w X.K tg J fp it tn /\ tn 0 s2.heap /\ (∀ b ∈ fp, FpOk X pins H' b) /\ R J H'
def PI (X : Cx) (tg iter : Expr) (wi : TI) : Prop :=
 ∀ (pins : List (Addr × Obj)) (s : Shared) (σ : St) (H : Hp) (R : It -> Hp -> Prop), Inv X pins σ H s -> wi σ H R ->
  wpAny (model X.prog X.w) X.A (eval iter X.env) (fun v s1 => wpAny (model X.prog X.w) X.A (pyIter v) (PIE X pins σ tg R) X.xe s1) X.xe s
theorem go_of {M : Model} {A : Around} {E : Value -> Shared -> Prop} {s : Shared} {tg : Expr} {it : Addr} {u : Value} {o : Obj} {n : String} {vs : Array Value} {Q : Unit -> Shared -> Prop} (ho : s.heap.get? it = some o) (hc : o.cls = .type n) (hd : o.data = .fields vs)
  (hn : ["enumerate", "zip", "dict_itemiterator", "dict_reverseitemiterator", "odict_iterator", "itertools.zip_longest", "itertools.pairwise"].contains n = false) (hQ : Q () s) : wpAny M A (letOwnedTupleGo tg (.ref it) u) Q E s := by
 unfold letOwnedTupleGo
 cases tg <;> first
  | exact wpAny_pure hQ
  | (cases u <;> first
    | exact wpAny_pure hQ
    | (refine wpAny_bind (wpAny_load ho ?_)
       rw [hc, hd]
       show wpAny M A (if (["enumerate", "zip", "dict_itemiterator", "dict_reverseitemiterator", "odict_iterator", "itertools.zip_longest", "itertools.pairwise"].contains n && vs[0]? == some (rawInt _)) = true then _ else _) Q E s
       rw [if_neg (by intro h; rw [hn, Bool.false_and] at h; cases h)]
       exact wpAny_pure hQ))
def Itl (K : PySem.W.Frag) (a : Addr) : It :=
 ⟨fun i H => ∃ xs x, SqL K H a xs /\ xs[i]? = some x, fun i H x H' => H' = H /\ ∀ xs, SqL K H a xs -> xs[i]? = some x, fun i H => ∃ xs, SqL K H a xs /\ xs.length <= i⟩
def Itt (K : PySem.W.Frag) (a : Addr) : It :=
 ⟨fun i H => ∃ xs x, SqT K H a xs /\ xs[i]? = some x, fun i H x H' => H' = H /\ ∀ xs, SqT K H a xs -> xs[i]? = some x, fun i H => ∃ xs, SqT K H a xs /\ xs.length <= i⟩
def Itr (lo : Int) (n : Nat) : It := ⟨fun i _ => i < n, fun i H x H' => H' = H /\ x = .int (lo + i), fun i _ => n <= i⟩
theorem turn_list {P : Program} {w : World} {K : PySem.W.Frag} {tg : Expr} (a it : Addr) : Turn P w K tg (Itl K a) [it] it (fun i h => h.IsListIter it a i) where
 mem := by simp
 obj := fun i h st b hb => by
  have e : b = it := by simpa using hb
  subst e
  obtain ⟨o, e, c, d⟩ := st
  exact ⟨o, e, fun v z => by rw [d] at z; cases z⟩
 keep := fun i h h' st k => st.at fun o e => k it (by simp) o e
 item := by
  intro X hP hw hK hc i pins s σ H E I hf st hg
  subst hP hw hK
  obtain ⟨xs, x, hq, hx⟩ := hg
  obtain ⟨its, rv, p, hz⟩ := I.list hq
  obtain ⟨u, hu, ru⟩ := rv.get hx
  obtain ⟨f0, f1, f2, f3, f4, f5⟩ := hf it (by simp)
  refine wpAny_pyNext_list_item st p.isList (x := u) (by simpa using hu) fun h' st' sb => ?_
  have I1 : Inv X pins σ H { s with heap := h' } := I.turned (t' := s.toks) (fun b o hb e => (sb.2 b hb).trans e) f0 f1 f3 f4 f5
  obtain ⟨o, e, c, d⟩ := id st'
  exact ⟨u, rfl, go_of (s := { s with heap := h' }) e c d (by decide) ⟨x, H, I1, ru, ⟨rfl, fun ys hy => by rw [I.list_inj hy hq]; exact hx⟩, st', fun b hb => (hf b hb).1⟩⟩
 done := by
  intro X hP hw hK hc i pins s σ H E I hf st hg
  subst hP hw hK
  obtain ⟨xs, hq, hx⟩ := hg
  obtain ⟨its, rv, p, hz⟩ := I.list hq
  obtain ⟨f0, f1, f2, f3, f4, f5⟩ := hf it (by simp)
  have hl := rv.length
  exact wpAny_pyNext_list_end (I.ok.hd hc) st p.isList (by simp; omega) fun h' eb => ⟨rfl, I.turned (t' := s.toks) (fun b o hb e => eb b o hb e) f0 f1 f3 f4 f5⟩
 self := fun _ _ _ _ _ st h => wpAny_pyIter_listiter st h
theorem turn_tuple {P : Program} {w : World} {K : PySem.W.Frag} {tg : Expr} (a it : Addr) : Turn P w K tg (Itt K a) [it] it (fun i h => h.IsTupleIter it a i) where
 mem := by simp
 obj := fun i h st b hb => by
  have e : b = it := by simpa using hb
  subst e
  obtain ⟨o, e, c, d⟩ := st
  exact ⟨o, e, fun v z => by rw [d] at z; cases z⟩
 keep := fun i h h' st k => st.at fun o e => k it (by simp) o e
 item := by
  intro X hP hw hK hc i pins s σ H E I hf st hg
  subst hP hw hK
  obtain ⟨xs, x, hq, hx⟩ := hg
  obtain ⟨its, rv, p, hz⟩ := I.tuple hq
  obtain ⟨u, hu, ru⟩ := rv.get hx
  obtain ⟨f0, f1, f2, f3, f4, f5⟩ := hf it (by simp)
  refine wpAny_pyNext_tuple_item st (show s.heap.IsTuple a its.toArray from p) (x := u) (by simpa using hu) fun h' st' sb => ?_
  have I1 : Inv X pins σ H { s with heap := h' } := I.turned (t' := s.toks) (fun b o hb e => (sb.2 b hb).trans e) f0 f1 f3 f4 f5
  obtain ⟨o, e, c, d⟩ := id st'
  exact ⟨u, rfl, go_of (s := { s with heap := h' }) e c d (by decide) ⟨x, H, I1, ru, ⟨rfl, fun ys hy => by rw [I.tuple_inj hy hq]; exact hx⟩, st', fun b hb => (hf b hb).1⟩⟩
 done := by
  intro X hP hw hK hc i pins s σ H E I hf st hg
  subst hP hw hK
  obtain ⟨xs, hq, hx⟩ := hg
  obtain ⟨its, rv, p, hz⟩ := I.tuple hq
  obtain ⟨f0, f1, f2, f3, f4, f5⟩ := hf it (by simp)
  have hl := rv.length
  exact wpAny_pyNext_tuple_end (I.ok.hd hc) st (show s.heap.IsTuple a its.toArray from p) (by simp; omega) fun h' eb => ⟨rfl, I.turned (t' := s.toks) (fun b o hb e => eb b o hb e) f0 f1 f3 f4 f5⟩
 self := fun _ _ _ _ _ st h => wpAny_pyIter_tupleiter st h
theorem turn_range {P : Program} {w : World} {K : PySem.W.Frag} {tg : Expr} (it : Addr) (lo : Int) (n : Nat) : Turn P w K tg (Itr lo n) [it] it (fun i h => IsRangeIter h it (lo + (i : Nat) * 1) ((n : Int) - (i : Nat)) 1) where
 mem := by simp
 obj := fun i h st b hb => by
  have e : b = it := by simpa using hb
  subst e
  exact ⟨_, st, fun v z => by
   have z' : Data.fields _ = Data.cell v := z
   cases z'⟩
 keep := fun i h h' st k => k it (by simp) _ st
 item := by
  intro X hP hw hK hc i pins s σ H E I hf st hg
  subst hP hw hK
  obtain ⟨f0, f1, f2, f3, f4, f5⟩ := hf it (by simp)
  have W := Walks.range (prog := X.prog) (w := X.w) (I.ok.hd hc) it lo 1 n
  refine W.item i s _ _ hg st fun v h' tk hv st' kk => ?_
  obtain ⟨t, rfl⟩ := hv
  have I1 : Inv X pins σ H { s with heap := h', toks := tk } := I.turned (fun b o hb e => kk b o (by simpa using hb) e) f0 f1 f3 f4 f5
  refine ⟨_, rfl, go_of (s := { s with heap := h', toks := tk }) (n := "range_iterator") st' rfl rfl (by decide) ⟨.int (lo + i), H, I1, ⟨t, ?_⟩, ⟨rfl, rfl⟩, st', fun b hb => (hf b hb).1⟩⟩
  rw [Int.mul_one]
 done := by
  intro X hP hw hK hc i pins s σ H E I hf st hg
  subst hP hw hK
  obtain ⟨f0, f1, f2, f3, f4, f5⟩ := hf it (by simp)
  exact wpAny_pyNext_range_end (I.ok.hd hc) st (by have : n <= i := hg; omega) fun h' eb => ⟨rfl, I.turned (t' := s.toks) (fun b o hb e => eb b o hb e) f0 f1 f3 f4 f5⟩
 self := fun _ _ _ _ _ st h => wpAny_pyIter_rangeiter st h
end L2
namespace L2
open PySem PySem.Spec PyProof.Rows
section
variable {X : Cx} {tg : Expr}
theorem range_it {pins : List (Addr × Obj)} {σ : St} {H : Hp} {s : Shared} {R : It -> Hp -> Prop} {E : Value -> Shared -> Prop} {lo hi : Int} {t u v : Tok} {tk : Nat} (I : Inv X pins σ H s) (h1 : -(2 ^ 62) <= lo) (h2 : lo < 2 ^ 62) (h3 : -(2 ^ 62) <= hi) (h4 : hi < 2 ^ 62)
  (q : R (Itr lo (hi - lo).toNat) H) : wpAny (model X.prog X.w) X.A (pyIter (.ref s.heap.objs.size)) (PIE X pins σ tg R) E { s with heap := s.heap.push { cls := .type "range", data := .fields #[.int lo t, .int hi u, .int 1 v] }, toks := tk } := by
 refine wpAny_pyIter_range (IsRange.new ..) (small_one h1 h2 h3 h4) ?_
 have I1 : Inv X pins σ H { s with heap := s.heap.push { cls := .type "range", data := .fields #[.int lo t, .int hi u, .int 1 v] }, toks := tk } := I.kept fun b o e => Heap.get?_push_of_some _ e
 refine ⟨(s.heap.push { cls := .type "range", data := .fields #[.int lo t, .int hi u, .int 1 v] }).objs.size, [(s.heap.push { cls := .type "range", data := .fields #[.int lo t, .int hi u, .int 1 v] }).objs.size], _, _, H, rfl,
  I1.kept (t' := tk) fun b o e => Heap.get?_push_of_some _ e, turn_range _ lo (hi - lo).toNat, ?_, fun b hb => ?_, q⟩
 ·have e1 : lo + ((0 : Nat) : Int) * 1 = lo := by simp
  have e2 : (((hi - lo).toNat : Nat) : Int) - ((0 : Nat) : Int) = Builtin.Range.rangeSize lo hi 1 := by rw [rangeSize_one]; split <;> omega
  show IsRangeIter _ _ (lo + ((0 : Nat) : Int) * 1) ((((hi - lo).toNat : Nat) : Int) - ((0 : Nat) : Int)) 1
  rw [e1, e2]
  exact Heap.get?_push_size _ rfl
 ·have e : b = (s.heap.push { cls := .type "range", data := .fields #[.int lo t, .int hi u, .int 1 v] }).objs.size := by simpa using hb
  subst e
  exact I1.fpOk (Nat.le_refl _) (I1.hok.fresh (Nat.le_refl _))
def iRng1 (ta : TA) : TI := fun σ H R => ta σ H fun vs H1 => ∃ j : Int, vs = [.int j] /\ -(2 ^ 62) <= j /\ j < 2 ^ 62 /\ R (Itr 0 j.toNat) H1
theorem pi_range1 {a : Expr} {ta : TA} {p pos : Pos} (hg : Gl X "range") (hm : X.mg "range" = none) (ha : PA X [a] ta) (hs : starEach [a] X.env = [(false, eval a X.env)] := by rfl) : PI X tg (.Call (.Name "range" p) [a] [] pos) (iRng1 ta) := by
 intro pins s σ H R I h
 refine Call_ (ld_blt I hg hm boot_range (PyProof.Rows.callWith_type1 (thn (ha pos pins s σ H _ I h) fun us s1 zz226 => ex23 zz226 fun vs H1 I1 r1 q1 => ?_) hs rfl))
 obtain ⟨j, e, q1, q2, q⟩ := q1
 subst e
 cases r1 with
 | cons r rr =>
  cases rr
  obtain ⟨t, rfl⟩ := r
  exact call_range_1 (range_it I1 (by omega) (by omega) q1 q2 (by simpa using q))
def tFor (wi : TI) (g : TG) (tb : TS) : TS := fun D σ H => wi σ H fun J H1 => ∃ W : Nat -> Nat -> St -> Hp -> Prop, (∃ m, W 0 m σ H1) /\ ∀ i m σ H, W i m σ H ->
 (J.stop i H /\ D.nx σ H) \/ (J.go i H /\ ∃ N : St -> Hp -> Prop, (∀ σ' H', N σ' H' -> ∃ m', m' < m /\ W (i + 1) m' σ' H') /\ ∀ x H', J.yld i H x H' -> g x σ H' fun σ2 H2 => tb { D with nx := N, ct := N, bk := D.nx } σ2 H2)
def pinsAt (fp : List Addr) (h : Heap) : List (Addr × Obj) := fp.filterMap fun b => (h.get? b).map fun o => (b, o)
theorem mem_pinsAt {fp : List Addr} {h : Heap} {b : Addr} {o : Obj} (hb : b ∈ fp) (e : h.get? b = some o) : (b, o) ∈ pinsAt fp h := List.mem_filterMap.mpr ⟨b, hb, by rw [e]; rfl⟩
theorem of_pinsAt {fp : List Addr} {h : Heap} {p : Addr × Obj} (hp : p ∈ pinsAt fp h) : p.1 ∈ fp /\ h.get? p.1 = some p.2 := by
 obtain ⟨b, hb, e⟩ := List.mem_filterMap.mp hp
 cases q : h.get? b with
 | none => rw [q] at e; cases e
 | some o =>
  rw [q] at e
  have e' : (b, o) = p := Option.some.inj e
  subst e'
  exact ⟨hb, q⟩
theorem Inv.pinned {pins : List (Addr × Obj)} {σ : St} {H : Hp} {s : Shared} {fp : List Addr} (I : Inv X pins σ H s) (hf : ∀ b ∈ fp, FpOk X pins H b) (ho : ∀ b ∈ fp, ∃ o, s.heap.get? b = some o /\ ∀ v, o.data ≠ .cell v) : Inv X (pins ++ pinsAt fp s.heap) σ H s :=
 I.pins_of fun p hp => (List.mem_append.mp hp).elim (fun z => I.pin p (List.mem_append_right _ z)) fun z => by
  obtain ⟨hb, e⟩ := of_pinsAt z
  obtain ⟨f0, f1, f2, _⟩ := hf p.1 hb
  obtain ⟨o, e', d⟩ := ho p.1 hb
  rw [e] at e'; cases e'
  exact ⟨e, f0, f1, f2, d⟩
theorem Inv.unpinned {pins pl : List (Addr × Obj)} {σ : St} {H : Hp} {s : Shared} (I : Inv X (pins ++ pl) σ H s) : Inv X pins σ H s := I.pins_of fun p hp => I.pin p (List.mem_append_right _ (List.mem_append_left _ hp))
theorem ps_for {iter : Expr} {body : List Stmt} {wi : TI} {g : TG} {tb : TS} {pos : Pos} (hp : PassesOwn (model X.prog X.w) X.A X.env X.xe) (hc : X.calm = true) (hi : PI X tg iter wi) (hg : PG X tg g) (hb : PSs X body tb)
  (hs : ∀ x, foldedSetIterable iter X.env x = pure x := by intro _; rfl) : PS X (.For tg iter body [] pos) (tFor wi g tb) := by
 intro pins s σ H D I h
 refine wpAny_For (thn (hi pins s σ H _ I h) fun v s1 h1 => thn h1 fun itv s2 h2 => ?_) hs
 obtain ⟨it, fp, tn, J, H2, e, I2, T, st2, f2, W, ⟨m0, w0⟩, turn⟩ := h2
 subst e
 have stat : ∀ {H' : Hp}, (∀ b ∈ fp, H' b = none) -> ∀ b ∈ fp, FpOk X pins H' b := fun hn b hb => ⟨hn b hb, (f2 b hb).2⟩
 refine codeAny_forLoop_any (fun n s' => ∃ i σ' H', Inv X pins σ' H' s' /\ tn i s'.heap /\ (∀ b ∈ fp, H' b = none) /\ W i n σ' H') ?_ m0 ⟨0, σ, H2, I2, st2, fun b hb => (f2 b hb).1, w0⟩
 rintro n s3 ⟨i, σ3, H3, I3, st3, fr3, w3⟩
 rcases turn i n σ3 H3 w3 with ⟨stop, qn⟩ | ⟨go, N, hN, step⟩
 ·refine wpAny_passesOwn hp (thn (T.done X rfl rfl rfl hc i pins s3 σ3 H3 X.xe I3 (stat fr3) st3 stop) fun r s4 ⟨hr, I4⟩ => ?_)
  subst hr
  exact wpAny_execs_nil ⟨σ3, H3, I4, qn⟩
 ·refine wpAny_passesOwn hp (thn (T.item X rfl rfl rfl hc i pins s3 σ3 H3 X.xe I3 (stat fr3) st3 go) fun r s4 ⟨u, hr, h4⟩ => ?_)
  subst hr
  refine wpAny_passesOwn hp (thn h4 fun _ s5 zz502 => ?_)
  obtain ⟨x, H5, I5, r5, y5, st5, fr5⟩ := zz502
  have I5' := I5.pinned (stat fr5) (T.obj _ _ st5)
  refine wpAny_passesOwn hp (thn (hg _ s5 σ3 H5 x u _ I5' r5 (step x H5 y5)) fun _ s6 zz503 => ?_)
  obtain ⟨σ6, H6, I6, q6⟩ := zz503
  refine wpAny_passesOwn hp (thn (hb _ s6 σ6 H6 _ I6 q6) fun f s7 q7 => ?_)
  have again : ∀ {σ7 : St} {H7 : Hp}, Inv X (pins ++ pinsAt fp s5.heap) σ7 H7 s7 -> N σ7 H7 -> ∃ m, m < n /\ ∃ i σ' H', Inv X pins σ' H' s7 /\ tn i s7.heap /\ (∀ b ∈ fp, H' b = none) /\ W i m σ' H' := fun {σ7 H7} I7 n7 => by
   obtain ⟨m', hm, w7⟩ := hN σ7 H7 n7
   refine ⟨m', hm, i + 1, σ7, H7, I7.unpinned, T.keep _ _ _ st5 fun b hb o e => (I7.pin (b, o) (List.mem_append_right _ (List.mem_append_right _ (mem_pinsAt hb e)))).1, fun b hb => ?_, w7⟩
   obtain ⟨o, e, d⟩ := T.obj _ _ st5 b hb
   exact (I7.pin (b, o) (List.mem_append_right _ (List.mem_append_right _ (mem_pinsAt hb e)))).2.1
  cases f with
  | next => obtain ⟨σ7, H7, I7, n7⟩ := q7; exact again I7 n7
  | cont => obtain ⟨σ7, H7, I7, n7⟩ := q7; exact again I7 n7
  | brk => obtain ⟨σ7, H7, I7, q7⟩ := q7; exact ⟨σ7, H7, I7.unpinned, q7⟩
  | ret v => obtain ⟨x7, σ7, H7, I7, r7, q7⟩ := q7; exact ⟨x7, σ7, H7, I7.unpinned, r7, q7⟩
end
end L2
namespace L2
open PySem PySem.Spec PyProof.Rows
abbrev R2 := V -> V -> Hp -> VK -> Prop
def OpR (X : Cx) (f : Value -> Value -> Sem Value) (r : R2) : Prop :=
 ∀ (pins : List (Addr × Obj)) (s : Shared) (σ : St) (H : Hp) (x y : V) (v u : Value) (Q : VK), Inv X pins σ H s -> RelV x v -> RelV y u -> r x y H Q ->
  wpAny (model X.prog X.w) X.A (f v u) (EP X pins σ Q) X.xe s
def CallR (X : Cx) (f : Value) (r : List V -> Hp -> VK -> Prop) : Prop :=
 ∀ (pins : List (Addr × Obj)) (s : Shared) (σ : St) (H : Hp) (xs : List V) (us : List Value) (Q : VK), Inv X pins σ H s -> Vals xs us -> r xs H Q ->
  wpAny (model X.prog X.w) X.A (call f us) (EP X pins σ Q) X.xe s
def tOp (r : R2) (ta tb : TE) : TE := fun σ H Q => ta σ H fun x H1 => tb σ H1 fun y H2 => r x y H2 Q
def rI (C : Int -> Int -> Prop) (g : Int -> Int -> V) : R2 := fun x y H Q => ∃ i j, x = .int i /\ y = .int j /\ C i j /\ Q (g i j) H
def rI0 (g : Int -> Int -> V) : R2 := fun x y H Q => ∃ i j, x = .int i /\ y = .int j /\ Q (g i j) H
section
variable {X : Cx} {a b c : Expr} {ta tb tc : TE} {pos : Pos}
theorem binT (ha : PE X a ta) (hb : PE X b tb) {pins : List (Addr × Obj)} {s : Shared} {σ : St} {H : Hp} {R : V -> V -> Hp -> Prop} (I : Inv X pins σ H s)
  (h : ta σ H fun x H1 => tb σ H1 fun y H2 => R x y H2) {Q : Value -> Shared -> Prop} {f : Value -> Value -> Sem Value}
  (hf : ∀ v u s2 x y H2, Inv X pins σ H2 s2 -> RelV x v -> RelV y u -> R x y H2 -> wpAny (model X.prog X.w) X.A (f v u) Q X.xe s2) :
  wpAny (model X.prog X.w) X.A (eval a X.env) (fun v s₁ => wpAny (model X.prog X.w) X.A (eval b X.env) (fun u s₂ => wpAny (model X.prog X.w) X.A (f v u) Q X.xe s₂) X.xe s₁) X.xe s := by
 refine thn (ha pins s σ H _ I h) fun v s1 zz228 => ex23 zz228 fun x H1 I1 r1 q1 => ?_
 refine thn (hb pins s1 σ H1 _ I1 q1) fun u s2 zz229 => ex23 zz229 fun y H2 I2 r2 q2 => ?_
 exact hf v u s2 x y H2 I2 r1 r2 q2
theorem pe_op {op : Operator} {r : R2} (ho : OpR X (binaryOp op) r) (ha : PE X a ta) (hb : PE X b tb) : PE X (.BinOp a op b pos) (tOp r ta tb) := by
 intro pins s σ H Q I h
 exact wpAny_BinOp (binT ha hb I h fun v u s2 x y H2 I2 rx ry q => ho pins s2 σ H2 x y v u Q I2 rx ry q)
theorem opI {f : Value -> Value -> Sem Value} {C : Int -> Int -> Prop} {g : Int -> Int -> Int}
  (rule : ∀ (i j : Int) (t u : Tok) (s : Shared) (Q : Value -> Shared -> Prop) (E : Value -> Shared -> Prop), C i j -> Q (.int (g i j) s.toks) { s with toks := s.toks + 1 } -> wpAny (model X.prog X.w) X.A (f (.int i t) (.int j u)) Q E s) :
  OpR X f (rI C fun i j => .int (g i j)) := by
 intro pins s σ H x y v u Q I rx ry h
 obtain ⟨i, j, rfl, rfl, hc, q⟩ := h
 obtain ⟨t, rfl⟩ := rx
 obtain ⟨t', rfl⟩ := ry
 exact rule i j t t' s _ _ hc ⟨.int (g i j), H, I.tok _, ⟨_, rfl⟩, q⟩
theorem opI0 {f : Value -> Value -> Sem Value} {g : Int -> Int -> Int}
  (rule : ∀ (i j : Int) (t u : Tok) (s : Shared) (Q : Value -> Shared -> Prop) (E : Value -> Shared -> Prop), Q (.int (g i j) s.toks) { s with toks := s.toks + 1 } -> wpAny (model X.prog X.w) X.A (f (.int i t) (.int j u)) Q E s) :
  OpR X f (rI0 fun i j => .int (g i j)) := by
 intro pins s σ H x y v u Q I rx ry h
 obtain ⟨i, j, rfl, rfl, q⟩ := h
 obtain ⟨t, rfl⟩ := rx
 obtain ⟨t', rfl⟩ := ry
 exact rule i j t t' s _ _ ⟨.int (g i j), H, I.tok _, ⟨_, rfl⟩, q⟩
theorem opB0 {f : Value -> Value -> Sem Value} {g : Int -> Int -> Bool}
  (rule : ∀ (i j : Int) (t u : Tok) (s : Shared) (Q : Value -> Shared -> Prop) (E : Value -> Shared -> Prop), Q (.bool (g i j)) s -> wpAny (model X.prog X.w) X.A (f (.int i t) (.int j u)) Q E s) :
  OpR X f (rI0 fun i j => .bl (g i j)) := by
 intro pins s σ H x y v u Q I rx ry h
 obtain ⟨i, j, rfl, rfl, q⟩ := h
 obtain ⟨t, rfl⟩ := rx
 obtain ⟨t', rfl⟩ := ry
 exact rule i j t t' s _ _ ⟨.bl (g i j), H, I, rfl, q⟩
def CDiv (i j : Int) : Prop := 0 < j /\ j < 1073741824
def CPow (i j : Int) : Prop := 0 <= j /\ j <= 1000000 /\ i.natAbs < 2 ^ 64
def CMul (i j : Int) : Prop := (-(2 ^ 64) < i /\ i < 2 ^ 64) \/ (-(2 ^ 64) < j /\ j < 2 ^ 64)
theorem CMul.ok {i j : Int} (h : CMul i j) : IntMulOk i j := by
 rcases h with ⟨h1, h2⟩ | ⟨h1, h2⟩
 ·exact .of_left (intBits_le_64 h1 h2)
 ·exact .of_right (intBits_le_64 h1 h2)
theorem op_add : OpR X (binaryOp .Add) (rI0 fun i j => .int (i + j)) := opI0 fun _ _ _ _ _ _ _ q => add_int q
theorem op_sub : OpR X (binaryOp .Sub) (rI0 fun i j => .int (i - j)) := opI0 fun _ _ _ _ _ _ _ q => sub_int q
theorem op_mul : OpR X (binaryOp .Mult) (rI CMul fun i j => .int (i * j)) := opI fun _ _ _ _ _ _ _ hc q => mul_int q hc.ok
theorem op_fdiv : OpR X (binaryOp .FloorDiv) (rI CDiv fun i j => .int (i / j)) := opI fun i j _ _ _ _ _ hc q => by
 have h1 : (0 : Int) < j := hc.1
 have h2 : j < 1073741824 := hc.2
 exact floordiv_int (by omega) (by rw [Int.fdiv_eq_ediv_of_nonneg i (by omega)]; exact q) (.inl (PyProof.noPylong_small (by omega)))
theorem op_mod : OpR X (binaryOp .Mod) (rI (fun _ j => 0 < j) fun i j => .int (i % j)) := opI fun i j _ _ _ _ _ hc q => by
 have h1 : (0 : Int) < j := hc
 exact mod_int' (by omega) (by rw [Int.fmod_eq_emod_of_nonneg i (by omega)]; exact q)
theorem op_pow : OpR X (binaryOp .Pow) (rI CPow fun i j => .int (i ^ j.toNat)) := opI fun _ _ _ _ _ _ _ hc q => pow_int_small hc.1 hc.2.1 hc.2.2 q
end
section
variable {X : Cx} {a b c : Expr} {ta tb tc : TE} {pos : Pos}
theorem fin_bl {pins : List (Addr × Obj)} {σ : St} {H : Hp} {s : Shared} {Q : VK} {k k' : Bool} (I : Inv X pins σ H s) (q : Q (.bl k) H) (e : k = k') : EP X pins σ Q (.bool k') s := by
 subst e
 exact ⟨.bl k, H, I, rfl, q⟩
theorem op_lt : OpR X (compareOp .Lt) (rI0 fun i j => .bl (decide (i < j))) := opB0 fun _ _ _ _ _ _ _ q => lt_int q
theorem op_le : OpR X (compareOp .LtE) (rI0 fun i j => .bl (decide (i <= j))) := opB0 fun _ _ _ _ _ _ _ q => le_int q
theorem op_gt : OpR X (compareOp .Gt) (rI0 fun i j => .bl (decide (j < i))) := opB0 fun _ _ _ _ _ _ _ q => gt_int q
theorem op_ge : OpR X (compareOp .GtE) (rI0 fun i j => .bl (decide (j <= i))) := opB0 fun _ _ _ _ _ _ _ q => ge_int q
theorem op_in_str : OpR X (compareOp .In) (fun x y H Q => ∃ i j, x = .str i /\ y = .str j /\ Q (.bl (!(Builtin.Str.occurrences j i 0 j.length 1).isEmpty)) H) := by
 intro pins s σ H x y v u Q I rx ry h
 obtain ⟨i, j, rfl, rfl, q⟩ := h
 obtain ⟨t, rfl⟩ := rx
 obtain ⟨t', rfl⟩ := ry
 exact in_str (fin_bl I q rfl)
theorem op_isN : OpR X (compareOp .Is) (fun x y H Q => y = .non /\ Q (.bl (decide (x = .non))) H) := by
 intro pins s σ H x y v u Q I rx ry h
 obtain ⟨rfl, q⟩ := h
 cases ry
 refine is_none_gen (fin_bl I q ?_)
 cases x <;> first
  | (cases rx; rfl)
  | (obtain ⟨t, rfl⟩ := rx; rfl)
theorem nomark (b : Expr) {op : CmpOp} (h : op ≠ .In := by decide) (h2 : op ≠ .NotIn := by decide) : behindInMarks op b = false := by
 have e1 : (op == CmpOp.In) = false := by cases op <;> first | rfl | exact absurd rfl h
 have e2 : (op == CmpOp.NotIn) = false := by cases op <;> first | rfl | exact absurd rfl h2
 cases b <;> simp [behindInMarks, e1, e2]
theorem pe_cmpR {op : CmpOp} {r : R2} (ho : OpR X (compareOp op) r) (ha : PE X a ta) (hb : PE X b tb) (hm : behindInMarks op b = false) : PE X (.Compare a [op] [b] pos) (tOp r ta tb) := by
 intro pins s σ H Q I h
 exact wpAny_Compare1 (binT ha hb I h fun v u s2 x y H2 I2 rx ry q => ho pins s2 σ H2 x y v u Q I2 rx ry q) hm
def tTest (t : TE) : TT := fun σ H Q => t σ H fun x H' => ∃ k, x = .bl k /\ Q k H'
theorem pt_cmpR {op : CmpOp} {r : R2} (ho : OpR X (compareOp op) r) (ha : PE X a ta) (hb : PE X b tb) (hm : behindInMarks op b = false) : PT X (.Compare a [op] [b] pos) (tTest (tOp r ta tb)) := by
 intro pins s σ H Q I h
 refine wpAny_isTrue_Compare1 (thn (ha pins s σ H _ I h) fun v s1 zz231 => ex23 zz231 fun x H1 I1 r1 q1 => thn (hb pins s1 σ H1 _ I1 q1) fun u s2 zz232 => ex23 zz232 fun y H2 I2 r2 q2 =>
  thn (ho pins s2 σ H2 x y v u _ I2 r1 r2 q2) fun c s3 ⟨z, H3, I3, r3, k, e, q3⟩ => ?_) hm
 subst e
 cases r3
 exact wpAny_truthy_bool ⟨H3, I3, q3⟩
def tChain (r r' : R2) (ta tb tc : TE) : TE := fun σ H Q => ta σ H fun x H1 => tb σ H1 fun y H2 => r x y H2 fun z H3 => ∃ k, z = .bl k /\
 (if k = true then tc σ H3 fun w' H4 => r' y w' H4 Q else Q (.bl false) H3)
theorem pe_chain {op op' : CmpOp} {r r' : R2} (ho : OpR X (compareOp op) r) (ho' : OpR X (compareOp op') r') (ha : PE X a ta) (hb : PE X b tb) (hc : PE X c tc)
  (hm : lastMarks [op, op'] [b, c] = false := by with_unfolding_all rfl) : PE X (.Compare a [op, op'] [b, c] pos) (tChain r r' ta tb tc) := by
 intro pins s σ H Q I h
 refine Compare_chain (thn (ha pins s σ H _ I h) fun v s1 zz233 => ex23 zz233 fun x H1 I1 r1 q1 => chain_link (thn (hb pins s1 σ H1 _ I1 q1) fun u s2 zz234 => ex23 zz234 fun y H2 I2 r2 q2 =>
  thn (ho pins s2 σ H2 x y v u _ I2 r1 r2 q2) fun d s3 ⟨z, H3, I3, r3, k, e, q3⟩ => ?_)) hm
 subst e
 cases r3
 refine wpAny_truthy_bool ?_
 cases k with
 | false => exact ite_ff ⟨.bl false, H3, I3, rfl, q3⟩
 | true => exact ite_tt (chain_last (thn (hc pins s3 σ H3 _ I3 q3) fun w' s4 zz235 => ex23 zz235 fun z' H4 I4 r4 q4 => ho' pins s4 σ H4 y z' u w' Q I4 r2 r4 q4))
theorem pt_chain {op op' : CmpOp} {r r' : R2} (ho : OpR X (compareOp op) r) (ho' : OpR X (compareOp op') r') (ha : PE X a ta) (hb : PE X b tb) (hc : PE X c tc)
  (hm : lastMarks [op, op'] [b, c] = false := by with_unfolding_all rfl) : PT X (.Compare a [op, op'] [b, c] pos) (tTest (tChain r r' ta tb tc)) := by
 intro pins s σ H Q I h
 refine isTrue_chain (thn (ha pins s σ H _ I h) fun v s1 zz236 => ex23 zz236 fun x H1 I1 r1 q1 => test_link (thn (hb pins s1 σ H1 _ I1 q1) fun u s2 zz237 => ex23 zz237 fun y H2 I2 r2 q2 =>
  thn (ho pins s2 σ H2 x y v u _ I2 r1 r2 q2) fun d s3 ⟨z, H3, I3, r3, k, e, q3⟩ => ?_)) hm
 subst e
 cases r3
 refine wpAny_truthy_bool ?_
 cases k with
 | false =>
  obtain ⟨k', e', q'⟩ := q3
  cases e'
  exact ite_ff ⟨H3, I3, q'⟩
 | true =>
  refine ite_tt (test_last (thn (hc pins s3 σ H3 _ I3 q3) fun w' s4 zz238 => ex23 zz238 fun z' H4 I4 r4 q4 => thn (ho' pins s4 σ H4 y z' u w' _ I4 r2 r4 q4) fun d' s5 zz504 => ?_))
  obtain ⟨z2, H5, I5, r5, k2, e2, q5⟩ := zz504
  subst e2
  cases r5
  exact wpAny_truthy_bool ⟨H5, I5, q5⟩
theorem line63 : (sizeLine : Nat) < 2 ^ 63 := by rw [sizeLine_eq]; decide
theorem op_add_str : OpR X (binaryOp .Add) (fun x y H Q => ∃ i j, x = .str i /\ y = .str j /\ i.length + j.length <= sizeLine /\ Q (.str (i ++ j)) H) := by
 intro pins s σ H x y v u Q I rx ry h
 obtain ⟨i, j, rfl, rfl, hz, q⟩ := h
 obtain ⟨t, rfl⟩ := rx
 obtain ⟨t', rfl⟩ := ry
 exact add_str (fun t' tk => ⟨.str (i ++ j), H, I.tok _, ⟨_, rfl⟩, q⟩) hz
theorem vals1 {x : V} {us : List Value} (r : Vals [x] us) : ∃ u, us = [u] /\ RelV x u := by
 cases r with
 | cons r1 r2 => cases r2; exact ⟨_, rfl, r1⟩
theorem vals2 {x y : V} {us : List Value} (r : Vals [x, y] us) : ∃ u w', us = [u, w'] /\ RelV x u /\ RelV y w' := by
 cases r with
 | cons r1 r2 =>
  cases r2 with
  | cons r3 r4 => cases r4; exact ⟨_, _, rfl, r1, r3⟩
theorem call_max2 (hc : X.calm = true) : CallR X (.builtin "max") (fun xs H Q => ∃ i j, xs = [.int i, .int j] /\ Q (.int (if j > i then j else i)) H) := by
 intro pins s σ H xs us Q I r h
 obtain ⟨i, j, rfl, q⟩ := h
 obtain ⟨u, w', rfl, ⟨t, rfl⟩, ⟨t', rfl⟩⟩ := vals2 r
 refine max_two_ints (I.ok.hd hc) fun h' tk k => ⟨_, H, I.kept k, ?_, q⟩
 by_cases hj : j > i
 ·rw [if_pos hj, if_pos hj]; exact ⟨_, rfl⟩
 ·rw [if_neg hj, if_neg hj]; exact ⟨_, rfl⟩
theorem call_int1 : CallR X (.type "int") (fun xs H Q => (∃ i, xs = [.int i] /\ Q (.int i) H) \/ ∃ k, xs = [.bl k] /\ Q (.int (if k then 1 else 0)) H) := by
 intro pins s σ H xs us Q I r h
 rcases h with ⟨i, rfl, q⟩ | ⟨k, rfl, q⟩
 ·obtain ⟨u, rfl, t, rfl⟩ := vals1 r
  exact call_int_int ⟨.int i, H, I, ⟨_, rfl⟩, q⟩
 ·obtain ⟨u, rfl, r1⟩ := vals1 r
  cases r1
  exact call_int_bool ⟨.int (if k then 1 else 0), H, I.tok _, ⟨_, rfl⟩, q⟩
end
end L2
namespace L2
open PySem PySem.Spec PyProof.Rows
theorem lookIn_ns {h : Heap} {dx : Addr} {mA : Str -> Option Value} (n : h.Ns1 dx mA) : ∃ od, h.get? dx = some od /\ ∀ name, PySem.W.lookIn name od = some (mA name) := by
 obtain ⟨o, es, ep, ho, hd, hk, _, hm⟩ := n
 refine ⟨o, ho, fun name => ?_⟩
 have e := hm name
 unfold nsFind findBy at e
 rw [<- Array.find?_toList] at e
 unfold PySem.W.lookIn
 rw [hd]
 dsimp only
 split
 ·rename_i y q
  rw [q] at e
  exact congrArg some e
 ·rename_i q
  rw [q] at e
  have a : es.toList.any (·.refKey) = false := by
   rw [List.any_eq_false]
   intro y hy
   obtain ⟨z, t, hkey⟩ := hk y (Array.mem_toList_iff.mp hy)
   simp [DictEntry.refKey, hkey]
  have a' : ¬ es.toList.any (·.refKey) = true := by rw [a]; exact Bool.false_ne_true
  rw [if_neg a']
  exact congrArg some e
section
variable {prog : Program} {w : World} {A : Around} {E : Value -> Shared -> Prop} {s : Shared} {K : PySem.W.Frag} {x dx C f : Addr} {mA : Str -> Option Value} {name : Str} {v : Value}
end
def putF (f : Str) (v : V) : List (Str × V) -> List (Str × V)
 | [] => [(f, v)]
 | (g, x) :: r => if g = f then (g, v) :: r else (g, x) :: putF f v r
theorem lookup_putF (f g : Str) (v : V) : ∀ fs : List (Str × V), (putF f v fs).lookup g = if g = f then some v else fs.lookup g
 | [] => by
  show List.lookup g [(f, v)] = _
  by_cases h : g = f
  ·have hb : (g == f) = true := beq_iff_eq.mpr h
   simp only [List.lookup, hb, if_pos h]
  ·have hb : (g == f) = false := beq_eq_false_iff_ne.mpr h
   simp only [List.lookup, hb, if_neg h]
 | (k, x) :: r => by
  have ih := lookup_putF f g v r
  rw [show putF f v ((k, x) :: r) = (if k = f then (k, v) :: r else (k, x) :: putF f v r) from rfl]
  by_cases hk : k = f
  ·rw [if_pos hk]
   by_cases h : g = k
   ·have hb : (g == k) = true := beq_iff_eq.mpr h
    simp only [List.lookup, hb, if_pos (h.trans hk)]
   ·have hb : (g == k) = false := beq_eq_false_iff_ne.mpr h
    simp only [List.lookup, hb, if_neg (fun e : g = f => h (e.trans hk.symm))]
  ·rw [if_neg hk]
   by_cases h : g = k
   ·have hb : (g == k) = true := beq_iff_eq.mpr h
    simp only [List.lookup, hb, if_neg (fun e : g = f => hk (h.symm.trans e))]
   ·have hb : (g == k) = false := beq_eq_false_iff_ne.mpr h
    simp only [List.lookup, hb]
    exact ih
theorem keys_putF (f : Str) (v : V) : ∀ fs : List (Str × V), f ∈ (putF f v fs).map (·.1) /\ ∀ g, g ∈ fs.map (·.1) -> g ∈ (putF f v fs).map (·.1)
 | [] => ⟨by simp [putF], fun g h => by simp at h⟩
 | (k, x) :: r => by
  obtain ⟨i1, i2⟩ := keys_putF f v r
  rw [show putF f v ((k, x) :: r) = (if k = f then (k, v) :: r else (k, x) :: putF f v r) from rfl]
  by_cases hk : k = f
  ·rw [if_pos hk]
   subst hk
   exact ⟨by simp, fun g h => by simpa using h⟩
  ·rw [if_neg hk]
   refine ⟨?_, fun g h => ?_⟩
   ·rw [List.map_cons]
    exact List.mem_cons_of_mem _ i1
   ·rw [List.map_cons] at h ⊢
    rcases List.mem_cons.mp h with e | e
    ·exact List.mem_cons.mpr (.inl e)
    ·exact List.mem_cons_of_mem _ (i2 g e)
theorem RelO.some_of {v : V} {o : Option Value} (r : RelO (some v) o) : ∃ u, o = some u /\ RelV v u := by
 cases o with
 | none => exact (show False from r).elim
 | some u => exact ⟨u, rfl, r⟩
section
variable {P : Program} {w : World} {H H' : Hp} {h h' : Heap} {a C dx : Addr} {fs fs' : List (Str × V)}
end
def NoAttr (K : PySem.W.Frag) (C : Addr) (f : Str) : Prop := PySem.W.findIn K (.ref C) f = some none
section
variable {X : Cx} {pins : List (Addr × Obj)} {σ : St} {H : Hp} {s : Shared} {a C dx : Addr} {fs : List (Str × V)} {f : Str} {v : V} {A : Around} {E : Value -> Shared -> Prop}
end
section
variable {X : Cx} {o e value : Expr} {f : Str} {pos pos' tpos : Pos} {ta tv : TE}
end
section
variable {X : Cx} {pins : List (Addr × Obj)} {σ : St} {H : Hp} {s : Shared} {A : Around} {E : Value -> Shared -> Prop} {Q : Value -> Shared -> Prop} {c : Value} {b : Bool}
end
end L2
namespace L2
open PySem PySem.Spec PyProof.Rows
structure Room (k : Nat) (A : Around) : Prop where
 hd : A.handled = none
 dp : A.depth + 3 * k + 5 < recursionLimit
 un : A.units + 16 * k + 200 < cLine
 gd : A.guards = some []
theorem Room.mono {j k : Nat} {A : Around} (r : Room k A) (h : j <= k) : Room j A := ⟨r.hd, by have := r.dp; omega, by have := r.un; omega, r.gd⟩
theorem Room.deeper {k : Nat} {A : Around} (r : Room (k + 1) A) (env : Env) : Room k (A.deeper env) :=
 ⟨r.hd, by have := r.dp; show A.depth + 1 + 3 * k + 5 < _; omega, by have := r.un; show A.units + 3 + 16 * k + 200 < _; omega, r.gd⟩
theorem make_depth {A : Around} {C : Addr} {us : List Value} {kw : List (Str × Value)} : (A.under (.builtin "type.__call__" ⟨.ref C :: us, kw⟩)).depth = A.depth + 1 := by
 first | rfl | simp [Around.under, Code.weight, Code.isCreation, Code.isGuard, Code.isCaller, Code.frames, Code.isFrame, guardIds]
theorem make_units {A : Around} {C : Addr} {us : List Value} {kw : List (Str × Value)} : (A.under (.builtin "type.__call__" ⟨.ref C :: us, kw⟩)).units = A.units + 1 := by
 first | rfl | simp [Around.under, Code.cUnits, Code.frames, Code.isFrame]
theorem Room.make {k : Nat} {A : Around} (r : Room (k + 1) A) (C : Addr) (us : List Value) (kw : List (Str × Value)) : Room k (A.under (.builtin "type.__call__" ⟨.ref C :: us, kw⟩)) :=
 ⟨r.hd, by have := r.dp; rw [make_depth]; omega, by have := r.un; rw [make_units]; omega, r.gd⟩
theorem Room.depth {k : Nat} {A : Around} (r : Room k A) : A.depth < recursionLimit := by have := r.dp; omega
theorem Room.units {k : Nat} {A : Around} (r : Room k A) : A.units + 64 < cLine := by have := r.un; omega
def tNil : TA := fun _ H Q => Q [] H
def tCons (ta : TE) (tr : TA) : TA := fun σ H Q => ta σ H fun x H1 => tr σ H1 fun xs H2 => Q (x :: xs) H2
section
variable {X : Cx} {e : Expr} {es : List Expr} {te : TE} {t : TA} {pos : Pos}
theorem pa_nil : PA X [] tNil := fun _ _ _ _ H Q I h => Calls.spliced_nil ⟨[], H, I, .nil, h⟩
theorem pa_cons (ha : PE X e te) (hr : PA X es t) (hs : starEach (e :: es) X.env = (false, eval e X.env) :: starEach es X.env := by rfl) : PA X (e :: es) (tCons te t) := by
 intro pos pins s σ H Q I h
 rw [hs]
 show wpAny _ _ (spliced ((false, eval e X.env) :: backTo pos (starEach es X.env))) _ _ s
 refine Calls.spliced_cons (thn (ha pins s σ H _ I h) fun u s1 zz242 => ex23 zz242 fun x H1 I1 r1 q1 => ?_)
 exact thn (hr pos pins s1 σ H1 _ I1 q1) fun us s2 zz243 => ex23 zz243 fun xs H2 I2 r2 q2 => ⟨x :: xs, H2, I2, .cons r1 r2, q2⟩
def tTup (t : TA) : TE := fun σ H Q => t σ H fun xs H1 => xs.length <= sizeLine /\ ∀ p, H1 p = none -> Q (.ref p) (upd H1 p (.tup xs))
def tLst (t : TA) : TE := fun σ H Q => t σ H fun xs H1 => xs.length <= sizeLine /\ ∀ p, H1 p = none -> Q (.ref p) (upd H1 p (.lst xs))
theorem pe_tup {x1} (h : PA X es t) : PE X (.Tuple es x1 pos) (tTup t) := by
 intro pins s σ H Q I hq
 refine wpAny_Tuple_spliced (thn (h pos pins s σ H _ I hq) fun us s1 ⟨xs, H1, I1, r, z, q⟩ => ⟨by rw [<- r.length]; exact z, ?_⟩)
 have hf : H1 s1.heap.objs.size = none := I1.hok.fresh (Nat.le_refl _)
 refine ⟨.ref s1.heap.objs.size, upd H1 s1.heap.objs.size (.tup xs), I1.laid (t' := s1.toks) (fun b u e => Heap.get?_push_of_some _ e) (Nat.le_refl _) ?_, rfl, q _ hf⟩
 exact ⟨z, us, r, ⟨_, Heap.get?_push_size _ rfl, rfl, _, rfl⟩⟩
theorem pe_lst (h : PA X es t) : PE X (.List es pos) (tLst t) := by
 intro pins s σ H Q I hq
 refine wpAny_List_spliced (thn (h pos pins s σ H _ I hq) fun us s1 ⟨xs, H1, I1, r, z, q⟩ => ⟨by rw [<- r.length]; exact z, ?_⟩)
 have hf : H1 s1.heap.objs.size = none := I1.hok.fresh (Nat.le_refl _)
 refine ⟨.ref s1.heap.objs.size, upd H1 s1.heap.objs.size (.lst xs), I1.laid (t' := s1.toks) (fun b u e => Heap.get?_push_of_some _ e) (Nat.le_refl _) ?_, rfl, q _ hf⟩
 exact ⟨z, us, 0, r, Heap.get?_push_size _ rfl⟩
end
abbrev Sp := List V -> Hp -> VK -> XK -> Prop
abbrev CXT := List Env -> Hp -> Shared -> XK -> Value -> Shared -> Prop
structure Env0 (P : Program) (w : World) (K : PySem.W.Frag) (mg : Str -> Option Value) (base : Heap) (A : Around) (outer : List Env) (s : Shared) (H : Hp) : Prop where
 frames : A.frames = some outer
 mod : Mod K mg base
 bs : ∀ b o, base.get? b = some o -> s.heap.get? b = some o /\ H b = none
 bsz : base.objs.size <= s.heap.objs.size
 funs : s.heap.FunFrames base outer
 frf : ∀ b ∈ frs outer, H b = none
 hok : HOk P w H s.heap
 bare : AllBare s.gens
def CE (outer : List Env) (P : Program) (w : World) (H : Hp) (s : Shared) (Q : VK) (u : Value) (s' : Shared) : Prop :=
 ∃ v H', s'.os = s.os /\ AllBare s'.gens /\ Un (frs outer) [] H H' s.heap s'.heap /\ HOk P w H' s'.heap /\ RelV v u /\ Q v H'
def CR (CX : CXT) (outer : List Env) (P : Program) (w : World) (H : Hp) (s : Shared) (Q : VK) (E : XK) (r : Result) (s' : Shared) : Prop :=
 match r with
 | .ok (.ret u) => CE outer P w H s Q u s'
 | .ok _ => False
 | .error e => CX outer H s E e s'
structure FnOk (P : Program) (w : World) (K : PySem.W.Frag) (mg : Str -> Option Value) (base : Heap) (CX : CXT) (k : Nat) (f : Addr) (fd : FuncData) (ps : List Str) (sp : Sp) : Prop where
 len : ∀ vs H Q E, sp vs H Q E -> vs.length = ps.length
 run : ∀ (A : Around) (outer : List Env) (s : Shared) (H : Hp) (args : Args) (us : List Value) (vs : List V) (Q : VK) (E : XK), Room k A -> Env0 P w K mg base A outer s H -> BindsTo s fd args (ps.zip us) -> Vals vs us -> sp vs H Q E ->
  codeAny (model P w) A (.call (.ref f) args) (CR CX outer P w H s Q E) s
theorem FnOk.mono {P : Program} {w : World} {K : PySem.W.Frag} {mg : Str -> Option Value} {base : Heap} {CX : CXT} {j k : Nat} {f : Addr} {fd : FuncData} {ps : List Str} {sp : Sp} (F : FnOk P w K mg base CX j f fd ps sp) (h : j <= k) :
  FnOk P w K mg base CX k f fd ps sp := ⟨F.len, fun A outer s H args us vs Q E hr => F.run A outer s H args us vs Q E (hr.mono h)⟩
theorem FnOk.imp {P : Program} {w : World} {K : PySem.W.Frag} {mg : Str -> Option Value} {base : Heap} {CX : CXT} {k : Nat} {f : Addr} {fd : FuncData} {ps : List Str} {sp sp' : Sp} (F : FnOk P w K mg base CX k f fd ps sp)
  (h : ∀ vs H Q E, sp' vs H Q E -> sp vs H Q E) : FnOk P w K mg base CX k f fd ps sp' :=
 ⟨fun vs H Q E q => F.len vs H Q E (h _ _ _ _ q), fun A outer s H args us vs Q E hr he hb hv hs => F.run A outer s H args us vs Q E hr he hb hv (h _ _ _ _ hs)⟩
theorem Env0.make {P : Program} {w : World} {K : PySem.W.Frag} {mg : Str -> Option Value} {base : Heap} {A : Around} {outer : List Env} {s : Shared} {H : Hp} (e : Env0 P w K mg base A outer s H) (C : Addr) (us : List Value) (kw : List (Str × Value)) :
  Env0 P w K mg base (A.under (.builtin "type.__call__" ⟨.ref C :: us, kw⟩)) outer s H := ⟨by first | exact e.frames | (simpa [Around.under, Code.envs, Code.isFrame, pushEnvs] using e.frames), e.mod, e.bs, e.bsz, e.funs, e.frf, e.hok, e.bare⟩
section
variable {X : Cx} {pins : List (Addr × Obj)} {σ : St} {H : Hp} {s s' : Shared}
theorem Inv.env0 (I : Inv X pins σ H s) : Env0 X.prog X.w X.K X.mg X.base X.A X.stack s H :=
 ⟨I.ok.frames, I.ok.mod, I.bs, Nat.le_trans I.ok.bsz I.sz, I.stack, I.stkFree, I.hok, I.bare⟩
theorem Inv.after {Q : VK} {u : Value} (I : Inv X pins σ H s) (h : CE X.stack X.prog X.w H s Q u s') : EP X pins σ Q u s' := by
 obtain ⟨v, H', os, bare, un, hok, r, q⟩ := h
 obtain ⟨hh, g, d, t, os'⟩ := s'
 obtain rfl : os' = s.os := os
 exact ⟨v, H', I.call (h' := hh) (g' := g) (d' := d) (t' := t) (ch := []) un hok bare (fun b z => absurd z (by simp)), r, q⟩
end
def tCall (sp : Sp) (dvs : List V) (E : XK) (t : TA) : TE := fun σ H Q => t σ H fun vs H1 => sp (vs ++ dvs) H1 Q E
def Binds (K : PySem.W.Frag) (fd : FuncData) (ps : List Str) (ds : List Value) : Prop :=
 ∀ (s : Shared) (us : List Value), K.In s.heap -> (us ++ ds).length = ps.length -> BindsTo s fd ⟨us, []⟩ (ps.zip (us ++ ds))
theorem Binds.all {K : PySem.W.Frag} {fd : FuncData} {ps : List Str} (h : ∀ us : List Value, us.length = ps.length -> bindArgs fd ⟨us, []⟩ = pure (ps.zip us)) : Binds K fd ps [] := fun s us _ hl => by
 rw [List.append_nil] at hl ⊢
 exact .of_eq (h us hl)
def Passes (CX : CXT) (X : Cx) (E : XK) : Prop := ∀ (pins : List (Addr × Obj)) (σ : St) (H : Hp) (s : Shared) (e : Value) (s' : Shared), Inv X pins σ H s -> CX X.stack H s E e s' -> X.xe e s'
section
variable {X : Cx} {CX : CXT} {k : Nat} {f C : Addr} {fd : FuncData} {ps : List Str} {sp : Sp} {dvs : List V} {ds : List Value} {E : XK} {x m : Str} {p pos apos : Pos} {e o : Expr} {es : List Expr} {ta : TE} {t : TA}
theorem run_fn {pins : List (Addr × Obj)} {σ : St} {H : Hp} {s : Shared} {Q : VK} {us : List Value} {vs : List V} (F : FnOk X.prog X.w X.K X.mg X.base CX k f fd ps sp) (hr : Room k X.A) (hb : Binds X.K fd ps ds) (hd : Vals dvs ds) (hx : Passes CX X E)
  (I : Inv X pins σ H s) (r : Vals vs us) (h : sp (vs ++ dvs) H Q E) : wpAny (model X.prog X.w) X.A (call (.ref f) us) (EP X pins σ Q) X.xe s := by
 have r2 : Vals (vs ++ dvs) (us ++ ds) := r.append hd
 have hl : (us ++ ds).length = ps.length := by rw [<- r2.length]; exact F.len _ _ _ _ h
 refine wpAny_call (codeAny_mono (F.run X.A X.stack s H ⟨us, []⟩ (us ++ ds) (vs ++ dvs) Q E hr I.env0 (hb s us I.kIn hl) r2 h) fun r s' hq => ?_)
 cases r with
 | error e => exact hx pins σ H s e s' I hq
 | ok fl =>
  cases fl with
  | ret u => exact I.after hq
  | next => exact False.elim hq
  | brk => exact False.elim hq
  | cont => exact False.elim hq
theorem pe_call (F : FnOk X.prog X.w X.K X.mg X.base CX k f fd ps sp) (hr : Room k X.A) (hg : Gl X x) (hm : X.mg x = some (.ref f)) (hk : PySem.W.keepIn X.K (.ref f) = true) (hb : Binds X.K fd ps ds) (hd : Vals dvs ds) (hx : Passes CX X E)
  (ha : PA X (e :: es) t) (hdb : (x == ("__debug__" : Str)) = false := by decide) (he : starEach (e :: es) X.env = (false, eval e X.env) :: starEach es X.env := by rfl) (hpl : (backTo pos (starEach es X.env)).any (·.1) = false := by rfl) :
  PE X (.Call (.Name x p) (e :: es) [] pos) (tCall sp dvs E t) := by
 intro pins s σ H Q I h
 refine wpAny_Call_Name_kw (ld_glob I hg hm ?_ hdb)
 refine PySem.W.callWith_K (h₀ := X.base) I.ok.mod.kin hk (thn (ha pos pins s σ H _ I h) fun us s1 zz244 => ex23 zz244 fun vs H1 I1 r q => ⟨I1.kIn, ?_⟩) he hpl
 exact run_fn F hr hb hd hx I1 r q
end
section
variable {X : Cx} {CX : CXT} {k : Nat} {f C : Addr} {fd : FuncData} {ps ks : List Str} {sp : Sp} {E : XK} {x m : Str} {p pos apos kpos : Pos} {e o : Expr} {es : List Expr} {kws : List Keyword} {te ta : TE} {t tk : TA} {nm : Option Str}
variable {g : List Value -> List Value -> List Value} {gV : List V -> List V -> List V}
end
structure FnScope (N P : List Str) (sc : Scope) : Prop where
 kind : sc.kind = .function
 co : sc.isCoroutine = false
 gen : sc.isGenerator = false
 nd : N.Nodup
 pre : N.take P.length = P
 par : ∀ x ∈ P, sc.names.lookup x = some .local \/ sc.names.lookup x = some .cell
 nofree : ∀ y ∈ sc.names, y.2 ≠ .free
theorem bindL_out {kindOf : Str -> Option NameKind} {x : Str} : ∀ {binds : List (Str × Value)} {m : Str -> Option Value}, (∀ v, (x, v) ∉ binds) -> bindL kindOf binds m x = m x
 | [], _, _ => rfl
 | (n, v) :: r, m, h => by
  unfold bindL
  rw [bindL_out fun w hw => h w (List.mem_cons_of_mem _ hw)]
  split
  ·have : x ≠ n := by rintro rfl; exact h v List.mem_cons_self
   simp [this]
  ·rfl
theorem bindC_out {kindOf : Str -> Option NameKind} {x : Str} : ∀ {binds : List (Str × Value)} {m : Str -> Option Value}, (∀ v, (x, v) ∉ binds) -> bindC kindOf binds m x = m x
 | [], _, _ => rfl
 | (n, v) :: r, m, h => by
  unfold bindC
  rw [bindC_out fun w hw => h w (List.mem_cons_of_mem _ hw)]
  split
  ·rfl
  ·have : x ≠ n := by rintro rfl; exact h v List.mem_cons_self
   simp [this]
theorem bindL_get {kindOf : Str -> Option NameKind} {x : Str} {v : Value} : ∀ {P : List Str} {vs : List Value} {i : Nat} {m : Str -> Option Value}, P.Nodup -> P[i]? = some x -> vs[i]? = some v -> kindOf x = some .local ->
  bindL kindOf (P.zip vs) m x = some v
 | [], _, _, _, _, h, _, _ => by simp at h
 | _ :: _, [], _, _, _, _, h, _ => by simp at h
 | p :: P, w :: vs, 0, m, nd, h1, h2, hk => by
  simp at h1 h2; subst h1; subst h2
  show bindL kindOf ((p, w) :: P.zip vs) m p = _
  unfold bindL
  rw [bindL_out fun v hv => (List.nodup_cons.mp nd).1 (List.of_mem_zip hv).1, if_pos hk]
  simp
 | p :: P, w :: vs, i + 1, m, nd, h1, h2, hk => by
  show bindL kindOf ((p, w) :: P.zip vs) m x = _
  unfold bindL
  exact bindL_get (i := i) (List.nodup_cons.mp nd).2 (by simpa using h1) (by simpa using h2) hk
theorem bindC_get {kindOf : Str -> Option NameKind} {x : Str} {v : Value} : ∀ {P : List Str} {vs : List Value} {i : Nat} {m : Str -> Option Value}, P.Nodup -> P[i]? = some x -> vs[i]? = some v -> kindOf x ≠ some .local ->
  bindC kindOf (P.zip vs) m x = some v
 | [], _, _, _, _, h, _, _ => by simp at h
 | _ :: _, [], _, _, _, _, h, _ => by simp at h
 | p :: P, w :: vs, 0, m, nd, h1, h2, hk => by
  simp at h1 h2; subst h1; subst h2
  show bindC kindOf ((p, w) :: P.zip vs) m p = _
  unfold bindC
  rw [bindC_out fun v hv => (List.nodup_cons.mp nd).1 (List.of_mem_zip hv).1, if_neg hk]
  simp
 | p :: P, w :: vs, i + 1, m, nd, h1, h2, hk => by
  show bindC kindOf ((p, w) :: P.zip vs) m x = _
  unfold bindC
  exact bindC_get (i := i) (List.nodup_cons.mp nd).2 (by simpa using h1) (by simpa using h2) hk
def start (N : List Str) (vs : List V) : St := vs.map some ++ List.replicate (N.length - vs.length) none
def cxOf (CX : CXT) (P : Program) (w : World) (K : PySem.W.Frag) (mg : Str -> Option Value) (base : Heap) (N : List Str) (qual : Str) (scope : Scope) (f : Addr) (cd : Value) (A : Around) (outer : List Env) (s : Shared) (H : Hp) (E : XK) : Cx where
 prog := P
 w := w
 K := K
 mg := mg
 base := base
 A := A.deeper (envOfC qual scope s.heap.objs.size f cd)
 N := N
 s₀ := s
 H₀ := H
 env := envOfC qual scope s.heap.objs.size f cd
 outer := outer
 stack := envOfC qual scope s.heap.objs.size f cd :: outer
 ex := []
 calm := true
 fn := fun _ => true
 pn := []
 xe := fun e s' => wpAny (model P w) (A.deeper (envOfC qual scope s.heap.objs.size f cd)) («leaving» (envOfC qual scope s.heap.objs.size f cd) e) (fun _ s'' => CX outer H s E e s'') (fun e' s'' => CX outer H s E e' s'') s'
theorem cell_has {sc : Scope} {n : Nat} {x : Str} (h : sc.names.lookup x = some .cell) : ∃ c, (cellsFrom n sc.names []).lookup x = some c := by
 have q := PySem.W.cellsFrom_some sc.names n [] (.inl h)
 exact Option.isSome_iff_exists.mp q
theorem inv_start {CX : CXT} {P : Program} {w : World} {K : PySem.W.Frag} {mg : Str -> Option Value} {base : Heap} {N ps : List Str} {qual : Str} {scope : Scope} {f : Addr} {cd : Value} {A : Around} {outer : List Env} {s s1 : Shared} {H : Hp} {E : XK} {us : List Value} {vs : List V}
  (S : FnScope N ps scope) (hd : A.handled = none) (e0 : Env0 P w K mg base A outer s H) (hl : vs.length = ps.length) (r : Vals vs us)
  (x : InCallC s s.heap.objs.size (bindL (envOfC qual scope s.heap.objs.size f cd).kindOf (ps.zip us) fun _ => none) (cellsFrom (s.heap.objs.size + 1) scope.names []) (bindC (envOfC qual scope s.heap.objs.size f cd).kindOf (ps.zip us) fun _ => none) s1) :
  Inv (cxOf CX P w K mg base N qual scope f cd A outer s H E) [] (start N vs) H s1 := by
 have hpl : ps.length <= N.length := by have := congrArg List.length S.pre; rw [List.length_take] at this; omega
 obtain ⟨h1, tk, rfl, hk⟩ := x.done
 have noA : ∀ b : Addr, b ∉ (cxOf CX P w K mg base N qual scope f cd A outer s H E).ex := fun b z => absurd (show b ∈ ([] : List Addr) from z) (by simp)
 refine ⟨⟨e0.mod, S.kind, rfl, rfl, Nat.le_refl _, fun y z c h1 h2 => ?_, fun y hy => ?_, fun y c _ h => ?_, fun _ => hd, Around.frames_deeper e0.frames, .inr ⟨rfl, rfl⟩, fun b z => absurd z (noA b), e0.bs, e0.bsz, fun b _ _ => noA b, fun b z => absurd z (noA b), e0.funs, e0.frf⟩,
  rfl, e0.bare, Un.kept hk, ⟨_, x.toInCall.ns, fun i y v h1 h2 h3 => ?_⟩, fun y c h => ⟨_, x.cell y c h⟩, e0.hok.fresh (Nat.le_refl _), fun y c h => ?_, fun p hp => absurd (show p ∈ ([] : List (Addr × Obj)) from hp) (by simp), e0.hok.kept hk, ?_⟩
 ·exact name_of_addr x.apart (PySem.mem_of_lookup h1) (PySem.mem_of_lookup h2)
 ·have hy : scope.names.lookup y = some .cell \/ scope.names.lookup y = some .free := hy
  rcases hy with hy | hy
  ·exact cell_has hy
  ·exact absurd rfl (S.nofree _ (PySem.mem_of_lookup hy))
 ·exact Nat.le_of_lt (x.above y c (PySem.mem_of_lookup h))
 ·have hi : i < vs.length := by
   unfold start at h2
   by_cases hi : i < vs.length
   ·exact hi
   ·rw [List.getElem?_append_right (by simpa using hi)] at h2
    rw [List.getElem?_replicate] at h2
    split at h2 <;> cases h2
  have ha : vs[i]? = some v := by
   unfold start at h2
   rw [List.getElem?_append_left (by simpa using hi), List.getElem?_map] at h2
   cases e : vs[i]? with
   | none => rw [e] at h2; cases h2
   | some a => rw [e] at h2; cases h2; rfl
  obtain ⟨u, hu, rv⟩ := r.get ha
  have hp : ps[i]? = some y := by
   rw [<- S.pre, List.getElem?_take_of_lt (by omega)]; exact h1
  have ndP : ps.Nodup := by rw [<- S.pre]; exact S.nd.sublist (List.take_sublist _ _)
  refine ⟨u, rv, ?_⟩
  rcases S.par y (List.mem_of_getElem? hp) with k | k
  ·exact .inl ⟨k, bindL_get ndP hp hu k⟩
  ·obtain ⟨c, e⟩ := cell_has (n := s.heap.objs.size + 1) k
   refine .inr ⟨.inl k, c, e, ?_⟩
   have q := x.cell y c e
   rw [bindC_get ndP hp hu (by show scope.names.lookup y ≠ _; rw [k]; decide)] at q
   exact q
 ·exact e0.hok.fresh (Nat.le_of_lt (x.above y c (PySem.mem_of_lookup h)))
 ·unfold start
  show _ = N.length
  rw [List.length_append, List.length_map, List.length_replicate]
  omega
theorem fn_of {CX : CXT} {P : Program} {w : World} {K : PySem.W.Frag} {mg : Str -> Option Value} {base : Heap} {k : Nat} {f : Addr} {name qual : Str} {params : Arguments} {body : List Stmt} {scope : Scope} {dV kV doc pm cdv ct oc : Value} {an od : Option Addr}
  {osl : Array (Option Value)} {N ps : List Str} {sp : Sp} (lk : K.lookup f = some ⟨oc, od, .func (PySem.W.fnOf name qual params body scope dV kV doc pm an cdv ct), osl⟩) (hcd : PySem.W.codeIn K cdv qual = true) (S : FnScope N ps scope)
  (len : ∀ vs H Q E, sp vs H Q E -> vs.length = ps.length)
  (hbody : ∀ (A : Around) (outer : List Env) (s : Shared) (H : Hp) (vs : List V) (Q : VK) (E : XK), Room k (A.deeper (envOfC qual scope s.heap.objs.size f cdv)) -> sp vs H Q E ->
   ∃ t, PSs (cxOf CX P w K mg base N qual scope f cdv A outer s H E) body t /\ t { nx := fun _ H' => Q .non H', rt := Q } (start N vs) H) :
  FnOk P w K mg base CX (k + 1) f (PySem.W.fnOf name qual params body scope dV kV doc pm an cdv ct) ps sp := by
 refine ⟨len, fun A outer s H args us vs Q E hr e0 hb r hsp => ?_⟩
 have hl := len _ _ _ _ hsp
 have KX : K.In s.heap := e0.mod.kin.keeps fun b o e => (e0.bs b o e).1
 have lim : s.heap.NoLimit := e0.mod.nolimit.keeps fun b o e => (e0.bs b o e).1
 have hkind : ∀ y ∈ ps.zip us, scope.names.lookup y.1 = some .local \/ (scope.names.lookup y.1 = some .cell /\ ((cellsFrom (s.heap.objs.size + 1) scope.names []).lookup y.1).isSome = true) := fun ⟨n, v⟩ hy => by
  rcases S.par n (List.of_mem_zip hy).1 with q | q
  ·exact .inl q
  ·exact .inr ⟨q, PySem.W.cellsFrom_some _ _ _ (.inl q)⟩
 refine codeAny_call_function hr.depth (KX _ _ lk) rfl S.co S.gen rfl (PySem.W.codeRec_of KX hcd) (hb _ _ _ _ ?_)
 refine wpAny_newFunctionEnv_cells S.kind hkind fun env he s1 x => ?_
 subst he
 refine ⟨lim.keeps x.toInCall.keep, codeAny_func ?_⟩
 obtain ⟨t, ht, hq⟩ := hbody A outer s H vs Q E (hr.deeper _) hsp
 have I : Inv (cxOf CX P w K mg base N qual scope f cdv A outer s H E) [] (start N vs) H s1 := inv_start S hr.hd e0 hl r x
 refine wpAny_mono (ht [] s1 (start N vs) H _ I hq) (fun fl s' hs => ?_) fun e s' hs => hs
 have fin : ∀ {σ' : St} {H' : Hp} {v : V} {u : Value}, Inv (cxOf CX P w K mg base N qual scope f cdv A outer s H E) [] σ' H' s' -> RelV v u -> Q v H' -> CE outer P w H s Q u s' :=
  fun {σ' H' v u} J rv q => ⟨v, H', J.os, J.bare, J.base, J.hok, rv, q⟩
 cases fl with
 | ret u =>
  obtain ⟨v, σ', H', J, rv, q⟩ := hs
  exact fin J rv q
 | next =>
  obtain ⟨σ', H', J, q⟩ := hs
  exact fin (v := V.non) (u := Value.none) J rfl q
 | brk =>
  obtain ⟨_, _, _, q⟩ := hs
  exact False.elim q
 | cont =>
  obtain ⟨_, _, _, q⟩ := hs
  exact False.elim q
end L2
namespace L2
open PySem PySem.Spec PyProof.Rows
section
variable {X : Cx} {x : Str} {p pos : Pos} {e : Expr} {es : List Expr} {t : TA} {id T : String} {r : List V -> Hp -> VK -> Prop}
def tCB (r : List V -> Hp -> VK -> Prop) (t : TA) : TE := fun σ H Q => t σ H fun vs H1 => r vs H1 Q
theorem pe_callB (hc : CallR X (.builtin id) r) (hg : Gl X x) (hm : X.mg x = none) (hv : bootBuiltins x = some (.builtin id)) (ha : PA X (e :: es) t) (hn : x ≠ "__name__" := by decide) (hdb : (x == ("__debug__" : Str)) = false := by decide)
  (he : starEach (e :: es) X.env = (false, eval e X.env) :: starEach es X.env := by rfl) (hpl : (backTo pos (starEach es X.env)).any (·.1) = false := by rfl) : PE X (.Call (.Name x p) (e :: es) [] pos) (tCB r t) := by
 intro pins s σ H Q I h
 refine wpAny_Call_Name_kw (ld_blt I hg hm hv ?_ hn hdb)
 exact PyProof.Rows.callWith_builtin1 (thn (ha pos pins s σ H _ I h) fun us s1 zz251 => ex23 zz251 fun vs H1 I1 r1 q1 => hc pins s1 σ H1 vs us Q I1 r1 q1) he hpl
theorem pe_callTy (hc : CallR X (.type T) r) (hg : Gl X x) (hm : X.mg x = none) (hv : bootBuiltins x = some (.type T)) (ha : PA X (e :: es) t) (hn : x ≠ "__name__" := by decide) (hdb : (x == ("__debug__" : Str)) = false := by decide)
  (he : starEach (e :: es) X.env = (false, eval e X.env) :: starEach es X.env := by rfl) (hpl : (backTo pos (starEach es X.env)).any (·.1) = false := by rfl) : PE X (.Call (.Name x p) (e :: es) [] pos) (tCB r t) := by
 intro pins s σ H Q I h
 refine wpAny_Call_Name_kw (ld_blt I hg hm hv ?_ hn hdb)
 exact PyProof.Rows.callWith_type1 (thn (ha pos pins s σ H _ I h) fun us s1 zz252 => ex23 zz252 fun vs H1 I1 r1 q1 => hc pins s1 σ H1 vs us Q I1 r1 q1) he hpl
end
end L2
namespace HT
open PySem PyProof.Rows
section
open PySem.SeqAt
open PySem.AutoSeq1 (wpAny_loadPart')
open PySem.MeetsSeq PySem.MeetsSeq2 PySem.MeetsSeq3
end
section
variable {prog : Program} {w : World} {A : Around} {E : Value -> Shared -> Prop} {s : Shared}
theorem cat_tup {t b : Addr} {vs ws : List Value} {Q : Value -> Shared -> Prop} (ht : IsTup s.heap t vs.toArray) (hb : IsTup s.heap b ws.toArray) (hv : vs ≠ [])
  (h1 : ws = [] -> Q (.ref t) s) (h2 : ws ≠ [] -> Q (.ref s.heap.objs.size) { s with heap := s.heap.push { cls := .type "tuple", data := .seq (vs ++ ws).toArray } })
  (hsz : vs.length + ws.length <= sizeLine) : wpAny (model prog w) A (binaryOp .Add (.ref t) (.ref b)) Q E s := by
 obtain ⟨⟨cls, dd, data, sl⟩, ho, hc, n, hd⟩ := id ht
 obtain ⟨⟨cls2, dd2, data2, sl2⟩, ho2, hc2, n2, hd2⟩ := id hb
 simp only at hc hd hc2 hd2
 subst hc hd hc2 hd2
 have e : vs.toArray ++ ws.toArray = (vs ++ ws).toArray := by simp
 by_cases hw : ws = []
 ·exact concat_meets ⟨_, ho, rfl⟩ ⟨_, ho2, rfl⟩ noFill_tuple_add seq_tuple_add PySem.F.slot_tuple_add PySem.F.entry_tuple_add (PySem.F.args_tuple_add_2 _ _)
   (tuple_addW1 t b vs.toArray ws.toArray n n2 dd dd2 sl sl2 (by simpa using hv) (by simp [hw])) ⟨ho, ho2, h1 hw⟩
 ·refine concat_meets ⟨_, ho, rfl⟩ ⟨_, ho2, rfl⟩ noFill_tuple_add seq_tuple_add PySem.F.slot_tuple_add PySem.F.entry_tuple_add (PySem.F.args_tuple_add_2 _ _)
   (tuple_addW2 t b vs.toArray ws.toArray n n2 dd dd2 sl sl2 (by simpa using hv) (by simpa using hw) (by rw [List.size_toArray, List.size_toArray]; exact hsz)) ⟨ho, ho2, ?_⟩
  rw [e]
  exact h2 hw
def sIx (n d : Nat) : Option Int -> Nat
 | none => d
 | some v => if v < 0 then (v + (n : Int)).toNat else min v.toNat n
theorem sIx_none (n d : Nat) : sIx n d none = d := rfl
theorem sIx_nat (n d k : Nat) : sIx n d (some (k : Int)) = min k n := by
 show (if (k : Int) < 0 then ((k : Int) + (n : Int)).toNat else min (k : Int).toNat n) = min k n
 rw [if_neg (by omega), Int.toNat_natCast]
theorem sIx_le (n d : Nat) (hd : d <= n) (o : Option Int) : sIx n d o <= n := by
 cases o with
 | none => exact hd
 | some v =>
  show (if v < 0 then (v + (n : Int)).toNat else min v.toNat n) <= n
  by_cases hv : v < 0
  ·rw [if_pos hv]; omega
  ·rw [if_neg hv]; exact Nat.min_le_right _ _
theorem clip_eq (v : Int) (n d : Nat) : (if v < 0 then max (v + (n : Int)) 0 else min v (n : Int)) = ((sIx n d (some v) : Nat) : Int) := by
 show (if v < 0 then max (v + (n : Int)) 0 else min v (n : Int)) = (((if v < 0 then (v + (n : Int)).toNat else min v.toNat n) : Nat) : Int)
 by_cases hv : v < 0
 ·simp only [if_pos hv]; omega
 ·simp only [if_neg hv]; omega
theorem adjust_gen (lo hi : Option Int) (n : Nat) : Builtin.Slice.sliceAdjust lo hi 1 (n : Int) = (((sIx n 0 lo : Nat) : Int), ((sIx n n hi : Nat) : Int)) := by
 have h1 : ¬ ((1 : Int) < 0) := by omega
 unfold Builtin.Slice.sliceAdjust
 simp only [h1, if_false]
 refine Prod.ext ?_ ?_
 ·cases lo with
  | none => rfl
  | some v => exact clip_eq v n 0
 ·cases hi with
  | none => rfl
  | some v => exact clip_eq v n n
theorem places_gen (i j : Nat) : Builtin.Slice.slicePlaces (i : Int) (j : Int) 1 = j - i := by
 unfold Builtin.Slice.slicePlaces
 have h1 : (1 : Int) > 0 := by omega
 simp only [h1, if_true, Int.ediv_one]
 split <;> omega
theorem slicePart_ {v : Value} {o : Option Int} {Q : Option Int -> Shared -> Prop} (p : IsPart v o) (h : Q o s) : wpAny (model prog w) A (Builtin.Slice.slicePartIndex v) Q E s := by
 cases p with
 | none => exact slicePart_none h
 | int i t => exact slicePart_int h
theorem sliceApplied_gen {sl : Addr} {vl vu : Value} {lo hi : Option Int} {n : Nat} {Q : Int × Int × Nat -> Shared -> Prop} (hs : s.heap.IsSliceOf sl vl vu .none) (pl : IsPart vl lo) (pu : IsPart vu hi)
  (h : Q (((sIx n 0 lo : Nat) : Int), 1, sIx n n hi - sIx n 0 lo) s) : wpAny (model prog w) A (Builtin.Slice.sliceApplied (.ref sl) (pure (n : Int))) Q E s := by
 obtain ⟨os, hos, hcs, hds⟩ := id hs
 unfold Builtin.Slice.sliceApplied Builtin.Slice.sliceFields
 refine wpAny_bind (wpAny_bind (wpAny_field hos hds (x := vl) rfl (wpAny_bind (wpAny_field hos hds (x := vu) rfl (wpAny_bind (wpAny_field hos hds (x := .none) rfl (wpAny_pure ?_)))))))
 refine wpAny_bind (slicePart_none ?_)
 show wpAny _ _ (if ((1 : Int) == 0) = true then _ else _) _ _ s
 rw [if_neg (by decide)]
 refine wpAny_bind (slicePart_ pl (wpAny_bind (slicePart_ pu (wpAny_bind (wpAny_pure ?_)))))
 show wpAny _ _ (match Builtin.Slice.sliceAdjust lo hi 1 (n : Int) with | (lo, hi) => pure (lo, (1 : Int), Builtin.Slice.slicePlaces lo hi 1)) _ _ s
 rw [adjust_gen lo hi n]
 show wpAny _ _ (pure (((sIx n 0 lo : Nat) : Int), (1 : Int), Builtin.Slice.slicePlaces ((sIx n 0 lo : Nat) : Int) ((sIx n n hi : Nat) : Int) 1)) _ _ s
 rw [places_gen]
 exact wpAny_pure h
theorem pick_gen (xs : Array Value) (i k : Nat) : ((List.range k).filterMap fun (m : Nat) => xs[((i : Int) + (m : Int) * 1).toNat]?).toArray = ((xs.toList.drop i).take k).toArray := by
 have e : (fun (m : Nat) => xs[((i : Int) + (m : Int) * 1).toNat]?) = fun m => xs[i + m]? := by
  funext m
  have : ((i : Int) + (m : Int) * 1).toNat = i + m := by omega
  rw [this]
 rw [e]
 have := pick_run xs i k
 rw [List.filterMap_map] at this
 have e2 : ((fun x => xs[x]?) ∘ fun x => i + x) = fun m => xs[i + m]? := rfl
 rw [e2] at this
 rw [this]
theorem getItem_tuple_cut {t sl : Addr} {items : Array Value} {vl vu : Value} {lo hi : Option Int} {Q : Value -> Shared -> Prop} (ht : IsTup s.heap t items) (hs : s.heap.IsSliceOf sl vl vu .none) (pl : IsPart vl lo) (pu : IsPart vu hi)
  (hw : ¬ (sIx items.size 0 lo = 0 /\ sIx items.size items.size hi = items.size))
  (h : Q (.ref s.heap.objs.size) { s with heap := s.heap.push { cls := .type "tuple", data := .seq ((items.toList.drop (sIx items.size 0 lo)).take (sIx items.size items.size hi - sIx items.size 0 lo)).toArray } })
  (hsz : items.size <= sizeLine) : wpAny (model prog w) A (getItem (.ref t) (.ref sl)) Q E s := by
 have htake : sizeOk (.seq ((items.toList.drop (sIx items.size 0 lo)).take (sIx items.size items.size hi - sIx items.size 0 lo)).toArray) := by
  show ((items.toList.drop (sIx items.size 0 lo)).take (sIx items.size items.size hi - sIx items.size 0 lo)).toArray.size <= sizeLine
  rw [List.size_toArray, List.length_take, List.length_drop, Array.length_toList]
  omega
 have hj : sIx items.size items.size hi <= items.size := sIx_le _ _ (Nat.le_refl _) hi
 obtain ⟨os, hos, hcs, hds⟩ := id hs
 have hTs : s.TypeIs (.ref sl) "slice" := ⟨os, hos, hcs⟩
 unfold getItem
 try with_reducible refine wpAny_holding ?_
 first | refine wpAny_bind (wpAny_pure ?_) | skip
 refine wpAny_bind (wpAny_sequenceKey ht.typeIs (by decide) ?_)
 refine wpAny_bind (wpAny_callSpecial?_slot (name := Str.ofString "__getitem__") ht.typeIs PyProof.Rows.slot_tuple_getitem
  (wpAny_call_entry PyProof.Rows.slot_tuple_getitem ht.typeIs entry_tuple_getitem ?_ (args_tuple_getitem _ _)))
 show wpAny _ _ (Builtin.Tuple.tupleItemsOf (.ref t) >>= _) _ _ s
 refine wpAny_bind (tupleItemsOf_ ht ?_)
 refine wpAny_bind (wpAny_typeOf hTs ?_)
 rw [if_pos (by decide)]
 refine wpAny_bind (sliceApplied_gen hs pl pu ?_)
 have hno : ¬ ((((sIx items.size 0 lo : Nat) : Int) == 0 && (1 : Int) == 1 && (sIx items.size items.size hi - sIx items.size 0 lo) == items.size) = true) := by
  intro q
  rw [Bool.and_eq_true, Bool.and_eq_true] at q
  have q1 : ((sIx items.size 0 lo : Nat) : Int) = 0 := eq_of_beq q.1.1
  have q2 : sIx items.size items.size hi - sIx items.size 0 lo = items.size := eq_of_beq q.2
  exact hw ⟨by omega, by omega⟩
 show wpAny _ _ (if (((sIx items.size 0 lo : Nat) : Int) == 0 && (1 : Int) == 1 && (sIx items.size items.size hi - sIx items.size 0 lo) == items.size) = true then _ else _) _ _ s
 rw [if_neg hno, pick_gen]
 first
  | exact wpAny_bind (m := Builtin.Tuple.tupleExact _) (wpAny_newObj_type (wpAny_pure ⟨_, rfl, wpAny_pure h⟩) htake)
  | exact wpAny_bind (m := Builtin.Tuple.tupleExact _) (wpAny_newObj_type (wpAny_bind (wpAny_pure (wpAny_pure ⟨_, rfl, wpAny_pure h⟩))) htake)
  | exact wpAny_bind (wpAny_bind (m := Builtin.Tuple.tupleExact _) (wpAny_newObj_type (wpAny_pure (wpAny_pure ⟨_, rfl, wpAny_pure h⟩)) htake))
  | exact wpAny_bind (wpAny_bind (m := Builtin.Tuple.tupleExact _) (wpAny_newObj_type (wpAny_pure ⟨_, rfl, wpAny_pure h⟩) htake))
end
end HT
namespace L2
open PySem PySem.Spec PyProof.Rows
abbrev TO := St -> Hp -> (Option Int -> Hp -> Prop) -> Prop
def PO (X : Cx) (e : Option Expr) (t : TO) : Prop :=
 ∀ (pins : List (Addr × Obj)) (s : Shared) (σ : St) (H : Hp) (Q : Option Int -> Hp -> Prop), Inv X pins σ H s -> t σ H Q ->
  wpAny (model X.prog X.w) X.A (evalPart e X.env) (fun u s' => ∃ o H', Inv X pins σ H' s' /\ IsPart u o /\ Q o H') X.xe s
def tNoPart : TO := fun _ H Q => Q none H
def tPart (t : TE) : TO := fun σ H Q => t σ H fun x H1 => ∃ i, x = .int i /\ Q (some i) H1
section
variable {X : Cx} {e : Expr} {te : TE} {lo hi : Option Expr} {tl th : TO} {pos p2 : Pos}
theorem po_none : PO X none tNoPart := by
 intro pins s σ H Q I h
 rw [evalPart_none]
 exact wpAny_pure ⟨none, H, I, .none, h⟩
theorem po_some (h : PE X e te) : PO X (some e) (tPart te) := by
 intro pins s σ H Q I hw
 rw [evalPart_some]
 refine thn (h pins s σ H _ I hw) fun u s1 zz253 => ex23 zz253 fun x H1 I1 r1 q1 => ?_
 obtain ⟨i, rfl, q⟩ := q1
 obtain ⟨t, rfl⟩ := r1
 exact ⟨some i, H1, I1, .int i t, q⟩
def SlR (X : Cx) (r : V -> Option Int -> Option Int -> Hp -> VK -> Prop) : Prop :=
 ∀ (pins : List (Addr × Obj)) (s : Shared) (σ : St) (H : Hp) (x : V) (v vl vu : Value) (lo hi : Option Int) (sl : Addr) (Q : VK), Inv X pins σ H s -> RelV x v -> s.heap.IsSliceOf sl vl vu .none -> IsPart vl lo -> IsPart vu hi -> r x lo hi H Q ->
  ∃ T id, typeLookup (.type T) "__getitem__" = pure (some (.builtin id)) /\ s.TypeIs v T /\ wpAny (model X.prog X.w) X.A (getItem v (.ref sl)) (EP X pins σ Q) X.xe s
def tSl (r : V -> Option Int -> Option Int -> Hp -> VK -> Prop) (te : TE) (tl th : TO) : TE := fun σ H Q => te σ H fun x H1 => tl σ H1 fun l H2 => th σ H2 fun u H3 => r x l u H3 Q
theorem pe_slice {r : V -> Option Int -> Option Int -> Hp -> VK -> Prop} (hr : SlR X r) (he : PE X e te) (hl : PO X lo tl) (hu : PO X hi th) : PE X (.Subscript e (.Slice lo hi none p2) pos) (tSl r te tl th) := by
 intro pins s σ H Q I h
 refine Subscript_ (thn (he pins s σ H _ I h) fun v s1 zz254 => ex23 zz254 fun x H1 I1 r1 q1 => ?_)
 refine wpAny_Slice (thn (hl pins s1 σ H1 _ I1 q1) fun vl s2 zz255 => ex23 zz255 fun l H2 I2 pl q2 => thn (hu pins s2 σ H2 _ I2 q2) fun vu s3 zz256 => ex23 zz256 fun u H3 I3 pu q3 => ?_)
 rw [evalPart_none]
 refine wpAny_pure ?_
 have I4 : Inv X pins σ H3 { s3 with heap := s3.heap.push { cls := .type "slice", data := .fields #[vl, vu, .none] } } := I3.kept (t' := s3.toks) fun b ob q => Heap.get?_push_of_some _ q
 obtain ⟨T, id, hT, ht, hg⟩ := hr pins { s3 with heap := s3.heap.push { cls := .type "slice", data := .fields #[vl, vu, .none] } } σ H3 x v vl vu l u s3.heap.objs.size Q I4 r1 (Heap.IsSliceOf.new ..) pl pu q3
 show wpAny (model X.prog X.w) X.A (subscriptTail e (.Slice lo hi none p2) v (.ref s3.heap.objs.size)) (EP X pins σ Q) X.xe { s3 with heap := s3.heap.push { cls := .type "slice", data := .fields #[vl, vu, .none] } }
 exact tail_any (ops := [.ref s3.heap.objs.size, v]) ht hT hg (by with_unfolding_all rfl)
def cutV (xs : List V) (lo hi : Option Int) : List V := (xs.drop (HT.sIx xs.length 0 lo)).take (HT.sIx xs.length xs.length hi - HT.sIx xs.length 0 lo)
theorem cutV_length (xs : List V) (lo hi : Option Int) : (cutV xs lo hi).length <= xs.length := by
 unfold cutV
 rw [List.length_take, List.length_drop]
 omega
def rSlT (K : PySem.W.Frag) : V -> Option Int -> Option Int -> Hp -> VK -> Prop := fun x lo hi H Q => ∃ a xs, x = .ref a /\ SqT K H a xs /\
 ¬ (HT.sIx xs.length 0 lo = 0 /\ HT.sIx xs.length xs.length hi = xs.length) /\ ∀ p, H p = none -> Q (.ref p) (upd H p (.tup (cutV xs lo hi)))
theorem sl_tup : SlR X (rSlT X.K) := by
 intro pins s σ H x v vl vu lo hi sl Q I rx hs pl pu h
 obtain ⟨a, xs, rfl, hx, hw, q⟩ := h
 cases rx
 obtain ⟨its, r, ht, hz⟩ := I.tuple hx
 have hlen : its.toArray.size = xs.length := by rw [List.size_toArray]; exact r.length.symm
 refine ⟨"tuple", _, PyProof.Rows.slot_tuple_getitem.lookup, ht.typeIs, ?_⟩
 refine HT.getItem_tuple_cut ht hs pl pu (by rw [hlen]; exact hw) ?_ (by rw [hlen]; exact hz)
 rw [hlen]
 refine ⟨.ref s.heap.objs.size, _, I.laid (t' := s.toks) (o := .tup (cutV xs lo hi)) (fun b ob q => Heap.get?_push_of_some _ q) (Nat.le_refl _) ?_, rfl, q _ (I.hok.fresh (Nat.le_refl _))⟩
 exact ⟨Nat.le_trans (cutV_length xs lo hi) hz, _, (r.drop (HT.sIx xs.length 0 lo)).take (HT.sIx xs.length xs.length hi - HT.sIx xs.length 0 lo), IsTup.new _ _⟩
theorem Vals.nil_iff {xs : List V} {us : List Value} (r : Vals xs us) : us = [] ↔ xs = [] := by
 cases r with
 | nil => simp
 | cons _ _ => simp
end
end L2
namespace L2
open PySem PySem.Spec PyProof.Rows
def ixN (n : Nat) (i : Int) : Option Nat := if 0 <= i then (if i < n then some i.toNat else none) else if -(n : Int) <= i then some (i + n).toNat else none
def atI {α : Type} (xs : List α) (i : Int) : Option α := (ixN xs.length i).bind fun j => xs[j]?
theorem ixN_seq {n : Nat} {i : Int} {j : Nat} (h : ixN n i = some j) : seqIndex? i n = some j /\ j < n /\ -(n : Int) <= i /\ i < n := by
 unfold ixN at h
 by_cases h0 : 0 <= i
 ·rw [if_pos h0] at h
  by_cases h1 : i < n
  ·rw [if_pos h1] at h
   have e : i.toNat = j := Option.some.inj h
   exact ⟨by rw [seqIndex_of h0 h1, e], by omega, by omega, h1⟩
  ·rw [if_neg h1] at h; cases h
 ·rw [if_neg h0] at h
  by_cases h1 : -(n : Int) <= i
  ·rw [if_pos h1] at h
   have e : (i + n).toNat = j := Option.some.inj h
   exact ⟨by rw [seqIndex_neg (by omega) h1, e], by omega, h1, by omega⟩
  ·rw [if_neg h1] at h; cases h
theorem atI_get {α : Type} {xs : List α} {i : Int} {v : α} (h : atI xs i = some v) : ∃ j, seqIndex? i xs.length = some j /\ xs[j]? = some v /\ j < xs.length /\ -(xs.length : Int) <= i /\ i < xs.length := by
 unfold atI at h
 cases e : ixN xs.length i with
 | none => rw [e] at h; cases h
 | some j =>
  rw [e] at h
  obtain ⟨h1, h2, h3, h4⟩ := ixN_seq e
  exact ⟨j, h1, h, h2, h3, h4⟩
theorem atI_nat {α : Type} {xs : List α} {j : Nat} {v : α} (h : xs[j]? = some v) : atI xs (j : Int) = some v := by
 have hj : j < xs.length := (List.getElem?_eq_some_iff.mp h).1
 have e : ixN xs.length (j : Int) = some j := by
  unfold ixN
  rw [if_pos (by omega), if_pos (by omega)]; simp
 unfold atI; rw [e]; exact h
def PlainIx (b : Expr) : Prop := ∀ o i, subscripted b false o i = operate [o, i] (getItem o i)
def IxR (X : Cx) (r : R2) : Prop :=
 ∀ (value slice : Expr) (pins : List (Addr × Obj)) (s : Shared) (σ : St) (H : Hp) (x y : V) (v u : Value) (Q : VK), Inv X pins σ H s -> RelV x v -> RelV y u -> r x y H Q ->
  subscripted slice false v u = operate [v, u] (getItem v u) -> wpAny (model X.prog X.w) X.A (subscriptTail value slice v u) (EP X pins σ Q) X.xe s
def MtR (X : Cx) (id : String) (r : V -> List V -> Hp -> VK -> Prop) : Prop :=
 ∀ (pins : List (Addr × Obj)) (s : Shared) (σ : St) (H : Hp) (x : V) (xs : List V) (v : Value) (us : List Value) (Q : VK), Inv X pins σ H s -> RelV x v -> Vals xs us -> r x xs H Q ->
  wpAny (model X.prog X.w) X.A (call (.builtin id) (v :: us)) (EP X pins σ Q) X.xe s
section
variable {X : Cx} {a b : Expr} {ta tb : TE} {pos : Pos}
theorem pe_ix {r : R2} (hr : IxR X r) (ha : PE X a ta) (hb : PE X b tb) (hs : PlainIx b) : PE X (.Subscript a b pos) (tOp r ta tb) := by
 intro pins s σ H Q I h
 exact Subscript_ (binT ha hb I h fun v u s2 x y H2 I2 rx ry q => hr a b pins s2 σ H2 x y v u Q I2 rx ry q (hs _ _))
def rIxL (K : PySem.W.Frag) : R2 := fun x y H Q => ∃ p xs i v, x = .ref p /\ y = .int i /\ SqL K H p xs /\ atI xs i = some v /\ Q v H
def rIxT (K : PySem.W.Frag) : R2 := fun x y H Q => ∃ p xs i v, x = .ref p /\ y = .int i /\ SqT K H p xs /\ atI xs i = some v /\ Q v H
def rIxS : R2 := fun x y H Q => ∃ z i c, x = .str z /\ y = .int i /\ z.length <= sizeLine /\ atI z.cps.toList i = some c /\ Q (.str ⟨#[c]⟩) H
theorem ix_list : IxR X (rIxL X.K) := by
 intro value slice pins s σ H x y v u Q I rx ry h hs
 obtain ⟨p, xs, i, z, rfl, rfl, hq, he, q⟩ := h
 cases rx
 obtain ⟨t, rfl⟩ := ry
 obtain ⟨its, r, pl, hz⟩ := I.list hq
 obtain ⟨j, h1, h2, h3, h4, h5⟩ := atI_get he
 obtain ⟨w, ew, rw'⟩ := r.get h2
 have hl := r.length
 have hn := line63
 have fin : EP X pins σ Q w s := ⟨z, H, I, rw', q⟩
 by_cases h0 : 0 <= i
 ·have hj : i.toNat = j := by
   rw [seqIndex_of h0 h5] at h1
   exact Option.some.inj h1
  exact item_listR pl.isList h0 (by omega) (by rw [hj]; simpa using ew) fin hs
 ·have hj : (i + (its.toArray.size : Int)).toNat = j := by
   rw [seqIndex_neg (by omega) h4] at h1
   rw [List.size_toArray, <- hl]
   exact Option.some.inj h1
  exact subscriptTail_builtinR (x := w) pl.isList.typeIs slot_list_getitem.lookup
   (wpAny_getItem_list_neg (Q := fun r s' => r = w /\ EP X pins σ Q r s') pl.isList (by omega) (by rw [List.size_toArray] <;> omega) (by omega) (by rw [hj]; simpa using ew) ⟨rfl, fin⟩) hs
theorem ix_tup : IxR X (rIxT X.K) := by
 intro value slice pins s σ H x y v u Q I rx ry h hs
 obtain ⟨p, xs, i, z, rfl, rfl, hq, he, q⟩ := h
 cases rx
 obtain ⟨t, rfl⟩ := ry
 obtain ⟨its, r, pl, hz⟩ := I.tuple hq
 obtain ⟨j, h1, h2, h3, h4, h5⟩ := atI_get he
 obtain ⟨w, ew, rw'⟩ := r.get h2
 have hl := r.length
 have hn := line63
 have fin : EP X pins σ Q w s := ⟨z, H, I, rw', q⟩
 exact subscriptTail_builtinR (x := w) pl.typeIs slot_tuple_getitem.lookup
  (getItem_tuple (j := j) (Q := fun r s' => r = w /\ EP X pins σ Q r s') pl (by omega) (by omega) (by rw [List.size_toArray, <- hl]; exact h1) (by simpa using ew) ⟨rfl, fin⟩) hs
theorem ix_str : IxR X rIxS := by
 intro value slice pins s σ H x y v u Q I rx ry h hs
 obtain ⟨z, i, c, rfl, rfl, hz, he, q⟩ := h
 obtain ⟨t, rfl⟩ := rx
 obtain ⟨t', rfl⟩ := ry
 obtain ⟨j, h1, h2, h3, h4, h5⟩ := atI_get he
 have hl : z.cps.toList.length = z.length := by simp [Str.length]
 rw [hl] at h1 h4 h5
 have hn := line63
 exact tail_any (typeIs_str s z t) slot_str_getitem.lookup (getItem_str (c := c) (by
  have e1 : decide (i < -(2 ^ 63 : Int)) = false := decide_eq_false (by omega)
  have e2 : decide (i >= 2 ^ 63) = false := decide_eq_false (by omega)
  rw [e1, e2, Bool.or_false]) (by rw [h1]; simpa using h2) ⟨.str ⟨#[c]⟩, H, I.tok _, ⟨_, rfl⟩, q⟩) hs
theorem mapSeq_set (its : List Value) (n j : Nat) (u : Value) : Obj.mapSeq (·.setIfInBounds j u) { cls := .type "list", data := .seq its.toArray n } = { cls := .type "list", data := .seq (its.set j u).toArray n } := by
 simp [Obj.mapSeq]
theorem Inv.lst {pins : List (Addr × Obj)} {σ : St} {H : Hp} {s : Shared} {p : Addr} {xs : List V} (I : Inv X pins σ H s) (h : H p = some (.lst xs)) :
  ∃ (its : List Value) (n : Nat), Vals xs its /\ s.heap.get? p = some { cls := .type "list", data := .seq its.toArray n } /\ xs.length <= sizeLine := by
 obtain ⟨z, its, n, r, e⟩ := I.hok p _ h
 exact ⟨its, n, r, e, z⟩
theorem Inv.lstUpd {pins : List (Addr × Obj)} {σ : St} {H : Hp} {s : Shared} {p : Addr} {xs ys : List V} {its its' : List Value} {n n' : Nat} {f : Obj -> Obj} (I : Inv X pins σ H s) (h : H p = some (.lst xs))
  (ho : s.heap.get? p = some { cls := .type "list", data := .seq its.toArray n }) (hf : f { cls := .type "list", data := .seq its.toArray n } = { cls := .type "list", data := .seq its'.toArray n' }) (r : Vals ys its') (hz : ys.length <= sizeLine) (t : Nat) :
  Inv X pins σ (upd H p (.lst ys)) { s with heap := s.heap.update p f, toks := t } := by
 have e : (s.heap.update p f).get? p = some { cls := .type "list", data := .seq its'.toArray n' } := by
  rw [Heap.get?_update_self f ho (by rw [hf] <;> rfl), hf]
 refine I.write (x := p) (e := p) (by rw [h]; trivial) (.inl rfl) (fun b u hb q => (Heap.get?_update_other _ _ (Ne.symm hb)).trans q) ⟨_, e⟩ ?_
 exact ⟨hz, its', n', r, e⟩
def rSetL : V -> V -> V -> Hp -> (Hp -> Prop) -> Prop := fun o i v H Q => ∃ p xs k j, o = .ref p /\ i = .int k /\ H p = some (.lst xs) /\ ixN xs.length k = some j /\ Q (upd H p (.lst (xs.set j v)))
theorem set_list : PSet X rSetL := by
 intro pins s σ H o i v ov iv u Q I ro ri rv h
 obtain ⟨p, xs, k, j, rfl, rfl, hp, hj, q⟩ := h
 cases ro
 obtain ⟨t, rfl⟩ := ri
 obtain ⟨its, n, r, ho, hz⟩ := I.lst hp
 obtain ⟨h1, h2, h3, h4⟩ := ixN_seq hj
 have hl := r.length
 have hn := line63
 have I' : Inv X pins σ (upd H p (.lst (xs.set j v))) { s with heap := s.heap.update p (Obj.mapSeq (·.setIfInBounds j u)) } :=
  I.lstUpd hp ho (mapSeq_set its n j u) (r.set rv j) (by rw [List.length_set]; exact hz) s.toks
 by_cases h0 : 0 <= k
 ·have hk : k.toNat = j := by
   rw [seqIndex_of h0 h4] at h1
   exact Option.some.inj h1
  exact PySem.W.ki_setAt ho h0 (by omega) (by rw [List.size_toArray, <- hl]; exact h4) (by rw [hk]; exact ⟨_, I', q⟩)
 ·have hk : (k + (its.toArray.size : Int)).toNat = j := by
   rw [seqIndex_neg (by omega) h3] at h1
   rw [List.size_toArray, <- hl]
   exact Option.some.inj h1
  exact PySem.W.ki_setBack ho (by omega) (by rw [List.size_toArray, <- hl]; exact h3) (by omega) (by rw [hk]; exact ⟨_, I', q⟩)
theorem slice_bounds (lo hi : Option Int) (n : Nat) : (sliceBounds lo hi none n).1 = ((HT.sIx n 0 lo : Nat) : Int) /\ (sliceBounds lo hi none n).2.1 = ((HT.sIx n n hi : Nat) : Int) /\ (sliceBounds lo hi none n).2.2 = 1 := by
 refine ⟨?_, ?_, rfl⟩
 ·cases lo with
  | none => simp [sliceBounds, HT.sIx]
  | some i =>
   simp only [sliceBounds, HT.sIx, Option.getD_none, show (1 : Int) > 0 by decide, if_true]
   by_cases h : i < 0
   ·simp only [h, if_true] <;> omega
   ·simp only [h, if_false] <;> omega
 ·cases hi with
  | none => simp [sliceBounds, HT.sIx]
  | some i =>
   simp only [sliceBounds, HT.sIx, Option.getD_none, show (1 : Int) > 0 by decide, if_true]
   by_cases h : i < 0
   ·simp only [h, if_true] <;> omega
   ·simp only [h, if_false] <;> omega
theorem slicePick_cut (its : List Value) (lo hi : Option Int) : slicePick its.toArray lo hi none = ((its.drop (HT.sIx its.length 0 lo)).take (HT.sIx its.length its.length hi - HT.sIx its.length 0 lo)).toArray := by
 obtain ⟨h1, h2, h3⟩ := slice_bounds lo hi its.toArray.size
 unfold slicePick
 rw [h1, h2, h3]
 simp only [sliceRange_one, pick_run, List.size_toArray] <;> rfl
def rSlL (K : PySem.W.Frag) : V -> Option Int -> Option Int -> Hp -> VK -> Prop := fun x lo hi H Q => ∃ a xs, x = .ref a /\ SqL K H a xs /\ ∀ p, H p = none -> Q (.ref p) (upd H p (.lst (cutV xs lo hi)))
theorem sl_list : SlR X (rSlL X.K) := by
 intro pins s σ H x v vl vu lo hi sl Q I rx hs pl pu h
 obtain ⟨a, xs, rfl, hx, q⟩ := h
 cases rx
 obtain ⟨its, r, ht, hz⟩ := I.list hx
 have hlen := r.length
 refine ⟨"list", _, slot_list_getitem.lookup, ht.isList.typeIs, ?_⟩
 refine wpAny_getItem_list_slice ht.isList hs pl pu .none (by simp) ?_ (by rw [List.size_toArray] <;> omega)
 rw [slicePick_cut, <- hlen]
 refine ⟨.ref s.heap.objs.size, _, I.laid (t' := s.toks) (o := .lst (cutV xs lo hi)) (fun b ob q => Heap.get?_push_of_some _ q) (Nat.le_refl _) ?_, rfl, q _ (I.hok.fresh (Nat.le_refl _))⟩
 exact ⟨Nat.le_trans (cutV_length xs lo hi) hz, _, 0, (r.drop (HT.sIx xs.length 0 lo)).take (HT.sIx xs.length xs.length hi - HT.sIx xs.length 0 lo), Heap.get?_push_size _ rfl⟩
theorem op_notIn_str : OpR X (compareOp .NotIn) (fun x y H Q => ∃ i j, x = .str i /\ y = .str j /\ Q (.bl (!(!(Builtin.Str.occurrences j i 0 j.length 1).isEmpty))) H) := by
 intro pins s σ H x y v u Q I rx ry h
 obtain ⟨i, j, rfl, rfl, q⟩ := h
 obtain ⟨t, rfl⟩ := rx
 obtain ⟨t', rfl⟩ := ry
 exact notIn_str ⟨.bl _, H, I, rfl, q⟩
theorem call_len_seq : CallR X (.builtin "len") (fun xs H Q => ∃ p ys, xs = [.ref p] /\ (SqL X.K H p ys \/ SqT X.K H p ys) /\ Q (.int ys.length) H) := by
 intro pins s σ H xs us Q I r h
 obtain ⟨p, ys, rfl, hq, q⟩ := h
 obtain ⟨u, rfl, rx⟩ := vals1 r
 cases rx
 have hn := line63
 rcases hq with hq | hq
 ·obtain ⟨its, r', pl, hz⟩ := I.list hq
  have hlen := r'.length
  exact Calls.call_len_list pl.isList (by simp only [List.size_toArray] <;> omega) ⟨.int ys.length, H, I.tok _, ⟨s.toks + 1, by rw [List.size_toArray, hlen]⟩, q⟩
 ·obtain ⟨its, r', pl, hz⟩ := I.tuple hq
  have hlen := r'.length
  exact len_tuple pl (by simp only [List.size_toArray] <;> omega) ⟨.int ys.length, H, I.tok _, ⟨s.toks + 1, by rw [List.size_toArray, hlen]⟩, q⟩
theorem call_len_str : CallR X (.builtin "len") (fun xs H Q => ∃ z, xs = [.str z] /\ z.length <= sizeLine /\ Q (.int z.length) H) := by
 intro pins s σ H xs us Q I r h
 obtain ⟨z, rfl, hz, q⟩ := h
 obtain ⟨u, rfl, t, rfl⟩ := vals1 r
 have hn := line63
 exact len_str (by omega) ⟨.int z.length, H, I.tok _, ⟨_, rfl⟩, q⟩
theorem call_list_of : CallR X (.type "list") (fun xs H Q => ∃ p ys, xs = [.ref p] /\ (SqL X.K H p ys \/ SqT X.K H p ys) /\ ∀ l, H l = none -> Q (.ref l) (upd H l (.lst ys))) := by
 intro pins s σ H xs us Q I r h
 obtain ⟨p, ys, rfl, hq, q⟩ := h
 obtain ⟨u, rfl, rx⟩ := vals1 r
 cases rx
 have fin : ∀ (its : List Value), Vals ys its -> ys.length <= sizeLine -> ∀ (h' : Heap) (c' : Nat), (∀ b o', s.heap.get? b = some o' -> h'.get? b = some o') ->
   h'.get? s.heap.objs.size = some { cls := .type "list", dict := none, data := .seq its.toArray c', slots := #[] } -> EP X pins σ Q (.ref s.heap.objs.size) { s with heap := h' } := fun its r' hz h' c' kp e =>
  ⟨.ref s.heap.objs.size, _, I.laid (t' := s.toks) kp (Nat.le_refl _) (show ObjOk X.prog X.w _ h' _ (.lst ys) from ⟨hz, its, c', r', e⟩), rfl, q _ (I.hok.fresh (Nat.le_refl _))⟩
 rcases hq with hq | hq
 ·obtain ⟨its, r', pl, hz⟩ := I.list hq
  have hlen := r'.length
  obtain ⟨o, ho, hc, n, hd⟩ := pl.isList
  exact call_list_seq p (.inl rfl) ho hc hd (fun h' c' kp e => fin its r' hz h' c' kp e) (by simp only [List.size_toArray] <;> omega)
 ·obtain ⟨its, r', pl, hz⟩ := I.tuple hq
  have hlen := r'.length
  obtain ⟨o, ho, hc, n, hd⟩ := pl
  exact call_list_seq p (.inr rfl) ho hc hd (fun h' c' kp e => fin its r' hz h' c' kp e) (by simp only [List.size_toArray] <;> omega)
theorem call_tuple_of : CallR X (.type "tuple") (fun xs H Q => ∃ p ys, xs = [.ref p] /\ ((SqL X.K H p ys /\ ∀ l, H l = none -> Q (.ref l) (upd H l (.tup ys))) \/ (SqT X.K H p ys /\ Q (.ref p) H))) := by
 intro pins s σ H xs us Q I r h
 obtain ⟨p, ys, rfl, h⟩ := h
 obtain ⟨u, rfl, rx⟩ := vals1 r
 cases rx
 rcases h with ⟨hq, q⟩ | ⟨hq, q⟩
 ·obtain ⟨its, r', pl, hz⟩ := I.list hq
  have hlen := r'.length
  refine call_tuple_list pl.isList (fun h' kp => ?_) (by simp only [List.size_toArray] <;> omega)
  have I1 : Inv X pins σ H { s with heap := h' } := I.kept (t' := s.toks) kp
  have I2 : Inv X pins σ (upd H h'.objs.size (.tup ys)) { s with heap := h'.push { cls := .type "tuple", data := .seq its.toArray } } :=
   I1.laid (t' := s.toks) (fun b o e => Heap.get?_push_of_some _ e) (Nat.le_refl _) (show ObjOk X.prog X.w _ _ _ (.tup ys) from ⟨hz, its, r', IsTup.new _ _⟩)
  exact ⟨.ref h'.objs.size, _, I2, rfl, q _ (I1.hok.fresh (Nat.le_refl _))⟩
 ·obtain ⟨its, r', pl, hz⟩ := I.tuple hq
  exact call_tuple_same pl ⟨.ref p, H, I, rfl, q⟩
def tyV (K : PySem.W.Frag) (T : String) (x : V) (H : Hp) : Prop := match x with
 | .str _ => T = "str"
 | .int _ => T = "int"
 | .ref p => (T = "list" /\ ∃ xs, SqL K H p xs) \/ (T = "tuple" /\ ∃ o, K.lookup p = some o /\ o.cls = .type "tuple" /\ o.dict = none) \/
   (T = "dict" /\ ((∃ kvs, H p = some (.dK kvs)) \/ ∃ kvs, H p = some (.dT kvs))) \/ (T = "set" /\ ∃ S n, H p = some (.set S n))
 | _ => False
theorem tyV_is {pins : List (Addr × Obj)} {σ : St} {H : Hp} {s : Shared} {T : String} {x : V} {v : Value} (I : Inv X pins σ H s) (r : RelV x v) (ty : tyV X.K T x H) :
  s.TypeIs v T /\ ∀ a, v = .ref a -> ∃ ob, s.heap.get? a = some ob /\ ob.dict = none := by
 cases x with
 | str z =>
  obtain ⟨t, rfl⟩ := r
  cases (show T = "str" from ty)
  exact ⟨typeIs_str s z t, fun _ e => nomatch e⟩
 | int i =>
  obtain ⟨t, rfl⟩ := r
  cases (show T = "int" from ty)
  exact ⟨typeIs_int s i t, fun _ e => nomatch e⟩
 | ref p =>
  cases r
  rcases ty with ⟨rfl, xs, hq⟩ | ⟨rfl, o, hk, hc, hd⟩ | ⟨rfl, hk⟩ | ⟨rfl, S, n, hk⟩
  ·obtain ⟨its, _, pl, _⟩ := I.list hq
   refine ⟨pl.isList.typeIs, fun a e => ?_⟩
   cases e
   obtain ⟨o, n, e, c, hd, _⟩ := pl
   exact ⟨o, e, hd⟩
  ·refine ⟨⟨o, I.kIn p o hk, hc⟩, fun a e => ?_⟩
   cases e
   exact ⟨o, I.kIn _ o hk, hd⟩
  ·have z : ∃ o, s.heap.get? p = some o /\ o.ExactDict := by
    rcases hk with ⟨kvs, hk⟩ | ⟨kvs, hk⟩
    ·obtain ⟨_, _, _, _, o, _, _, e, ex, _⟩ := I.hok p _ hk
     exact ⟨o, e, ex⟩
    ·obtain ⟨_, _, _, _, o, _, _, e, ex, _⟩ := I.hok p _ hk
     exact ⟨o, e, ex⟩
   obtain ⟨o, e, ex⟩ := z
   refine ⟨⟨o, e, ex.1⟩, fun a e2 => ?_⟩
   cases e2
   exact ⟨o, e, ex.2.1⟩
  ·obtain ⟨o, _, _, _, e, ex, _⟩ := I.hok p _ hk
   refine ⟨⟨o, e, ex.1⟩, fun a e2 => ?_⟩
   cases e2
   exact ⟨o, e, ex.2.1⟩
 | _ => exact False.elim ty
def tBM0 (K : PySem.W.Frag) (T : String) (r : V -> List V -> Hp -> VK -> Prop) (to : TE) : TE := fun σ H Q => to σ H fun x H1 => tyV K T x H1 /\ r x [] H1 Q
def tBM (K : PySem.W.Frag) (T : String) (r : V -> List V -> Hp -> VK -> Prop) (to : TE) (t : TA) : TE := fun σ H Q => to σ H fun x H1 => tyV K T x H1 /\ t σ H1 fun xs H2 => r x xs H2 Q
variable {o e : Expr} {es : List Expr} {to : TE} {t : TA} {name : Str} {apos cpos : Pos} {T id : String} {r : V -> List V -> Hp -> VK -> Prop}
theorem pe_bm0 (pa : PlainAttrs T) (slot : Slot T name id) (hty : typeOf (.builtin id) = pure (.type "method_descriptor")) (hm : MtR X id r) (ho : PE X o to)
  (hbase : attributeBase o name X.env (eval o X.env) = eval o X.env := by rfl) (hline : (apos.endLine == cpos.line) = true := by rfl) : PE X (.Call (.Attribute o name apos) [] [] cpos) (tBM0 X.K T r to) := by
 intro pins s σ H Q I h
 refine wpAny_Call_method0_late hbase hline (thn (ho pins s σ H _ I h) fun v s1 zz513 => ?_)
 obtain ⟨x, H1, I1, r1, ty, q1⟩ := zz513
 obtain ⟨h1, h2⟩ := tyV_is I1 r1 ty
 exact ⟨T, id, pa, slot, hty, h1, h2, Calls.callWith_builtin rfl (PySem.evalArgs_none (hm pins s1 σ H1 x [] v [] Q I1 r1 .nil q1))⟩
theorem pe_bm (pa : PlainAttrs T) (slot : Slot T name id) (hty : typeOf (.builtin id) = pure (.type "method_descriptor")) (hm : MtR X id r) (ho : PE X o to) (ha : PA X (e :: es) t)
  (hbase : attributeBase o name X.env (eval o X.env) = eval o X.env := by rfl)
  (hfew : ((backTo cpos (starEach (e :: es) X.env)).all (fun x => !x.1) && (backToKw cpos (keywordEach [] X.env)).all (fun x => x.1.isSome)
   && decide ((e :: es).length + ([] : List Keyword).length + (if ([] : List Keyword).isEmpty then 0 else 1) < 30)) = true := by rfl)
  (hline : (apos.endLine == cpos.line) = true := by rfl) (hs : starEach (e :: es) X.env = (false, eval e X.env) :: starEach es X.env := by rfl) (hplain : (backTo cpos (starEach es X.env)).any (·.1) = false := by rfl) :
  PE X (.Call (.Attribute o name apos) (e :: es) [] cpos) (tBM X.K T r to t) := by
 intro pins s σ H Q I h
 refine wpAny_Call_method_late hbase hfew hline rfl (thn (ho pins s σ H _ I h) fun v s1 zz514 => ?_)
 obtain ⟨x, H1, I1, r1, ty, q1⟩ := zz514
 obtain ⟨h1, h2⟩ := tyV_is I1 r1 ty
 refine ⟨T, id, pa, slot, hty, h1, h2, ?_⟩
 have hA := ha cpos pins s1 σ H1 _ I1 q1
 rw [hs] at hA ⊢
 refine Calls.callWith_builtin (by show (false || (backTo cpos (starEach es X.env)).any (·.1)) = false; rw [hplain] <;> rfl) (Calls.evalArgs_plain ?_)
 exact thn hA fun us s2 zz257 => ex23 zz257 fun vs H2 I2 r2 q2 => hm pins s2 σ H2 x vs v us Q I2 r1 r2 q2
end
end L2
namespace L2
open PySem PySem.Spec PyProof.Rows
def MtM (X : Cx) (id : String) (r : V -> List V -> Hp -> VK -> Prop) : Prop :=
 ∀ (pins : List (Addr × Obj)) (s : Shared) (σ : St) (H : Hp) (x : V) (xs : List V) (v : Value) (us : List Value) (Q : VK), Inv X pins σ H s -> RelV x v -> Vals xs us -> r x xs H Q ->
  wpAny (model X.prog X.w) X.A (call (.builtin id) (v :: us)) (EP X pins σ Q) X.xe s
theorem Vals.one : ∀ {x : V} {us : List Value}, Vals [x] us -> ∃ u, us = [u] /\ RelV x u
 | _, _, .cons r .nil => ⟨_, rfl, r⟩
theorem Vals.zero : ∀ {us : List Value}, Vals [] us -> us = []
 | _, .nil => rfl
theorem Vals.dropLast {xs : List V} {us : List Value} (h : Vals xs us) : Vals xs.dropLast us.dropLast := by
 induction h with
 | nil => exact .nil
 | cons r t ih =>
  cases t with
  | nil => exact .nil
  | cons q t' => exact .cons r ih
theorem Vals.reverse {xs : List V} {us : List Value} (h : Vals xs us) : Vals xs.reverse us.reverse := by
 induction h with
 | nil => exact .nil
 | cons r t ih => rw [List.reverse_cons, List.reverse_cons]; exact Vals.append ih (.cons r .nil)
theorem erase_last {α : Type} (l : List α) : l.eraseIdx (l.length - 1) = l.dropLast := by
 induction l with
 | nil => rfl
 | cons a r ih =>
  cases r with
  | nil => rfl
  | cons b r =>
   have e : (a :: b :: r).length - 1 = ((b :: r).length - 1) + 1 := by
    have h1 : (a :: b :: r).length = r.length + 2 := rfl
    have h2 : (b :: r).length = r.length + 1 := rfl
    omega
   rw [e, List.eraseIdx_cons_succ, ih]
   all_goals rfl
section
variable {X : Cx} {pins : List (Addr × Obj)} {σ : St} {H : Hp} {s : Shared} {l b : Addr} {xs ys zs : List V}
theorem Inv.lset {its its' : List Value} {n : Nat} {f : Array Value -> Array Value} {t' : Nat} (I : Inv X pins σ H s) (hH : H l = some (.lst xs))
  (e : s.heap.get? l = some { cls := .type "list", data := .seq its.toArray n }) (hf : f its.toArray = its'.toArray) (hv : Vals ys its') (hz : ys.length <= sizeLine) :
  Inv X pins σ (upd H l (.lst ys)) { s with heap := s.heap.update l (Obj.mapSeq f), toks := t' } := by
 have q := PySem.IsL.update e f
 rw [hf] at q
 refine I.write (x := l) (e := l) (by rw [hH]; exact trivial) (.inl rfl) (fun b' u hb hu => (Heap.get?_update_other s.heap (Obj.mapSeq f) (Ne.symm hb)).trans hu) ⟨_, q⟩ ?_
 exact ⟨hz, its', _, hv, q⟩
theorem Inv.lnew {its : List Value} {t' : Nat} (I : Inv X pins σ H s) (hv : Vals ys its) (hz : ys.length <= sizeLine) :
  Inv X pins σ (upd H s.heap.objs.size (.lst ys)) { s with heap := s.heap.push { cls := .type "list", data := .seq its.toArray }, toks := t' } :=
 I.laid (fun _ _ q => Heap.get?_push_of_some _ q) (Nat.le_refl _) ⟨hz, its, 0, hv, Heap.get?_push_size _ rfl⟩
theorem Inv.fresh (I : Inv X pins σ H s) : H s.heap.objs.size = none := I.hok.fresh (Nat.le_refl _)
theorem Inv.lstM (I : Inv X pins σ H s) (hH : H l = some (.lst xs)) : xs.length <= sizeLine /\ ∃ (its : List Value) (n : Nat), Vals xs its /\ xs.length = its.length /\ s.heap.get? l = some { cls := .type "list", data := .seq its.toArray n } := by
 obtain ⟨z, its, n, r, e⟩ := I.hok l _ hH
 exact ⟨z, its, n, r, r.length, e⟩
theorem notLongL {n : Nat} (h : n <= sizeLine) : Builtin.List.listTooLong n = false := by
 unfold Builtin.List.listTooLong
 exact decide_eq_false (by omega)
end
section
variable {X : Cx}
def rAppend : V -> List V -> Hp -> VK -> Prop := fun x vs H Q => ∃ l xs y, x = .ref l /\ vs = [y] /\ H l = some (.lst xs) /\ xs.length < sizeLine /\ Q .non (upd H l (.lst (xs ++ [y])))
theorem mt_append : MtM X "list.append" rAppend := by
 intro pins s σ H x vs v us Q I rx rv h
 obtain ⟨l, xs, y, rfl, rfl, hH, hz, q⟩ := h
 cases rx
 obtain ⟨u, rfl, ru⟩ := rv.one
 obtain ⟨z, its, n, r, hl, e⟩ := I.lstM hH
 refine call_meets F.slot_list_append ⟨_, e, rfl⟩ F.entry_list_append (F.args_list_append_2 _ _) (PySem.list_append l its.toArray n u (by rw [List.size_toArray]; omega)) ⟨e, ?_⟩
 refine ⟨.non, _, I.lset (its' := its ++ [u]) hH e (by simp) (r.append (.cons ru .nil)) ?_, rfl, q⟩
 rw [List.length_append, List.length_singleton]
 omega
def rExtend : V -> List V -> Hp -> VK -> Prop := fun x vs H Q => ∃ l b xs zs, x = .ref l /\ vs = [.ref b] /\ H l = some (.lst xs) /\ H b = some (.lst zs) /\ xs.length + zs.length <= sizeLine /\ Q .non (upd H l (.lst (xs ++ zs)))
theorem mt_extend : MtM X "list.extend" rExtend := by
 intro pins s σ H x vs v us Q I rx rv h
 obtain ⟨l, b, xs, zs, rfl, rfl, hH, hB, hz, q⟩ := h
 cases rx
 obtain ⟨u, rfl, ru⟩ := rv.one
 cases ru
 obtain ⟨z, its, n, r, hl, e⟩ := I.lstM hH
 obtain ⟨z2, its2, n2, r2, hl2, e2⟩ := I.lstM hB
 have hsz : its.toArray.size + its2.toArray.size <= sizeLine := by rw [List.size_toArray, List.size_toArray]; omega
 have hlong : ¬ (!its.toArray.isEmpty && Builtin.List.listTooLong (its.toArray.size + its2.toArray.size)) = true := by
  rw [notLongL hsz, Bool.and_false]
  exact Bool.false_ne_true
 refine call_meets F.slot_list_extend ⟨_, e, rfl⟩ F.entry_list_extend (F.args_list_extend_2 _ _)
  (AutoSeq1.list_extend_list_list_0 l its.toArray n b its2.toArray n2 hlong (by rw [List.size_toArray]; omega) (by omega)) ⟨e, e2, ?_⟩
 refine ⟨.non, _, I.lset (its' := its ++ its2) hH e (by simp) (r.append r2) ?_, rfl, q⟩
 rw [List.length_append]
 omega
def rPop : V -> List V -> Hp -> VK -> Prop := fun x vs H Q => ∃ l xs y, x = .ref l /\ vs = [] /\ H l = some (.lst xs) /\ xs[xs.length - 1]? = some y /\ Q y (upd H l (.lst xs.dropLast))
theorem mt_pop : MtM X "list.pop" rPop := by
 intro pins s σ H x vs v us Q I rx rv h
 obtain ⟨l, xs, y, rfl, rfl, hH, hy, q⟩ := h
 cases rx
 have hus := rv.zero
 subst hus
 obtain ⟨z, its, n, r, hl, e⟩ := I.lstM hH
 obtain ⟨u, hu, ru⟩ := r.get hy
 have hy' : its.toArray[its.toArray.size - 1]? = some u := by
  show its.toArray[its.length - 1]? = some u
  rw [<- Array.getElem?_toList, <- hl]
  exact hu
 refine call_meets F.slot_list_pop ⟨_, e, rfl⟩ F.entry_list_pop (F.args_list_pop_1 _) (MeetsSeq.list_pop_last l its.toArray n u hy' (by rw [List.size_toArray]; omega)) ⟨e, ?_⟩
 refine ⟨y, _, I.lset (its' := its.dropLast) hH e ?_ r.dropLast ?_, ru, q⟩
 ·show its.toArray.eraseIdxIfInBounds (its.toArray.size - 1) = its.dropLast.toArray
  rw [List.size_toArray, List.eraseIdxIfInBounds_toArray, erase_last]
 ·rw [List.length_dropLast]
  omega
def rCat : R2 := fun x y H Q => ∃ l b xs zs, x = .ref l /\ y = .ref b /\ H l = some (.lst xs) /\ H b = some (.lst zs) /\ xs.length + zs.length <= sizeLine /\ ∀ p, H p = none -> Q (.ref p) (upd H p (.lst (xs ++ zs)))
theorem op_cat : OpR X (binaryOp .Add) rCat := by
 intro pins s σ H x y v u Q I rx ry h
 obtain ⟨l, b, xs, zs, rfl, rfl, hH, hB, hz, q⟩ := h
 cases rx
 cases ry
 obtain ⟨z, its, n, r, hl, e⟩ := I.lstM hH
 obtain ⟨z2, its2, n2, r2, hl2, e2⟩ := I.lstM hB
 refine PySem.P.add_list e e2 ?_ (by rw [List.size_toArray, List.size_toArray]; omega)
 have ea : its.toArray ++ its2.toArray = (its ++ its2).toArray := by simp
 rw [ea]
 exact ⟨.ref _, _, I.lnew (t' := s.toks) (r.append r2) (by rw [List.length_append]; omega), rfl, q _ I.fresh⟩
end
section
variable {prog : Program} {w : World} {A : Around} {E : Value -> Shared -> Prop} {s : Shared}
end
section
variable {X : Cx}
end
end L2
namespace L2
open PySem PySem.Spec PyProof.Rows
section
variable {κ : Type} [DecidableEq κ]
def valV (kvs : List (κ × V)) (k : κ) : Option V := (kvs.find? fun kv => decide (kv.1 = k)).map (·.2)
def putK (kvs : List (κ × V)) (k : κ) (v : V) : List (κ × V) :=
 if (kvs.any fun kv => decide (kv.1 = k)) = true then kvs.map (fun kv => if kv.1 = k then (kv.1, v) else kv) else kvs ++ [(k, v)]
theorem valV_pos {p : κ × V} {r : List (κ × V)} {k : κ} (e : p.1 = k) : valV (p :: r) k = some p.2 := by simp [valV, List.find?_cons, e]
theorem valV_neg {p : κ × V} {r : List (κ × V)} {k : κ} (e : ¬ p.1 = k) : valV (p :: r) k = valV r k := by simp [valV, List.find?_cons, e]
theorem valV_any (k : κ) : ∀ kvs : List (κ × V), (kvs.any fun kv => decide (kv.1 = k)) = (valV kvs k).isSome
 | [] => rfl
 | p :: r => by
  rw [List.any_cons]
  by_cases e : p.1 = k
  ·simp only [valV_pos e, decide_eq_true e, Bool.true_or, Option.isSome_some]
  ·rw [valV_neg e, decide_eq_false e, Bool.false_or]; exact valV_any k r
theorem length_putK (kvs : List (κ × V)) (k : κ) (v : V) : (putK kvs k v).length <= kvs.length + 1 := by
 unfold putK
 split
 ·rw [List.length_map]; omega
 ·rw [List.length_append, List.length_cons, List.length_nil]; omega
theorem RelO.isSome_eq {o : Option V} {u : Option Value} (r : RelO o u) : o.isSome = u.isSome := by
 cases o with
 | none => cases u with
  | none => rfl
  | some _ => exact (show False from r).elim
 | some _ => cases u with
  | none => exact (show False from r).elim
  | some _ => rfl
theorem KV.val {kvs : List (κ × V)} {vs : List (κ × Value)} (r : KV kvs vs) (k : κ) : RelO (valV kvs k) (valueAt vs k) := by
 unfold KV at r
 induction r with
 | nil => exact True.intro
 | @cons p q ps qs h t ih =>
  obtain ⟨h1, h2⟩ := h
  by_cases e : p.1 = k
  ·have e' : q.1 = k := h1.symm.trans e
   have b : valueAt (q :: qs) k = some q.2 := by simp [valueAt, List.find?_cons, e']
   rw [valV_pos e, b]; exact h2
  ·have e' : ¬ q.1 = k := fun z => e (h1.trans z)
   have b : valueAt (q :: qs) k = valueAt qs k := by simp [valueAt, List.find?_cons, e']
   rw [valV_neg e, b]; exact ih
theorem KV.any {kvs : List (κ × V)} {vs : List (κ × Value)} (r : KV kvs vs) (k : κ) : (kvs.any fun kv => decide (kv.1 = k)) = vs.any fun kv => decide (kv.1 = k) := by
 unfold KV at r
 induction r with
 | nil => rfl
 | cons h t ih => rw [List.any_cons, List.any_cons, ih, h.1]
theorem KV.repl {kvs : List (κ × V)} {vs : List (κ × Value)} (r : KV kvs vs) (k : κ) {y : V} {u : Value} (ry : RelV y u) :
  KV (kvs.map fun kv => if kv.1 = k then (kv.1, y) else kv) (vs.map fun kv => if kv.1 = k then (kv.1, u) else kv) := by
 unfold KV at r ⊢
 induction r with
 | nil => exact .nil
 | @cons p q ps qs h t ih =>
  rw [List.map_cons, List.map_cons]
  refine .cons ?_ ih
  obtain ⟨h1, h2⟩ := h
  by_cases e : p.1 = k
  ·rw [if_pos e, if_pos (h1.symm.trans e)]; exact ⟨h1, ry⟩
  ·rw [if_neg e, if_neg (fun z => e (h1.trans z))]; exact ⟨h1, h2⟩
theorem KV.put {kvs : List (κ × V)} {vs : List (κ × Value)} (r : KV kvs vs) (k : κ) {y : V} {u : Value} (ry : RelV y u) : KV (putK kvs k y) (stored vs k u) := by
 unfold putK stored
 rw [r.any k]
 by_cases e : (vs.any fun kv => decide (kv.1 = k)) = true
 ·rw [if_pos e, if_pos e]; exact r.repl k ry
 ·rw [if_neg e, if_neg e]; exact Paired.snoc r ⟨rfl, ry⟩
theorem KV.length {kvs : List (κ × V)} {vs : List (κ × Value)} (r : KV kvs vs) : kvs.length = vs.length := Paired.length r
end
theorem kV_is {P : Program} {w : World} {k : Key} {u : Value} (r : RelV (kV k) u) : (mixKind P w).is k u = true := by
 cases k with
 | inl i => obtain ⟨t, e⟩ := (show ∃ t, u = Value.int i t from r); subst e; exact mixKind_int P w i t
 | inr x => obtain ⟨t, e⟩ := (show ∃ t, u = Value.str x t from r); subst e; exact mixKind_str P w x t
theorem items_are {P : Program} {w : World} : ∀ {ks : List Key} {us : List Value}, Vals (ks.map kV) us -> ItemsAre (mixKind P w) ks us
 | [], _, r => by rw [List.map_nil] at r; cases r; exact .nil
 | k :: ks, _, r => by
  rw [List.map_cons] at r
  cases r with
  | cons h t => exact .cons (kV_is h) (items_are t)
abbrev KT (H : Hp) : List (List Key × V) -> List (List Key × Addr × Value) -> Prop := Paired fun p q => p.1 = q.1 /\ H q.2.1 = some (.tup (p.1.map kV)) /\ RelV p.2 q.2.2
theorem KT.val {H : Hp} {kvs : List (List Key × V)} {xs : List (List Key × Addr × Value)} (r : KT H kvs xs) (k : List Key) : RelO (valV kvs k) ((atKey xs k).map (·.2)) := by
 induction r with
 | nil => exact True.intro
 | @cons p q ps qs h t ih =>
  obtain ⟨h1, _, h2⟩ := h
  by_cases e : p.1 = k
  ·have e' : q.1 = k := h1.symm.trans e
   have b : atKey (q :: qs) k = some q.2 := by simp [atKey, List.find?_cons, e']
   rw [valV_pos e, b]; exact h2
  ·have e' : ¬ q.1 = k := fun z => e (h1.trans z)
   have b : atKey (q :: qs) k = atKey qs k := by simp [atKey, List.find?_cons, e']
   rw [valV_neg e, b]; exact ih
theorem KT.repl {H : Hp} {kvs : List (List Key × V)} {xs : List (List Key × Addr × Value)} (r : KT H kvs xs) (k : List Key) {y : V} {u : Value} (ry : RelV y u) :
  KT H (kvs.map fun kv => if kv.1 = k then (kv.1, y) else kv) (xs.map (putAt k u)) := by
 induction r with
 | nil => exact .nil
 | @cons p q ps qs h t ih =>
  rw [List.map_cons, List.map_cons]
  refine .cons ?_ ih
  obtain ⟨h1, h2, h3⟩ := h
  unfold putAt
  by_cases e : p.1 = k
  ·rw [if_pos e, if_pos (h1.symm.trans e)]; exact ⟨h1, h2, ry⟩
  ·rw [if_neg e, if_neg (fun z => e (h1.trans z))]; exact ⟨h1, h2, h3⟩
theorem KT.put {H : Hp} {kvs : List (List Key × V)} {xs : List (List Key × Addr × Value)} (r : KT H kvs xs) (k : List Key) {b : Addr} {y : V} {u : Value} (hb : H b = some (.tup (k.map kV))) (ry : RelV y u) :
  KT H (putK kvs k y) (storedH xs k b u) := by
 have e : (kvs.any fun kv => decide (kv.1 = k)) = (atKey xs k).isSome := by
  rw [valV_any, (r.val k).isSome_eq, Option.isSome_map]
 unfold putK storedH
 rw [e]
 by_cases q : (atKey xs k).isSome = true
 ·rw [if_pos q, if_pos q]; exact r.repl k ry
 ·rw [if_neg q, if_neg q]; exact Paired.snoc r ⟨rfl, hb, ry⟩
theorem KT.keeps {H H' : Hp} {kvs : List (List Key × V)} {xs : List (List Key × Addr × Value)} (r : KT H kvs xs) (ht : ∀ b ys, H b = some (.tup ys) -> H' b = some (.tup ys)) : KT H' kvs xs :=
 Paired.mapP r fun _ _ z => ⟨z.1, ht _ _ z.2.1, z.2.2⟩
section
variable {P : Program} {w : World} {H : Hp} {h : Heap} {a : Addr}
theorem rd_of {u : HO} (ok : HOk P w H h) (e : Rd H a u) : ObjOk P w H h a u := e.ok ok
theorem dk_rd {kvs : List (Key × V)} (ok : HOk P w H h) (e : Rd H a (.dK kvs)) : kvs.length <= sizeLine /\ (a == sysModules) = false /\ ∃ vs, KV kvs vs /\ h.DictOf (mixKind P w) a vs :=
 show ObjOk P w H h a (.dK kvs) from rd_of ok e
theorem dk_of {kvs : List (Key × V)} (ok : HOk P w H h) (e : H a = some (.dK kvs)) : kvs.length <= sizeLine /\ (a == sysModules) = false /\ ∃ vs, KV kvs vs /\ h.DictOf (mixKind P w) a vs := dk_rd ok (.inl e)
theorem key_of {ks : List Key} (ok : HOk P w H h) (e : H a = some (.tup (ks.map kV))) : (tupleKind (mixKind P w)).is h ks a := by
 obtain ⟨_, its, r, o, h1, h2, n, h3⟩ := (show ObjOk P w H h a (.tup (ks.map kV)) from ok a _ e)
 exact ⟨o, its.toArray, n, h1, h2, h3, by simpa using items_are r⟩
theorem dt_rd {kvs : List (List Key × V)} (ok : HOk P w H h) (e : Rd H a (.dT kvs)) : kvs.length <= sizeLine /\ (a == sysModules) = false /\
  ∃ xs, KT H kvs xs /\ h.DictOfH (tupleKind (mixKind P w)) a xs := by
 obtain ⟨z, y, xs, r, o, es, ep, h1, h2, h3, h4, h5⟩ := (show ObjOk P w H h a (.dT kvs) from rd_of ok e)
 refine ⟨z, y, xs, r, o, es, ep, h1, h2, h3, h4, fun x hx => ?_, h5⟩
 have all : ∀ {l : List (List Key × V)} {m : List (List Key × Addr × Value)}, KT H l m -> ∀ x ∈ m, (tupleKind (mixKind P w)).is h x.1 x.2.1 := by
  intro l m q
  induction q with
  | nil => intro x hx; exact nomatch hx
  | @cons p q ps qs hq t ih =>
   intro x hx
   rcases List.mem_cons.mp hx with e | hx
   ·subst e
    exact key_of ok (by rw [<- hq.1]; exact hq.2.1)
   ·exact ih x hx
 exact all r x hx
theorem dt_of {kvs : List (List Key × V)} (ok : HOk P w H h) (e : H a = some (.dT kvs)) : kvs.length <= sizeLine /\ (a == sysModules) = false /\
  ∃ xs, KT H kvs xs /\ h.DictOfH (tupleKind (mixKind P w)) a xs := dt_rd ok (.inl e)
end
def DGet (H : Hp) (a : Addr) (y : V) (r : Option V) : Prop :=
 (∃ kvs k, Rd H a (.dK kvs) /\ y = kV k /\ r = valV kvs k) \/ ∃ kvs k b, Rd H a (.dT kvs) /\ y = .ref b /\ H b = some (.tup (k.map kV)) /\ r = valV kvs k
def DPut (H : Hp) (a : Addr) (y v : V) (H' : Hp) : Prop :=
 (∃ kvs k, H a = some (.dK kvs) /\ y = kV k /\ kvs.length < sizeLine /\ H' = upd H a (.dK (putK kvs k v))) \/
 ∃ kvs k b, H a = some (.dT kvs) /\ y = .ref b /\ H b = some (.tup (k.map kV)) /\ kvs.length < sizeLine /\ H' = upd H a (.dT (putK kvs k v))
theorem DGet.k {H : Hp} {a : Addr} {kvs : List (Key × V)} {k : Key} (e : H a = some (.dK kvs)) : DGet H a (kV k) (valV kvs k) := .inl ⟨kvs, k, .inl e, rfl, rfl⟩
theorem DGet.t {H : Hp} {a b : Addr} {kvs : List (List Key × V)} {k : List Key} (e : H a = some (.dT kvs)) (eb : H b = some (.tup (k.map kV))) : DGet H a (.ref b) (valV kvs k) := .inr ⟨kvs, k, b, .inl e, rfl, eb, rfl⟩
theorem DPut.k {H : Hp} {a : Addr} {kvs : List (Key × V)} {k : Key} {v : V} (e : H a = some (.dK kvs)) (hl : kvs.length < sizeLine) : DPut H a (kV k) v (upd H a (.dK (putK kvs k v))) := .inl ⟨kvs, k, e, rfl, hl, rfl⟩
theorem DPut.t {H : Hp} {a b : Addr} {kvs : List (List Key × V)} {k : List Key} {v : V} (e : H a = some (.dT kvs)) (eb : H b = some (.tup (k.map kV))) (hl : kvs.length < sizeLine) :
  DPut H a (.ref b) v (upd H a (.dT (putK kvs k v))) := .inr ⟨kvs, k, b, e, rfl, eb, hl, rfl⟩
section
variable {X : Cx} {pins : List (Addr × Obj)} {σ : St} {H : Hp} {s : Shared} {a : Addr} {y v : V} {u r : Value} {o : Option V} {A : Around} {E : Value -> Shared -> Prop}
theorem Inv.big (I : Inv X pins σ H s) : sysModules < s.heap.objs.size := by
 have h : mainGlobals < s.heap.objs.size := (I.mod.glob.keeps I.bk).lt
 exact Nat.lt_trans (by decide) h
theorem d_getItem {Q : Value -> Shared -> Prop} (hu : A.units + 1 < cLine) (I : Inv X pins σ H s) (g : DGet H a y (some v)) (ry : RelV y u) (h : ∀ w' s', Inv X pins σ H s' -> RelV v w' -> Q w' s') :
  wpAny (model X.prog X.w) A (getItem (.ref a) u) Q E s := by
 rcases g with ⟨kvs, k, e, ey, l⟩ | ⟨kvs, k, b, e, ey, eb, l⟩
 ·subst ey
  obtain ⟨z, hd, vs, rel, dd⟩ := dk_rd I.hok e
  obtain ⟨w', hw, rw'⟩ := RelO.some_of (v := v) (o := valueAt vs k) (by rw [l]; exact rel.val k)
  exact wpAny_getItem_of (kV_is ry) dd.mapOf hw (h w' _ (I.tok _) rw')
 ·subst ey
  cases (show u = Value.ref b from ry)
  obtain ⟨z, hd, xs, rel, dd⟩ := dt_rd I.hok e
  obtain ⟨w', hw, rw'⟩ := RelO.some_of (v := v) (o := (atKey xs k).map (·.2)) (by rw [l]; exact rel.val k)
  obtain ⟨p, hp, hp2⟩ := Option.map_eq_some_iff.mp hw
  refine wpAny_getItem_heap (tupleKind_room_in1 hu) (key_of I.hok eb) dd hp ?_
  rw [hp2]
  exact h w' _ (I.tok _) rw'
theorem d_write {h' : Heap} {t' : Nat} {ob : HO} (I : Inv X pins σ H s) (mu : Mut (H a)) (hs : Heap.SameBut a s.heap h') (he : ∃ q, h'.get? a = some q) (new : ObjOk X.prog X.w (upd H a ob) h' a ob) :
  Inv X pins σ (upd H a ob) { s with heap := h', toks := t' } :=
 I.write (x := a) (e := a) mu (.inl rfl) (fun b q hb z => (hs.2 b hb).trans z) he new
theorem dk_new {P : Program} {w : World} {H' : Hp} {h' : Heap} {kvs : List (Key × V)} {vs : List (Key × Value)} (z : kvs.length <= sizeLine) (hd : (a == sysModules) = false) (rel : KV kvs vs) (dd : h'.DictOf (mixKind P w) a vs) :
  ObjOk P w H' h' a (.dK kvs) := ⟨z, hd, vs, rel, dd⟩
theorem d_setItem {H' : Hp} {Q : Unit -> Shared -> Prop} (hu : A.units + 1 < cLine) (I : Inv X pins σ H s) (g : DPut H a y v H') (ry : RelV y u) (rv : RelV v r) (h : ∀ s', Inv X pins σ H' s' -> Q () s') :
  wpAny (model X.prog X.w) A (setItem (.ref a) u r) Q E s := by
 rcases g with ⟨kvs, k, e, ey, l, eH⟩ | ⟨kvs, k, b, e, ey, eb, l, eH⟩
 ·subst ey eH
  obtain ⟨z, hd, vs, rel, dd⟩ := dk_of I.hok e
  have hz : vs.length <= sizeLine := by rw [<- rel.length]; exact z
  have hl : (putK kvs k v).length <= sizeLine := by have := length_putK kvs k v; omega
  refine wpAny_setItem_pairs (hsz := hz) (kV_is ry) dd fun h' dd' hs => h _ ?_
  have he : ∃ q, h'.get? a = some q := let ⟨q, _, _, hq, _⟩ := dd'; ⟨q, hq⟩
  exact d_write I (by rw [e]; exact True.intro) hs he (dk_new hl hd (rel.put k rv) dd')
 ·subst ey eH
  cases (show u = Value.ref b from ry)
  obtain ⟨z, hd, xs, rel, dd⟩ := dt_of I.hok e
  have hz : xs.length <= sizeLine := by rw [<- Paired.length rel]; exact z
  have hl : (putK kvs k v).length <= sizeLine := by have := length_putK kvs k v; omega
  refine wpAny_setItem_heap (hsz := hz) (tupleKind_room_in1 hu) (key_of I.hok eb) dd fun h' dd' hs => h _ ?_
  obtain ⟨q, es, ep, hq, h2, h3, h4, _, h5⟩ := dd'
  refine d_write I (by rw [e]; exact True.intro) hs ⟨q, hq⟩ ⟨hl, hd, _, (rel.put k eb rv).keeps fun c ys ec => ?_, q, es, ep, hq, h2, h3, h4, h5⟩
  rw [upd_ne (ne_of ec e (fun z => nomatch z))]
  exact ec
end
section
variable {X : Cx} {pins : List (Addr × Obj)} {σ : St} {H : Hp} {s : Shared} {a : Addr} {kvs : List (Key × V)} {k : Key} {u : Value} {A : Around} {E : Value -> Shared -> Prop}
theorem d_len {Q : Value -> Shared -> Prop} (I : Inv X pins σ H s) (e : Rd H a (.dK kvs)) (h : ∀ t s', Inv X pins σ H s' -> Q (.int kvs.length t) s') : wpAny (model X.prog X.w) A (call (.builtin "len") [.ref a]) Q E s := by
 obtain ⟨z, hd, vs, rel, dd⟩ := dk_rd I.hok e
 refine call_len_dict hd dd (by rw [<- rel.length]; rw [sizeLine_eq] at z; omega) ?_
 rw [<- rel.length]
 exact h _ _ (I.tok _)
end
def NoSl (i : Expr) : Prop := ∀ ov iv, subscripted i false ov iv = operate [ov, iv] (getItem ov iv)
theorem subD_of {prog : Program} {w : World} {A : Around} {E : Value -> Shared -> Prop} {s : Shared} {env : Env} {value slice : Expr} {pos : Pos} {T id : String} {Q : Value -> Shared -> Prop}
  (hl : typeLookup (.type T) "__getitem__" = pure (some (.builtin id))) (hs : NoSl slice)
  (h : wpAny (model prog w) A (eval value env) (fun o s₁ => wpAny (model prog w) A (eval slice env) (fun i s₂ => s₂.TypeIs o T /\ wpAny (model prog w) A (getItem o i) Q E s₂) E s₁) E s) :
  wpAny (model prog w) A (eval (.Subscript value slice pos) env) Q E s := by
 refine Subscript_ (wpAny_mono h (fun o s₁ h₁ => wpAny_mono h₁ (fun i s₂ h₂ => ?_) fun _ _ x => x) fun _ _ x => x)
 obtain ⟨hT, h₂⟩ := h₂
 unfold subscriptTail
 refine wpAny_bind ?_
 rw [getitemInPython_of_ne hT.not_modules]
 refine wpAny_bind (wpAny_specialOf hT hl ?_)
 have fin : wpAny (model prog w) A (subscripted slice false o i) (fun r s₃ => wpAny (model prog w) A (letTemporaryGo value o r >>= fun _ => pure r) Q E s₃) E s₂ := by
  rw [hs o i]
  exact wpAny_operating (wpAny_mono h₂ (fun r s₃ h₃ => wpAny_bind (wpAny_letTemporaryGo (wpAny_pure h₃))) fun _ _ x => x)
 first
  | exact wpAny_pure (wpAny_bind fin)
  | exact wpAny_bind (wpAny_pure (wpAny_bind fin))
  | exact wpAny_bind fin
theorem dict_typeIs {X : Cx} {pins : List (Addr × Obj)} {σ : St} {H : Hp} {s : Shared} {a : Addr} {y : V} {o : Option V} (I : Inv X pins σ H s) (g : DGet H a y o) : s.TypeIs (.ref a) "dict" := by
 rcases g with ⟨kvs, k, e, _, _⟩ | ⟨kvs, k, b, e, _, _, _⟩
 ·obtain ⟨_, _, vs, _, dd⟩ := dk_rd I.hok e
  exact dd.typeIs
 ·obtain ⟨_, _, xs, _, dd⟩ := dt_rd I.hok e
  exact dd.typeIs
def tDGet (td ty : TE) : TE := fun σ H Q => td σ H fun x H1 => ty σ H1 fun y H2 => ∃ a v, x = .ref a /\ DGet H2 a y (some v) /\ Q v H2
def sDPut (td ty tv : TE) : TS := fun D σ H => tv σ H fun v H1 => td σ H1 fun x H2 => ty σ H2 fun y H3 => ∃ a H4, x = .ref a /\ DPut H3 a y v H4 /\ D.nx σ H4
section
variable {X : Cx} {o i e value : Expr} {pos pos' tpos : Pos} {td ty tv : TE}
theorem pe_dget (hu : X.A.units + 1 < cLine) (ho : PE X o td) (hi : PE X i ty) (hs : NoSl i) : PE X (.Subscript o i pos) (tDGet td ty) := by
 intro pins s σ H Q I h
 refine subD_of PySem.F.slot_dict_getitem.lookup hs (thn (ho pins s σ H _ I h) fun u s1 zz258 => ex23 zz258 fun x H1 I1 rx q1 => thn (hi pins s1 σ H1 _ I1 q1) fun iv s2 zz515 => ?_)
 obtain ⟨y, H2, I2, ry, a, v, ex, g, q2⟩ := zz515
 subst ex
 obtain rfl : u = Value.ref a := rx
 exact ⟨dict_typeIs I2 g, d_getItem hu I2 g ry fun w' s3 I3 rw' => ⟨v, H2, I3, rw', q2⟩⟩
theorem ps_dput (hu : X.A.units + 1 < cLine) (ho : PE X o td) (hi : PE X i ty) (hv : PE X value tv) (hs : swapsWith value (some (.Subscript o i pos')) pos.line X.env = pure false) :
  PS X (.Assign [.Subscript o i pos'] value pos) (sDPut td ty tv) := by
 intro pins s σ H D I h
 refine wpAny_Assign_Subscript (thn (hv pins s σ H _ I h) fun r s1 zz261 => ex23 zz261 fun v H1 I1 rv q1 => thn (ho pins s1 σ H1 _ I1 q1) fun u s2 zz262 => ex23 zz262 fun x H2 I2 rx q2 => thn (hi pins s2 σ H2 _ I2 q2) fun iv s3 zz518 => ?_) hs
 obtain ⟨y, H3, I3, ry, a, H4, ex, g, q3⟩ := zz518
 subst ex
 obtain rfl : u = Value.ref a := rx
 exact d_setItem hu I3 g ry rv fun s4 I4 => ⟨σ, H4, I4, q3⟩
end
theorem dk_empty {P : Program} {w : World} {H : Hp} (h : Heap) (hb : sysModules < h.objs.size) : ObjOk P w H (h.push { cls := .type "dict", data := .dict #[] }) h.objs.size (.dK []) :=
 ⟨Nat.zero_le _, beq_eq_false_iff_ne.mpr (Ne.symm (Nat.ne_of_lt hb)), [], .nil, Heap.DictOf.new h⟩
section
variable {X : Cx} {pos : Pos}
end
def tPairs : List (TE × TE) -> St -> Hp -> (List (V × V) -> Hp -> Prop) -> Prop
 | [], _, H, Q => Q [] H
 | (tk, tv) :: r, σ, H, Q => tk σ H fun x H1 => tv σ H1 fun y H2 => tPairs r σ H2 fun ps H3 => Q ((x, y) :: ps) H3
abbrev VV : List (V × V) -> List (Value × Value) -> Prop := Paired fun p q => RelV p.1 q.1 /\ RelV p.2 q.2
def PPs (X : Cx) (pos : Pos) (keys : List (Option Expr)) (values : List Expr) (trs : List (TE × TE)) : Prop :=
 ∀ (pins : List (Addr × Obj)) (s : Shared) (σ : St) (H : Hp) (Q : List (V × V) -> Hp -> Prop), Inv X pins σ H s -> tPairs trs σ H Q ->
  wpAny (model X.prog X.w) X.A (evalPairs (pairTrees keys values X.env pos)) (fun vs s' => ∃ ps H', Inv X pins σ H' s' /\ VV ps vs /\ Q ps H') X.xe s
theorem pps_nil {X : Cx} {pos : Pos} : PPs X pos [] [] [] := fun pins s σ H Q I h => pairTrees_nil_walk ⟨[], H, I, .nil, h⟩
theorem pps_cons {X : Cx} {pos : Pos} {k v : Expr} {ks : List (Option Expr)} {vs : List Expr} {tk tv : TE} {trs : List (TE × TE)} (hk : PE X k tk) (hv : PE X v tv) (hr : PPs X pos ks vs trs) :
  PPs X pos (some k :: ks) (v :: vs) ((tk, tv) :: trs) := fun pins s σ H Q I h =>
 pairTrees_cons_walk (thn (hk pins s σ H _ I h) fun u s1 zz266 => ex23 zz266 fun x H1 I1 rx q1 => thn (hv pins s1 σ H1 _ I1 q1) fun w2 s2 zz267 => ex23 zz267 fun y H2 I2 ry q2 =>
  thn (hr pins s2 σ H2 _ I2 q2) fun ws s3 zz268 => ex23 zz268 fun ps H3 I3 rel q3 => ⟨(x, y) :: ps, H3, I3, .cons ⟨rx, ry⟩ rel, q3⟩)
def mergeK (kvs more : List (Key × V)) : List (Key × V) := more.foldl (fun acc kv => putK acc kv.1 kv.2) kvs
theorem KV.merge : ∀ {more : List (Key × V)} {rs : List (Key × Value)} {kvs : List (Key × V)} {vs : List (Key × Value)}, KV more rs -> KV kvs vs -> KV (mergeK kvs more) (merged vs rs) := by
 intro more rs kvs vs r
 unfold KV at r
 induction r generalizing kvs vs with
 | nil => intro q; exact q
 | @cons p q ps qs h t ih =>
  intro r0
  have e : KV (putK kvs p.1 p.2) (stored vs q.1 q.2) := by
   have := r0.put p.1 h.2
   rw [<- h.1]; exact this
  exact ih e
theorem length_mergeK : ∀ (more kvs : List (Key × V)), (mergeK kvs more).length <= kvs.length + more.length
 | [], kvs => by show kvs.length <= kvs.length + 0; omega
 | p :: r, kvs => by
  have h1 := length_mergeK r (putK kvs p.1 p.2)
  have h2 := length_putK kvs p.1 p.2
  show (mergeK (putK kvs p.1 p.2) r).length <= _
  rw [List.length_cons]; omega
theorem carries_of {P : Program} {w : World} : ∀ {kvs : List (Key × V)} {ws : List (Value × Value)}, VV (kvs.map fun kv => (kV kv.1, kv.2)) ws -> ∃ rs, Carries (mixKind P w) ws rs /\ KV kvs rs
 | [], _, r => by rw [List.map_nil] at r; cases r; exact ⟨[], True.intro, .nil⟩
 | p :: kvs, _, r => by
  rw [List.map_cons] at r
  cases r with
  | @cons a b as bs h t =>
   obtain ⟨rs, c, q⟩ := carries_of (P := P) (w := w) t
   obtain ⟨b1, b2⟩ := b
   exact ⟨(p.1, b2) :: rs, ⟨kV_is h.1, rfl, c⟩, .cons ⟨rfl, h.2⟩ q⟩
def tDisp (trs : List (TE × TE)) : TE := fun σ H Q => ∀ p, H p = none -> tPairs trs σ (upd H p (.dK [])) fun ps H2 => H2 p = some (.dK []) /\ ∃ kvs : List (Key × V), ps = kvs.map (fun kv => (kV kv.1, kv.2)) /\ kvs.length <= 15 /\ Q (.ref p) (upd H2 p (.dK (mergeK [] kvs)))
theorem pe_disp {X : Cx} {pos : Pos} {keys : List (Option Expr)} {values : List Expr} {trs : List (TE × TE)} (h : PPs X pos keys values trs) (hall : keys.all (·.isSome) = true) (hl : keys.length = values.length) (h0 : keys ≠ [])
  (h15 : keys.length <= 15) : PE X (.Dict keys values pos) (tDisp trs) := by
 intro pins s σ H Q I q
 have hn := I.hok.fresh (Nat.le_refl s.heap.objs.size)
 have I1 := I.laid (a := s.heap.objs.size) (o := .dK []) (h' := s.heap.push { cls := .type "dict", data := .dict #[] }) (t' := s.toks) (fun _ _ q => Heap.get?_push_of_some _ q) (Nat.le_refl _) (dk_empty s.heap I.big)
 refine wpAny_Dict_walk (knd := mixKind X.prog X.w) hall hl h0 h15 (thn (h pins _ σ _ _ I1 (q _ hn)) fun ws s2 zz522 => ?_)
 obtain ⟨ps, H2, I2, rel, e, kvs, ep, lk, q2⟩ := zz522
 subst ep
 obtain ⟨rs, c, rk⟩ := carries_of (P := X.prog) (w := X.w) rel
 obtain ⟨z, hd, vs0, r0, dd⟩ := dk_of I2.hok e
 cases r0
 refine ⟨rs, c, dd, fun h' dd' hs => ⟨.ref s.heap.objs.size, _, ?_, rfl, q2⟩⟩
 have hz : (mergeK [] kvs).length <= sizeLine := by
  have h1 := length_mergeK kvs []
  rw [List.length_nil] at h1
  rw [sizeLine_eq]; omega
 have he : ∃ q, h'.get? s.heap.objs.size = some q := let ⟨q, _, _, hq, _⟩ := dd'; ⟨q, hq⟩
 exact d_write I2 (by rw [e]; exact True.intro) hs he (dk_new hz hd (rk.merge .nil) dd')
section
variable {X : Cx} {pins : List (Addr × Obj)} {σ : St} {H : Hp} {s : Shared} {a : Addr} {y d : V} {u r : Value} {o : Option V} {A : Around} {E : Value -> Shared -> Prop}
end
section
variable {X : Cx} {o e f : Expr} {apos cpos : Pos} {td ty tx : TE}
end
section
variable {X : Cx} {pins : List (Addr × Obj)} {σ : St} {H : Hp} {s : Shared} {a : Addr} {kvs : List (Key × V)} {A : Around} {E : Value -> Shared -> Prop}
end
section
variable {X : Cx} {pins : List (Addr × Obj)} {σ : St} {H : Hp} {s : Shared} {a : Addr} {y : V} {u : Value} {A : Around} {E : Value -> Shared -> Prop}
end
end L2
namespace Att
open PySem PySem.W PySem.Calls PyProof.Rows
theorem ints_of_wellAll {P : Params} {h : Heap} : ∀ (ns : List Int) (vs : List Value), WellAll P h vs (ns.map WData.int) -> IntsAre vs ns := by
 intro ns
 induction ns with
 | nil =>
  intro vs w
  rw [List.map_nil] at w
  cases w
  exact .nil
 | cons n ns ih =>
  intro vs w
  rw [List.map_cons] at w
  cases w with
  | cons a b =>
   cases a
   exact .cons _ _ (ih _ b)
theorem script_of {l : OpenLaw} {n : Nat} (hn : l.most = some n) {P : Params} {h : Heap} {args : List WData} {vals : List Value}
  (hpre : l.row.toRowW.claim.pre args = true) (hwl : WellAll P h vals args) :
  ∃ a vs ns, vals = [Value.ref a] /\ args = [WData.list (ns.map WData.int)] /\ h.get? a = some { cls := .type "list", data := .seq vs.toArray } /\ IntsAre vs ns /\ ns.length <= n := by
 have hsh : WShape.hasAll [] args [.list .int] = true := (pre_splitW hpre).1
 have hc : l.pre.holds [] { args := args } = true := (pre_splitW hpre).2
 obtain ⟨d, r, rfl, h1, h2⟩ := hasAllW_cons hsh
 obtain rfl := hasAllW_nil h2
 obtain ⟨xs, rfl, h3⟩ := hasW_list h1
 obtain ⟨ns, rfl⟩ := items_int h3
 have hlen : ns.length <= n := by
  unfold OpenLaw.pre at hc
  have h4 : (WTm.not (.lt (.lit (.int (n : Int))) (.len (.arg 0)))).holds [] { args := [.list (ns.map .int)] } = true := by
   have h4 := (holds_andW hc).1
   rw [hn] at h4
   exact h4
  have h5 := condW_of h4 (w_not (w_lt w_lit (w_len_list (w_arg rfl))))
  rw [List.length_map] at h5
  refine Nat.le_of_not_lt fun q => ?_
  have q' : (n : Int) < ((ns.length : Nat) : Int) := by omega
  first
   | (rw [decide_eq_true q'] at h5; exact absurd h5 (by decide))
   | (simp at h5; omega)
 cases hwl with
 | cons w1 w2 =>
  cases w2
  cases w1 with
  | list ho hall => exact ⟨_, _, ns, rfl, rfl, ho, ints_of_wellAll ns _ hall, hlen⟩
theorem post_true (l : OpenLaw) (args : List WData) : l.row.toRowW.claim.post args (.bool true) args = true :=
 postW_of (r := l.row.toRowW) (X := (true == true))
  (show WShape.has [] (.bool true) .bool = true by first | rfl | decide | simp [WShape.has, WShape.arms, WShape.armsAll])
  (show (WTm.eq .res (.lit (.bool true))).value [] { args := args, res := some (.bool true), after := args } = some (.bool (true == true)) from w_eq_bool (w_res rfl) w_lit) rfl
theorem attach_call {l : OpenLaw} {n : Nat} {q : Program} {loose : List Str} {XP : (Str -> Option Value) -> Heap -> Prop} {YP : World -> Heap -> Prop} {d : DefRec}
  (hn : l.most = some n) (hdf : d.params.defaults = [])
  (call : ∀ (w : World) (s₀ s₁ : Shared) (mg mb : Str -> Option Value) (fa : Addr) (o : Obj) (pm cd doc : Value) (a : Addr) (vs : List Value) (ns : List Int),
   Ground q loose [] XP w s₀ mg mb s₁.heap -> YP w s₁.heap ->
   s₁.heap.get? fa = some o -> o.data = .func (docDef d.name d.params d.body d.scope pm cd doc) -> s₁.heap.CodeRec cd d.name -> mg d.name = some (.ref fa) ->
   s₁.heap.get? a = some { cls := .type "list", data := .seq vs.toArray } -> IntsAre vs ns -> ns.length <= n -> s₁.gens = #[] ->
   codeAny (model l.prog w) callerA (.call (.ref fa) ⟨[.ref a], []⟩) (fun r s' => r = .ok (.ret (.bool true)) /\ OldK s₁.heap s'.heap /\ s'.os = s₁.os /\ AllBare s'.gens) s₁) :
  WalkO q loose XP YP l.row.toRowW d [] (fun f vs => PySem.call f vs) := by
 intro w s₀ s₁ mg mb G Y fa o pm cd doc dV kV ho hd hcd hD hmg hg args vals as hpre hlay hrd hwl hlo
 obtain rfl : dV = .none := Dflts.none hD hdf
 obtain rfl : kV = .none := Dflts.noKw hD
 obtain ⟨a, vs, ns, rfl, rfl, hobj, hints, hlen⟩ := script_of hn hpre hwl
 refine enter_call (codeAny_mono (call w s₀ s₁ mg mb fa o pm cd doc a vs ns G Y ho (fd_plain hd) hcd hmg hobj hints hlen hg) fun r s' hq => ?_)
 obtain ⟨rfl, h2, h3, h4⟩ := hq
 exact ⟨.inl ⟨.bool true, .bool true, [], rfl, fun _ => rfl, .bool true, post_true l _, fun _ => ⟨List.Pairwise.nil, fun _ hm => (nomatch hm)⟩⟩, h2, h3, h4⟩
section
variable {prog : Program} {w : World} {A : Around} {E : Value -> Shared -> Prop} {s : Shared} {K : Frag}
end
end Att
namespace L2
open PySem PySem.Spec PyProof.Rows
theorem vals_ints : ∀ {vs : List Value} {ns : List Int}, IntsAre vs ns -> Vals (ns.map V.int) vs
 | _, _, .nil => .nil
 | _, _, .cons n t h => .cons ⟨t, rfl⟩ (vals_ints h)
def Only (H : Hp) : Prop := ∀ b, H b = none \/ ∃ o xs, H b = some (.frz o (.lst xs))
theorem law_call {P : Program} {w : World} {K : PySem.W.Frag} {mg mb : Str -> Option Value} {CX : CXT} {k : Nat} {fa a : Addr} {fd : FuncData} {x : Str} {sp : Sp} {s₁ : Shared} {vs : List Value} {ns : List Int}
  (KX : K.In s₁.heap) (hns : s₁.heap.Ns mainGlobals mg) (hb : s₁.heap.Ns builtinsNs mb) (hbb : ∀ x : Str, x ≠ "__name__" -> mb x = bootBuiltins x) (hlim : s₁.heap.NoLimit) (hg : s₁.gens = #[])
  (ha : s₁.heap.get? a = some { cls := .type "list", data := .seq vs.toArray }) (hi : IntsAre vs ns) (hl : ns.length <= sizeLine) (hr : Room k callerA)
  (F : ∀ base : Heap, K.In base -> base.Ns mainGlobals mg -> FnOk P w K mg base CX k fa fd [x] sp) (hbind : ∀ (s : Shared) (u : Value), BindsTo s fd ⟨[u], []⟩ [(x, u)])
  (hsp : ∀ H : Hp, Only H -> SqL K H a (ns.map V.int) -> sp [.ref a] H (fun v _ => v = .bl true) fun _ _ _ => False)
  (hCX : ∀ H e s', CX [] H s₁ (fun _ _ _ => False) e s' -> False) :
  codeAny (model P w) callerA (.call (.ref fa) ⟨[.ref a], []⟩) (fun r s' => r = .ok (.ret (.bool true)) /\ OldK s₁.heap s'.heap /\ s'.os = s₁.os /\ AllBare s'.gens) s₁ := by
 have rv := vals_ints hi
 have lenV := hi.length
 have core : ∀ H : Hp, Only H -> SqL K H a (ns.map V.int) -> HOk P w H s₁.heap -> (∀ b, H b ≠ none -> b = a) -> (H a ≠ none -> K.lookup a = none) ->
   codeAny (model P w) callerA (.call (.ref fa) ⟨[.ref a], []⟩) (fun r s' => r = .ok (.ret (.bool true)) /\ OldK s₁.heap s'.heap /\ s'.os = s₁.os /\ AllBare s'.gens) s₁ := by
  intro H hO hS hok hA hK
  have base_of : ∀ {b : Addr} {o : Obj}, s₁.heap.get? b = some o -> H b = none -> (hidT s₁.heap H).get? b = some o := fun e n => hidT_get e n
  have noA : ∀ {b : Addr} {o : Obj} {es : Array DictEntry} {ep : Nat}, s₁.heap.get? b = some o -> o.data = .dict es ep -> H b = none := fun {b o es ep} e d => by
   cases q : H b with
   | none => rfl
   | some u =>
    have e' : b = a := hA b (by rw [q]; simp)
    subst e'
    rw [ha] at e; cases e
    have d' : Data.seq vs.toArray _ = Data.dict es ep := d
    cases d'
  have nsK : ∀ {b : Addr} {m : Str -> Option Value}, s₁.heap.Ns b m -> (hidT s₁.heap H).Ns b m := fun {b m} ⟨o, es, ep, e, d, r⟩ => ⟨o, es, ep, base_of e (noA e d), d, r⟩
  have hKb : K.In (hidT s₁.heap H) := fun b o e => base_of (KX b o e) (by
   cases q : H b with
   | none => rfl
   | some u =>
    have e' : b = a := hA b (by rw [q]; simp)
    subst e'
    rw [hK (by rw [q]; simp)] at e; cases e)
  have hM : Mod K mg (hidT s₁.heap H) := ⟨hKb, nsK hns, ⟨mb, nsK hb, hbb⟩, let ⟨mc, h1, h2⟩ := hlim; ⟨mc, nsK h1, h2⟩⟩
  have e0 : Env0 P w K mg (hidT s₁.heap H) callerA [] s₁ H := ⟨rfl, hM, fun b o e => of_hidT e, Nat.le_of_eq (hidT_size _ _), trivial, fun b hb => absurd (show b ∈ ([] : List Addr) from hb) (by simp), hok, .of_eq hg⟩
  refine codeAny_mono ((F _ hKb (nsK hns)).run callerA [] s₁ H ⟨[.ref a], []⟩ [.ref a] [.ref a] _ _ hr e0 (hbind s₁ (.ref a)) (.cons rfl .nil) (hsp H hO hS)) fun r s' h => ?_
  cases r with
  | error e => exact (hCX H e s' h).elim
  | ok fl =>
   cases fl with
   | next => exact False.elim h
   | brk => exact False.elim h
   | cont => exact False.elim h
   | ret u =>
    obtain ⟨v, H', os, bare, un, hok', r', q⟩ := h
    have q' : v = .bl true := q
    subst q'
    obtain rfl : u = Value.bool true := r'
    refine ⟨rfl, OldK.of_keep fun b o e => ?_, os, bare⟩
    cases q : H b with
    | none => exact un.keep b o e q (by intro z; exact absurd (show b ∈ ([] : List Addr) from z) (by simp)) (by simp)
    | some u =>
     rcases hO b with z | ⟨ob, xs, z⟩
     ·rw [q] at z; cases z
     ·have z2 := un.frzs b ob _ z
      obtain ⟨e1, _⟩ := hok b _ z
      obtain ⟨e2, _⟩ := hok' b _ z2
      rw [e] at e1; cases e1
      exact e2
 cases hk : K.lookup a with
 | some o =>
  have e := KX a o hk
  rw [ha] at e
  cases e
  refine core (fun _ => none) (fun _ => .inl rfl) (.inr ⟨_, vs.toArray, _, hk, rfl, rfl, rfl, by rw [List.size_toArray, lenV]; exact hl, by simpa using rv⟩) (fun b u z => by have z' : (none : Option HO) = some u := z; cases z') (fun b z => absurd rfl z) fun z => absurd rfl z
 | none =>
  refine core (fun b => if b = a then some (.frz { cls := .type "list", data := .seq vs.toArray } (.lst (ns.map V.int))) else none) (fun b => ?_) (.inl (.inr ⟨{ cls := .type "list", data := .seq vs.toArray }, if_pos rfl⟩)) (fun b u z => ?_) (fun b z => ?_) fun _ => hk
  ·by_cases hb : b = a
   ·exact .inr ⟨_, _, if_pos hb⟩
   ·exact .inl (if_neg hb)
  ·by_cases hb : b = a
   ·have z' := (if_pos hb).symm.trans z
    cases z'
    subst hb
    exact ⟨ha, by rw [List.length_map]; exact hl, vs, _, rv, ha⟩
   ·have z' := (if_neg hb).symm.trans z
    cases z'
  ·by_cases hb : b = a
   ·exact hb
   ·exact absurd (if_neg hb) z
end L2
namespace L2
open PySem PySem.Spec PyProof.Rows
theorem walk_of {l : PySem.W.OpenLaw} {n k : Nat} {q : Program} {loose : List Str} {XP : (Str -> Option Value) -> Heap -> Prop} {YP : World -> Heap -> Prop} {d : DefRec} {K : Params -> PySem.W.Frag} {CX : World -> CXT} {sp : World -> Sp} {x : Str}
  (hn : l.most = some n) (hn2 : n <= sizeLine) (hdf : d.params.defaults = []) (hr : Room k callerA)
  (hY : ∀ (w : World) (h : Heap), YP w h -> (K w.params).In h)
  (F : ∀ (w : World) (mg : Str -> Option Value) (fa : Addr) (h : Heap), (K w.params).In h -> h.Ns mainGlobals mg -> mg d.name = some (.ref fa) ->
   ∃ fd : FuncData, (∀ (s : Shared) (u : Value), BindsTo s fd ⟨[u], []⟩ [(x, u)]) /\
    ∀ base : Heap, (K w.params).In base -> base.Ns mainGlobals mg -> FnOk l.prog w (K w.params) mg base (CX w) k fa fd [x] (sp w))
  (hsp : ∀ (w : World) (H : Hp) (a : Addr) (ns : List Int), ns.length <= n -> Only H -> SqL (K w.params) H a (ns.map V.int) -> sp w [.ref a] H (fun v _ => v = .bl true) fun _ _ _ => False)
  (hCX : ∀ (w : World) (H : Hp) (s : Shared) (e : Value) (s' : Shared), CX w [] H s (fun _ _ _ => False) e s' -> False) :
  PySem.W.WalkO q loose XP YP l.row.toRowW d [] (fun f vs => PySem.call f vs) := by
 refine Att.attach_call hn hdf fun w s₀ s₁ mg mb fa o pm cd doc a vs ns G Y ho hd hcd hmg hobj hints hlen hg => ?_
 have KX := hY w _ Y
 obtain ⟨fd, hb, hF⟩ := F w mg fa _ KX G.T.g hmg
 exact law_call KX G.T.g G.T.b G.T.builtins G.T.nolimit hg hobj hints (Nat.le_trans hlen hn2) hr hF hb (fun H hO hS => hsp w H a ns hlen hO hS) fun H e s' => hCX w H s₁ e s'
end L2
namespace L2
open PySem PySem.Spec PyProof.Rows
def defArgs (s : Stmt) : Arguments := match s with
 | .FunctionDef _ a _ _ _ _ _ _ _ _ => a
 | _ => { posonlyargs := [], args := [], vararg := none, kwonlyargs := [], kw_defaults := [], kwarg := none, defaults := [] }
def defBody (s : Stmt) : List Stmt := match s with
 | .FunctionDef _ _ b _ _ _ _ _ _ _ => b
 | _ => []
def defScope (s : Stmt) : Scope := match s with
 | .FunctionDef _ _ _ _ _ _ sc _ _ _ => sc
 | _ => { kind := .function, names := [], isGenerator := false, isCoroutine := false }
abbrev CX0 : CXT := fun _ _ _ _ _ _ => False
abbrev E0 : XK := fun _ _ _ => False
theorem pass0 {X : Cx} : Passes CX0 X E0 := fun _ _ _ _ _ _ _ h => h.elim
structure Fun (K : PySem.W.Frag) (x qual : Str) (st : Stmt) (f : Addr) (fd : FuncData) : Prop where
 ex : ∃ (oc : Value) (od : Option Addr) (kV doc pm : Value) (an : Option Addr) (cdv ct : Value) (osl : Array (Option Value)),
  fd = PySem.W.fnOf x qual (defArgs st) (defBody st) (defScope st) .none kV doc pm an cdv ct /\ K.lookup f = some ⟨oc, od, .func fd, osl⟩ /\ PySem.W.codeIn K cdv qual = true
 kp : PySem.W.keepIn K (.ref f) = true
section
variable {P : Program} {w : World} {K : PySem.W.Frag} {mg : Str -> Option Value} {base : Heap}
theorem Fun.ok {x qual : Str} {st : Stmt} {f : Addr} {fd : FuncData} {N ps : List Str} {k : Nat} {sp : Sp} (F : Fun K x qual st f fd) (S : FnScope N ps (defScope st)) (len : ∀ vs H Q E, sp vs H Q E -> vs.length = ps.length)
  (hbody : ∀ (cdv : Value) (A : Around) (outer : List Env) (s : Shared) (H : Hp) (vs : List V) (Q : VK) (E : XK), Room k (A.deeper (envOfC qual (defScope st) s.heap.objs.size f cdv)) -> sp vs H Q E ->
   ∃ t, PSs (cxOf CX0 P w K mg base N qual (defScope st) f cdv A outer s H E).nox (defBody st) t /\ t { nx := fun _ H' => Q .non H', rt := Q } (start N vs) H) : FnOk P w K mg base CX0 (k + 1) f fd ps sp := by
 obtain ⟨oc, od, kV, doc, pm, an, cdv, ct, osl, rfl, lk, hcd⟩ := F.ex
 refine fn_of lk hcd S len fun A outer s H vs Q E hr hsp => ?_
 obtain ⟨t, h, q⟩ := hbody cdv A outer s H vs Q E hr hsp
 exact ⟨t, h.nox, q⟩
theorem Fun.binds {x qual : Str} {st : Stmt} {f : Addr} {fd : FuncData} {ps : List Str} (F : Fun K x qual st f fd)
  (h : ∀ (kV doc pm : Value) (an : Option Addr) (cdv ct : Value) (us : List Value), us.length = ps.length -> bindArgs (PySem.W.fnOf x qual (defArgs st) (defBody st) (defScope st) .none kV doc pm an cdv ct) ⟨us, []⟩ = pure (ps.zip us)) : Binds K fd ps [] := by
 obtain ⟨oc, od, kV, doc, pm, an, cdv, ct, osl, rfl, lk, hcd⟩ := F.ex
 exact .all (h kV doc pm an cdv ct)
theorem fun_mk {x qual : Str} {st : Stmt} {f : Addr} {oc : Value} {od an : Option Addr} {osl : Array (Option Value)} {kV doc pm cdv ct : Value} (l : K.lookup f = some ⟨oc, od, .func (PySem.W.fnOf x qual (defArgs st) (defBody st) (defScope st) .none kV doc pm an cdv ct), osl⟩)
  (c : PySem.W.codeIn K cdv qual = true) (k : PySem.W.keepIn K (.ref f) = true) : Fun K x qual st f (PySem.W.fnOf x qual (defArgs st) (defBody st) (defScope st) .none kV doc pm an cdv ct) := ⟨⟨oc, od, kV, doc, pm, an, cdv, ct, osl, rfl, l, c⟩, k⟩
end
theorem hu_of {A : Around} {k : Nat} (hr : Room k A) : A.units + 1 < cLine := Nat.lt_of_le_of_lt (Nat.add_le_add_left (by decide : 1 <= 64) _) hr.units
theorem small1000 {n : Nat} (h : n <= 1000) : n < sizeLine := Nat.lt_of_le_of_lt h (by decide)
section
variable {X : Cx}
theorem pv (i : Nat) {x : Str} {pos : Pos} (hN : X.N[i]? = some x := by rfl) (hv : Vis X.env.scope x := by first | exact Or.inl rfl | exact Or.inr (Or.inl rfl) | exact Or.inr (Or.inr rfl)) (hd : (x == ("__debug__" : Str)) = false := by decide)
  (hcd : (x == ("__classdict__" : Str)) = false := by decide) : PE X (.Name x pos) (tVar i) := pe_var hN hv hd hcd
theorem call_lenD : CallR X (.builtin "len") (fun xs H Q => ∃ a kvs, xs = [V.ref a] /\ H a = some (.dK kvs) /\ Q (.int kvs.length) H) := by
 intro pins s σ H xs us Q I r h
 obtain ⟨a, kvs, rfl, ha, q⟩ := h
 obtain ⟨u, rfl, ru⟩ := vals1 r
 cases ru
 exact d_len I (.inl ha) fun t s' I' => ⟨.int kvs.length, H, I', ⟨t, rfl⟩, q⟩
end
section
variable {κ : Type} [DecidableEq κ]
end
end L2
set_option maxHeartbeats 4000000
namespace L2
open PySem
def clOf (cells : List (Str × Addr)) : List (Str × NameKind) -> List (Str × Addr) -> List (Str × Addr)
 | [], acc => acc
 | (n, k) :: r, acc => if k = NameKind.free then clOf cells r ((n, (cells.lookup n).getD 0) :: acc) else clOf cells r acc
theorem closureFor_of {scope : Scope} {env : Env} (h : ∀ x ∈ scope.names, x.2 = .free -> ∃ c, env.cells.lookup x.1 = some c) :
  closureFor scope env = pure (clOf env.cells scope.names []) := by
 have key : ∀ (names : List (Str × NameKind)) (acc : List (Str × Addr)), (∀ x ∈ names, x.2 = .free -> ∃ c, env.cells.lookup x.1 = some c) ->
   (do
     let mut cs := acc
     for (name, kind) in names do
      if kind == .free then cs := (name, <- cellOf env name) :: cs
     return cs : Sem (List (Str × Addr))) = pure (clOf env.cells names acc) := by
  intro names
  induction names with
  | nil => intro acc _; rfl
  | cons x r ih =>
   intro acc h
   obtain ⟨n, k⟩ := x
   have hr : ∀ y ∈ r, y.2 = .free -> ∃ c, env.cells.lookup y.1 = some c := fun y hy => h y (List.mem_cons_of_mem _ hy)
   by_cases hk : k = .free
   ·subst hk
    obtain ⟨c, hc⟩ := h (n, .free) List.mem_cons_self rfl
    have e : cellOf env n = pure c := by unfold cellOf; rw [hc]
    have q := ih ((n, c) :: acc) hr
    simp only [List.forIn_cons, beq_self_eq_true, if_true, e]
    unfold clOf
    rw [if_pos rfl, hc]
    exact q
   ·have hb : (k == NameKind.free) = false := by simpa using hk
    have q := ih acc hr
    simp only [List.forIn_cons, hb, Bool.false_eq_true, if_false]
    unfold clOf
    rw [if_neg hk]
    exact q
 exact key scope.names [] h
theorem clOf_sub {cells : List (Str × Addr)} : ∀ {names : List (Str × NameKind)} {acc : List (Str × Addr)},
  (∀ x ∈ names, x.2 = .free -> ∃ c, cells.lookup x.1 = some c) -> (∀ x c, acc.lookup x = some c -> cells.lookup x = some c) ->
  ∀ x c, (clOf cells names acc).lookup x = some c -> cells.lookup x = some c
 | [], _, _, h, x, c, e => h x c e
 | (n, k) :: r, acc, hf, h, x, c, e => by
  unfold clOf at e
  have hr : ∀ y ∈ r, y.2 = .free -> ∃ c, cells.lookup y.1 = some c := fun y hy => hf y (List.mem_cons_of_mem _ hy)
  by_cases hk : k = .free
  ·rw [if_pos hk] at e
   refine clOf_sub hr (fun y d q => ?_) x c e
   obtain ⟨c', hc'⟩ := hf (n, k) List.mem_cons_self hk
   have hc' : cells.lookup n = some c' := hc'
   rw [List.lookup_cons] at q
   cases hy : y == n with
   | true =>
    rw [hy, hc'] at q
    have e1 : y = n := by simpa using hy
    rw [e1, hc']
    exact q
   | false => rw [hy] at q; exact h y d q
  ·rw [if_neg hk] at e
   exact clOf_sub hr h x c e
theorem clOf_keeps {cells : List (Str × Addr)} {x : Str} : ∀ {names : List (Str × NameKind)} {acc : List (Str × Addr)},
  (∃ c, acc.lookup x = some c) -> ∃ c, (clOf cells names acc).lookup x = some c
 | [], _, h => h
 | (n, k) :: r, acc, ⟨c, h⟩ => by
  unfold clOf
  split
  ·refine clOf_keeps ?_
   rw [List.lookup_cons]
   cases x == n with
   | true => exact ⟨_, rfl⟩
   | false => exact ⟨c, h⟩
  ·exact clOf_keeps ⟨c, h⟩
theorem clOf_has {cells : List (Str × Addr)} {x : Str} : ∀ {names : List (Str × NameKind)} {acc : List (Str × Addr)},
  (x, NameKind.free) ∈ names -> ∃ c, (clOf cells names acc).lookup x = some c
 | (n, k) :: r, acc, h => by
  unfold clOf
  rcases List.mem_cons.mp h with e | e
  ·cases e
   rw [if_pos rfl]
   refine clOf_keeps ?_
   rw [List.lookup_cons, beq_self_eq_true]
   exact ⟨_, rfl⟩
  ·split
   ·exact clOf_has e
   ·exact clOf_has e
end L2
namespace PySem
open Sem (wp)
section
variable {prog : Program} {w : World} {A : Around} {E : Value -> Shared -> Prop} {R : Result -> Shared -> Prop} {s : Shared}
theorem L2_compLoop {elt target iter : Expr} {ifs : List Expr} {scope : Scope} {pos : Pos} {it acc : Value} {env : Env} (I : Nat -> Shared -> Prop)
  (turn : ∀ n s, I n s -> wpAny (model prog w) A (pyNext it) (fun r s₁ => match r with
   | none => R (.ok .next) s₁
   | some v => wpAny (model prog w) A (letOwnedTupleGo target it v) (fun _ s₁' => wpAny (model prog w) A (assign target env v) (fun _ s₂ =>
     wpAny (model prog w) A (forIn ifs true fun c r => if r = true then do let ok <- isTrue c env (eval c env); pure (ForInStep.yield ok) else pure (ForInStep.yield r)) (fun ok s₃ =>
      if ok = true then wpAny (model prog w) A (eval elt env) (fun x s₄ =>
       wpAny (model prog w) A (call (.builtin "list.append") [acc, x]) (fun _ s₅ => ∃ m, m < n /\ I m s₅) (fun _ _ => False) s₄) (fun _ _ => False) s₃
      else ∃ m, m < n /\ I m s₃) (fun _ _ => False) s₂) (fun _ _ => False) s₁') (fun _ _ => False) s₁) (fun _ _ => False) s)
  (n : Nat) (h : I n s) :
  codeAny (model prog w) A (.compLoop (.ListComp elt [⟨target, iter, ifs, 0⟩] scope pos) 0 it acc env) R s := by
 refine codeAny_loop rfl I (fun n s hI => ?_) n h
 show wpAny _ A ((compTurn (.ListComp elt [⟨target, iter, ifs, 0⟩] scope pos) 0 it acc env).onRaise (fun x => do noteFrame x env; theTreesLotGoes x)) _ _ s
 refine wpAny_noted ?_
 rw [compTurn_list]
 refine wpAny_bind (wpAny_standAt (wpAny_bind (wpAny_mono (turn n s hI) (fun r s₁ h₁ => ?_) fun _ _ h' => h'.elim)))
 cases r with
 | none => exact wpAny_pure h₁
 | some v =>
  refine wpAny_bind (wpAny_mono h₁ (fun _ s₁' h₁' => ?_) fun _ _ h' => h'.elim)
  refine wpAny_bind (wpAny_mono h₁' (fun _ s₂ h₂ => wpAny_bind (wpAny_mono h₂ (fun ok s₃ h₃ => ?_) fun _ _ h' => h'.elim)) fun _ _ h' => h'.elim)
  cases ok with
  | false => exact wpAny_pure ⟨rfl, h₃⟩
  | true =>
   exact wpAny_bind (wpAny_bind (wpAny_mono h₃ (fun x s₄ h₄ => wpAny_bind (wpAny_mono h₄ (fun _ s₅ h₅ => wpAny_pure (wpAny_pure ⟨rfl, h₅⟩)) fun _ _ h' => h'.elim)) fun _ _ h' => h'.elim))
end
end PySem
namespace L2
open PySem PySem.Spec PyProof.Rows
def subS (mp : List (Option Nat)) (σ : St) : St := mp.map fun o => match o with | some i => (σ[i]?).join | none => none
def visB (pn : List (Str × NameKind)) (x : Str) : Bool := decide (pn.lookup x = some .cell) || decide (pn.lookup x = some .free)
def compOk (N : List Str) (pn cn : List (Str × NameKind)) (N' : List Str) (mp : List (Option Nat)) : Bool :=
 decide (N'.length = mp.length) && decide N'.Nodup &&
 (List.range N'.length).all (fun k => match mp[k]?, N'[k]? with
  | some (some i), some x => decide (N[i]? = some x) && visB pn x && decide ((x, NameKind.free) ∈ cn) && decide (cn.lookup x = some .free)
  | _, _ => true) &&
 cn.all (fun p => decide (p.2 ≠ .cell)) && cn.all (fun p => decide (p.2 ≠ .free) || visB pn p.1) && cn.all (fun p => decide (p.2 ≠ .local) || decide (cn.lookup p.1 = some .local))
structure CompOk (N : List Str) (pn cn : List (Str × NameKind)) (N' : List Str) (mp : List (Option Nat)) : Prop where
 len : N'.length = mp.length
 nd : N'.Nodup
 map : ∀ (k i : Nat) (x : Str), mp[k]? = some (some i) -> N'[k]? = some x -> N[i]? = some x /\ (pn.lookup x = some .cell \/ pn.lookup x = some .free) /\ (x, NameKind.free) ∈ cn /\ cn.lookup x = some .free
 nocell : ∀ p ∈ cn, p.2 ≠ .cell
 free : ∀ p ∈ cn, p.2 = .free -> (pn.lookup p.1 = some .cell \/ pn.lookup p.1 = some .free)
 loc : ∀ p ∈ cn, p.2 = .local -> cn.lookup p.1 = some .local
theorem visB_iff {pn : List (Str × NameKind)} {x : Str} (h : visB pn x = true) : pn.lookup x = some .cell \/ pn.lookup x = some .free := by
 unfold visB at h
 rcases (Bool.or_eq_true _ _).mp h with h | h
 ·exact .inl (of_decide_eq_true h)
 ·exact .inr (of_decide_eq_true h)
theorem compOk_of {N : List Str} {pn cn : List (Str × NameKind)} {N' : List Str} {mp : List (Option Nat)} (h : compOk N pn cn N' mp = true) : CompOk N pn cn N' mp := by
 unfold compOk at h
 obtain ⟨h, h6⟩ := (Bool.and_eq_true _ _).mp h
 obtain ⟨h, h5⟩ := (Bool.and_eq_true _ _).mp h
 obtain ⟨h, h4⟩ := (Bool.and_eq_true _ _).mp h
 obtain ⟨h, h3⟩ := (Bool.and_eq_true _ _).mp h
 obtain ⟨h1, h2⟩ := (Bool.and_eq_true _ _).mp h
 refine ⟨of_decide_eq_true h1, of_decide_eq_true h2, fun k i x e1 e2 => ?_, fun p hp => of_decide_eq_true (List.all_eq_true.mp h4 p hp), fun p hp e => ?_, fun p hp e => ?_⟩
 ·have hk : k < N'.length := (List.getElem?_eq_some_iff.mp e2).1
  have q := List.all_eq_true.mp h3 k (List.mem_range.mpr hk)
  simp only [e1, e2] at q
  obtain ⟨q, q4⟩ := (Bool.and_eq_true _ _).mp q
  obtain ⟨q, q3⟩ := (Bool.and_eq_true _ _).mp q
  obtain ⟨q1, q2⟩ := (Bool.and_eq_true _ _).mp q
  exact ⟨of_decide_eq_true q1, visB_iff q2, of_decide_eq_true q3, of_decide_eq_true q4⟩
 ·rcases (Bool.or_eq_true _ _).mp (List.all_eq_true.mp h5 p hp) with z | z
  ·exact absurd e (of_decide_eq_true z)
  ·exact visB_iff z
 ·rcases (Bool.or_eq_true _ _).mp (List.all_eq_true.mp h6 p hp) with z | z
  ·exact absurd e (of_decide_eq_true z)
  ·exact of_decide_eq_true z
theorem relabel_free {env : Env} : ∀ {names : List (Str × NameKind)} {x : Str}, names.lookup x = some .free ->
  (names.map fun (n, k) => if (k == NameKind.free && env.scope.kind == .function && env.kindOf n == some .cell) then (n, NameKind.cell) else (n, k)).lookup x = some .cell \/
  (names.map fun (n, k) => if (k == NameKind.free && env.scope.kind == .function && env.kindOf n == some .cell) then (n, NameKind.cell) else (n, k)).lookup x = some .free
 | [], _, h => by simp at h
 | (n, k) :: r, x, h => by
  have ih := @relabel_free env r x
  rw [List.map_cons]
  cases hx : x == n with
  | true =>
   simp only [List.lookup_cons, hx] at h
   cases h
   by_cases hc : (NameKind.free == NameKind.free && env.scope.kind == .function && env.kindOf n == some .cell) = true
   ·refine .inl ?_
    simp only [hc, if_true, List.lookup_cons, hx]
   ·refine .inr ?_
    simp only [if_neg hc, List.lookup_cons, hx]
  | false =>
   simp only [List.lookup_cons, hx] at h
   by_cases hc : (k == NameKind.free && env.scope.kind == .function && env.kindOf n == some .cell) = true
   ·simp only [hc, if_true, List.lookup_cons, hx]; exact ih h
   ·simp only [if_neg hc, List.lookup_cons, hx]; exact ih h
theorem relabel_back {env : Env} : ∀ {names : List (Str × NameKind)} {x : Str}, (∀ p ∈ names, p.2 ≠ .cell) ->
  ((names.map fun (n, k) => if (k == NameKind.free && env.scope.kind == .function && env.kindOf n == some .cell) then (n, NameKind.cell) else (n, k)).lookup x = some .cell \/
  (names.map fun (n, k) => if (k == NameKind.free && env.scope.kind == .function && env.kindOf n == some .cell) then (n, NameKind.cell) else (n, k)).lookup x = some .free) -> (x, NameKind.free) ∈ names
 | [], _, _, h => by simp at h
 | (n, k) :: r, x, hn, h => by
  have ih := @relabel_back env r x fun p hp => hn p (List.mem_cons_of_mem _ hp)
  rw [List.map_cons] at h
  cases hx : x == n with
  | true =>
   have e : x = n := by simpa using hx
   subst e
   have hk := hn (x, k) List.mem_cons_self
   by_cases hc : (k == NameKind.free && env.scope.kind == .function && env.kindOf x == some .cell) = true
   ·have : k = .free := by
     simp only [Bool.and_eq_true] at hc
     simpa using hc.1.1
    rw [this]; exact List.mem_cons_self
   ·simp only [if_neg hc, List.lookup_cons, hx] at h
    rcases h with h | h
    ·exact absurd (Option.some.inj h) hk
    ·rw [Option.some.inj h]; exact List.mem_cons_self
  | false =>
   by_cases hc : (k == NameKind.free && env.scope.kind == .function && env.kindOf n == some .cell) = true
   ·simp only [hc, if_true, List.lookup_cons, hx] at h; exact List.mem_cons_of_mem _ (ih h)
   ·simp only [if_neg hc, List.lookup_cons, hx] at h; exact List.mem_cons_of_mem _ (ih h)
end L2
namespace PySem
open Sem (wp)
section
variable {prog : Program} {w : World} {A : Around} {E : Value -> Shared -> Prop} {R : Result -> Shared -> Prop} {s : Shared}
variable {I : Addr} {fp wr : List Addr} {G : Array GenState -> Array GenState -> Prop} {n : Nat} {P : Nat -> Value -> Prop} {St : Nat -> Shared -> Prop}
theorem L2_nolen_lri : typeLookup (.type "list_reverseiterator") "__len__" = pure none := by rw [typeLookup_type, builtinLookup_eq_fast]; kernel_rfl
theorem L2_hint_lri : typeLookup (.type "list_reverseiterator") "__length_hint__" = pure (some (.builtin "list_reverseiterator.__length_hint__")) := by rw [typeLookup_type, builtinLookup_eq_fast]; kernel_rfl
set_option maxRecDepth 100000 in
theorem L2_extend_rev (W : WalksS prog w A.in1 I fp wr G n P St) (hT : ∀ i s, St i s -> s.TypeIs (.ref I) "list_reverseiterator") (S : Addr) (res : Value) (hst : St 0 s) (hSf : S ∉ fp) (hI : I ∈ fp)
  {c : Nat} (hS : s.heap.get? S = some { cls := .type "list", dict := none, data := .seq #[] c, slots := #[] })
  (hR : ∀ s' acc' c', Moved (S :: wr) G s s' -> s'.heap.get? S = some { cls := .type "list", dict := none, data := .seq acc' c', slots := #[] } -> ItemsOf P acc' n -> R (.ok (.ret res)) s') (hn : n <= sizeLine := by size_fits) :
  wpAny (model prog w) A.in1 (Builtin.List.listExtendWith (.ref S) (.ref I) res)
   (fun fin s' => match fin with | .done f => R (.ok f) s' | .again c' => c'.quiet = true /\ codeAny (model prog w) A c' R s') (fun e s' => R (.error e) s') s := by
 have hSI : S ≠ I := fun e => hSf (e ▸ hI)
 have h1 : Builtin.List.listSameRef (.ref S) (.ref I) = false := by simp [Builtin.List.listSameRef, hSI]
 unfold Builtin.List.listExtendWith
 refine wpAny_bind (wpAny_typeOf (hT 0 _ hst) ?_)
 rw [if_neg (by rw [h1]; decide)]
 refine wpAny_bind (W.self 0 _ _ _ hst ?_)
 refine wpAny_bind (wpAny_holding ?_)
 unfold Builtin.List.listLengthHint
 refine wpAny_bind (wpAny_specialOf (hT 0 _ hst) L2_nolen_lri ?_)
 show wpAny _ A.in1 (specialOf (Value.ref I) (Str.ofString "__length_hint__") >>= _) _ _ _
 refine wpAny_bind (wpAny_specialOf (hT 0 _ hst) L2_hint_lri ?_)
 generalize hid : ("list_reverseiterator.__length_hint__" : String) = id0
 wp_delta
 rw [show splitId id0 = some ("list_reverseiterator", "__length_hint__") from by subst hid; decide +kernel]
 subst hid
 refine wpAny_bind (wpAny_isInstance (b := true) (hT 0 _ hst) (by rw [isSubtype_type]; kernel_rfl) ?_)
 refine wpAny_pure ?_
 rw [if_neg (by decide)]
 exact wpAny_pure ⟨plainId_quiet F.plain_extend_loop _, codeAny_extend_loopS W hn _ hSf _ n 0 _ _ _ rfl (Nat.zero_le _) hst hS (ItemsOf.nil P) fun s' acc' c' hm hS' hacc => hR s' acc' c' hm hS' hacc⟩
set_option maxRecDepth 100000 in
theorem L2_list_init_rev (W : WalksS prog w A.in1 I fp wr G n P St) (hT : ∀ i s, St i s -> s.TypeIs (.ref I) "list_reverseiterator") (S : Addr) (hst : St 0 s) (hSf : S ∉ fp) (hI : I ∈ fp)
  (hS : s.heap.get? S = some { cls := .type "list", data := .seq #[] })
  (hR : ∀ s' acc' c', Moved (S :: wr) G s s' -> s'.heap.get? S = some { cls := .type "list", dict := none, data := .seq acc' c', slots := #[] } -> ItemsOf P acc' n -> R (.ok (.ret .none)) s') (hn : n <= sizeLine := by size_fits) :
  wpAny (model prog w) A.in1 (Builtin.«list.__init__» ⟨[.ref S, .ref I], []⟩)
   (fun fin s' => match fin with | .done f => R (.ok f) s' | .again c' => c'.quiet = true /\ codeAny (model prog w) A c' R s') (fun e s' => R (.error e) s') s := by
 show wpAny _ A.in1 (do let old <- Builtin.List.listItems (.ref S); Builtin.List.listUpdate (.ref S) (fun _ => #[]); letGo old.toList.reverse; Builtin.List.listExtendWith (.ref S) (.ref I) .none) _ _ s
 refine wpAny_bind ?_
 unfold Builtin.List.listItems
 refine wpAny_bind (wpAny_seqItems hS rfl (wpAny_pure ?_))
 show wpAny _ A.in1 (updateSeq S (fun _ => #[]) >>= fun _ => letGo (#[] : Array Value).toList.reverse >>= fun _ => Builtin.List.listExtendWith (.ref S) (.ref I) .none) _ _ s
 refine wpAny_bind (wpAny_updateSeq hS rfl ?_)
 have hS₂ := Heap.get?_update_self (Obj.mapSeq (fun _ => (#[] : Array Value))) hS rfl
 have oth : ∀ b o, b ≠ S -> s.heap.get? b = some o -> (s.heap.update S (Obj.mapSeq (fun _ => (#[] : Array Value)))).get? b = some o :=
  fun b o hb e => (Heap.get?_update_other _ _ (Ne.symm hb)).trans e
 refine wpAny_bind (wpAny_letGo ?_)
 refine L2_extend_rev (hn := hn) W hT S .none (W.frame 0 s _ s.toks hst (Nat.le_refl _) fun b hb o e => oth b o (fun h => hSf (h ▸ hb)) e) hSf hI hS₂ fun s' acc' c' hm hS' hacc => ?_
 exact hR s' acc' c' (Moved.trans W.gtrans ((Moved.refl W.grefl).then_heap (Nat.le_refl _) fun b o hb e => oth b o (fun h => hb (h ▸ List.mem_cons_self)) e) hm) hS' hacc
theorem L2_call_list_rev {Q : Value -> Shared -> Prop} (W : WalksS prog w A.in1.in1 I fp wr G n P St) (hT : ∀ i s, St i s -> s.TypeIs (.ref I) "list_reverseiterator") (hst : St 0 s) (hfp : ∀ b ∈ fp, b < s.heap.objs.size) (hI : I ∈ fp)
  (hQ : ∀ s' acc' c', Moved (s.heap.objs.size :: wr) G { s with heap := s.heap.push { cls := .type "list", data := .seq #[] } } s' ->
   s'.heap.get? s.heap.objs.size = some { cls := .type "list", dict := none, data := .seq acc' c', slots := #[] } -> ItemsOf P acc' n -> Q (.ref s.heap.objs.size) s') (hn : n <= sizeLine := by size_fits) :
  wpAny (model prog w) A (call (.type "list") [.ref I]) Q E s := by
 have hSf : s.heap.objs.size ∉ fp := fun hm => Nat.lt_irrefl _ (hfp _ hm)
 refine callType_codes (Q₁ := fun obj s₁ => obj = .ref s.heap.objs.size /\ s₁ = { s with heap := s.heap.push { cls := .type "list", data := .seq #[] } }) F.called_list (F.typeCall_list_1 _) F.entry_list_init
  (code_list_new _ ⟨rfl, rfl⟩) fun obj s₁ h₁ => ?_
 obtain ⟨rfl, rfl⟩ := h₁
 have hS : (s.heap.push { cls := .type "list", data := .seq #[] }).get? s.heap.objs.size = some { cls := .type "list", data := .seq #[] } := Heap.get?_push_size _ rfl
 refine ⟨⟨_, hS, rfl⟩, F.args_list_init_2 _ _, L2_list_init_rev (hn := hn) W hT _ (W.frame 0 s _ s.toks hst (Nat.le_refl _) fun b _ o e => Heap.get?_push_of_some _ e) hSf hI hS fun s' acc' c' hm hS' hacc => ?_⟩
 exact ⟨rfl, hQ s' acc' c' hm hS' hacc⟩
end
end PySem
namespace L2
open PySem PySem.Spec PyProof.Rows
def cxComp (X : Cx) (N' : List Str) (scope : Scope) (C : Addr) (s : Shared) (H : Hp) (fp : List Addr) : Cx :=
 { X with N := N', s₀ := s, H₀ := H, env := compEnvC scope (clOf X.env.cells scope.names []) C X.env, outer := X.stack, stack := X.stack, ex := fp, fn := fun _ => false, pn := [], xe := fun _ _ => False }
def PIfs (X : Cx) (ifs : List Expr) (t : TT) : Prop :=
 ∀ (pins : List (Addr × Obj)) (s : Shared) (σ : St) (H : Hp) (Q : Bool -> Hp -> Prop), Inv X pins σ H s -> t σ H Q ->
  wpAny (model X.prog X.w) X.A (forIn ifs true fun c r => if r = true then do let ok <- isTrue c X.env (eval c X.env); pure (ForInStep.yield ok) else pure (ForInStep.yield r)) (TP X pins σ Q) X.xe s
def tYes : TT := fun _ H Q => Q true H
theorem pifs_nil {X : Cx} : PIfs X [] tYes := fun _ _ _ H _ I h => wpAny_tests_nil ⟨H, I, h⟩
theorem pifs_one {X : Cx} {c : Expr} {t : TT} (h : PT X c t) : PIfs X [c] t := fun pins s σ H Q I hw => wpAny_tests_one (h pins s σ H Q I hw)
def CompW (p : Addr) (J : It) (g : TG) (tst : TT) (te : TE) (Q : Hp -> Prop) (σ : St) (H : Hp) : Prop :=
 ∃ W : Nat -> Nat -> List V -> St -> Hp -> Prop, (∃ m, W 0 m [] σ H) /\ ∀ i m acc σ' H', W i m acc σ' H' ->
  (J.stop i H' /\ Q H') \/ (J.go i H' /\ ∃ N : List V -> St -> Hp -> Prop, (∀ acc σ H, N acc σ H -> ∃ m', m' < m /\ W (i + 1) m' acc σ H) /\ ∀ x H2, J.yld i H' x H2 -> g x σ' H2 fun σ3 H3 => tst σ3 H3 fun b H4 =>
   if b = true then te σ3 H4 fun v H5 => ∃ ac, H5 p = some (.lst ac) /\ ac.length < sizeLine /\ N (ac ++ [v]) σ3 (upd H5 p (.lst (ac ++ [v])))
   else N acc σ3 H4)
def tComp (mp : List (Option Nat)) (wi : TI) (g : TG) (tst : TT) (te : TE) : TE := fun σ H Q => wi σ H fun J H1 => ∀ p, H1 p = none ->
 CompW p J g tst te (fun H' => Q (.ref p) H') (subS mp σ) (upd H1 p (.lst []))
section
variable {X : Cx} {N' : List Str} {mp : List (Option Nat)} {elt tg iter : Expr} {ifs : List Expr} {scope : Scope} {pos : Pos} {wi : TI} {g : TG} {tst : TT} {te : TE}
theorem Inv.comp0 {pins : List (Addr × Obj)} {σ : St} {H : Hp} {s : Shared} {fp : List Addr} {tn : Heap -> Prop} {h₁ : Heap} {tk : Nat} {C : Addr} (ok : CompOk X.N X.env.scope.names scope.names N' mp) (hk : scope.kind = .function)
  (I : Inv X pins σ H s) (hf : ∀ b ∈ fp, FpOk X pins H b) (hob : ∀ b ∈ fp, ∃ o, s.heap.get? b = some o) (hC : C = s.heap.objs.size + 1)
  (hns : ∃ m, h₁.Ns C m) (keep : ∀ b o, s.heap.get? b = some o -> h₁.get? b = some o) (hacc : ∃ n, h₁.get? s.heap.objs.size = some { cls := .type "list", data := .seq #[] n }) :
  Inv (cxComp X N' scope C s H fp) [] (subS mp σ) (upd H s.heap.objs.size (.lst [])) { s with heap := h₁, toks := tk } := by
 subst hC
 have hcl : ∀ x ∈ scope.names, x.2 = .free -> ∃ c, X.env.cells.lookup x.1 = some c := fun x hx e => I.ok.has x.1 (ok.free x hx e)
 have sub : ∀ x c, (clOf X.env.cells scope.names []).lookup x = some c -> X.env.cells.lookup x = some c := clOf_sub hcl (fun x c e => by simp at e)
 have hlt : ∀ b ∈ fp, b < s.heap.objs.size := fun b hb => let ⟨_, e⟩ := hob b hb; Heap.lt_size e
 have hnC : H (s.heap.objs.size + 1) = none := I.hok.fresh (Nat.le_succ _)
 have hnp : H s.heap.objs.size = none := I.hok.fresh (Nat.le_refl _)
 have fpfs : ∀ b ∈ fp, b ∉ frs X.stack := fun b hb z => by
  obtain ⟨_, f1, f2, _⟩ := hf b hb
  rcases List.mem_cons.mp (I.stkSub b z) with e | e
  ·exact f1 e
  ·exact f2 e
 refine ⟨⟨I.ok.mod, hk, I.ok.glob, I.ok.blt, Nat.le_succ _, fun x y c e1 e2 => I.ok.inj x y c (sub x c e1) (sub y c e2), fun x e => ?_, fun x c e => (nomatch e), I.ok.hd, I.ok.frames, .inl rfl, fun b hb => ⟨?_, fun x c e => ?_⟩, I.bs, Nat.le_trans I.ok.bsz I.sz, fun b o e hb => ?_, fpfs, I.stack, I.stkFree⟩,
  rfl, I.bare, Un.laid keep (Nat.le_refl _) hnp, ?_, fun x c e => ?_, ?_, fun x c e => ?_, fun p hp => (nomatch hp), I.hok.laid keep (Nat.le_refl _) ?_, ?_⟩
 ·exact clOf_has (relabel_back ok.nocell e)
 ·exact Nat.ne_of_lt (Nat.lt_succ_of_lt (hlt b hb))
 ·exact (hf b hb).2.2.2.2.1 x c (sub x c e)
 ·rcases (hf b hb).2.2.2.1 with z | z
  ·exact I.ok.noex b o e z
  ·exact absurd (Nat.lt_of_lt_of_le (Heap.lt_size e) (Nat.le_trans I.ok.bsz z)) (Nat.lt_irrefl _)
 ·obtain ⟨m, hm⟩ := hns
  refine ⟨m, hm, fun i x v e1 e2 e3 => ?_⟩
  have e2' : (subS mp σ)[i]? = some (some v) := e2
  unfold subS at e2'
  rw [List.getElem?_map] at e2'
  cases hmp : mp[i]? with
  | none => rw [hmp] at e2'; cases e2'
  | some o =>
   rw [hmp] at e2'
   cases o with
   | none => cases e2'
   | some j =>
    have e4 : σ[j]? = some (some v) := by
     have q : (σ[j]?).join = some v := Option.some.inj e2'
     cases hj : σ[j]? with
     | none => rw [hj] at q; cases q
     | some y => rw [hj] at q; exact congrArg some q
    obtain ⟨a1, a2, a3, a4⟩ := ok.map i j x hmp e1
    obtain ⟨m0, hn0, hl0⟩ := I.loc
    obtain ⟨u, r, l⟩ := hl0 j x v a1 e4 (a2.elim (fun z => .inr (.inl z)) fun z => .inr (.inr z))
    refine ⟨u, r, .inr ⟨?_, ?_⟩⟩
    ·exact relabel_free a4
    ·rcases l with ⟨l1, _⟩ | ⟨_, c, l2, l3⟩
     ·have l1 : X.env.scope.names.lookup x = some .local := l1
      rcases a2 with a2 | a2 <;> rw [a2] at l1 <;> cases l1
     ·obtain ⟨c', hc'⟩ : ∃ c', (clOf X.env.cells scope.names []).lookup x = some c' := clOf_has a3
      have : c' = c := Option.some.inj ((sub x c' hc').symm.trans l2)
      subst this
      exact ⟨c', hc', l3.keeps keep⟩
 ·obtain ⟨v, z⟩ := I.cell x c (sub x c e)
  exact ⟨v, z.keeps keep⟩
 ·show upd H s.heap.objs.size (.lst []) (s.heap.objs.size + 1) = none
  rw [upd_ne (Nat.succ_ne_self _)]; exact hnC
 ·obtain ⟨v, z⟩ := I.cell x c (sub x c e)
  show upd H s.heap.objs.size (.lst []) c = none
  rw [upd_ne (Nat.ne_of_lt z.lt)]; exact I.freeC x c (sub x c e)
 ·obtain ⟨n, e⟩ := hacc
  exact ⟨Nat.zero_le _, [], n, .nil, e⟩
 ·show (subS mp σ).length = N'.length
  unfold subS
  rw [List.length_map, ok.len]
theorem comp_run {pins : List (Addr × Obj)} {σ : St} {H : Hp} {s : Shared} {it : Addr} {fp : List Addr} {tn : Nat -> Heap -> Prop} {J : It} {Q : Addr -> Hp -> Prop} {E : Value -> Shared -> Prop} {RR : Value -> Addr -> Result -> Shared -> Prop}
  (ok : CompOk X.N X.env.scope.names scope.names N' mp) (hk : scope.kind = .function) (hc : X.calm = true) (I : Inv X pins σ H s) (T : Turn X.prog X.w X.K tg J fp it tn) (st : tn 0 s.heap) (hf : ∀ b ∈ fp, FpOk X pins H b)
  (hg : ∀ C s H fp, PG (cxComp X N' scope C s H fp) tg g) (ht : ∀ C s H fp, PIfs (cxComp X N' scope C s H fp) ifs tst) (he : ∀ C s H fp, PE (cxComp X N' scope C s H fp) elt te)
  (h : ∀ p, H p = none -> CompW p J g tst te (Q p) (subS mp σ) (upd H p (.lst [])))
  (hRR : ∀ C s' H', Inv X pins σ H' s' -> (∃ m, s'.heap.Ns C m) -> H' C = none -> X.s₀.heap.objs.size <= C -> C ≠ X.env.locals -> (∀ x c, X.env.cells.lookup x = some c -> c ≠ C) -> (∀ q ∈ X.pn ++ pins, q.1 ≠ C) -> Q s.heap.objs.size H' -> RR (.ref s.heap.objs.size) C (.ok .next) s') :
  wpAny (model X.prog X.w) X.A (newList []) (fun acc s₃ => wpAny (model X.prog X.w) X.A (newFunctionEnv scope X.env.globals (clOf X.env.cells scope.names []) [] X.env.qual none .none (some X.env)) (fun cenv s₄ =>
   codeAny (model X.prog X.w) X.A (.compStart (.ListComp elt [⟨tg, iter, ifs, 0⟩] scope pos) 0 (.ref it) acc { cenv with scope := relabel scope X.env }) (RR acc cenv.locals) s₄) E s₃) E s := by
 refine wpAny_newObj_type (wpAny_newFunctionEnv ok.nocell (by intro y hy; simp at hy) (fun h₁ hns₁ hsb₁ => ?_) hk)
 dsimp only at hns₁ hsb₁ ⊢
 generalize hH2 : s.heap.push { cls := .type "list", dict := none, data := .seq ([] : List Value).toArray } = H2 at hns₁ hsb₁ ⊢
 have hC : H2.objs.size = s.heap.objs.size + 1 := by rw [<- hH2, Heap.size_push]
 have keep : ∀ b o, s.heap.get? b = some o -> h₁.get? b = some o := fun b o e =>
  hsb₁.extBut b o (by rw [hC]; exact Nat.ne_of_lt (Nat.lt_succ_of_lt (Heap.lt_size e))) (Heap.get?_push_of_some _ (hH2 ▸ Heap.get?_push_of_some _ e))
 have hacc : ∃ n, h₁.get? s.heap.objs.size = some { cls := .type "list", data := .seq #[] n } :=
  ⟨_, hsb₁.extBut _ _ (by rw [hC]; exact Nat.ne_of_lt (Nat.lt_succ_self _)) (Heap.get?_push_of_some _ (hH2 ▸ Heap.get?_push_size _ rfl))⟩
 have hob : ∀ b ∈ fp, ∃ o, s.heap.get? b = some o := fun b hb => let ⟨o, e, _⟩ := T.obj _ _ st b hb; ⟨o, e⟩
 have hltC : s.heap.objs.size <= H2.objs.size := by rw [hC]; exact Nat.le_succ _
 have I0 := I.comp0 (tn := tn 0) (C := H2.objs.size) (tk := s.toks + ([] : List (Str × Value)).length) ok hk hf hob hC ⟨_, hns₁⟩ keep hacc
 have st0 : tn 0 h₁ := T.keep _ _ _ st fun b hb o e => keep b o e
 obtain ⟨W, ⟨m0, w0⟩, turn⟩ := h _ (I.hok.fresh (Nat.le_refl _))
 have fpfs : ∀ b ∈ fp, b ∉ frs X.stack := I0.ok.exfs
 have stat : ∀ {H' : Hp}, (∀ b ∈ fp, H' b = none) -> ∀ b ∈ fp, FpOk (cxComp X N' scope H2.objs.size s H fp) [] H' b := fun hn b hb =>
  ⟨hn b hb, (I0.ok.exf b hb).1, fpfs b hb, .inl hb, (I0.ok.exf b hb).2, fun q hq => (nomatch hq)⟩
 have loop : ∀ s₃ : Shared, s₃ = { s with heap := h₁, toks := s.toks + ([] : List (Str × Value)).length } ->
   codeAny (model X.prog X.w) X.A (.compLoop (.ListComp elt [⟨tg, iter, ifs, 0⟩] scope pos) 0 (.ref it) (.ref s.heap.objs.size) (compEnvC scope (clOf X.env.cells scope.names []) H2.objs.size X.env)) (RR (.ref s.heap.objs.size) H2.objs.size) s₃ := by
  rintro s₃ rfl
  refine L2_compLoop (fun n s' => ∃ i acc σ' H', Inv (cxComp X N' scope H2.objs.size s H fp) [] σ' H' s' /\ tn i s'.heap /\ (∀ b ∈ fp, H' b = none) /\ W i n acc σ' H') ?_ m0
   ⟨0, [], _, _, I0, st0, fun b hb => by rw [upd_ne (Nat.ne_of_lt (let ⟨_, e⟩ := hob b hb; Heap.lt_size e))]; exact (hf b hb).1, w0⟩
  rintro n s3 ⟨i, acc, σ3, H3, I3, st3, fr3, w3⟩
  rcases turn i n acc σ3 H3 w3 with ⟨stop, qn⟩ | ⟨go, N, hN, step⟩
  ·refine thn (T.done (cxComp X N' scope H2.objs.size s H fp) rfl rfl rfl hc i [] s3 σ3 H3 _ I3 (stat fr3) st3 stop) fun r s4 ⟨hr, I4⟩ => ?_
   subst hr
   refine hRR _ s4 H3 ?_ (let ⟨m, hm, _⟩ := I4.loc; ⟨m, hm⟩) I4.free (Nat.le_trans I.sz hltC) (Nat.ne_of_gt (Nat.lt_of_lt_of_le I.lt hltC)) (fun x c e => ?_) (fun q hq => ?_) qn
   ·exact I.call' I4.os I4.base I4.hok I4.bare fun b hb => let ⟨_, f1, _, f3, f4, f5⟩ := hf b hb; ⟨f3, f1, f4, f5⟩
   ·obtain ⟨v, z⟩ := I.cell x c e
    exact Nat.ne_of_lt (Nat.lt_of_lt_of_le z.lt hltC)
   ·exact Nat.ne_of_lt (Nat.lt_of_lt_of_le (Heap.lt_size (I.pin q hq).1) hltC)
  ·refine thn (T.item (cxComp X N' scope H2.objs.size s H fp) rfl rfl rfl hc i [] s3 σ3 H3 _ I3 (stat fr3) st3 go) fun r s4 ⟨u, hr, h4⟩ => ?_
   subst hr
   refine thn h4 fun _ s5 zz529 => ?_
   obtain ⟨x, H5, I5, r5, y5, st5, fr5⟩ := zz529
   have I5' := I5.pinned (stat fr5) (T.obj _ _ st5)
   refine thn (hg _ _ _ _ _ s5 σ3 H5 x u _ I5' r5 (step x H5 y5)) fun _ s6 zz530 => ?_
   obtain ⟨σ6, H6, I6, q6⟩ := zz530
   refine thn (ht _ _ _ _ _ s6 σ6 H6 _ I6 q6) fun b s7 ⟨H7, I7, q7⟩ => ?_
   have again : ∀ {σ8 : St} {H8 : Hp} {acc8 : List V} {s8 : Shared}, Inv (cxComp X N' scope H2.objs.size s H fp) ([] ++ pinsAt fp s5.heap) σ8 H8 s8 -> (∃ m', m' < n /\ W (i + 1) m' acc8 σ8 H8) ->
     ∃ m, m < n /\ ∃ i acc σ' H', Inv (cxComp X N' scope H2.objs.size s H fp) [] σ' H' s8 /\ tn i s8.heap /\ (∀ b ∈ fp, H' b = none) /\ W i m acc σ' H' := fun {σ8 H8 acc8 s8} I8 hw => by
    obtain ⟨m', hm, w8⟩ := hw
    refine ⟨m', hm, i + 1, acc8, σ8, H8, I8.unpinned, T.keep _ _ _ st5 fun b hb o e => (I8.pin (b, o) (List.mem_append_right _ (List.mem_append_right _ (mem_pinsAt hb e)))).1, fun b hb => ?_, w8⟩
    obtain ⟨o, e, d⟩ := T.obj _ _ st5 b hb
    exact (I8.pin (b, o) (List.mem_append_right _ (List.mem_append_right _ (mem_pinsAt hb e)))).2.1
   cases b with
   | false =>
    rw [if_neg Bool.false_ne_true]
    rw [if_neg Bool.false_ne_true] at q7
    exact again I7 (hN _ _ _ q7)
   | true =>
    rw [if_pos rfl]
    rw [if_pos rfl] at q7
    refine thn (he _ _ _ _ _ s7 σ6 H7 _ I7 q7) fun y s8 zz531 => ?_
    obtain ⟨v, H8, I8, r8, ac, e8, z8, w8⟩ := zz531
    refine thn (mt_append (X := cxComp X N' scope H2.objs.size s H fp) _ s8 σ6 H8 (.ref s.heap.objs.size) [v] (.ref s.heap.objs.size) [y] (fun _ H9 => H9 = upd H8 s.heap.objs.size (.lst (ac ++ [v]))) I8 rfl (.cons r8 .nil) ⟨_, ac, v, rfl, rfl, e8, z8, rfl⟩) fun _ s9 zz532 => ?_
    obtain ⟨_, H9, I9, _, e9⟩ := zz532
    subst e9
    exact again I9 (hN _ _ _ w8)
 exact codeAny_compStart_list (loop _ rfl) (T.self _ 0 _ _ _ st0 (loop _ rfl))
theorem Inv.letgo {pins : List (Addr × Obj)} {σ : St} {H : Hp} {s : Shared} {C : Addr} {h' : Heap} (I : Inv X pins σ H s) (hn : H C = none) (h1 : X.s₀.heap.objs.size <= C) (hL : C ≠ X.env.locals) (h2 : ∀ x c, X.env.cells.lookup x = some c -> c ≠ C)
  (h3 : ∀ q ∈ X.pn ++ pins, q.1 ≠ C) (hs : Heap.SameBut C s.heap h') : Inv X pins σ H { s with heap := h' } :=
 I.turned (t' := s.toks) (fun b o hb e => (hs.2 b hb).trans e) hn hL (.inr h1) h2 h3
theorem pe_comp (hc : X.calm = true) (hi : PI X tg iter wi) (hg : ∀ C s H fp, PG (cxComp X N' scope C s H fp) tg g) (ht : ∀ C s H fp, PIfs (cxComp X N' scope C s H fp) ifs tst) (he : ∀ C s H fp, PE (cxComp X N' scope C s H fp) elt te)
  (ok : CompOk X.N X.env.scope.names scope.names N' mp) (hk : scope.kind = .function := by rfl) (hs : ∀ x, foldedSetIterable iter X.env x = pure x := by intro _; rfl) :
  PE X (.ListComp elt [⟨tg, iter, ifs, 0⟩] scope pos) (tComp mp wi g tst te) := by
 intro pins s σ H Q I h
 rw [eval_ListComp]
 refine wpAny_comprehension_free (use := none) rfl hs (closureFor_of fun x hx e => I.ok.has x.1 (ok.free x hx e)) hk ok.loc (thn (hi pins s σ H _ I h) fun v s1 h1 => thn h1 fun itv s2 h2 => ?_)
 obtain ⟨it, fp, tn, J, H2, e, I2, T, st2, f2, hw⟩ := h2
 subst e
 refine comp_run (Q := fun p H' => Q (.ref p) H') (RR := fun acc C => compPost (model X.prog X.w) X.A X.xe none (EP X pins σ Q) acc C) ok hk hc I2 T st2 f2 hg ht he hw ?_
 intro C s' H' I' hns hn h1 hL hcl hpin q
 obtain ⟨m, hm⟩ := hns
 exact ⟨m, hm, fun h' hs' => ⟨.ref s2.heap.objs.size, H', I'.letgo hn h1 hL hcl hpin hs', rfl, q⟩⟩
theorem ps_setC {i : Nat} {y : Str} {py spos : Pos} (hc : X.calm = true) (hN : X.N.Nodup) (hi' : X.N[i]? = some y) (hy : X.env.scope.names.lookup y = some .local)
  (hi : PI X tg iter wi) (hg : ∀ C s H fp, PG (cxComp X N' scope C s H fp) tg g) (ht : ∀ C s H fp, PIfs (cxComp X N' scope C s H fp) ifs tst) (he : ∀ C s H fp, PE (cxComp X N' scope C s H fp) elt te)
  (ok : CompOk X.N X.env.scope.names scope.names N' mp) (hsw : swapsWith (.ListComp elt [⟨tg, iter, ifs, 0⟩] scope pos) (some (.Name y py)) spos.line X.env = pure true := by rfl)
  (hk : scope.kind = .function := by rfl) (hs : ∀ x, foldedSetIterable iter X.env x = pure x := by intro _; rfl) :
  PS X (.Assign [.Name y py] (.ListComp elt [⟨tg, iter, ifs, 0⟩] scope pos) spos) (tAsg (tComp mp wi g tst te) (gName i)) := by
 intro pins s σ H D I h
 rw [exec_Assign_Name_used _ _ _ _ hsw]
 refine wpAny_bind (wpAny_standAt (wpAny_bind ?_))
 show wpAny _ _ (do let _ <- comprehension (.ListComp elt [⟨tg, iter, ifs, 0⟩] scope pos) scope X.env _ (newList []) false (eval iter X.env) (some (assign (.Name y py) X.env))) _ _ s
 refine wpAny_bind (wpAny_mono (wpAny_comprehension_free (use := some (assign (.Name y py) X.env)) (Q := fun _ s' => SP X pins D .next s') rfl hs (closureFor_of fun x hx e => I.ok.has x.1 (ok.free x hx e)) hk ok.loc
  (thn (hi pins s σ H _ I h) fun v s1 h1 => thn h1 fun itv s2 h2 => ?_)) (fun _ s' hq => wpAny_pure (wpAny_pure hq)) fun _ _ e => e)
 obtain ⟨it, fp, tn, J, H2, e, I2, T, st2, f2, hw⟩ := h2
 subst e
 refine comp_run (Q := fun p H' => D.nx (σ.set i (some (.ref p))) H') (RR := fun acc C => compPost (model X.prog X.w) X.A X.xe (some (assign (.Name y py) X.env)) (fun _ s' => SP X pins D .next s') acc C) ok hk hc I2 T st2 f2 hg ht he hw ?_
 intro C s' H' I' hns hn h1 hL hcl hpin q
 obtain ⟨m, hm⟩ := hns
 show wpAny _ _ (assign (.Name y py) X.env (.ref s2.heap.objs.size)) _ _ s'
 refine wpAny_assign_Name (store_ok2 I' hN hi' (.inl hy) (v := .ref s2.heap.objs.size) rfl (fun s'' I'' hch => ?_) (.inr hy))
 obtain ⟨a, hsb, ha⟩ := hch
 have hCa : C ≠ a := by
  rcases ha with rfl | ha
  ·exact hL
  ·exact (hcl _ _ ha).symm
 refine ⟨m, hm.sameBut hsb hCa, fun h' hs' => ?_⟩
 exact ⟨_, H', I''.letgo hn h1 hL hcl hpin hs', q⟩
end
section
variable {K : PySem.W.Frag} {a p : Addr} {xs : List V} {g : TG} {tst : TT} {te : TE} {Q : Hp -> Prop} {σ : St} {H : Hp}
theorem comp_of {J : It} (n : Nat) (Pv : Nat -> List V -> St -> Hp -> Prop) (h0 : Pv 0 [] σ H)
  (hgo : ∀ i acc σ H, i < n -> Pv i acc σ H -> J.go i H) (hstop : ∀ acc σ H, Pv n acc σ H -> J.stop n H /\ Q H)
  (hs : ∀ i x acc σ H H2, i < n -> Pv i acc σ H -> J.yld i H x H2 -> g x σ H2 fun σ3 H3 => tst σ3 H3 fun b H4 =>
   if b = true then te σ3 H4 fun v H5 => ∃ ac, H5 p = some (.lst ac) /\ ac.length < sizeLine /\ Pv (i + 1) (ac ++ [v]) σ3 (upd H5 p (.lst (ac ++ [v]))) else Pv (i + 1) acc σ3 H4) :
  CompW p J g tst te Q σ H := by
 refine ⟨fun i m acc σ H => m = n - i /\ i <= n /\ Pv i acc σ H, ⟨n, by simp, Nat.zero_le _, h0⟩, ?_⟩
 rintro i m acc σ H ⟨rfl, hi, pv⟩
 by_cases hlt : i < n
 ·exact .inr ⟨hgo i acc σ H hlt pv, Pv (i + 1), fun acc σ H q => ⟨n - (i + 1), by omega, rfl, hlt, q⟩, fun x H2 y => hs i x acc σ H H2 hlt pv y⟩
 ·have e : i = n := by omega
  subst e
  exact .inl (hstop acc σ H pv)
end
end L2
namespace L2
open PySem PySem.Spec PyProof.Rows
section
variable {X : Cx}
def rSlS : V -> Option Int -> Option Int -> Hp -> VK -> Prop := fun x lo hi H Q => ∃ z, x = .str z /\ z.length <= sizeLine /\ Q (.str (Txt.slice z lo hi)) H
theorem sl_str : SlR X rSlS := by
 intro pins s σ H x v vl vu lo hi sl Q I rx hs pl pu h
 obtain ⟨z, rfl, hz, q⟩ := h
 obtain ⟨t, rfl⟩ := rx
 refine ⟨"str", _, F.slot_str_getitem.lookup, typeIs_str _ _ _, ?_⟩
 have fin : ∀ t' k, EP X pins σ Q (.str (Txt.slice z lo hi) t') { s with toks := k } := fun t' k => ⟨.str _, H, I.tok _, ⟨_, rfl⟩, q⟩
 cases pl with
 | none =>
  cases pu with
  | none => exact wpAny_getItem_str_slice (l := none) (u := none) (st := none) hs rfl (post_val_or_str ⟨Nat.le_trans (Txt.slice_le z _ _) hz, fin⟩)
  | int j tj => exact wpAny_getItem_str_slice (l := none) (u := some (j, tj)) (st := none) hs rfl (post_val_or_str ⟨Nat.le_trans (Txt.slice_le z _ _) hz, fin⟩)
 | int i ti =>
  cases pu with
  | none => exact wpAny_getItem_str_slice (l := some (i, ti)) (u := none) (st := none) hs rfl (post_val_or_str ⟨Nat.le_trans (Txt.slice_le z _ _) hz, fin⟩)
  | int j tj => exact wpAny_getItem_str_slice (l := some (i, ti)) (u := some (j, tj)) (st := none) hs rfl (post_val_or_str ⟨Nat.le_trans (Txt.slice_le z _ _) hz, fin⟩)
theorem call_all (hc : X.calm = true) : CallR X (.builtin "all") (fun xs H Q => ∃ (p : Addr) (bs : List Bool), xs = [.ref p] /\ SqL X.K H p (bs.map V.bl) /\ Q (.bl (bs.all id)) H) := by
 intro pins s σ H xs us Q I r h
 obtain ⟨p, bs, rfl, hq, q⟩ := h
 obtain ⟨u, rfl, rx⟩ := vals1 r
 cases rx
 obtain ⟨its, r', pl, hz⟩ := I.list hq
 have hlen := r'.length
 rw [List.length_map] at hlen
 refine call_all_walk (wpAny_pyIter_list pl.isList ?_)
 have hne : p ≠ s.heap.objs.size := Nat.ne_of_lt (let ⟨_, ho, _⟩ := pl.isList; Heap.lt_size ho)
 refine ⟨s.heap.objs.size, _, _, _, _, _, fun i => bs.getD i true, rfl, Walks.list (show X.A.in1.handled = none from I.ok.hd hc) s.heap.objs.size p hne its.toArray, ?_, ?_, fun h' tk k => ?_⟩
 ·exact ⟨⟨_, Heap.get?_push_size _ rfl, rfl, rfl⟩, pl.isList.at fun o e => Heap.get?_push_of_some _ e⟩
 ·intro i v s' Q' E' hP hQ'
  have hv : its[i]? = some v := by simpa using hP
  have hi : i < bs.length := by rw [hlen]; exact (List.getElem?_eq_some_iff.mp hv).1
  obtain ⟨u, hu, ru⟩ := r'.get (i := i) (x := V.bl bs[i]) (by simp [hi])
  rw [hv] at hu
  cases hu
  cases (show v = Value.bool bs[i] from ru)
  refine wpAny_truthy_bool ?_
  have e : bs.getD i true = bs[i] := by simp [hi]
  have hQ2 : Q' (bs.getD i true) s' := hQ'
  rw [e] at hQ2
  exact hQ2
 ·have e : (List.range its.toArray.size).all (fun i => bs.getD i true) = bs.all id := by
   rw [List.size_toArray, <- hlen]
   rw [Bool.eq_iff_iff, List.all_eq_true, List.all_eq_true]
   constructor
   ·intro a x hx
    obtain ⟨i, hi, rfl⟩ := List.mem_iff_getElem.mp hx
    have := a i (List.mem_range.mpr hi)
    simpa [hi] using this
   ·intro a i hi
    have hi := List.mem_range.mp hi
    have := a bs[i] (List.getElem_mem hi)
    simpa [hi] using this
  rw [e]
  exact ⟨.bl _, H, I.kept fun b o e => k b o (by
   intro hb
   have : b = s.heap.objs.size := by simpa using hb
   exact absurd (Heap.lt_size e) (by rw [this]; exact Nat.lt_irrefl _)) (Heap.get?_push_of_some _ e), rfl, q⟩
theorem strsAre_of {ys : List Str} {us : List Value} (h : Vals (ys.map V.str) us) : StrsAre us ys := by
 induction ys generalizing us with
 | nil => cases h; exact .nil
 | cons y ys ih =>
  cases h with
  | cons r t =>
   obtain ⟨tk, rfl⟩ := r
   exact .cons y tk (ih t)
theorem mt_join : MtR X "str.join" (fun x xs H Q => ∃ z p ys, x = .str z /\ xs = [.ref p] /\ SqL X.K H p (ys.map V.str) /\ (ys.map (·.length)).sum + ys.length * z.length <= 16777216 /\ Q (.str (Txt.join z ys)) H) := by
 intro pins s σ H x xs v us Q I rx r h
 obtain ⟨z, p, ys, rfl, rfl, hq, hz, q⟩ := h
 obtain ⟨t, rfl⟩ := rx
 obtain ⟨u, rfl, ru⟩ := vals1 r
 cases ru
 obtain ⟨its, r', pl, _⟩ := I.list hq
 exact join_list pl.isList (strsAre_of (by simpa using r')) hz fun t' k => ⟨.str _, H, I.tok _, ⟨_, rfl⟩, q⟩
def tRevL (K : PySem.W.Frag) (te : TE) : TE := fun σ H Q => te σ H fun x H1 => ∃ a xs, x = .ref a /\ SqL K H1 a xs /\ ∀ l, H1 l = none -> Q (.ref l) (upd H1 l (.lst xs.reverse))
theorem pe_revL {e : Expr} {te : TE} {p p2 pos pos2 : Pos} (hc : X.calm = true) (hg : Gl X "list") (hm : X.mg "list" = none) (hg2 : Gl X "reversed") (hm2 : X.mg "reversed" = none) (he : PE X e te)
  (hs : starEach [.Call (.Name "reversed" p2) [e] [] pos2] X.env = [(false, eval (.Call (.Name "reversed" p2) [e] [] pos2) X.env)] := by rfl) (hs2 : starEach [e] X.env = [(false, eval e X.env)] := by rfl) :
  PE X (.Call (.Name "list" p) [.Call (.Name "reversed" p2) [e] [] pos2] [] pos) (tRevL X.K te) := by
 intro pins s σ H Q I h
 refine wpAny_Call_Name_kw (ld_blt I hg hm boot_list ?_)
 refine PyProof.Rows.callWith_type1 ?_ hs rfl
 rw [hs]
 refine Calls.spliced_cons ?_
 refine wpAny_Call_Name_kw (ld_blt I hg2 hm2 boot_reversed ?_)
 refine PyProof.Rows.callWith_type1 ?_ hs2 rfl
 rw [hs2]
 refine Calls.spliced_cons (thn (he pins s σ H _ I h) fun u s1 zz535 => Calls.spliced_nil ?_)
 obtain ⟨v, H1, I1, r1, q1⟩ := zz535
 obtain ⟨a, xs, rfl, hq, q⟩ := q1
 cases r1
 obtain ⟨its, r', pl, hz⟩ := I1.list hq
 have hlen := r'.length
 refine call_reversed_list pl.isList (Calls.spliced_nil ?_)
 have hne : a ≠ s1.heap.objs.size := Nat.ne_of_lt (let ⟨_, ho, _⟩ := pl.isList; Heap.lt_size ho)
 have hpl : (s1.heap.push (revObj a ((its.toArray.size : Int) - 1))).IsList a its.toArray := pl.isList.at fun o e => Heap.get?_push_of_some _ e
 refine L2_call_list_rev (s := { s1 with heap := s1.heap.push (revObj a ((its.toArray.size : Int) - 1)) }) (Walks.listRev (show X.A.in1.in1.handled = none from I.ok.hd hc) s1.heap.objs.size a hne its.toArray).toS (fun i s st => st.2.1.typeIs) ?_ ?_ (by simp) (fun s' acc' c' mv hS hacc => ?_) (by rw [List.size_toArray, <- hlen]; exact hz)
 ·refine ⟨Nat.zero_le _, ⟨_, Heap.get?_push_size _ rfl, rfl, ?_⟩, hpl⟩
  simp [revObj]
 ·intro b hb
  rw [Heap.size_push]
  rcases List.mem_cons.mp hb with rfl | hb
  ·exact Nat.lt_succ_self _
  ·have : b = a := by simpa using hb
   subst this
   exact Nat.lt_succ_of_lt (let ⟨_, ho, _⟩ := pl.isList; Heap.lt_size ho)
 ·have hsz : (s1.heap.push (revObj a ((its.toArray.size : Int) - 1))).objs.size = s1.heap.objs.size + 1 := Heap.size_push ..
  obtain ⟨h', g', d', t', o'⟩ := s'
  have eg : g' = s1.gens := mv.gens
  have ed : d' = s1.drawn := mv.drawn
  have eo : o' = s1.os := mv.os
  subst eg ed eo
  have keep : ∀ b o, s1.heap.get? b = some o -> h'.get? b = some o := fun b o e => by
   have hb := Heap.lt_size e
   refine mv.heap b o (fun hm => ?_) (Heap.get?_push_of_some _ (Heap.get?_push_of_some _ e))
   rcases List.mem_cons.mp hm with z | z
   ·have z : b = (s1.heap.push (revObj a ((its.toArray.size : Int) - 1))).objs.size := z
    rw [z, hsz] at hb
    exact absurd hb (Nat.not_lt.mpr (Nat.le_succ _))
   ·have z : b = s1.heap.objs.size := by simpa using z
    rw [z] at hb
    exact absurd hb (Nat.lt_irrefl _)
  have ea : acc'.toList = its.reverse := by
   refine List.ext_getElem? fun j => ?_
   have hsz2 : acc'.toList.length = its.length := by have := hacc.1; simp at this ⊢; omega
   by_cases hj : j < its.length
   ·have h1 : acc'[j]? = some (acc'[j]'(by have := hacc.1; simp at this; omega)) := Array.getElem?_eq_getElem _
    have h2 := hacc.2 j _ h1
    rw [List.getElem?_reverse hj]
    have h3 : its[its.length - 1 - j]? = some (acc'[j]'(by have := hacc.1; simp at this; omega)) := by simpa using h2
    rw [h3]
    simpa using h1
   ·rw [List.getElem?_eq_none (by omega), List.getElem?_eq_none (by rw [List.length_reverse]; omega)]
  refine ⟨.ref (s1.heap.push (revObj a ((its.toArray.size : Int) - 1))).objs.size, upd H1 (s1.heap.push (revObj a ((its.toArray.size : Int) - 1))).objs.size (.lst xs.reverse),
   I1.laid (h' := h') (t' := t') keep (by omega) (show ObjOk X.prog X.w _ h' _ (.lst xs.reverse) from ⟨by rw [List.length_reverse]; exact hz, acc'.toList, c', by rw [ea]; exact r'.reverse, by simpa using hS⟩), rfl, q _ (I1.hok.fresh (by omega))⟩
end
end L2
namespace L2
open PySem PySem.Spec PyProof.Rows
section
variable {H H' : Hp} {d l p : Addr} {s n : Int} {ns : List Int} {o : HO}
end
theorem seven {n : Nat} (h : n <= 1000) : n <= sizeLine := Nat.le_of_lt (small1000 h)
end L2
namespace PySem
open Sem (wp)
open AutoSeq1 (wpAny_loadPart')
set_option maxRecDepth 100000
section
variable {prog : Program} {w : World} {A : Around} {E : Value -> Shared -> Prop} {s : Shared}
theorem L2_nextOf_tuple_item {it t : Addr} {i : Nat} {items} {x : Value} {Q : Value -> Shared -> Prop} (hit : s.heap.IsTupleIter it t i)
  (ht : s.heap.IsTuple t items) (hx : items[i]? = some x)
  (hQ : ∀ h', h'.IsTupleIter it t (i + 1) -> Heap.SameBut it s.heap h' -> Q x { s with heap := h' }) :
  wpAny (model prog w) A (Builtin.SmallTypes.nextOf (.ref it)) Q E s := by
 obtain ⟨o, ho, hc, hd⟩ := id hit
 obtain ⟨ol, hol, _, nl, hdl⟩ := ht
 unfold Builtin.SmallTypes.nextOf
 refine wpAny_bind (wpAny_callSpecial?_slot (name := Str.ofString "__next__") hit.typeIs F.slot_tuple_iterator_next
  (wpAny_call_entry F.slot_tuple_iterator_next hit.typeIs F.entry_tuple_iterator_next ?_ (F.args_tuple_iterator_next_1 _)))
 show wpAny _ _ (field (.ref it) 0 >>= _) _ _ s
 refine wpAny_bind (wpAny_field ho hd (x := .ref t) rfl ?_)
 show wpAny _ _ (if (Value.ref t == Value.none) = true then _ else _) _ _ s
 rw [if_neg (show ¬ ((Value.ref t == Value.none) = true) from Bool.false_ne_true)]
 show wpAny _ _ (field (.ref it) 1 >>= _) _ _ s
 refine wpAny_bind (wpAny_field ho hd (x := .int i 0) rfl ?_)
 show wpAny _ _ (seqItems? (.ref t) >>= _) _ _ s
 refine wpAny_bind (wpAny_seqItems hol hdl ?_)
 simp only [Int.toNat_natCast, hx]
 refine wpAny_bind (wpAny_setField ho hd (by simp) (wpAny_pure ⟨x, rfl, wpAny_pure (hQ _ ?_ (Heap.SameBut.update ..))⟩))
 exact ⟨_, Heap.get?_update_self _ ho (Obj.isFreed_of_fields (Obj.data_mapFields hd _)), (Obj.cls_mapFields ..).trans hc, by
  rw [Obj.data_mapFields hd]; simp [rawInt]⟩
theorem L2_nextOf_tuple_end {it t : Addr} {i : Nat} {items} {Q : Value -> Shared -> Prop} (hh : A.handled = none)
  (hit : s.heap.IsTupleIter it t i) (ht : s.heap.IsTuple t items) (hx : items[i]? = none)
  (hE : ∀ h' e, Heap.ExtBut it s.heap h' -> (∃ o, h'.get? e = some o /\ o.cls = .type "StopIteration") -> E (.ref e) { s with heap := h' }) :
  wpAny (model prog w) A (Builtin.SmallTypes.nextOf (.ref it)) Q E s := by
 obtain ⟨o, ho, hc, hd⟩ := id hit
 obtain ⟨ol, hol, _, nl, hdl⟩ := ht
 unfold Builtin.SmallTypes.nextOf
 refine wpAny_bind (wpAny_callSpecial?_slot (name := Str.ofString "__next__") hit.typeIs F.slot_tuple_iterator_next
  (wpAny_call_entry F.slot_tuple_iterator_next hit.typeIs F.entry_tuple_iterator_next ?_ (F.args_tuple_iterator_next_1 _)))
 show wpAny _ _ (field (.ref it) 0 >>= _) _ _ s
 refine wpAny_bind (wpAny_field ho hd (x := .ref t) rfl ?_)
 show wpAny _ _ (if (Value.ref t == Value.none) = true then _ else _) _ _ s
 rw [if_neg (show ¬ ((Value.ref t == Value.none) = true) from Bool.false_ne_true)]
 show wpAny _ _ (field (.ref it) 1 >>= _) _ _ s
 refine wpAny_bind (wpAny_field ho hd (x := .int i 0) rfl ?_)
 show wpAny _ _ (seqItems? (.ref t) >>= _) _ _ s
 refine wpAny_bind (wpAny_seqItems hol hdl ?_)
 simp only [Int.toNat_natCast, hx]
 refine wpAny_bind (wpAny_rule (wpAny_bind (wpAny_setField ho hd (by simp) ?_)))
 show wpAny _ _ (newExc (.type "StopIteration") [] >>= _) _ _ _
 refine wpAny_bind ?_
 simp only [newExc, newTuple]
 refine wpAny_bind (wpAny_newObj_type ?_ (by size_fits))
 refine wpAny_bind (m := firstArgMember _ _) (wpAny_of_eq (a := Value.none) (by first | rfl | (simp only [firstArgMember]; rfl)) ?_)
 refine wpAny_newObj_type ?_ (by size_fits)
 simp only [raiseNew]
 refine wpAny_bind (wpAny_handled ?_)
 first | rw [show A.in1.handled = none from hh] | rw [hh]
 refine wpAny_bind (wpAny_pure (wpAny_throw ?_))
 exact hE _ _ (((Heap.SameBut.update ..).extBut.push _).push _) ⟨_, Heap.get?_push_size _ rfl, rfl⟩
end
theorem L2_draws_tuple {prog : Program} {w : World} {A : Around} (hh : A.handled = none) (it l : Addr) (hne : l ≠ it) (items : Array Value) :
  Draws prog w A it [it, l] items.size (fun i v => items[i]? = some v) (fun i h => h.IsTupleIter it l i /\ h.IsTuple l items) where
 live := fun _ _ st => let ⟨o, ho, _⟩ := st.1; ⟨o, ho⟩
 frame := fun _ _ _ st hk => ⟨st.1.at fun o e => hk it (by simp) o e, st.2.at fun o e => hk l (by simp) o e⟩
 item := fun i s Q E hi st hQ => by
  refine L2_nextOf_tuple_item st.1 st.2 (x := items[i]) (by simp [hi]) fun h' hit' hs' => ?_
  exact hQ _ h' s.toks (by simp [hi]) ⟨hit', st.2.extBut hs'.extBut hne⟩ hs'
 done := fun s Q E st hE => L2_nextOf_tuple_end hh st.1 st.2 (by simp) hE
theorem L2_meets_enum_tuple (l : Addr) (items : Array Value) (n : Nat) (dct : Option Addr) (sl : Array (Option Value)) :
  Meets (Builtin.«enumerate.__new__» ⟨[.type "enumerate", .ref l], []⟩) (fun _ R s => s.heap.get? l = some { cls := .type "tuple", dict := dct, data := .seq items n, slots := sl } /\
   R (.ok (.ret (.ref (s.heap.push { cls := .type "tuple_iterator", data := .fields #[.ref l, .int 0 0] }).objs.size)))
    { s with heap := (s.heap.push { cls := .type "tuple_iterator", data := .fields #[.ref l, .int 0 0] }).push { cls := .type "enumerate", data := .fields #[.none, .bool false, .ref s.heap.objs.size, rawInt 0, .none, .none] } }) :=
 .of_wp fun prog w A R s h => by
  obtain ⟨hp, g, d, tk, os⟩ := s; obtain ⟨hl, h⟩ := h
  have hsub := sub_enumerate
  have hL : Heap.IsTuple (Shared.heap ⟨hp, g, d, tk, os⟩) l items := ⟨_, hl, rfl, n, rfl⟩
  wp_walk using wpAny_loadPart' hl
  refine wpAny_stack_any fun st => wpAny_pure ?_
  split
  ·rename_i c _ _ _ _ _
   cases (c == Value.type "enumerate")
   ·wp_walk using wpAny_loadPart' hl, wpAny_pyIter_tuple hL
    exact ⟨_, rfl, h⟩
   ·wp_walk using wpAny_loadPart' hl, wpAny_pyIter_tuple hL
    exact ⟨_, rfl, h⟩
  ·wp_walk using wpAny_loadPart' hl, wpAny_pyIter_tuple hL
   exact ⟨_, rfl, h⟩
section
variable {prog : Program} {w : World} {A : Around} {E : Value -> Shared -> Prop} {s : Shared}
theorem L2_call_enum_tuple {l : Addr} {items : Array Value} {Q : Value -> Shared -> Prop} (hL : s.heap.IsTuple l items)
  (h : ∀ h', IsEnum h' (s.heap.objs.size + 1) s.heap.objs.size 0 .none -> h'.IsTupleIter s.heap.objs.size l 0 -> h'.objs.size = s.heap.objs.size + 2 ->
   (∀ b o, s.heap.get? b = some o -> h'.get? b = some o) -> Q (.ref (s.heap.objs.size + 1)) { s with heap := h' }) :
  wpAny (model prog w) A (call (.type "enumerate") [.ref l]) Q E s := by
 obtain ⟨⟨c, dct, dt, sl⟩, hl, hc, n, hd⟩ := hL
 replace hc : c = .type "tuple" := hc
 replace hd : dt = .seq items n := hd
 subst hc hd
 refine callType_new F.called_enumerate (by decide) (F.typeCall_enumerate_1 _) (F.newCall_enumerate_1 _) (fun obj => F.args_object_init_2 obj _) F.entry_enumerate_new
  (L2_meets_enum_tuple l items n dct sl) ⟨hl, ?_⟩
 have hz : (s.heap.push { cls := .type "tuple_iterator", data := .fields #[.ref l, .int 0 0] }).objs.size = s.heap.objs.size + 1 := Heap.size_push ..
 show _ /\ _
 rw [hz]
 have he : IsEnum ((s.heap.push { cls := .type "tuple_iterator", data := .fields #[.ref l, .int 0 0] }).push
   { cls := .type "enumerate", data := .fields #[.none, .bool false, .ref s.heap.objs.size, rawInt 0, .none, .none] }) (s.heap.objs.size + 1) s.heap.objs.size 0 .none := by
  have := Heap.get?_push_size (s.heap.push { cls := .type "tuple_iterator", data := .fields #[.ref l, .int 0 0] })
   (o := { cls := .type "enumerate", data := .fields #[.none, .bool false, .ref s.heap.objs.size, rawInt 0, .none, .none] }) rfl
  rw [hz] at this; exact this
 refine ⟨⟨_, he, rfl⟩, h _ he ⟨_, Heap.get?_push_of_some _ (Heap.get?_push_size _ rfl), rfl, rfl⟩ (by rw [Heap.size_push, hz]) fun b o x => Heap.get?_push_of_some _ (Heap.get?_push_of_some _ x)⟩
end
end PySem
namespace L2
open PySem PySem.Spec PyProof.Rows
def cutD (ds : List PyData) (lo hi : Option Int) : List PyData := (ds.drop (HT.sIx ds.length 0 lo)).take (HT.sIx ds.length ds.length hi - HT.sIx ds.length 0 lo)
structure OkB (dep wt : Nat) (d : PyData) : Prop where
 lay : d.canLay0 = true
 dp : d.depth <= dep
 wt : d.weight <= wt
 sh : d.intsShort 13 = true
 sw : d.showable = true
structure OkBs (dep wt : Nat) (ds : List PyData) : Prop where
 lay : PyData.canLayAll0 ds = true
 dp : PyData.depthAll ds <= dep
 wt : PyData.weightAll ds <= wt
 sh : PyData.intsShortAll 13 ds = true
 sw : PyData.showableAll ds = true
theorem OkBs.nil {dep wt : Nat} : OkBs dep wt [] := ⟨rfl, by simp [PyData.depthAll], by simp [PyData.weightAll], rfl, rfl⟩
theorem OkBs.cons {dep w1 w2 : Nat} {d : PyData} {ds : List PyData} (h : OkB dep w1 d) (r : OkBs dep w2 ds) : OkBs dep (w1 + 1 + w2) (d :: ds) := by
 refine ⟨?_, ?_, ?_, ?_, ?_⟩
 ·simp only [PyData.canLayAll0, h.lay, r.lay, Bool.and_self]
 ·simp only [PyData.depthAll]; exact Nat.max_le.mpr ⟨h.dp, r.dp⟩
 ·simp only [PyData.weightAll]; have := h.wt; have := r.wt; omega
 ·simp only [PyData.intsShortAll, h.sh, r.sh, Bool.and_self]
 ·simp only [PyData.showableAll, h.sw, r.sw, Bool.and_self]
theorem OkBs.mono {dep wt d' w' : Nat} {ds : List PyData} (h : OkBs dep wt ds) (h1 : dep <= d') (h2 : wt <= w') : OkBs d' w' ds := ⟨h.lay, Nat.le_trans h.dp h1, Nat.le_trans h.wt h2, h.sh, h.sw⟩
theorem OkB.mono {dep wt d' w' : Nat} {d : PyData} (h : OkB dep wt d) (h1 : dep <= d') (h2 : wt <= w') : OkB d' w' d := ⟨h.lay, Nat.le_trans h.dp h1, Nat.le_trans h.wt h2, h.sh, h.sw⟩
theorem OkBs.cons' {dep w1 w2 w3 : Nat} {d : PyData} {ds : List PyData} (h : OkB dep w1 d) (r : OkBs dep w2 ds) (e : w1 + 1 + w2 <= w3) : OkBs dep w3 (d :: ds) := (OkBs.cons h r).mono (Nat.le_refl _) e
theorem OkBs.all {dep w n : Nat} {ds : List PyData} (h : ∀ d ∈ ds, OkB dep w d) (hn : ds.length <= n) : OkBs dep (n * (w + 1)) ds := by
 induction ds generalizing n with
 | nil => exact OkBs.nil
 | cons d ds ih =>
  cases n with
  | zero => simp at hn
  | succ m =>
   refine OkBs.cons' (h d List.mem_cons_self) (ih (n := m) (fun e he => h e (List.mem_cons_of_mem _ he)) (by simp at hn; omega)) ?_
   rw [Nat.succ_mul]; omega
theorem OkBs.tup {dep w : Nat} {ds : List PyData} (h : OkBs dep w ds) : OkB (dep + 1) w (.tuple ds) :=
 ⟨by simp only [PyData.canLay0, h.lay], by simp only [PyData.depth]; exact Nat.succ_le_succ h.dp, by simp only [PyData.weight]; exact h.wt, by simp only [PyData.intsShort, h.sh], by simp only [PyData.showable, h.sw]⟩
theorem OkBs.lst {dep w : Nat} {ds : List PyData} (h : OkBs dep w ds) : OkB (dep + 1) w (.list ds) :=
 ⟨by simp only [PyData.canLay0, h.lay], by simp only [PyData.depth]; exact Nat.succ_le_succ h.dp, by simp only [PyData.weight]; exact h.wt, by simp only [PyData.intsShort, h.sh], by simp only [PyData.showable, h.sw]⟩
theorem okB_int {i : Int} (h0 : -1000000000 <= i) (h1 : i <= 1000000000) : OkB 0 40 (.int i) := by
 have hn : i.natAbs <= 1000000000 := by omega
 have hl : i.natAbs.log2 <= 30 := by
  rcases Nat.eq_zero_or_pos i.natAbs with z | z
  ·rw [z]; decide
  ·exact Nat.le_of_lt ((Nat.log2_lt (by omega)).mpr (Nat.lt_of_le_of_lt hn (by decide)))
 refine ⟨rfl, Nat.le_refl _, ?_, ?_, ?_⟩
 ·simp only [PyData.weight]; split <;> omega
 ·have := int_text_length_le10 (a := i) (k := 10) (by decide) (Nat.lt_of_le_of_lt hn (by decide))
  simp only [PyData.intsShort, PyData.shown]
  refine decide_eq_true ?_
  show (Str.ofString (toString i)).length <= 13
  rw [PySem.ofString_length]; omega
 ·simp only [PyData.showable]; exact decide_eq_true (by omega)
structure OkD (d : PyData) : Prop where
 lay : d.layable0 = true
 sh : d.intsShort 13 = true
 sw : d.showable = true
theorem OkB.ok {dep w : Nat} {d : PyData} (h : OkB dep w d) (h1 : dep <= 64) (h2 : w <= 1048576) : OkD d := by
 refine ⟨?_, h.sh, h.sw⟩
 show (d.canLay0 && decide (d.depth <= 64) && decide (d.weight <= 2 ^ 20)) = true
 rw [h.lay, decide_eq_true (Nat.le_trans h.dp h1), decide_eq_true (Nat.le_trans h.wt (show w <= 2 ^ 20 by simpa using h2))]
 rfl
theorem OkD.depth {d : PyData} (h : OkD d) : d.depth <= 64 := SeqAt.depth_of_layable h.lay
section
variable {X : Cx} {k : Nat}
noncomputable def eqR (h : Heap) (e : PyData) (u : Value) : Bool := @decide (∃ d as, Reads h u d as /\ d.canLay0 = true /\ PyData.eqv d e = true) (Classical.propDecidable _)
theorem eqR_of {h : Heap} {e d : PyData} {u : Value} {as : List Addr} (r : Reads h u d as) (c : d.canLay0 = true) : eqR h e u = PyData.eqv d e := by
 unfold eqR
 cases q : PyData.eqv d e with
 | true => exact @decide_eq_true _ (Classical.propDecidable _) ⟨d, as, r, c, q⟩
 | false =>
  refine @decide_eq_false _ (Classical.propDecidable _) fun zz536 => ?_
  obtain ⟨d', as', r', _, q'⟩ := zz536
  rw [SeqAt.Reads.unique d d' u as as' c r r', q'] at q
  cases q
theorem items_eqR {A : Around} {s : Shared} {e : PyData} {v : Value} {bs : List Addr} (rv : Reads s.heap v e bs) (ce : e.canLay0 = true) (hu : A.units + 64 < cLine) : ∀ {ds : List PyData} {us : List Value} {as : List Addr}, ReadsAll s.heap us ds as ->
  PyData.canLayAll0 ds = true -> PyData.depthAll ds <= 64 -> (∀ u ∈ us, SeqAt.EqAt A s u v (eqR s.heap e u)) /\ us.any (eqR s.heap e) = ds.any fun d => PyData.eqv d e
 | [], _, _, r, _, _ => by
  cases r
  exact ⟨(fun _ z => nomatch z), rfl⟩
 | d :: ds, _, _, r, c, dp => by
  cases r with
  | cons r1 r2 =>
   simp only [PyData.canLayAll0, Bool.and_eq_true] at c
   simp only [PyData.depthAll] at dp
   obtain ⟨i1, i2⟩ := items_eqR rv ce hu r2 c.2 (by omega)
   have e1 := eqR_of (e := e) r1 c.1
   refine ⟨fun u hu' => ?_, ?_⟩
   ·rcases List.mem_cons.mp hu' with rfl | z
    ·rw [e1]
     exact SeqAt.eqAt_reads d e A s _ v _ _ r1 rv c.1 ce (by omega)
    ·exact i1 u z
   ·rw [List.any_cons, List.any_cons, e1, i2]
end
end L2
namespace L2
open PySem PySem.Spec PyProof.Rows
section
variable {X : Cx} {pins : List (Addr × Obj)} {σ : St} {H : Hp} {s : Shared} {h' : Heap}
theorem Inv.turnedL {t' : Nat} {fp : List Addr} (I : Inv X pins σ H s) (k : ∀ b o, b ∉ fp -> s.heap.get? b = some o -> h'.get? b = some o) (hf : ∀ b ∈ fp, FpOk X pins H b) : Inv X pins σ H { s with heap := h', toks := t' } := by
 have nit : ∀ b u, H b = some u -> b ∉ fp := fun b u e z => by rw [(hf b z).1] at e; cases e
 have nL : X.env.locals ∉ fp := fun z => (hf _ z).2.1 rfl
 refine I.step (g' := s.gens) (d' := s.drawn) (ch := fp) (fun b hb => ?_) (fun b o _ _ hc e _ => k b o hc e) (fun b o _ _ hc e _ => ⟨o.slots, k b o hc e⟩) (fun _ _ _ _ n => n)
  (fun b o hc e => ⟨o, k b o hc e⟩) (fun _ _ e => e) (fun _ _ _ e => e) (fun b ps e => ⟨#[], by rw [e]; simp⟩) (fun m hm => ?_) (fun b u e => ?_) I.bare
 ·obtain ⟨_, f1, _, f3, f4, f5⟩ := hf b hb
  exact ⟨f3, f1, f4, f5⟩
 ·obtain ⟨o, es, ep, ho, r⟩ := hm
  exact ⟨o, es, ep, k _ o nL ho, r⟩
 ·refine (I.hok b u e).stay (fun c v hc q => k c v ?_ q) (fun _ q => q) fun _ _ q => q
  rcases hc with z | z
  ·rw [z]; exact nit b u e
  ·exact nit c _ z
theorem Inv.track {T : Addr} {o : HO} (I : Inv X pins σ H s) (hT : FpOk X pins H T) (new : ObjOk X.prog X.w (upd H T o) s.heap T o) : Inv X pins σ (upd H T o) s := by
 obtain ⟨f0, f1, _, f3, f4, f5⟩ := hT
 have nT : ∀ b u, H b = some u -> b ≠ T := fun b u e z => by rw [z, f0] at e; cases e
 refine I.step (H' := upd H T o) (h' := s.heap) (g' := s.gens) (d' := s.drawn) (t' := s.toks) (ch := [T]) (fun b hb => ?_) (fun b o _ _ _ e _ => e) (fun b o _ _ _ e _ => ⟨o.slots, e⟩)
  (fun b u hc _ n => by rw [upd_ne (fun z => hc (by simp [z]))]; exact n) (fun b o _ e => ⟨o, e⟩) (fun b xs e => by rw [upd_ne (nT b _ e)]; exact e) (fun b u v e => by rw [upd_ne (nT b _ e)]; exact e)
  (fun b ps e => ⟨#[], by rw [upd_ne (nT b _ e), e]; simp⟩) (fun m hm => hm) (fun b u e => ?_) I.bare
 ·have e : b = T := by simpa using hb
  subst e
  exact ⟨f3, f1, f4, f5⟩
 ·by_cases hb : b = T
  ·subst hb
   rw [upd_same] at e
   cases e
   exact new
  ·rw [upd_ne hb] at e
   exact (I.hok b u e).stay (fun _ _ _ q => q) (fun c q => by rw [upd_ne (nT c _ q)]; exact q) fun c xs q => by rw [upd_ne (nT c _ q)]; exact q
end
def Ien (K : PySem.W.Frag) (a : Addr) : It :=
 ⟨fun i H => ∃ xs x, SqT K H a xs /\ xs[i]? = some x,
  fun i H v H' => ∃ T x, H T = none /\ v = .ref T /\ H' = upd H T (.tup [.int i, x]) /\ ∀ xs, SqT K H a xs -> xs[i]? = some x,
  fun i H => ∃ xs, SqT K H a xs /\ xs.length = i⟩
theorem turn_enum {P : Program} {w : World} {K : PySem.W.Frag} {elts : List Expr} {k : Nat} {pos : Pos} (a e it : Addr) (hei : e ≠ it) :
  Turn P w K (.Tuple elts k pos) (Ien K a) [e, it] e (fun i h => (∃ old, IsEnum h e it i old) /\ h.IsTupleIter it a i) where
 mem := by simp
 obj := fun i h st b hb => by
  rcases List.mem_cons.mp hb with rfl | hb
  ·obtain ⟨⟨old, he⟩, _⟩ := st
   exact ⟨_, he, fun v z => nomatch z⟩
  ·have q : b = it := by simpa using hb
   subst q
   obtain ⟨_, o, e, c, d⟩ := st
   exact ⟨o, e, fun v z => by rw [d] at z; cases z⟩
 keep := fun i h h' st k => ⟨let ⟨old, he⟩ := st.1; ⟨old, k e (by simp) _ he⟩, st.2.at fun o q => k it (by simp) o q⟩
 item := by
  intro X hP hw hK hc i pins s σ H E I hf st hg
  subst hP hw hK
  obtain ⟨xs, x, hq, hx⟩ := hg
  obtain ⟨its, rv, p, hz⟩ := I.tuple hq
  obtain ⟨u, hu, ru⟩ := rv.get hx
  obtain ⟨⟨old, he⟩, hit⟩ := id st
  have hae : a ≠ e := by
   intro z; subst z
   obtain ⟨o, ho, hcl, _⟩ := p
   rw [he] at ho; cases ho
   exact absurd hcl (by intro z; injection z with z; exact absurd z (by decide))
  have hai : a ≠ it := by
   intro z; subst z
   obtain ⟨o, ho, hcl, _⟩ := p
   obtain ⟨o', ho', hcl', _⟩ := hit
   rw [ho] at ho'; cases ho'
   rw [hcl] at hcl'
   exact absurd hcl' (by intro z; injection z with z; exact absurd z (by decide))
  have W := WalksT.enumerateD (prog := X.prog) (w := X.w) (A := X.A) (L2_draws_tuple (A := X.A.in1) (I.ok.hd hc) it a hai its.toArray) e hei (by simp [hei, Ne.symm hae]) (by simp)
  refine W.item i s _ _ (by rw [List.size_toArray]; exact (List.getElem?_eq_some_iff.mp hu).1) ⟨⟨old, he⟩, hit, p⟩ fun T vals h' tk hv hT ht hm kk => ?_
  have apart := W.apart i T h' hm
  refine ⟨_, rfl, W.go elts k pos i T _ _ _ hm fun h'' st'' kk'' => ?_⟩
  obtain ⟨t, x', hx', rfl⟩ := hv
  have hxu : x' = u := by
   have : its[i]? = some x' := by simpa using hx'
   rw [hu] at this; exact (Option.some.inj this).symm
  subst hxu
  have I1 : Inv X pins σ H { s with heap := h', toks := tk } := I.turnedL kk hf
  have I2 : Inv X pins σ H { s with heap := h'', toks := tk } := I1.turnedL (s := { s with heap := h', toks := tk }) (t' := tk) kk'' hf
  have fT : FpOk X pins H T := I.fpOk hT (I.hok.fresh hT)
  have ht'' : IsTup h'' T #[.int i t, x'] := let ⟨o, ho, r⟩ := ht; ⟨o, kk'' T o apart ho, r⟩
  refine ⟨.ref T, upd H T (.tup [.int i, x]), I2.track fT ⟨by show 2 <= sizeLine; decide, [.int i t, x'], .cons ⟨t, rfl⟩ (.cons ru .nil), ht''⟩, rfl, ⟨T, x, fT.1, rfl, rfl, fun ys hy => by rw [I.tuple_inj hy hq]; exact hx⟩, ⟨st''.1, st''.2.1⟩, fun b hb => ?_⟩
  have hb' : b ≠ T := by
   rcases List.mem_cons.mp hb with rfl | hb
   ·exact Nat.ne_of_lt (Nat.lt_of_lt_of_le (Heap.lt_size he) hT)
   ·have q : b = it := by simpa using hb
    subst q
    obtain ⟨o, ho, _⟩ := hit
    exact Nat.ne_of_lt (Nat.lt_of_lt_of_le (Heap.lt_size ho) hT)
  rw [upd_ne hb']
  exact (hf b hb).1
 done := by
  intro X hP hw hK hc i pins s σ H E I hf st hg
  subst hP hw hK
  obtain ⟨xs, hq, hl⟩ := hg
  obtain ⟨its, rv, p, hz⟩ := I.tuple hq
  obtain ⟨⟨old, he⟩, hit⟩ := id st
  have hae : a ≠ e := by
   intro z; subst z
   obtain ⟨o, ho, hcl, _⟩ := p
   rw [he] at ho; cases ho
   exact absurd hcl (by intro z; injection z with z; exact absurd z (by decide))
  have hai : a ≠ it := by
   intro z; subst z
   obtain ⟨o, ho, hcl, _⟩ := p
   obtain ⟨o', ho', hcl', _⟩ := hit
   rw [ho] at ho'; cases ho'
   rw [hcl] at hcl'
   exact absurd hcl' (by intro z; injection z with z; exact absurd z (by decide))
  have W := WalksT.enumerateD (prog := X.prog) (w := X.w) (A := X.A) (L2_draws_tuple (A := X.A.in1) (I.ok.hd hc) it a hai its.toArray) e hei (by simp [hei, Ne.symm hae]) (by simp)
  have hn : its.toArray.size = i := by rw [List.size_toArray, <- rv.length]; exact hl
  subst hn
  exact W.done s _ _ ⟨⟨old, he⟩, hit, p⟩ fun h' tk kk => ⟨rfl, I.turnedL kk hf⟩
 self := fun A i s Q E st h => let ⟨⟨_, he⟩, _⟩ := st; wpAny_pyIter_enum he h
section
variable {X : Cx}
theorem for_of {J : It} {g : TG} {tb : TS} {D : Ends} {σ : St} {H : Hp} (n : Nat) (Pv : Nat -> St -> Hp -> Prop) (h0 : Pv 0 σ H) (hgo : ∀ i σ H, i < n -> Pv i σ H -> J.go i H) (hstop : ∀ σ H, Pv n σ H -> J.stop n H /\ D.nx σ H)
  (hs : ∀ i x σ H H2, i < n -> Pv i σ H -> J.yld i H x H2 -> g x σ H2 fun σ2 H3 => tb { D with nx := Pv (i + 1), ct := Pv (i + 1), bk := D.nx } σ2 H3) :
  ∃ W : Nat -> Nat -> St -> Hp -> Prop, (∃ m, W 0 m σ H) /\ ∀ i m σ H, W i m σ H ->
   (J.stop i H /\ D.nx σ H) \/ (J.go i H /\ ∃ N : St -> Hp -> Prop, (∀ σ' H', N σ' H' -> ∃ m', m' < m /\ W (i + 1) m' σ' H') /\ ∀ x H', J.yld i H x H' -> g x σ H' fun σ2 H2 => tb { D with nx := N, ct := N, bk := D.nx } σ2 H2) := by
 refine ⟨fun i m σ H => m = n - i /\ i <= n /\ Pv i σ H, ⟨n, by simp, Nat.zero_le _, h0⟩, ?_⟩
 rintro i m σ H ⟨rfl, hi, p⟩
 by_cases hlt : i < n
 ·exact .inr ⟨hgo i σ H hlt p, Pv (i + 1), fun σ' H' p' => ⟨n - (i + 1), by omega, rfl, hlt, p'⟩, fun x H' y => hs i x σ H H' hlt p y⟩
 ·have e : i = n := by omega
  subst e
  exact .inl (hstop σ H p)
def tPar3 (i j l : Nat) (ta : TA) : TS := fun D σ H => ta σ H fun vs H1 => ∃ u v w, vs = [u, v, w] /\ D.nx (((σ.set i (some u)).set j (some v)).set l (some w)) H1
theorem ps_par3 {i j l : Nat} {x y z : Str} {a b c : Expr} {ta : TA} {px py pz pt pos : Pos} {kt k2 pt2} (hc : X.calm = true) (hN : X.N.Nodup) (hi : X.N[i]? = some x) (hj : X.N[j]? = some y) (hl : X.N[l]? = some z) (hij : i ≠ j) (hil : i ≠ l) (hjl : j ≠ l)
  (hx : X.env.scope.names.lookup x = some .local) (hy : X.env.scope.names.lookup y = some .local) (hz : X.env.scope.names.lookup z = some .local) (ha : PA X [a, b, c] ta)
  (hw : swappedStores [.Tuple [.Name x px, .Name y py, .Name z pz] kt pt] (.Tuple [a, b, c] k2 pt2) X.env = pure (some [x, y, z]))
  (hs : swapsWithSole [.Tuple [.Name x px, .Name y py, .Name z pz] kt pt] (.Tuple [a, b, c] k2 pt2) pos.line X.env = pure false := by rfl) :
  PS X (.Assign [.Tuple [.Name x px, .Name y py, .Name z pz] kt pt] (.Tuple [a, b, c] k2 pt2) pos) (tPar3 i j l ta) := by
 intro pins s σ H D I h
 rw [exec_Assign_arm]
 refine wpAny_bind (wpAny_standAt ?_)
 rw [hs]
 refine wpAny_bind (wpAny_pure ?_)
 rw [if_neg (by decide)]
 refine wpAny_bind (Tuple_ (thn (ha _ pins s σ H _ I h) fun us s1 zz538 => ?_))
 obtain ⟨vs, H1, I1, r1, q1⟩ := zz538
 obtain ⟨u, v, w, e1, q1⟩ := q1
 subst e1
 obtain ⟨u1, u2, u3, rfl, ru, rv, rw'⟩ : ∃ u1 u2 u3, us = [u1, u2, u3] /\ RelV u u1 /\ RelV v u2 /\ RelV w u3 := by
  cases r1 with
  | cons p q =>
   cases q with
   | cons p' q' =>
    cases q' with
    | cons p'' q'' =>
     cases q''
     exact ⟨_, _, _, rfl, p, p', p''⟩
 refine wpAny_newObj_type ?_ (by show 3 <= sizeLine; decide)
 have I2 : Inv X pins σ H1 { s1 with heap := s1.heap.push { cls := .type "tuple", data := .seq [u1, u2, u3].toArray } } := I1.kept (t' := s1.toks) fun b o e => Heap.get?_push_of_some _ e
 rw [hw]
 refine wpAny_bind (wpAny_pure ?_)
 show wpAny (model X.prog X.w) X.A (do rule "assign.swapped-stores"; let items <- unpackItems (.ref s1.heap.objs.size) 3 none; assignInOrder [fun v => bindName X.env z v, fun v => bindName X.env y v, fun v => bindName X.env x v] items.reverse; pure Flow.next) _ _ _
 refine wpAny_bind (wpAny_rule (wpAny_bind (unpackItems_tuple (items := #[u1, u2, u3]) (I.ok.hd hc) (IsTup.new s1.heap _) fun h' hx' => ?_)))
 have I3 := I2.kept (h' := h') (t' := s1.toks) fun b o e => hx' b o (Nat.ne_of_lt (Heap.lt_size e)) e
 show wpAny _ _ (assignInOrder [fun v => bindName X.env z v, fun v => bindName X.env y v, fun v => bindName X.env x v] [u3, u2, u1] >>= fun _ => pure Flow.next) _ _ _
 refine wpAny_bind (assignInOrder_cons (wpAny_bindName (store_ok I3 hN hl (.inl hz) rw' (fun s2 I4 => ?_) (.inr hz))))
 refine assignInOrder_cons (wpAny_bindName (store_ok I4 hN hj (.inl hy) rv (fun s3 I5 => ?_) (.inr hy)))
 refine assignInOrder_cons (wpAny_bindName (store_ok I5 hN hi (.inl hx) ru (fun s4 I6 => assignInOrder_nil (wpAny_pure ?_)) (.inr hx)))
 have e1 : ((σ.set l (some w)).set j (some v)).set i (some u) = ((σ.set l (some w)).set i (some u)).set j (some v) := List.set_comm _ _ (Ne.symm hij)
 have e2 : (σ.set l (some w)).set i (some u) = (σ.set i (some u)).set l (some w) := List.set_comm _ _ (Ne.symm hil)
 have e3 : ((σ.set i (some u)).set l (some w)).set j (some v) = ((σ.set i (some u)).set j (some v)).set l (some w) := List.set_comm _ _ (Ne.symm hjl)
 rw [e1, e2, e3] at I6
 exact ⟨_, H1, I6, q1⟩
theorem op_mul_str01 : OpR X (binaryOp .Mult) (fun x y H Q => ∃ z n, x = .str z /\ y = .int n /\ (n = 0 \/ n = 1) /\ Q (.str (if n = 0 then Str.empty else z)) H) := by
 intro pins s σ H x y v u Q I rx ry h
 obtain ⟨z, n, rfl, rfl, hn, q⟩ := h
 obtain ⟨t, rfl⟩ := rx
 obtain ⟨t', rfl⟩ := ry
 rcases hn with rfl | rfl
 ·exact P.mul_str_none (by decide) (by decide) ⟨.str Str.empty, H, I.tok _, ⟨_, rfl⟩, by simpa using q⟩
 ·refine P.mul_str (by decide) (fun _ z => by simp at z) (fun _ z => by simp at z) ?_
  rw [if_neg (by decide), if_pos (by simp)]
  exact ⟨.str z, H, I, ⟨_, rfl⟩, by simpa using q⟩
end
end L2
namespace L2
open PySem PySem.Spec PyProof.Rows
section
variable {X : Cx}
end
end L2
namespace HT
open PySem PySem.Spec PyProof.Rows
section
variable {prog : Program} {w : World} {A : Around} {E : Value -> Shared -> Prop} {s : Shared}
theorem getItem_tuple_all {t sl : Addr} {items : Array Value} {vl vu : Value} {lo hi : Option Int} {Q : Value -> Shared -> Prop} (ht : IsTup s.heap t items) (hs : s.heap.IsSliceOf sl vl vu .none) (pl : IsPart vl lo) (pu : IsPart vu hi)
  (hw : sIx items.size 0 lo = 0 /\ sIx items.size items.size hi = items.size)
  (h : Q (.ref t) s) : wpAny (model prog w) A (getItem (.ref t) (.ref sl)) Q E s := by
 obtain ⟨os, hos, hcs, hds⟩ := id hs
 have hTs : s.TypeIs (.ref sl) "slice" := ⟨os, hos, hcs⟩
 unfold getItem
 try with_reducible refine wpAny_holding ?_
 first | refine wpAny_bind (wpAny_pure ?_) | skip
 refine wpAny_bind (wpAny_sequenceKey ht.typeIs (by decide) ?_)
 refine wpAny_bind (wpAny_callSpecial?_slot (name := Str.ofString "__getitem__") ht.typeIs PyProof.Rows.slot_tuple_getitem
  (wpAny_call_entry PyProof.Rows.slot_tuple_getitem ht.typeIs entry_tuple_getitem ?_ (args_tuple_getitem _ _)))
 show wpAny _ _ (Builtin.Tuple.tupleItemsOf (.ref t) >>= _) _ _ s
 refine wpAny_bind (tupleItemsOf_ ht ?_)
 refine wpAny_bind (wpAny_typeOf hTs ?_)
 rw [if_pos (by decide)]
 refine wpAny_bind (sliceApplied_gen hs pl pu ?_)
 have hyes : (((sIx items.size 0 lo : Nat) : Int) == 0 && (1 : Int) == 1 && (sIx items.size items.size hi - sIx items.size 0 lo) == items.size) = true := by
  rw [hw.1, hw.2]; simp
 show wpAny _ _ (if (((sIx items.size 0 lo : Nat) : Int) == 0 && (1 : Int) == 1 && (sIx items.size items.size hi - sIx items.size 0 lo) == items.size) = true then _ else _) _ _ s
 rw [if_pos hyes]
 unfold Builtin.Tuple.tupleIsExact
 refine wpAny_bind (wpAny_bind (wpAny_typeOf ht.typeIs (wpAny_pure ?_)))
 rw [if_pos (by decide)]
 refine wpAny_bind (wpAny_rule ?_)
 first
  | exact wpAny_pure ⟨_, rfl, wpAny_pure h⟩
  | exact wpAny_bind (wpAny_pure (wpAny_pure ⟨_, rfl, wpAny_pure h⟩))
  | exact wpAny_bind (wpAny_pure ⟨_, rfl, wpAny_pure h⟩)
end
end HT
namespace L2
open PySem PySem.Spec PyProof.Rows
section
variable {X : Cx}
theorem cutD_all {ds : List PyData} {lo hi : Option Int} (h : HT.sIx ds.length 0 lo = 0 /\ HT.sIx ds.length ds.length hi = ds.length) : cutD ds lo hi = ds := by
 unfold cutD
 rw [h.1, h.2, List.drop_zero, Nat.sub_zero, List.take_of_length_le (Nat.le_refl _)]
end
end L2
namespace L2
open PySem PySem.Spec PyProof.Rows
section
variable {X : Cx}
def Iel (K : PySem.W.Frag) (a : Addr) : It :=
 ⟨fun i H => ∃ xs x, SqL K H a xs /\ xs[i]? = some x,
  fun i H v H' => ∃ T x, H T = none /\ v = .ref T /\ H' = upd H T (.tup [.int i, x]) /\ ∀ xs, SqL K H a xs -> xs[i]? = some x,
  fun i H => ∃ xs, SqL K H a xs /\ xs.length = i⟩
theorem turn_enumL {P : Program} {w : World} {K : PySem.W.Frag} {elts : List Expr} {k : Nat} {pos : Pos} (a e it : Addr) (hei : e ≠ it) :
  Turn P w K (.Tuple elts k pos) (Iel K a) [e, it] e (fun i h => (∃ old, IsEnum h e it i old) /\ h.IsListIter it a i) where
 mem := by simp
 obj := fun i h st b hb => by
  rcases List.mem_cons.mp hb with rfl | hb
  ·obtain ⟨⟨old, he⟩, _⟩ := st
   exact ⟨_, he, fun v z => nomatch z⟩
  ·have q : b = it := by simpa using hb
   subst q
   obtain ⟨_, o, e, c, d⟩ := st
   exact ⟨o, e, fun v z => by rw [d] at z; cases z⟩
 keep := fun i h h' st k => ⟨let ⟨old, he⟩ := st.1; ⟨old, k e (by simp) _ he⟩, st.2.at fun o q => k it (by simp) o q⟩
 item := by
  intro X hP hw hK hc i pins s σ H E I hf st hg
  subst hP hw hK
  obtain ⟨xs, x, hq, hx⟩ := hg
  obtain ⟨its, rv, p, hz⟩ := I.list hq
  obtain ⟨u, hu, ru⟩ := rv.get hx
  obtain ⟨⟨old, he⟩, hit⟩ := id st
  have hae : a ≠ e := by
   intro z; subst z
   obtain ⟨o, ho, hcl, _⟩ := p.isList
   rw [he] at ho; cases ho
   exact absurd hcl (by intro z; injection z with z; exact absurd z (by decide))
  have hai : a ≠ it := by
   intro z; subst z
   obtain ⟨o, ho, hcl, _⟩ := p.isList
   obtain ⟨o', ho', hcl', _⟩ := hit
   rw [ho] at ho'; cases ho'
   rw [hcl] at hcl'
   exact absurd hcl' (by intro z; injection z with z; exact absurd z (by decide))
  have W := WalksT.enumerateD (prog := X.prog) (w := X.w) (A := X.A) (Draws.list (A := X.A.in1) (I.ok.hd hc) it a hai its.toArray) e hei (by simp [hei, Ne.symm hae]) (by simp)
  refine W.item i s _ _ (by rw [List.size_toArray]; exact (List.getElem?_eq_some_iff.mp hu).1) ⟨⟨old, he⟩, hit, p.isList⟩ fun T vals h' tk hv hT ht hm kk => ?_
  have apart := W.apart i T h' hm
  refine ⟨_, rfl, W.go elts k pos i T _ _ _ hm fun h'' st'' kk'' => ?_⟩
  obtain ⟨t, x', hx', rfl⟩ := hv
  have hxu : x' = u := by
   have : its[i]? = some x' := by simpa using hx'
   rw [hu] at this; exact (Option.some.inj this).symm
  subst hxu
  have I1 : Inv X pins σ H { s with heap := h', toks := tk } := I.turnedL kk hf
  have I2 : Inv X pins σ H { s with heap := h'', toks := tk } := I1.turnedL (s := { s with heap := h', toks := tk }) (t' := tk) kk'' hf
  have fT : FpOk X pins H T := I.fpOk hT (I.hok.fresh hT)
  have ht'' : IsTup h'' T #[.int i t, x'] := let ⟨o, ho, r⟩ := ht; ⟨o, kk'' T o apart ho, r⟩
  refine ⟨.ref T, upd H T (.tup [.int i, x]), I2.track fT ⟨by show 2 <= sizeLine; decide, [.int i t, x'], .cons ⟨t, rfl⟩ (.cons ru .nil), ht''⟩, rfl, ⟨T, x, fT.1, rfl, rfl, fun ys hy => by rw [I.list_inj hy hq]; exact hx⟩, ⟨st''.1, st''.2.1⟩, fun b hb => ?_⟩
  have hb' : b ≠ T := by
   rcases List.mem_cons.mp hb with rfl | hb
   ·exact Nat.ne_of_lt (Nat.lt_of_lt_of_le (Heap.lt_size he) hT)
   ·have q : b = it := by simpa using hb
    subst q
    obtain ⟨o, ho, _⟩ := hit
    exact Nat.ne_of_lt (Nat.lt_of_lt_of_le (Heap.lt_size ho) hT)
  rw [upd_ne hb']
  exact (hf b hb).1
 done := by
  intro X hP hw hK hc i pins s σ H E I hf st hg
  subst hP hw hK
  obtain ⟨xs, hq, hl⟩ := hg
  obtain ⟨its, rv, p, hz⟩ := I.list hq
  obtain ⟨⟨old, he⟩, hit⟩ := id st
  have hae : a ≠ e := by
   intro z; subst z
   obtain ⟨o, ho, hcl, _⟩ := p.isList
   rw [he] at ho; cases ho
   exact absurd hcl (by intro z; injection z with z; exact absurd z (by decide))
  have hai : a ≠ it := by
   intro z; subst z
   obtain ⟨o, ho, hcl, _⟩ := p.isList
   obtain ⟨o', ho', hcl', _⟩ := hit
   rw [ho] at ho'; cases ho'
   rw [hcl] at hcl'
   exact absurd hcl' (by intro z; injection z with z; exact absurd z (by decide))
  have W := WalksT.enumerateD (prog := X.prog) (w := X.w) (A := X.A) (Draws.list (A := X.A.in1) (I.ok.hd hc) it a hai its.toArray) e hei (by simp [hei, Ne.symm hae]) (by simp)
  have hn : its.toArray.size = i := by rw [List.size_toArray, <- rv.length]; exact hl
  subst hn
  exact W.done s _ _ ⟨⟨old, he⟩, hit, p.isList⟩ fun h' tk kk => ⟨rfl, I.turnedL kk hf⟩
 self := fun A i s Q E st h => let ⟨⟨_, he⟩, _⟩ := st; wpAny_pyIter_enum he h
end
end L2
namespace PySem
open Sem (wp)
open AutoSeq1 (wpAny_loadPart')
set_option maxRecDepth 100000
section
variable {prog : Program} {w : World} {K : Type} [DecidableEq K]
end
end PySem
namespace L2
open PySem PySem.Spec PyProof.Rows
section
variable {X : Cx}
theorem str_ext {a b : Str} (h : a.cps.toList = b.cps.toList) : a = b := PySem.Str.ext' (by simpa using congrArg List.toArray h)
end
end L2
namespace L2
open PySem PySem.Spec PyProof.Rows
section
variable {X : Cx} {K : PySem.W.Frag}
variable {o e : Expr} {es : List Expr} {to : TE} {t : TA} {name : Str} {apos cpos : Pos} {T id : String} {r : V -> List V -> Hp -> VK -> Prop}
theorem mt_join_h : MtR X "str.join" (fun x xs H Q => ∃ z p ys, x = .str z /\ xs = [.ref p] /\ H p = some (.lst (ys.map V.str)) /\ (ys.map (·.length)).sum + ys.length * z.length <= 16777216 /\ Q (.str (Txt.join z ys)) H) := by
 intro pins s σ H x xs v us Q I rx r h
 obtain ⟨z, p, ys, e1, e2, hp, hz, q⟩ := h
 exact mt_join pins s σ H x xs v us Q I rx r ⟨z, p, ys, e1, e2, SqL.of hp, hz, q⟩
end
end L2
namespace L2
open PySem PySem.Spec PyProof.Rows
def Cal (P : Program) (w : World) (K : PySem.W.Frag) (mg : Str -> Option Value) (base : Heap) (n : Nat) (x : Str) (ps : List Str) (sp : Sp) : Prop :=
 ∃ g gd, FnOk P w K mg base CX0 n g gd ps sp /\ Binds K gd ps [] /\ PySem.W.keepIn K (.ref g) = true /\ mg x = some (.ref g)
theorem Cal.mono {P : Program} {w : World} {K : PySem.W.Frag} {mg : Str -> Option Value} {base : Heap} {n m : Nat} {x : Str} {ps : List Str} {sp : Sp} (c : Cal P w K mg base n x ps sp) (h : n <= m) : Cal P w K mg base m x ps sp :=
 let ⟨g, gd, G, r⟩ := c; ⟨g, gd, G.mono h, r⟩
theorem okB_ints {ws : List Int} {n : Nat} (h : ∀ y ∈ ws, -1000000000 <= y /\ y <= 1000000000) (hn : ws.length <= n) : OkBs 0 (n * 41) (ws.map .int) :=
 OkBs.all (w := 40) (fun d hd => by obtain ⟨y, hy, rfl⟩ := List.mem_map.mp hd; exact okB_int (h y hy).1 (h y hy).2) (by rw [List.length_map]; exact hn)
end L2
namespace L2
open PySem PySem.Spec PySem.Calls PyProof.Rows
section
variable {prog : Program} {w : World} {A : Around} {E : Value -> Shared -> Prop} {s : Shared} {K : PySem.W.Frag} {x C : Addr} {ox : Obj} {od : Option Obj} {name : Str}
theorem xga_call {tk : Tok} {R : Result -> Shared -> Prop} (X : K.In s.heap) (I : PySem.W.InstAt s.heap x ox C od) (hm : PySem.W.mroIn K C (.type "BaseException") = some true)
  (h : wpAny (model prog w) A.in1 (Builtin.«object.__getattribute__» ⟨[.ref x, .str name tk], []⟩)
   (fun fin s' => match fin with | .done f => R (.ok f) s' | .again c' => c'.quiet = true /\ codeAny (model prog w) A c' R s') (fun e s' => R (.error e) s') s) :
  codeAny (model prog w) A (.call (.builtin "BaseException.__getattribute__") ⟨[.ref x, .str name tk], []⟩) R s := by
 have hk : builtinKind "BaseException.__getattribute__" = some .slot := by decide +kernel
 have hs : splitId "BaseException.__getattribute__" = some ("BaseException", "__getattribute__") := by decide +kernel
 have sub : PySem.W.Looks (model prog w) s.heap (isInstance (.ref x) (.type "BaseException")) true := I.type.andThen (PySem.W.looks_mroIn X hm)
 exact codeAny_call_builtin F.excAttr_ValueError.ga.plain F.entry_bexc_ga (@PySem.W.check_slot (model prog w) _ _ s "BaseException.__getattribute__" "BaseException" "__getattribute__" (.ref x) [.str name tk] [] _ hk hs sub (F.args_bexc_ga _ _) h)
theorem xga_bind {tk : Tok} {g a : Value} {R : Result -> Shared -> Prop} (X : K.In s.heap) (I : PySem.W.InstAt s.heap x ox C od) (hm : PySem.W.mroIn K C (.type "BaseException") = some true)
  (hf : PySem.W.findObj K C od name = some (.bind g a)) (h : wpAny (model prog w) A.in1 (call g [a, .ref x, .ref C]) (fun v s' => R (.ok (.ret v)) s') (fun e s' => R (.error e) s') s) :
  codeAny (model prog w) A (.call (.builtin "BaseException.__getattribute__") ⟨[.ref x, .str name tk], []⟩) R s := by
 refine xga_call X I hm ?_
 obtain ⟨hh, gg, d, t, os⟩ := s
 have L0 := I.type (M := model prog w)
 have L1 := PySem.W.looks_find (M := model prog w) X I hf
 refine wpAny_bind (wpAny_pure (wpAny_bind (wpAny_pure (wpAny_bind (L0.at (wpAny_bind (L1.at ?_)))))))
 show wpAny _ _ (holding [a] (call g [a, .ref x, .ref C]) >>= ret) _ _ _
 exact wpAny_bind (wpAny_holding (wpAny_mono h (fun v s' z => wpAny_pure z) fun _ _ z => z))
theorem xget_by {tk : Tok} {fill expr : Bool} {Q : Value -> Shared -> Prop} (X : K.In s.heap) (I : PySem.W.InstAt s.heap x ox C od)
  (hga : PySem.W.findIn K (.ref C) "__getattribute__" = some (some (.builtin "BaseException.__getattribute__"))) (hgn : PySem.W.findIn K (.ref C) "__getattr__" = some none)
  (h : codeAny (model prog w) A (.call (.builtin "BaseException.__getattribute__") ⟨[.ref x, .str name tk], []⟩) (fun r s' => match r with | .ok (.ret v) => wpAny (model prog w) A (handedOut v) Q E s' | _ => False) s) :
  wpAny (model prog w) A (getAttrBy (.ref x) (.str name tk) fill expr) Q E s := by
 obtain ⟨hh, g, d, t, os⟩ := s
 have L0 := I.type (M := model prog w)
 have L1 := PySem.W.looks_findIn (M := model prog w) X hga
 have L2 := PySem.W.looks_findIn (M := model prog w) X hgn
 have f3 := F.excAttr_ValueError.ga.bind (.ref x)
 have hx2 : (Value.builtin "BaseException.__getattribute__" == Value.builtin "object.__getattribute__") = false := by decide +kernel
 unfold getAttrBy
 refine wpAny_holding (wpAny_bind (L0.at (wpAny_bind (L1.at ?_))))
 show wpAny _ _ (if (onTheHeap (Value.ref C) && Value.builtin "BaseException.__getattribute__" == Value.builtin "object.__getattribute__") = true then _ else _) _ _ _
 rw [hx2, Bool.and_false, if_neg Bool.false_ne_true]
 unfold getAttrByItsOwn
 refine wpAny_bind (L2.at (wpAny_bind (wpAny_attempt (wpAny_holding ?_))))
 unfold callGetattribute boundAndCalled
 rw [show (expr && onTheHeap (Value.builtin "BaseException.__getattribute__")) = false by cases expr <;> rfl, if_neg Bool.false_ne_true, f3]
 refine wpAny_bind (wpAny_pure (wpAny_call (codeAny_mono h fun r s' z => ?_)))
 rcases r with e | (v | _ | _ | _) <;> first | exact z | exact z.elim
end
end L2
namespace L2
open PySem PySem.Spec PySem.Calls PyProof.Rows
abbrev bmV : List Value := [.type "ValueError", .type "Exception", .type "BaseException", .type "object"]
def xcAt (K : PySem.W.Frag) (C : Addr) (cd : ClassData) (sl : Array (Option Value)) : Bool := cd.mro.head? == some (.ref C) && !cd.hasDel && PySem.W.tailIn K bmV cd.mro.tail && sl.size == 6 && sl[4]? == some (some (.builtin "ValueError.__new__"))
def xcIn (K : PySem.W.Frag) (C : Addr) : Bool := match K.lookup C with
 | some o => o.cls == .type "type" && (match o.data with
  | .cls cd => xcAt K C cd o.slots
  | _ => false)
 | none => false
theorem six_at {sl : Array (Option Value)} {v : Option Value} (h : sl.size = 6) (e : sl[4]? = some v) : ∃ k0 k1 k2 k3 k5, sl = #[k0, k1, k2, k3, v, k5] := by
 obtain ⟨l⟩ := sl
 match l, h with
 | [k0, k1, k2, k3, k4, k5], _ =>
  have : k4 = v := by simpa using e
  subst this
  exact ⟨k0, k1, k2, k3, k5, rfl⟩
theorem xc_of {K : PySem.W.Frag} {h : Heap} {C : Addr} (X : K.In h) (q : xcIn K C = true) : ∃ nm qn N bs bm hdct sn sub ab col dd k0 k1 k2 k3 k5,
  h.get? C = some (excClassObj nm qn C N bs bm hdct sn sub ab col dd k0 k1 k2 k3 k5 "ValueError.__new__") /\ OwnTail h bmV bm := by
 unfold xcIn at q
 cases ho : K.lookup C with
 | none => rw [ho] at q; cases q
 | some o =>
  rw [ho] at q
  obtain ⟨oc, dd, od, sl⟩ := o
  dsimp only at q
  rw [Bool.and_eq_true, beq_iff_eq] at q
  obtain ⟨q0, q⟩ := q
  cases od with
  | cls cd =>
   unfold xcAt at q
   simp only [Bool.and_eq_true, beq_iff_eq, Bool.not_eq_true'] at q
   obtain ⟨⟨⟨⟨q1, q2⟩, q3⟩, q4⟩, q5⟩ := q
   obtain ⟨k0, k1, k2, k3, k5, rfl⟩ := six_at q4 q5
   obtain ⟨nm, bs, mro, ns, qn, hd, sn, sub, ab, col, del⟩ := cd
   dsimp only at q1 q2 q3
   subst q0 q2
   cases mro with
   | nil => cases q1
   | cons m bm =>
    cases q1
    exact ⟨nm, qn, ns, bs, bm, hd, sn, sub, ab, col, dd, k0, k1, k2, k3, k5, X _ _ ho, PySem.W.tail_of_in X q3⟩
  | _ => cases q
def excObj (C t : Addr) (d : Option Addr) : Obj := { cls := .ref C, dict := d, data := .fields #[.ref t, .none, .none, .none, .bool false, .none] }
def excHeap (h : Heap) (C : Addr) (rest : List Value) : Heap := (h.push { cls := .type "tuple", data := .seq rest.toArray }).push (excObj C h.objs.size none)
section
variable {prog : Program} {w : World} {A : Around} {E : Value -> Shared -> Prop} {h : Heap} {g : Array GenState} {d : Drawn} {t : Nat} {os : OsState} {K : PySem.W.Frag} {C : Addr}
theorem xtype_call {rest : List Value} {fI : Addr} {Q : Fin -> Shared -> Prop} (X : K.In h) (q : xcIn K C = true) (hi : PySem.W.findIn K (.ref C) "__init__" = some (some (.ref fI))) (hf : PySem.W.typeIn K (.ref fI) = some (.type "function"))
  (hq : wpAny (model prog w) A (call (.ref fI) (.ref (h.objs.size + 1) :: rest)) (fun r s' => r = .none /\ Q (.done (.ret (.ref (h.objs.size + 1)))) s') E ⟨excHeap h C rest, g, d, t, os⟩) (hrest : rest.length <= sizeLine) :
  wpAny (model prog w) A (Builtin.«type.__call__» ⟨.ref C :: rest, []⟩) Q E ⟨h, g, d, t, os⟩ := by
 obtain ⟨nm, qn, N, bs, bm, hdct, sn, sub, ab, col, dd, k0, k1, k2, k3, k5, hC, T⟩ := xc_of X q
 have Fn := F.excBase_ValueError
 repeat (first | with_reducible refine wpAny_loadPart_at hC ?_ | with_reducible refine wpAny_madeBy_exc hC ?_ | wp_step)
 refine codeAny_call_builtin_code (Code.quiet_builtin _ Fn.quiet) (wpAny_check_new_subU (bmB := bmV) Fn (by decide +kernel) T hC ?_)
 refine codeAny_exc_new_subU (bmB := bmV) Fn (by decide +kernel) Fn T hC ?_ hrest
 show wpAny _ _ _ _ _ ⟨excHeap h C rest, g, d, t, os⟩
 have kk : ∀ b o, h.get? b = some o -> (excHeap h C rest).get? b = some o := fun b o e => Heap.get?_push_of_some _ (Heap.get?_push_of_some _ e)
 have hC₁ := kk _ _ hC
 have hget : (excHeap h C rest).get? (h.objs.size + 1) = some (excObj C h.objs.size none) := by
  unfold excHeap
  exact Heap.get?_push_at (by simp only [Heap.size_push]) rfl
 have hcC : (Value.ref C :: bm).contains (.ref C) = true := by simp
 have X₁ : K.In (excHeap h C rest) := fun b o e => kk b o (X b o e)
 have L1 := PySem.W.looks_findIn (M := model prog w) X₁ hi
 have L2 := PySem.W.bind_fn (M := model prog w) X₁ (.ref (h.objs.size + 1)) hf
 generalize excHeap h C rest = h₁ at hC₁ hget L1 L2 hq ⊢
 unfold isInstance
 have hcl : (excObj C h.objs.size none).cls = .ref C := rfl
 repeat (first | (with_reducible refine wpAny_loadPart_at hget ?_; rw [hcl]) | (with_reducible refine wpAny_isSubtype_exc hC₁ ?_; rw [hcC]) | wp_step)
 show wpAny _ _ (typeLookup (.ref C) _) _ _ _
 refine L1.at ?_
 refine wpAny_holding (wpAny_bind (L2.at ?_))
 refine wpAny_bind (wpAny_mono hq (fun r s' hr => ?_) fun _ _ x => x)
 obtain ⟨rfl, hQ⟩ := hr
 wp_walk
 exact hQ
theorem xmake {rest : List Value} {fI : Addr} {Q : Value -> Shared -> Prop} (X : K.In h) (q : xcIn K C = true) (hi : PySem.W.findIn K (.ref C) "__init__" = some (some (.ref fI))) (hf : PySem.W.typeIn K (.ref fI) = some (.type "function"))
  (hq : wpAny (model prog w) (A.under (.builtin "type.__call__" ⟨.ref C :: rest, []⟩)) (call (.ref fI) (.ref (h.objs.size + 1) :: rest)) (fun r s' => r = .none /\ Q (.ref (h.objs.size + 1)) s') E ⟨excHeap h C rest, g, d, t, os⟩) (hrest : rest.length <= sizeLine) :
  wpAny (model prog w) A (call (.ref C) rest) Q E ⟨h, g, d, t, os⟩ := by
 obtain ⟨nm, qn, N, bs, bm, hdct, sn, sub, ab, col, dd, k0, k1, k2, k3, k5, hC, T⟩ := xc_of X q
 have f1 := tc_lookup
 have f2 := tc_bind (.ref C)
 have hT : (⟨h, g, d, t, os⟩ : Shared).TypeIs (.ref C) "type" := ⟨_, hC, rfl⟩
 refine wpAny_call (codeAny_of_tree ?_)
 show wpAny _ _ (callAny (.ref C) _) _ _ _
 repeat (any_goals (first | assumption | with_reducible refine wpAny_loadPart_at hC ?_ | wp_step))
 refine ⟨rfl, ?_⟩
 exact codeAny_call_builtin_at (Code.quiet_builtin _ (by decide +kernel)) entry_typeCall (wpAny_check_type_call_sub hC (xtype_call X q hi hf hq hrest))
theorem xtype_call0 {rest : List Value} {Q : Fin -> Shared -> Prop} (X : K.In h) (q : xcIn K C = true) (hi : PySem.W.findIn K (.ref C) "__init__" = some (some (.builtin "ValueError.__init__")))
  (hq : ∀ h', (∀ b o, h.get? b = some o -> h'.get? b = some o) -> h'.get? (h.objs.size + 1) = some (excObj C (h.objs.size + 2) none) -> Q (.done (.ret (.ref (h.objs.size + 1)))) ⟨h', g, d, t, os⟩) (hrest : rest.length <= sizeLine) :
  wpAny (model prog w) A (Builtin.«type.__call__» ⟨.ref C :: rest, []⟩) Q E ⟨h, g, d, t, os⟩ := by
 obtain ⟨nm, qn, N, bs, bm, hdct, sn, sub, ab, col, dd, k0, k1, k2, k3, k5, hC, T⟩ := xc_of X q
 have Fn := F.excBase_ValueError
 repeat (first | with_reducible refine wpAny_loadPart_at hC ?_ | with_reducible refine wpAny_madeBy_exc hC ?_ | wp_step)
 refine codeAny_call_builtin_code (Code.quiet_builtin _ Fn.quiet) (wpAny_check_new_subU (bmB := bmV) Fn (by decide +kernel) T hC ?_)
 refine codeAny_exc_new_subU (bmB := bmV) Fn (by decide +kernel) Fn T hC ?_ hrest
 show wpAny _ _ _ _ _ ⟨excHeap h C rest, g, d, t, os⟩
 have kk : ∀ b o, h.get? b = some o -> (excHeap h C rest).get? b = some o := fun b o e => Heap.get?_push_of_some _ (Heap.get?_push_of_some _ e)
 have hC₁ := kk _ _ hC
 have hget : (excHeap h C rest).get? (h.objs.size + 1) = some (excObj C h.objs.size none) := by
  unfold excHeap
  exact Heap.get?_push_at (by simp only [Heap.size_push]) rfl
 have hsz : (excHeap h C rest).objs.size = h.objs.size + 2 := by unfold excHeap; simp only [Heap.size_push]
 have hcC : (Value.ref C :: bm).contains (.ref C) = true := by simp
 have X₁ : K.In (excHeap h C rest) := fun b o e => kk b o (X b o e)
 have T₁ := T.keeps kk
 have L1 := PySem.W.looks_findIn (M := model prog w) X₁ hi
 generalize excHeap h C rest = h₁ at hC₁ hget L1 T₁ kk hsz ⊢
 unfold isInstance
 have hcl : (excObj C h.objs.size none).cls = .ref C := rfl
 repeat (first | (with_reducible refine wpAny_loadPart_at hget ?_; rw [hcl]) | (with_reducible refine wpAny_isSubtype_exc hC₁ ?_; rw [hcC]) | wp_step)
 show wpAny _ _ (typeLookup (.ref C) _) _ _ _
 refine L1.at ?_
 refine wpAny_holding (wpAny_bind (wpAny_of_eq (Fn.init.bind _) ?_))
 refine wpAny_bind (wpAny_call (codeAny_call_builtin Fn.init.plain Fn.initEntry (wpAny_check_init_subU (bmB := bmV) Fn T₁ hC₁ hget rfl ?_)))
 have hget' : h₁.get? (h.objs.size + 1) = some { cls := .ref C, data := .fields #[.ref h.objs.size, .none, .none, .none, .bool false, .none] } := hget
 wp_walk
 refine hq _ (fun b o hb => ?_) ?_
 ·have hne : b ≠ h.objs.size + 1 := Nat.ne_of_lt (Nat.lt_succ_of_lt (Heap.lt_size hb))
  rw [Heap.get?_update_other _ _ (Ne.symm hne)]
  exact Heap.get?_push_of_some _ (kk _ _ hb)
 ·rw [Heap.get?_update_self _ (Heap.get?_push_of_some _ hget') rfl, hsz]
  rfl
theorem xmake0 {Q : Value -> Shared -> Prop} {rest : List Value} (X : K.In h) (q : xcIn K C = true) (hi : PySem.W.findIn K (.ref C) "__init__" = some (some (.builtin "ValueError.__init__")))
  (hq : ∀ h', (∀ b o, h.get? b = some o -> h'.get? b = some o) -> h'.get? (h.objs.size + 1) = some (excObj C (h.objs.size + 2) none) -> Q (.ref (h.objs.size + 1)) ⟨h', g, d, t, os⟩) (hrest : rest.length <= sizeLine) :
  wpAny (model prog w) A (call (.ref C) rest) Q E ⟨h, g, d, t, os⟩ := by
 obtain ⟨nm, qn, N, bs, bm, hdct, sn, sub, ab, col, dd, k0, k1, k2, k3, k5, hC, T⟩ := xc_of X q
 have f1 := tc_lookup
 have f2 := tc_bind (.ref C)
 have hT : (⟨h, g, d, t, os⟩ : Shared).TypeIs (.ref C) "type" := ⟨_, hC, rfl⟩
 refine wpAny_call (codeAny_of_tree ?_)
 show wpAny _ _ (callAny (.ref C) _) _ _ _
 repeat (any_goals (first | assumption | with_reducible refine wpAny_loadPart_at hC ?_ | wp_step))
 refine ⟨rfl, ?_⟩
 exact codeAny_call_builtin_at (Code.quiet_builtin _ (by decide +kernel)) entry_typeCall (wpAny_check_type_call_sub hC (xtype_call0 X q hi hq hrest))
end
def isRf : Value -> Bool
 | .ref _ => true
 | _ => false
theorem refuse_drop (self : Value) (what : Str) : ∀ l : List Value, refuseLoop self what l = refuseLoop self what (l.dropWhile isRf)
 | [] => rfl
 | v :: r => by
  cases v with
  | ref c =>
   rw [refuseLoop_ref, refuse_drop self what r]
   rfl
  | _ => rfl
def veOver (K : PySem.W.Frag) (C : Addr) : Bool := (PySem.W.clsIn K C).any fun cd => cd.mro.dropWhile isRf == bmV && !cd.mro.isEmpty && cd.mro.contains (.type "object")
section
open Builtin Builtin.ObjectAttr
variable {prog : Program} {w : World} {A : Around} {E : Value -> Shared -> Prop} {s : Shared} {K : PySem.W.Frag} {x C : Addr} {ox : Obj} {od : Option Obj} {name : Str} {v : Value} {R : Result -> Shared -> Prop}
theorem xset_open {tk : Tok} (X : K.In s.heap) (I : PySem.W.InstAt s.heap x ox C od) (hp : veOver K C = true) (ha : PySem.W.findIn K (.ref C) name = some none)
  (h : wpAny (model prog w) A.in1 (storeInOwnDict (.ref x) (.ref C) (.str name tk) name v false)
   (fun fin s' => match fin with | .done f => R (.ok f) s' | .again c' => c'.quiet = true /\ codeAny (model prog w) A c' R s') (fun e s' => R (.error e) s') s) :
  codeAny (model prog w) A (.call (.builtin "object.__setattr__") ⟨[.ref x, .str name tk, v], []⟩) R s := by
 have SF := PySem.F.store_object
 obtain ⟨cd, hc, ho⟩ := PySem.W.any_some hp
 simp only [Bool.and_eq_true, beq_iff_eq, Bool.not_eq_true'] at ho
 obtain ⟨⟨h1, ne⟩, h3⟩ := ho
 have sub : PySem.W.Looks (model prog w) s.heap (isInstance (.ref x) (.type "object")) true := I.type.andThen (PySem.W.looks_mroIn X (by unfold PySem.W.mroIn; rw [hc, Option.bind_some, if_neg (by rw [ne]; decide), h3]))
 refine codeAny_call_builtin SF.slot.plain SF.entry (@PySem.W.check_slot (model prog w) _ _ s "object.__setattr__" "object" "__setattr__" (.ref x) [.str name tk, v] [] _ SF.kind SF.split sub (SF.args (.ref x) (.str name tk) v) ?_)
 have hm : PySem.W.Looks (model prog w) s.heap (mroOf (.ref C)) cd.mro := (PySem.W.looks_clsIn X hc).andThen .now
 rw [PySem.W.osa_eq, refuse_eq]
 refine wpAny_bind (wpAny_bind (I.type.here (wpAny_bind (hm.here ?_))))
 rw [refuse_drop, h1, F.store_ValueError.passes]
 refine wpAny_pure (wpAny_bind (I.type.here (wpAny_bind ((PySem.W.looks_findIn X ha).here (wpAny_bind (wpAny_pure ?_))))))
 exact h
end
end L2
namespace L2
open PySem PySem.Spec PySem.Calls PyProof.Rows
def XO (e C t : Addr) (d : Option Addr) : HO := .ext fun h => h.get? e = some (excObj C t d)
def XD (dx : Addr) (fs : List (Str × V)) : HO := .ext fun h => ∃ mA, h.Ns1 dx mA /\ (∀ f, RelO (fs.lookup f) (mA f)) /\ PySem.Within mA (fs.map (·.1))
section
variable {P : Program} {w : World} {H : Hp} {h : Heap} {e C t dx : Addr} {d : Option Addr} {fs : List (Str × V)}
theorem xo_ok (hx : h.get? e = some (excObj C t d)) : ObjOk P w H h e (XO e C t d) := ⟨hx, ⟨_, hx⟩, fun _ _ p k => k _ p⟩
theorem xo_get (ok : HOk P w H h) (q : H e = some (XO e C t d)) : h.get? e = some (excObj C t d) := (show ObjOk P w H h e (XO e C t d) from ok e _ q).1
theorem xd_ok {mA : Str -> Option Value} (n : h.Ns1 dx mA) (r : ∀ f, RelO (fs.lookup f) (mA f)) (wi : PySem.Within mA (fs.map (·.1))) : ObjOk P w H h dx (XD dx fs) :=
 ⟨⟨mA, n, r, wi⟩, (let ⟨o, _, _, q, _⟩ := n; ⟨o, q⟩), fun _ _ ⟨mB, n, r⟩ k => ⟨mB, n.at k, r⟩⟩
theorem xd_get (ok : HOk P w H h) (q : H dx = some (XD dx fs)) : ∃ mA, h.Ns1 dx mA /\ (∀ f, RelO (fs.lookup f) (mA f)) /\ PySem.Within mA (fs.map (·.1)) := (show ObjOk P w H h dx (XD dx fs) from ok dx _ q).1
theorem xo_inst (hx : h.get? e = some (excObj C t none)) : PySem.W.InstAt h e (excObj C t none) C none := ⟨hx, rfl, rfl, trivial⟩
theorem xo_instD {mA : Str -> Option Value} (hx : h.get? e = some (excObj C t (some dx))) (n : h.Ns1 dx mA) : ∃ od, PySem.W.InstAt h e (excObj C t (some dx)) C (some od) /\ ∀ name, PySem.W.lookIn name od = some (mA name) :=
 let ⟨od, ho, hl⟩ := lookIn_ns n
 ⟨od, ⟨hx, rfl, rfl, ho⟩, hl⟩
end
structure XCls (K : PySem.W.Frag) (C : Addr) : Prop where
 ga : PySem.W.findIn K (.ref C) "__getattribute__" = some (some (.builtin "BaseException.__getattribute__"))
 gn : PySem.W.findIn K (.ref C) "__getattr__" = some none
 sa : PySem.W.findIn K (.ref C) "__setattr__" = some (some (.builtin "object.__setattr__"))
 hd : PySem.W.hasDictIn K C = true
 mb : PySem.W.mroIn K C (.type "BaseException") = some true
 mo : PySem.W.mroIn K C (.type "object") = some true
 ve : veOver K C = true
section
variable {X : Cx} {pins : List (Addr × Obj)} {σ : St} {H : Hp} {s : Shared} {e C t dx : Addr} {fs : List (Str × V)} {f : Str} {v : V} {A : Around} {E : Value -> Shared -> Prop}
theorem upd3 {H : Hp} {a b : Addr} {o1 o2 o3 : HO} : upd (upd (upd H a o1) b o2) a o3 = upd (upd H b o2) a o3 := by
 funext c
 unfold upd
 by_cases h : c = a
 ·rw [if_pos h, if_pos h]
 ·rw [if_neg h, if_neg h, if_neg h]
theorem xset1 {y : V} {u : Value} {Q : Unit -> Shared -> Prop} (I : Inv X pins σ H s) (he : H e = some (XO e C t none)) (c : XCls X.K C) (n : NoAttr X.K C f) (ry : RelV y u)
  (h : ∀ dx s', H dx = none -> dx ≠ e -> Inv X pins σ (upd (upd H e (XO e C t (some dx))) dx (XD dx [(f, y)])) s' -> Q () s') : wpAny (model X.prog X.w) A (setAttr (.ref e) f u) Q E s := by
 have hx := xo_get I.hok he
 have J := xo_inst hx
 refine PySem.W.set_plain I.kIn J c.sa (xset_open (s := { s with toks := s.toks + 1 }) I.kIn J c.ve n ?_)
 obtain ⟨cd, hc, hd'⟩ := PySem.W.any_some c.hd
 have hx' : s.heap.get? e = some ⟨.ref C, none, .fields #[.ref t, .none, .none, .none, .bool false, .none], #[]⟩ := hx
 refine wpAny_bind (wpAny_pure (wpAny_bind (wpAny_bind (wpAny_loadPart hx' (wpAny_bind (PySem.W.Looks.here (s := { s with toks := s.toks + 1 }) (PySem.W.looks_clsIn I.kIn hc) ?_))))))
 rw [hd']
 have hx1 : (s.heap.push { cls := .type "dict", data := .dict #[] }).get? e = some (excObj C t none) := Heap.get?_push_of_some _ hx
 have hes : e ≠ s.heap.objs.size := Nat.ne_of_lt (Heap.lt_size hx)
 show wpAny _ _ (if (!true || !typeHasDict (Value.ref C)) = true then _ else _) _ _ _
 rw [if_neg (by simp [typeHasDict])]
 refine wpAny_bind (wpAny_alloc' ?_)
 refine wpAny_bind (wpAny_update' hx1 ?_)
 refine wpAny_pure ?_
 have hx2 : ((s.heap.push { cls := .type "dict", data := .dict #[] }).update e fun o => { cls := o.cls, dict := some s.heap.objs.size, data := o.data, slots := o.slots }).get? e = some (excObj C t (some s.heap.objs.size)) := Heap.get?_update_self _ hx1 rfl
 have hgd : ((s.heap.push { cls := .type "dict", data := .dict #[] }).update e fun o => { cls := o.cls, dict := some s.heap.objs.size, data := o.data, slots := o.slots }).get? s.heap.objs.size
   = some { cls := .type "dict", data := .dict #[] } := (Heap.get?_update_ne _ _ _ _ hes.symm).trans (Heap.get?_push_at rfl rfl)
 have hnd : ((s.heap.push { cls := .type "dict", data := .dict #[] }).update e fun o => { cls := o.cls, dict := some s.heap.objs.size, data := o.data, slots := o.slots }).Ns s.heap.objs.size (fun _ => none) :=
  ⟨_, #[], _, hgd, rfl, fun e he => absurd he (by simp), fun _ => rfl⟩
 have hkeep : ∀ b o, b ≠ e -> (s.heap.push { cls := .type "dict", data := .dict #[] }).get? b = some o -> ((s.heap.push { cls := .type "dict", data := .dict #[] }).update e fun o => { cls := o.cls, dict := some s.heap.objs.size, data := o.data, slots := o.slots }).get? b = some o :=
  fun b o hb q => (Heap.get?_update_ne _ _ _ _ hb).trans q
 have hn0 : (s.heap.push { cls := .type "dict", data := .dict #[] }).Ns s.heap.objs.size (fun _ => none) := ⟨_, #[], _, Heap.get?_push_at rfl rfl, rfl, fun e he => absurd he (by simp), fun _ => rfl⟩
 have fr := I.hok.fresh (Nat.le_refl s.heap.objs.size)
 have I1 := I.laid (a := s.heap.objs.size) (o := XD s.heap.objs.size []) (h' := s.heap.push { cls := .type "dict", data := .dict #[] }) (t' := s.toks) (fun b u q => Heap.get?_push_of_some _ q) (Nat.le_refl _) (xd_ok (Heap.Ns1.of_empty hn0) (fun _ => True.intro) fun y hy => absurd rfl hy)
 generalize hH2 : (s.heap.push { cls := .type "dict", data := .dict #[] }).update e (fun o => { cls := o.cls, dict := some s.heap.objs.size, data := o.data, slots := o.slots }) = h2 at hx2 hgd hnd hkeep ⊢
 have I2 := I1.write (x := e) (e := e) (o := XO e C t (some s.heap.objs.size)) (h' := h2) (t' := s.toks) (by rw [upd_ne hes, he]; exact True.intro) (.inl rfl) hkeep ⟨_, hx2⟩ (xo_ok hx2)
 show wpAny _ _ (Builtin.ObjectAttr.storeInDict s.heap.objs.size (.str f s.toks) f u) _ _ _
 unfold Builtin.ObjectAttr.storeInDict Builtin.ObjectAttr.newKeyGuard
 refine wpAny_bind (wpAny_pure (wpAny_bind (wpAny_nsSet1 (Heap.Ns1.of_empty hnd) fun h' hn' hs => ?_)))
 obtain ⟨oD, esD, epD, hoD, hdD, hcD⟩ := hn'.count (PySem.Within.cons f u PySem.Within.nil)
 refine wpAny_bind (wpAny_lookBehind hoD (by rw [hdD]; exact pastItsLine_dict (Nat.le_trans hcD (by rw [List.length_cons, List.length_nil, sizeLine_eq]; omega))) ?_)
 refine wpAny_pure ?_
 refine h s.heap.objs.size _ fr hes.symm ?_
 rw [<- upd3 (o1 := XD s.heap.objs.size [])]
 refine I2.write (x := s.heap.objs.size) (e := s.heap.objs.size) (by rw [upd_ne hes.symm, upd_same]; exact True.intro) (.inl rfl) (fun b o hb q => (hs.2 b hb).trans q) ⟨_, hoD⟩ (xd_ok hn' (fun g => ?_) fun g hg => ?_)
 ·show RelO (List.lookup g [(f, y)]) (if g = f then some u else none)
  by_cases q : g = f
  ·rw [if_pos q, q]
   show RelO (List.lookup f [(f, y)]) (some u)
   have hb : (f == f) = true := beq_iff_eq.mpr rfl
   simp only [List.lookup, hb]
   exact ry
  ·rw [if_neg q]
   have hb : (g == f) = false := beq_eq_false_iff_ne.mpr q
   simp only [List.lookup, hb]
   exact True.intro
 ·by_cases q : g = f
  ·rw [q]; exact List.mem_cons_self
  ·exact absurd (show (if g = f then some u else none) = none by rw [if_neg q]) hg
theorem xset2 {y : V} {u : Value} {Q : Unit -> Shared -> Prop} (I : Inv X pins σ H s) (he : H e = some (XO e C t (some dx))) (hd : H dx = some (XD dx fs)) (hl : fs.length < 1000) (c : XCls X.K C) (n : NoAttr X.K C f) (ry : RelV y u)
  (h : ∀ s', Inv X pins σ (upd H dx (XD dx (putF f y fs))) s' -> Q () s') : wpAny (model X.prog X.w) A (setAttr (.ref e) f u) Q E s := by
 have hx := xo_get I.hok he
 obtain ⟨mA, N, r, wi⟩ := xd_get I.hok hd
 obtain ⟨od, J, hlk⟩ := xo_instD hx N
 have hne : dx ≠ e := fun z => by
  subst z
  obtain ⟨o, es, ep, q, hd', _⟩ := N
  rw [hx] at q
  cases q
  cases hd'
 refine PySem.W.set_plain I.kIn J c.sa (xset_open (s := { s with toks := s.toks + 1 }) I.kIn J c.ve n ?_)
 obtain ⟨cd, hc, hd'⟩ := PySem.W.any_some c.hd
 have hx' : s.heap.get? e = some ⟨.ref C, some dx, .fields #[.ref t, .none, .none, .none, .bool false, .none], #[]⟩ := hx
 refine wpAny_bind (wpAny_pure (wpAny_bind (wpAny_bind (wpAny_loadPart hx' (wpAny_bind (PySem.W.Looks.here (s := { s with toks := s.toks + 1 }) (PySem.W.looks_clsIn I.kIn hc) ?_))))))
 rw [hd']
 refine wpAny_pure (a := some dx) (wpAny_bind (wpAny_pure (wpAny_bind ?_)))
 refine wpAny_nsSet1 (s := { s with toks := s.toks + 1 }) N fun h' hn' hs => ?_
 have hz : (fs.map (·.1)).length <= sizeLine := by rw [List.length_map, sizeLine_eq]; omega
 obtain ⟨oD, esD, epD, hoD, hdD, hcD⟩ := hn'.count (PySem.Within.cons f u wi)
 refine wpAny_bind (wpAny_lookBehind hoD (by rw [hdD]; exact pastItsLine_dict (Nat.le_trans hcD (by rw [List.length_cons, List.length_map, sizeLine_eq]; omega))) ?_)
 refine wpAny_pure (h _ ?_)
 refine I.write (x := dx) (e := dx) (by rw [hd]; exact True.intro) (.inl rfl) (fun b o hb q => (hs.2 b hb).trans q) ⟨_, hoD⟩ (xd_ok hn' (fun g => ?_) fun g hg => ?_)
 ·show RelO ((putF f y fs).lookup g) (if g = f then some u else mA g)
  rw [lookup_putF]
  by_cases q : g = f
  ·rw [if_pos q, if_pos q]; exact ry
  ·rw [if_neg q, if_neg q]; exact r g
 ·by_cases q : g = f
  ·rw [q]; exact (keys_putF f y fs).1
  ·refine (keys_putF f y fs).2 g (wi g fun z => hg ?_)
   show (if g = f then some u else mA g) = none
   rw [if_neg q]; exact z
end
end L2
namespace L2
open PySem PySem.Spec PySem.Calls PyProof.Rows
structure XMk (K : PySem.W.Frag) (C f : Addr) : Prop where
 xc : xcIn K C = true
 init : PySem.W.findIn K (.ref C) "__init__" = some (some (.ref f))
 fn : PySem.W.isFn K (.ref f) = true
 kp : PySem.W.keepIn K (.ref C) = true
def tXMake (C : Addr) (sp : Sp) (E : XK) (t : TA) : TE := fun σ H Q => t σ H fun vs H1 => vs.length <= 1000 /\ ∀ x tp, H1 x = none -> sp (.ref x :: vs) (upd H1 x (XO x C tp none)) (fun v H2 => v = .non /\ Q (.ref x) H2) E
def tXMake0 (C : Addr) : TE := fun _ H Q => ∀ x tp, H x = none -> Q (.ref x) (upd H x (XO x C tp none))
section
variable {X : Cx} {CX : CXT} {k : Nat} {f C : Addr} {fd : FuncData} {ps : List Str} {sp : Sp} {E : XK} {x : Str} {p pos pos' apos : Pos} {e o value : Expr} {es : List Expr} {t : TA} {ta tv : TE} {fl : Str}
theorem run_xmake {pins : List (Addr × Obj)} {σ : St} {H : Hp} {s : Shared} {Q : VK} {us : List Value} {vs : List V} (M : XMk X.K C f) (F : FnOk X.prog X.w X.K X.mg X.base CX k f fd ps sp) (hr : Room (k + 1) X.A) (hb : Binds X.K fd ps [])
  (hx : Passes CX X E) (I : Inv X pins σ H s) (r : Vals vs us) (hl : vs.length <= 1000)
  (h : ∀ x tp, H x = none -> sp (.ref x :: vs) (upd H x (XO x C tp none)) (fun v H2 => v = .non /\ Q (.ref x) H2) E) :
  wpAny (model X.prog X.w) X.A (call (.ref C) us) (EP X pins σ Q) X.xe s := by
 have hq := h (s.heap.objs.size + 1) s.heap.objs.size (I.hok.fresh (Nat.le_succ _))
 have I1 : Inv X pins σ H { s with heap := s.heap.push { cls := .type "tuple", data := .seq us.toArray } } := I.kept (t' := s.toks) fun b u q => Heap.get?_push_of_some _ q
 have hget : (excHeap s.heap C us).get? (s.heap.objs.size + 1) = some (excObj C s.heap.objs.size none) := by
  unfold excHeap
  exact Heap.get?_push_at (by simp only [Heap.size_push]) rfl
 have I2 : Inv X pins σ (upd H (s.heap.objs.size + 1) (XO (s.heap.objs.size + 1) C s.heap.objs.size none)) { s with heap := excHeap s.heap C us } :=
  I1.laid (a := s.heap.objs.size + 1) (t' := s.toks) (fun b u q => Heap.get?_push_of_some _ q) (Nat.le_of_eq (Heap.size_push _ _)) (xo_ok hget)
 have r2 : Vals (V.ref (s.heap.objs.size + 1) :: vs) (Value.ref (s.heap.objs.size + 1) :: us) := .cons rfl r
 have hl2 : (Value.ref (s.heap.objs.size + 1) :: us ++ []).length = ps.length := by
  have e := r2.length
  rw [F.len _ _ _ _ hq] at e
  rw [List.append_nil]
  exact e.symm
 have hrun := F.run _ X.stack _ _ ⟨Value.ref (s.heap.objs.size + 1) :: us, []⟩ (Value.ref (s.heap.objs.size + 1) :: us ++ []) _ _ E (hr.make C us []) (I2.env0.make C us []) (hb _ (Value.ref (s.heap.objs.size + 1) :: us) I2.kIn hl2) (by rw [List.append_nil]; exact r2) hq
 have hus : us.length <= sizeLine := by have := r.length; exact Nat.le_trans (by omega) (show 1000 <= sizeLine by decide)
 obtain ⟨hh, g, d, tt, os⟩ := s
 refine xmake I.kIn M.xc M.init (beq_iff_eq.mp M.fn) (wpAny_call (codeAny_mono hrun fun r s' hq' => ?_)) hus
 cases r with
 | error e => exact hx pins σ _ _ e s' I2 hq'
 | ok fl =>
  cases fl with
  | ret u =>
   obtain ⟨v, H', I3, rv, ev, q3⟩ := I2.after hq'
   subst ev
   exact ⟨rv, ⟨V.ref (hh.objs.size + 1), H', I3, rfl, q3⟩⟩
  | next => exact False.elim hq'
  | brk => exact False.elim hq'
  | cont => exact False.elim hq'
theorem pe_xmake (M : XMk X.K C f) (F : FnOk X.prog X.w X.K X.mg X.base CX k f fd ps sp) (hr : Room (k + 1) X.A) (hg : Gl X x) (hm : X.mg x = some (.ref C)) (hb : Binds X.K fd ps []) (hx : Passes CX X E)
  (ha : PA X (e :: es) t) (hdb : (x == ("__debug__" : Str)) = false := by decide) (he : starEach (e :: es) X.env = (false, eval e X.env) :: starEach es X.env := by rfl) (hpl : (backTo pos (starEach es X.env)).any (·.1) = false := by rfl) :
  PE X (.Call (.Name x p) (e :: es) [] pos) (tXMake C sp E t) := by
 intro pins s σ H Q I h
 refine wpAny_Call_Name_kw (ld_glob I hg hm ?_ hdb)
 refine PySem.W.callWith_K (h₀ := X.base) I.ok.mod.kin M.kp (thn (ha pos pins s σ H _ I h) fun us s1 ⟨vs, H1, I1, r, hl, q⟩ => ⟨I1.kIn, ?_⟩) he hpl
 exact run_xmake M F hr hb hx I1 r hl q
theorem pe_xmake0 (q : xcIn X.K C = true) (hi : PySem.W.findIn X.K (.ref C) "__init__" = some (some (.builtin "ValueError.__init__"))) (kp : PySem.W.keepIn X.K (.ref C) = true) (hg : Gl X x) (hm : X.mg x = some (.ref C)) (hdb : (x == ("__debug__" : Str)) = false := by decide) :
  PE X (.Call (.Name x p) [] [] pos) (tXMake0 C) := by
 intro pins s σ H Q I h
 refine wpAny_Call_Name_kw (ld_glob I hg hm ?_ hdb)
 refine PySem.W.callWith_K0 I.kIn kp ?_
 obtain ⟨hh, g, d, tt, os⟩ := s
 refine xmake0 (rest := []) I.kIn q hi (fun h' kk hg' => ?_) (by decide)
 refine ⟨V.ref (hh.objs.size + 1), _, I.laid (a := hh.objs.size + 1) (t' := tt) kk (Nat.le_succ _) (xo_ok hg'), rfl, h _ _ (I.hok.fresh (Nat.le_succ _))⟩
def sX1 (K : PySem.W.Frag) (ta tv : TE) (f : Str) : TS := fun D σ H => tv σ H fun y H1 => ta σ H1 fun x H2 => ∃ e C t, x = .ref e /\ H2 e = some (XO e C t none) /\ XCls K C /\ NoAttr K C f /\
 ∀ dx, H2 dx = none -> dx ≠ e -> D.nx σ (upd (upd H2 e (XO e C t (some dx))) dx (XD dx [(f, y)]))
def sX2 (K : PySem.W.Frag) (ta tv : TE) (f : Str) : TS := fun D σ H => tv σ H fun y H1 => ta σ H1 fun x H2 => ∃ e C t dx fs, x = .ref e /\ H2 e = some (XO e C t (some dx)) /\ H2 dx = some (XD dx fs) /\ fs.length < 1000 /\ XCls K C /\ NoAttr K C f /\
 D.nx σ (upd H2 dx (XD dx (putF f y fs)))
theorem ps_x1 (ha : PE X o ta) (hv : PE X value tv) (hs : swapsWith value (some (.Attribute o fl pos')) pos.line X.env = pure false) : PS X (.Assign [.Attribute o fl pos'] value pos) (sX1 X.K ta tv fl) := by
 intro pins s σ H D I h
 refine plainObj_wpAny_Assign_Attribute (thn (hv pins s σ H _ I h) fun u s1 ⟨y, H1, I1, ry, q⟩ => thn (ha pins s1 σ H1 _ I1 q) fun ov s2 zz540 => ?_) hs
 obtain ⟨x, H2, I2, rx, e, C, t, ex, ea, c, n, q2⟩ := zz540
 subst ex
 obtain rfl : ov = Value.ref e := rx
 exact xset1 I2 ea c n ry fun dx s3 hdx hne I3 => ⟨σ, _, I3, q2 dx hdx hne⟩
theorem ps_x2 (ha : PE X o ta) (hv : PE X value tv) (hs : swapsWith value (some (.Attribute o fl pos')) pos.line X.env = pure false) : PS X (.Assign [.Attribute o fl pos'] value pos) (sX2 X.K ta tv fl) := by
 intro pins s σ H D I h
 refine plainObj_wpAny_Assign_Attribute (thn (hv pins s σ H _ I h) fun u s1 ⟨y, H1, I1, ry, q⟩ => thn (ha pins s1 σ H1 _ I1 q) fun ov s2 zz541 => ?_) hs
 obtain ⟨x, H2, I2, rx, e, C, t, dx, fs, ex, ea, ed, hl, c, n, q2⟩ := zz541
 subst ex
 obtain rfl : ov = Value.ref e := rx
 exact xset2 I2 ea ed hl c n ry fun s3 I3 => ⟨σ, _, I3, q2⟩
end
structure XIs (K : PySem.W.Frag) (C : Addr) : Prop extends XCls K C where
 ca : PySem.W.findIn K (.ref C) "__class__" = some (some (.builtin "object.__class__"))
 cg : PySem.W.specialIn K (.builtin "object.__class__") "__get__" = some (some (.builtin "getset_descriptor.__get__"))
 ct : PySem.W.takesIn K (.builtin "object.__class__") = some true
theorem findObj_dataO {K : PySem.W.Frag} {C : Addr} {od : Option Obj} {name : Str} {a g : Value} (hc : (PySem.W.clsIn K C).isSome = true) (ha : PySem.W.findIn K (.ref C) name = some (some a)) (hg : PySem.W.specialIn K a "__get__" = some (some g)) (ht : PySem.W.takesIn K a = some true) : PySem.W.findObj K C od name = some (.bind g a) := by
 obtain ⟨cd, hc⟩ := Option.isSome_iff_exists.mp hc
 unfold PySem.W.findObj
 rw [hc, Option.bind_some, ha, Option.bind_some]
 dsimp only
 rw [hg, Option.bind_some]
 dsimp only
 rw [ht, Option.bind_some]
theorem xget_classO {prog : Program} {w : World} {A : Around} {E : Value -> Shared -> Prop} {s : Shared} {K : PySem.W.Frag} {x C : Addr} {ox : Obj} {od : Option Obj} {Q : Option Value -> Shared -> Prop} (X : K.In s.heap) (I : PySem.W.InstAt s.heap x ox C od) (c : XIs K C)
  (h : Q (some (.ref C)) { s with toks := s.toks + 1 }) : wpAny (model prog w) A (getAttr? (.ref x) "__class__") Q E s := by
 have hc : (PySem.W.clsIn K C).isSome = true := by obtain ⟨cd, hc, _⟩ := PySem.W.any_some c.hd; rw [hc]; rfl
 have hf : PySem.W.findObj K C od "__class__" = some (.bind (.builtin "getset_descriptor.__get__") (.builtin "object.__class__")) := findObj_dataO hc c.ca c.cg c.ct
 unfold getAttr? getAttrBy?
 refine wpAny_bind (wpAny_mkText (wpAny_bind (wpAny_attempt ?_)))
 refine xget_by (s := { s with toks := s.toks + 1 }) X I c.ga c.gn (xga_bind (s := { s with toks := s.toks + 1 }) X I c.mb hf ?_)
 exact wpAny_call (PySem.W.class_get (s := { s with toks := s.toks + 1 }) (ox := ox) (od := od) X I c.mo (PySem.W.handed_on rfl (wpAny_pure h)))
theorem kitx_exc {K : PySem.W.Frag} {x C : Addr} (c : XIs K C) : PySem.W.KitX K (.ref x) (.ref C) (fun h => ∃ ox od, PySem.W.InstAt h x ox C od) where
 ty := fun _ _ _ ⟨_, _, I⟩ => I.type
 it := fun _ _ X _ => by
  obtain ⟨cdD, hcD, _⟩ := PySem.W.any_some c.hd
  unfold PySem.W.clsIn at hcD
  split at hcD
  ·rename_i c' d' cd' sl' ho
   intro A' Q' E' s' k q
   unfold isType loadHead
   exact wpAny_bind (wpAny_loadPart (k _ _ (X _ _ ho)) (wpAny_pure q))
  ·cases hcD
 ne := fun h tp dd its n sl X htp => by
  obtain ⟨cdD, hcD, _⟩ := PySem.W.any_some c.hd
  refine Bool.eq_false_iff.mpr fun q => ?_
  have e : C = tp := Value.ref.inj (beq_iff_eq.mp q)
  subst e
  unfold PySem.W.clsIn at hcD
  split at hcD
  ·rename_i c' d' cd' sl' ho
   have z := (X _ _ ho).symm.trans htp
   cases z
  ·cases hcD
 ca := fun X ⟨_, _, I⟩ k => xget_classO X I c k
section
variable {X : Cx}
end
end L2
namespace L2
open PySem PySem.Spec PySem.Calls PyProof.Rows
inductive Ctxs (h : Heap) : Addr -> List Addr -> Prop
 | nil {e : Addr} {o : Obj} {vs : Array Value} : h.get? e = some o -> o.data = .fields vs -> vs[2]? = some Value.none -> Ctxs h e []
 | cons {e E : Addr} {o : Obj} {vs : Array Value} {l : List Addr} : h.get? e = some o -> o.data = .fields vs -> vs[2]? = some (Value.ref E) -> Ctxs h E l -> Ctxs h e (E :: l)
theorem Ctxs.keep {h h' : Heap} (k : ∀ b o (vs : Array Value), h.get? b = some o -> o.data = .fields vs -> ∃ o' vs', h'.get? b = some o' /\ o'.data = .fields vs' /\ vs'[2]? = vs[2]?) {e : Addr} {l : List Addr} (c : Ctxs h e l) : Ctxs h' e l := by
 induction c with
 | nil a b c => obtain ⟨o', vs', a', b', c'⟩ := k _ _ _ a b; exact .nil a' b' (c'.trans c)
 | cons a b c _ ih => obtain ⟨o', vs', a', b', c'⟩ := k _ _ _ a b; exact .cons a' b' (c'.trans c) ih
theorem Ctxs.same {h h' : Heap} (k : ∀ b o, h.get? b = some o -> h'.get? b = some o) {e : Addr} {l : List Addr} (c : Ctxs h e l) : Ctxs h' e l :=
 c.keep fun b o vs a d => ⟨o, vs, k b o a, d, rfl⟩
structure ExcRec (h : Heap) (e : Addr) (cls : Value) (d : Option Addr) (vs : Array Value) : Prop where
 at_ : h.get? e = some ⟨cls, d, .fields vs, #[]⟩
 six : vs.size = 6
 tb : vs[1]? = some .none \/ ∃ T oT ts, vs[1]? = some (.ref T) /\ T ≠ e /\ h.get? T = some oT /\ oT.data = .fields ts /\ ts[3]? = some .none
 cx : ∃ l, Ctxs h e l
structure LeftBy (fs : List Addr) (e : Addr) (cls : Value) (d : Option Addr) (h h' : Heap) : Prop where
 size : h.objs.size <= h'.objs.size
 keep : ∀ b o, b ∉ fs -> b ≠ e -> h.get? b = some o -> h'.get? b = some o
 slot : ∀ b o, b ∈ fs -> h.get? b = some o -> ∃ sl, h'.get? b = some { o with slots := sl }
 rc : ∃ vs, ExcRec h' e cls d vs /\ vs[1]? ≠ some .none
 old : ∃ T, (∀ vs, ExcRec h' e cls d vs -> vs[1]? = some (.ref T)) /\ h.get? T = none
section
variable {M : Model} {A : Around} {E : Value -> Shared -> Prop} {s : Shared} {base : Heap} {env : Env} {outer : List Env} {L e : Addr} {cls : Value} {d : Option Addr} {vs : Array Value}
theorem mapF_at {o : Obj} (hd : o.data = .fields vs) (g : Array Value -> Array Value) : o.mapFields g = ⟨o.cls, o.dict, .fields (g vs), o.slots⟩ := by
 obtain ⟨c, di, dt, sl⟩ := o
 dsimp only at hd
 subst hd; rfl
theorem leave_entry {head : Value} {hadNext : Bool} {Q : Unit -> Shared -> Prop} (hfr : A.frames = some (env :: outer)) (hl : s.heap.FunFrames base (env :: outer)) (hf : env.frame = some L) (he : s.heap.get? e = some ⟨cls, d, .fields vs, #[]⟩) (h6 : vs.size = 6) (hcx : ∃ l, Ctxs s.heap e l)
  (h : ∀ h', LeftBy (frs (env :: outer)) e cls d s.heap h' -> Q () { s with heap := h' }) :
  wpAny M A (do let fr <- frameOf env; let place <- entryPlaceOf L hadNext; let x <- EntryCells.newEntry head fr .none (rawInt L) .none place; setField (.ref e) 1 x) (fun _ s' => wpAny M A (setFlight (.ref e) none) Q E s') E s := by
 have hef : e ∉ frs (env :: outer) := fun hm => by
  obtain ⟨_, o, q, nf⟩ := hl.mem hm
  rw [he] at q; cases q
  exact nf vs rfl
 refine wpAny_bind (wpAny_frameOf_fun hfr hl hf fun h1 S1 => ?_)
 refine wpAny_bind (wpAny_entryPlaceOf fun pl ip => ?_)
 unfold EntryCells.newEntry newFields
 have he1 : h1.get? e = some ⟨cls, d, .fields vs, #[]⟩ := (S1.2.1 e hef).trans he
 have hT : h1.objs.size ≠ e := Nat.ne_of_gt (Heap.lt_size he1)
 refine wpAny_bind (wpAny_newObj_type ?_ (ip.sizeOk5 _ _ _ _ _))
 generalize hts : ([head, Value.ref L, Value.none, rawInt L, Value.none] ++ if pl.isEmpty = true then List.replicate 6 Value.none else pl).toArray = ts
 have hts5 : 5 <= ts.size := by rw [<- hts]; simp
 have he2 := Heap.get?_push_of_some (h := h1) { cls := .type "traceback", dict := none, data := .fields ts } he1
 refine wpAny_setField he2 rfl (by rw [h6]; decide) ?_
 dsimp only
 have hd3 := Heap.get?_update_self (Obj.mapFields (·.setIfInBounds 1 (Value.ref h1.objs.size))) he2 rfl
 have hT3 : ((h1.push { cls := .type "traceback", dict := none, data := .fields ts }).update e (Obj.mapFields (·.setIfInBounds 1 (Value.ref h1.objs.size)))).get? h1.objs.size = some { cls := .type "traceback", dict := none, data := .fields ts } :=
  (Heap.get?_update_other _ _ hT.symm).trans (Heap.get?_push_size h1 rfl)
 unfold setFlight
 refine wpAny_bind (wpAny_field hd3 rfl (x := .ref h1.objs.size) (by simp [h6]) ?_)
 rw [if_pos (by simp)]
 refine wpAny_setField hT3 rfl (by omega) (h _ ?_)
 generalize hh3 : (h1.push { cls := .type "traceback", dict := none, data := .fields ts }).update e (Obj.mapFields (·.setIfInBounds 1 (Value.ref h1.objs.size))) = h3 at hd3 hT3
 have eT := Heap.get?_update_self (Obj.mapFields (·.setIfInBounds 3 ((none : Option Addr).elim Value.none fun f => rawInt f))) hT3 rfl
 have oth : ∀ b o, b ≠ e -> h1.get? b = some o -> (h3.update h1.objs.size (Obj.mapFields (·.setIfInBounds 3 ((none : Option Addr).elim Value.none fun f => rawInt f)))).get? b = some o := fun b o hb q => by
  have hbT : h1.objs.size ≠ b := Nat.ne_of_gt (Heap.lt_size q)
  rw [Heap.get?_update_other _ _ hbT, <- hh3, Heap.get?_update_other _ _ (Ne.symm hb)]
  exact Heap.get?_push_of_some _ q
 have exc : (h3.update h1.objs.size (Obj.mapFields (·.setIfInBounds 3 ((none : Option Addr).elim Value.none fun f => rawInt f)))).get? e = some ⟨cls, d, .fields (vs.setIfInBounds 1 (.ref h1.objs.size)), #[]⟩ := by
  rw [Heap.get?_update_other _ _ hT]; exact hd3
 refine ⟨?_, fun b o hb hbe q => oth b o hbe ((S1.2.1 b hb).trans q), fun b o hb q => ?_, ⟨_, ⟨exc, by simp [h6], .inr ⟨h1.objs.size, _, _, by simp [h6], hT, eT, rfl, ?_⟩, hcx.imp fun l c => c.keep fun b o vs' q dq => ?_⟩, by simp [h6]⟩, ⟨h1.objs.size, fun vs' R => ?_, ?_⟩⟩
 ·rw [Heap.size_update, <- hh3, Heap.size_update, Heap.size_push, S1.1]; exact Nat.le_succ _
 ·obtain ⟨sl, q1⟩ := S1.2.2 b o q
  exact ⟨sl, oth b _ (fun z => hef (z ▸ hb)) q1⟩
 ·show (ts.setIfInBounds 3 Value.none)[3]? = some Value.none
  rw [Array.getElem?_setIfInBounds, if_pos rfl, if_pos (by omega)]
 ·have := R.at_.symm.trans exc
  cases this
  simp [h6]
 ·exact Heap.get?_none_of_le (by rw [S1.1]; exact Nat.le_refl _)
 ·by_cases hbe : b = e
  ·subst hbe
   rw [he] at q; cases q
   cases dq
   exact ⟨_, _, exc, rfl, by rw [Array.getElem?_setIfInBounds, if_neg (by decide)]⟩
  ·by_cases hb : b ∈ frs (env :: outer)
   ·obtain ⟨sl, q1⟩ := S1.2.2 b o q
    exact ⟨_, vs', oth b _ hbe q1, dq, rfl⟩
   ·exact ⟨o, vs', oth b o hbe ((S1.2.1 b hb).trans q), dq, rfl⟩
theorem leave_ok {Q : Unit -> Shared -> Prop} (hfr : A.frames = some (env :: outer)) (hl : s.heap.FunFrames base (env :: outer)) (hf : env.frame = some L) (R : ExcRec s.heap e cls d vs)
  (h : ∀ h', LeftBy (frs (env :: outer)) e cls d s.heap h' -> Q () { s with heap := h' }) : wpAny M A («leaving» env (.ref e)) Q E s := by
 unfold «leaving» noteFrame
 simp only [hf]
 rcases R.tb with h1 | ⟨T, oT, ts, h1, hTe, hT, hd, h3⟩
 ·refine wpAny_bind (wpAny_bind (wpAny_field R.at_ rfl h1 ?_))
  rw [if_neg (by decide)]
  exact leave_entry hfr hl hf R.at_ R.six R.cx h
 ·refine wpAny_bind (wpAny_bind (wpAny_field R.at_ rfl h1 ?_))
  rw [if_pos (by simp)]
  refine wpAny_bind (wpAny_field hT hd h3 ?_)
  rw [if_neg (by simp [rawInt])]
  have h3s : 3 < ts.size := (Array.getElem?_eq_some_iff.mp h3).1
  refine wpAny_bind (wpAny_setField hT hd h3s ?_)
  have same : s.heap.update T (Obj.mapFields (·.setIfInBounds 3 Value.none)) = s.heap \/ True := .inr trivial
  have eT : (s.heap.update T (Obj.mapFields (·.setIfInBounds 3 Value.none))).get? T = some oT := by
   have q := Heap.get?_update_self (Obj.mapFields (·.setIfInBounds 3 Value.none)) hT (Obj.isFreed_of_fields (Obj.data_mapFields hd _))
   rw [q, mapF_at hd]
   have : ts.setIfInBounds 3 Value.none = ts := by
    apply Array.ext_getElem?
    intro k
    rw [Array.getElem?_setIfInBounds]
    by_cases hk : 3 = k
    ·subst hk; rw [if_pos rfl, if_pos h3s, h3]
    ·rw [if_neg hk]
   rw [this, <- hd]
  have oth : ∀ b o, s.heap.get? b = some o -> (s.heap.update T (Obj.mapFields (·.setIfInBounds 3 Value.none))).get? b = some o := fun b o q => by
   by_cases hb : T = b
   ·subst hb; rw [eT, <- q, hT]
   ·rw [Heap.get?_update_other _ _ hb]; exact q
  refine leave_entry (s := { s with heap := s.heap.update T (Obj.mapFields (·.setIfInBounds 3 Value.none)) }) hfr (hl.of_keeps fun b o q _ => ⟨o, oth b o q, rfl⟩) hf (oth _ _ R.at_) R.six (R.cx.imp fun _ c => c.same oth) fun h' ⟨x1, x2, x3, x4, x5⟩ => h h' ⟨?_, fun b o hb hbe q => x2 b o hb hbe (oth b o q), fun b o hb q => x3 b o hb (oth b o q), x4, ?_⟩
  ·rw [Heap.size_update] at x1; exact x1
  ·obtain ⟨T', y1, y2⟩ := x5
   refine ⟨T', y1, ?_⟩
   cases z : s.heap.get? T' with
   | none => rfl
   | some o => rw [oth _ _ z] at y2; cases y2
end
end L2
namespace L2
open PySem PySem.Spec PySem.Calls PyProof.Rows
section
variable {prog : Program} {w : World} {A : Around} {E : Value -> Shared -> Prop} {s : Shared} {K : PySem.W.Frag} {env : Env} {e C : Addr} {d : Option Addr} {vs : Array Value}
theorem raise_at {x : Sem Value} {Q : Flow -> Shared -> Prop} (hh : A.handled = none)
  (h : wpAny (model prog w) A x (fun v s1 => ∃ e C d vs, v = .ref e /\ K.In s1.heap /\ s1.heap.get? e = some ⟨.ref C, d, .fields vs, #[]⟩ /\ vs[1]? = some .none /\ xcIn K C = true /\ PySem.W.mroIn K C (.type "BaseException") = some true /\ E (.ref e) s1) E s) :
  wpAny (model prog w) A (raiseStmt env (some x) none) Q E s := by
 unfold raiseStmt
 refine wpAny_bind (wpAny_mono h (fun v s1 h1 => ?_) fun _ _ z => z)
 obtain ⟨e, C, d, vs, rfl, X, he, h1, hc, hm, hE⟩ := h1
 obtain ⟨nm, qn, N, bs, bm, hdct, sn, sub, ab, col, dd, k0, k1, k2, k3, k5, hC, _⟩ := xc_of X hc
 obtain ⟨hp, g, dr, tk, os⟩ := s1
 have Lt : PySem.W.Looks (model prog w) hp (typeOf (.ref e)) (.ref C) := (PySem.W.Looks.ld he).andThen .now
 have Lc : PySem.W.Looks (model prog w) hp (typeOf (.ref C)) (.type "type") := (PySem.W.Looks.ld hC).andThen .now
 have Li : PySem.W.Looks (model prog w) hp (isType (.ref e)) false := (PySem.W.Looks.ld he).andThen .now
 have Ls : PySem.W.Looks (model prog w) hp (isInstance (.ref e) (.type "BaseException")) true := Lt.andThen (PySem.W.looks_mroIn X hm)
 refine wpAny_bind (wpAny_pure ?_)
 refine wpAny_bind (wpAny_holding ?_)
 unfold excFromValue isExcClass
 refine wpAny_bind (wpAny_bind (Li.at (wpAny_pure ?_)))
 rw [if_neg (by decide)]
 refine wpAny_bind (Ls.at ?_)
 rw [if_pos rfl]
 refine wpAny_pure ?_
 refine wpAny_bind (Li.at ?_)
 dsimp only
 rw [if_neg (by decide)]
 unfold raisedInstance
 refine wpAny_bind (wpAny_bind (Lt.at (wpAny_bind (Lc.at ?_))))
 rw [if_pos (by decide)]
 refine wpAny_pure ?_
 unfold setFlight
 refine wpAny_bind (wpAny_bind (wpAny_field he rfl h1 ?_))
 rw [if_neg (by decide)]
 exact wpAny_pure (wpAny_raiseNew_none hh hE)
theorem exec_raise {ex : Expr} {pos : Pos} {Q : Flow -> Shared -> Prop} (hh : A.handled = none)
  (h : wpAny (model prog w) A (eval ex env) (fun v s1 => ∃ e C d vs, v = .ref e /\ K.In s1.heap /\ s1.heap.get? e = some ⟨.ref C, d, .fields vs, #[]⟩ /\ vs[1]? = some .none /\ xcIn K C = true /\ PySem.W.mroIn K C (.type "BaseException") = some true /\ E (.ref e) s1) E s) :
  wpAny (model prog w) A (exec (.Raise (some ex) none pos) env) Q E s := by
 rw [arm_exec_Raise]
 refine wpAny_bind (wpAny_standAt ?_)
 show wpAny (model prog w) A (raiseStmt env (some (do let v <- eval ex env; standAt pos; pure v)) none) Q E s
 refine raise_at (K := K) hh (wpAny_bind (wpAny_mono h (fun v s1 h1 => wpAny_bind (wpAny_standAt (wpAny_pure h1))) fun _ _ z => z))
end
end L2
namespace L2
open PySem PySem.Spec PySem.Calls PyProof.Rows
def XR (e C : Addr) (d : Option Addr) : HO := .ext fun h => ∃ vs : Array Value, h.get? e = some ⟨.ref C, d, .fields vs, #[]⟩ /\ vs.size = 6
theorem xr_ok {P : Program} {w : World} {H : Hp} {h : Heap} {e C : Addr} {d : Option Addr} {vs : Array Value} (hx : h.get? e = some ⟨.ref C, d, .fields vs, #[]⟩) (h6 : vs.size = 6) : ObjOk P w H h e (XR e C d) :=
 ⟨⟨vs, hx, h6⟩, ⟨_, hx⟩, fun _ _ ⟨vs, p, q⟩ k => ⟨vs, k _ p, q⟩⟩
theorem xr_get {P : Program} {w : World} {H : Hp} {h : Heap} {e C : Addr} {d : Option Addr} (ok : HOk P w H h) (q : H e = some (XR e C d)) : ∃ vs : Array Value, h.get? e = some ⟨.ref C, d, .fields vs, #[]⟩ /\ vs.size = 6 := (show ObjOk P w H h e (XR e C d) from ok e _ q).1
def CX1 (P : Program) (w : World) : CXT := fun outer H s E e s' => ∃ a C d H', e = .ref a /\ s'.os = s.os /\ AllBare s'.gens /\ Un (frs outer) [] H H' s.heap s'.heap /\ HOk P w H' s'.heap /\ (∃ vs, ExcRec s'.heap a (.ref C) d vs) /\ H' a = some (XR a C d) /\ E (.ref C) (some a) H'
section
variable {X : Cx} {pins : List (Addr × Obj)} {σ : St} {H : Hp} {s : Shared} {a C : Addr} {d : Option Addr} {h' : Heap}
theorem Inv.left (I : Inv X pins σ H s) (hx : H a = some (XR a C d)) (L : LeftBy (frs X.stack) a (.ref C) d s.heap h') : Inv X pins σ H { s with heap := h' } := by
 have nf : ∀ b u, H b = some u -> b ∉ frs X.stack := fun b u q z => by rw [I.stkFree b z] at q; cases q
 obtain ⟨vs, R, _⟩ := id L.rc
 have un : Un (frs X.stack) [] H H s.heap h' := by
  refine ⟨fun b o q n hb _ => L.keep b o hb (fun z => by rw [z, hx] at n; cases n) q, fun b o q n hb _ => L.slot b o hb q, fun _ _ _ n _ => n, fun b o q _ => ?_, fun _ _ q => q, fun _ _ _ q => q, fun _ ps q => ⟨#[], by rw [q]; simp⟩⟩
  by_cases h1 : b ∈ frs X.stack
  ·obtain ⟨sl, q2⟩ := L.slot b o h1 q
   exact ⟨_, q2⟩
  ·by_cases h2 : b = a
   ·subst h2; exact ⟨_, R.at_⟩
   ·exact ⟨o, L.keep b o h1 h2 q⟩
 refine I.call (ch := []) (g' := s.gens) (d' := s.drawn) (t' := s.toks) un (fun b u q => ?_) I.bare (fun b z => absurd z (by simp))
 by_cases hb : b = a
 ·subst hb
  rw [hx] at q; cases q
  exact xr_ok R.at_ R.six
 ·refine (I.hok b u q).stay (fun c v hc r => L.keep c v ?_ ?_ r) (fun _ q => q) fun _ _ q => q
  ·rcases hc with rfl | hc
   ·exact nf _ _ q
   ·exact nf _ _ hc
  ·rintro rfl
   rcases hc with z | hc
   ·exact hb z.symm
   ·rw [hx] at hc; cases hc
def XeOk (X : Cx) (EX : XK) : Prop := ∀ (pins : List (Addr × Obj)) (σ : St) (H : Hp) (s : Shared) (a C : Addr) (d : Option Addr) (vs : Array Value), Inv X pins σ H s -> H a = some (XR a C d) -> ExcRec s.heap a (.ref C) d vs -> EX (.ref C) (some a) H -> X.xe (.ref a) s
theorem XeOk.passes {EX E1 : XK} (h : XeOk X EX) (i : ∀ c d H, E1 c d H -> EX c d H) : Passes (CX1 X.prog X.w) X E1 := by
 rintro pins σ H s e s' I ⟨a, C, d, H', rfl, os, bare, un, hok, ⟨vs, R⟩, hx, hE⟩
 exact h pins σ H' s' a C d vs (I.call' os un hok bare (fun b z => absurd z (by simp))) hx R (i _ _ _ hE)
end
theorem xeOk_cx {P : Program} {w : World} {K : PySem.W.Frag} {mg : Str -> Option Value} {base : Heap} {N : List Str} {qual : Str} {scope : Scope} {f : Addr} {cd : Value} {A : Around} {outer : List Env} {s : Shared} {H : Hp} {E : XK} :
  XeOk (cxOf (CX1 P w) P w K mg base N qual scope f cd A outer s H E) E := by
 intro pins σ H1 s1 a C d vs I hx R hE
 show wpAny (model P w) _ («leaving» (envOfC qual scope s.heap.objs.size f cd) (.ref a)) _ _ s1
 refine leave_ok (base := base) (outer := outer) I.ok.frames I.stack rfl R fun h' L => ?_
 have J := I.left hx L
 obtain ⟨vs', R', _⟩ := L.rc
 exact ⟨a, C, d, H1, rfl, J.os, J.bare, J.base, J.hok, ⟨vs', R'⟩, hx, hE⟩
end L2
namespace L2
open PySem PySem.Spec PySem.Calls PyProof.Rows
section
variable {M : Model} {A : Around} {E : Value -> Shared -> Prop} {s : Shared} {base : Heap} {env : Env} {outer : List Env} {L e : Addr} {cls : Value} {d : Option Addr} {vs : Array Value}
theorem flight_same {h : Heap} {T : Addr} {oT : Obj} {ts : Array Value} (hT : h.get? T = some oT) (hd : oT.data = .fields ts) (h3 : ts[3]? = some .none) :
  ∀ b o, h.get? b = some o -> (h.update T (Obj.mapFields (·.setIfInBounds 3 Value.none))).get? b = some o := by
 have h3s : 3 < ts.size := (Array.getElem?_eq_some_iff.mp h3).1
 have eT : (h.update T (Obj.mapFields (·.setIfInBounds 3 Value.none))).get? T = some oT := by
  have q := Heap.get?_update_self (Obj.mapFields (·.setIfInBounds 3 Value.none)) hT (Obj.isFreed_of_fields (Obj.data_mapFields hd _))
  rw [q, mapF_at hd]
  have : ts.setIfInBounds 3 Value.none = ts := by
   apply Array.ext_getElem?
   intro k
   rw [Array.getElem?_setIfInBounds]
   by_cases hk : 3 = k
   ·subst hk; rw [if_pos rfl, if_pos h3s, h3]
   ·rw [if_neg hk]
  rw [this, <- hd]
 intro b o q
 by_cases hb : T = b
 ·subst hb; rw [eT, <- q, hT]
 ·rw [Heap.get?_update_other _ _ hb]; exact q
theorem leave_two {Q : Unit -> Shared -> Prop} (hfr : A.frames = some (env :: outer)) (hl : s.heap.FunFrames base (env :: outer)) (hf : env.frame = some L) (R : ExcRec s.heap e cls d vs)
  (h : ∀ h', LeftBy (frs (env :: outer)) e cls d s.heap h' -> Q () { s with heap := h' }) : wpAny M A (noteFrame (.ref e) env) (fun _ s₂ => wpAny M A (setFlight (.ref e) none) Q E s₂) E s := by
 unfold noteFrame
 simp only [hf]
 rcases R.tb with h1 | ⟨T, oT, ts, h1, hTe, hT, hd, h3⟩
 ·refine wpAny_bind (wpAny_field R.at_ rfl h1 ?_)
  rw [if_neg (by decide)]
  exact leave_entry hfr hl hf R.at_ R.six R.cx h
 ·refine wpAny_bind (wpAny_field R.at_ rfl h1 ?_)
  rw [if_pos (by simp)]
  refine wpAny_bind (wpAny_field hT hd h3 ?_)
  rw [if_neg (by simp [rawInt])]
  have h3s : 3 < ts.size := (Array.getElem?_eq_some_iff.mp h3).1
  refine wpAny_bind (wpAny_setField hT hd h3s ?_)
  have oth := flight_same hT hd h3
  refine leave_entry (s := { s with heap := s.heap.update T (Obj.mapFields (·.setIfInBounds 3 Value.none)) }) hfr (hl.of_keeps fun b o q _ => ⟨o, oth b o q, rfl⟩) hf (oth _ _ R.at_) R.six (R.cx.imp fun _ c => c.same oth) fun h' ⟨x1, x2, x3, x4, x5⟩ => h h' ⟨?_, fun b o hb hbe q => x2 b o hb hbe (oth b o q), fun b o hb q => x3 b o hb (oth b o q), x4, ?_⟩
  ·rw [Heap.size_update] at x1; exact x1
  ·obtain ⟨T', y1, y2⟩ := x5
   refine ⟨T', y1, ?_⟩
   cases z : s.heap.get? T' with
   | none => rfl
   | some o => rw [oth _ _ z] at y2; cases y2
theorem flight_ok {Q : Unit -> Shared -> Prop} (R : ExcRec s.heap e cls d vs) (h : ∀ h', (∀ b o, s.heap.get? b = some o -> h'.get? b = some o) -> Q () { s with heap := h' }) : wpAny M A (setFlight (.ref e) none) Q E s := by
 unfold setFlight
 rcases R.tb with h1 | ⟨T, oT, ts, h1, hTe, hT, hd, h3⟩
 ·refine wpAny_bind (wpAny_field R.at_ rfl h1 ?_)
  rw [if_neg (by decide)]
  exact wpAny_pure (h _ fun _ _ q => q)
 ·refine wpAny_bind (wpAny_field R.at_ rfl h1 ?_)
  rw [if_pos (by simp)]
  exact wpAny_setField hT hd (Array.getElem?_eq_some_iff.mp h3).1 (h _ (flight_same hT hd h3))
end
section
variable {prog : Program} {w : World} {A : Around} {E : Value -> Shared -> Prop} {s : Shared} {K : PySem.W.Frag} {e C D : Addr} {d : Option Addr} {vs : Array Value}
theorem matches_own {b : Bool} {Q : Bool -> Shared -> Prop} (X : K.In s.heap) (hD : xcIn K D = true) (he : s.heap.get? e = some ⟨.ref C, d, .fields vs, #[]⟩) (hb : PySem.W.mroIn K D (.type "BaseException") = some true)
  (hm : PySem.W.mroIn K C (.ref D) = some b) (h : Q b s) : wpAny (model prog w) A (excMatches (.ref e) (.ref D)) Q E s := by
 obtain ⟨nm, qn, N, bs, bm, hdct, sn, sub, ab, col, dd, k0, k1, k2, k3, k5, hDo, _⟩ := xc_of X hD
 obtain ⟨hp, g, dr, tk, os⟩ := s
 have Lt : PySem.W.Looks (model prog w) hp (typeOf (.ref e)) (.ref C) := (PySem.W.Looks.ld he).andThen .now
 have Lc : PySem.W.Looks (model prog w) hp (typeOf (.ref D)) (.type "type") := (PySem.W.Looks.ld hDo).andThen .now
 have Li : PySem.W.Looks (model prog w) hp (isType (.ref D)) true := (PySem.W.Looks.ld hDo).andThen .now
 have f1 : isSubtype (.type "type") (.type "tuple") = pure false := isSubtype_of_subB rfl
 unfold excMatches isExcClass isInstance
 refine wpAny_bind (wpAny_bind (Lc.at ?_))
 rw [f1]
 refine wpAny_pure ?_
 rw [if_neg (by decide)]
 refine wpAny_bind (wpAny_pure ?_)
 simp only [List.forIn_cons, List.forIn_nil]
 refine wpAny_bind (wpAny_bind (wpAny_bind (wpAny_bind (Li.at ?_))))
 rw [if_pos rfl]
 refine (PySem.W.looks_mroIn X hb).at ?_
 simp only [Bool.not_true, Bool.false_eq_true, if_false]
 refine wpAny_pure ?_
 refine wpAny_pure ?_
 refine wpAny_bind (Lt.at ?_)
 refine wpAny_bind (wpAny_bind (wpAny_bind ((PySem.W.looks_mroIn X hm).at ?_)))
 cases b with
 | true =>
  simp only [if_true]
  exact wpAny_pure (wpAny_pure (wpAny_pure h))
 | false =>
  simp only [Bool.false_eq_true, if_false]
  exact wpAny_pure (wpAny_pure (wpAny_pure h))
end
end L2
namespace L2
open PySem PySem.Spec PySem.Calls PyProof.Rows
section
variable {X : Cx} {pins : List (Addr × Obj)} {σ : St} {H : Hp} {s : Shared}
theorem Inv.retype {a : Addr} {φ : Heap -> Prop} {o : HO} (I : Inv X pins σ H s) (q : H a = some (.ext φ)) (new : ObjOk X.prog X.w (upd H a o) s.heap a o) : Inv X pins σ (upd H a o) s :=
 I.write (x := a) (e := a) (t' := s.toks) (h' := s.heap) (by rw [q]; exact True.intro) (.inl rfl) (fun _ _ _ z => z) (let ⟨_, q, _⟩ := (show ObjOk X.prog X.w H s.heap a (.ext φ) from I.hok a _ q); q) new
def tRaise (K : PySem.W.Frag) (EX : XK) (te : TE) : TS := fun _ σ H => te σ H fun x H1 => ∃ a C t d, x = .ref a /\ H1 a = some (XO a C t d) /\ xcIn K C = true /\ PySem.W.mroIn K C (.type "BaseException") = some true /\ EX (.ref C) (some a) (upd H1 a (XR a C d))
theorem ps_raise {ex : Expr} {pos : Pos} {te : TE} {EX : XK} (hc : X.calm = true) (hx : XeOk X EX) (he : PE X ex te) : PS X (.Raise (some ex) none pos) (tRaise X.K EX te) := by
 intro pins s σ H D I h
 refine exec_raise (K := X.K) (I.ok.hd hc) (thn (he pins s σ H _ I h) fun v s1 zz545 => ?_)
 obtain ⟨x, H1, I1, r, a, C, t, d, ex, ha, xc, mr, hE⟩ := zz545
 subst ex
 obtain rfl : v = Value.ref a := r
 have hg := xo_get I1.hok ha
 exact ⟨a, C, d, _, rfl, I1.kIn, hg, rfl, xc, mr, hx pins σ _ s1 a C d _ (I1.retype ha (xr_ok hg rfl)) upd_same ⟨hg, rfl, .inl rfl, [], .nil hg rfl rfl⟩ hE⟩
abbrev Cx.suite (X : Cx) (e : Addr) : Cx := { X with A := X.A.mark (some (.ref e)), calm := false, xe := fun _ _ => False }
theorem Inv.suite {e : Addr} (I : Inv X pins σ H s) : Inv (X.suite e) pins σ H s :=
 ⟨⟨I.ok.mod, I.ok.kind, I.ok.glob, I.ok.blt, I.ok.above, I.ok.inj, I.ok.has, I.ok.cab, fun z => (nomatch z), I.ok.frames, I.ok.stk, I.ok.exf, I.ok.bs, I.ok.bsz, I.ok.noex, I.ok.exfs, I.ok.funs, I.ok.frf⟩, I.os, I.bare, I.base, I.loc, I.cell, I.free, I.freeC, I.pin, I.hok, I.len⟩
theorem Inv.unsuite {e : Addr} (ok : X.Ok) (I : Inv (X.suite e) pins σ H s) : Inv X pins σ H s := ⟨ok, I.os, I.bare, I.base, I.loc, I.cell, I.free, I.freeC, I.pin, I.hok, I.len⟩
theorem gone_ok {M : Model} {A : Around} {E : Value -> Shared -> Prop} {i : Nat} {n : Str} {pos : Pos} {Q : Unit -> Shared -> Prop} (I : Inv X pins σ H s) (hN : X.N.Nodup) (hi : X.N[i]? = some n) (hk : X.env.scope.names.lookup n = some .local)
  (h : ∀ s', Inv X pins (σ.set i none) H s' -> Q () s') : wpAny M A (do bindName X.env n .none; unbindBehindTheSuite X.env n pos) Q E s := by
 obtain ⟨m, hn, hl⟩ := id I.loc
 have hcls : (X.env.scope.kind == .class || (X.env.scope.kind == .module && X.env.locals != X.env.globals)) = false := by rw [I.ok.kind]; rfl
 refine wpAny_nameGoes_keeps hk hn hcls fun h' v hn' hs => ?_
 have nl : ∀ b o, X.s₀.heap.get? b = some o -> b ≠ X.env.locals := fun b o e => Nat.ne_of_lt (Nat.lt_of_lt_of_le (Heap.lt_size e) I.ok.above)
 refine h _ ⟨I.ok, I.os, I.bare, ⟨fun b o e z hb hx => (hs.2 b (nl b o e)).trans (I.base.keep b o e z hb hx), fun b o e z hb hx => ?_, I.base.free, fun b o e hx => ?_, I.base.tups, I.base.frzs, I.base.tbls⟩, ⟨_, hn', fun j y v' e1 e2 e3 => ?_⟩, fun y c e => ?_, I.free, I.freeC, fun p hp => ?_, fun b ob e => ?_, by rw [List.length_set]; exact I.len⟩
 ·obtain ⟨sl, e1⟩ := I.base.slot b o e z hb hx
  exact ⟨sl, (hs.2 b (nl b o e)).trans e1⟩
 ·obtain ⟨o', e1⟩ := I.base.there b o e hx
  exact ⟨o', (hs.2 b (nl b o e)).trans e1⟩
 ·have hj : j ≠ i := by
   rintro rfl
   rw [List.getElem?_set] at e2
   simp only [if_true] at e2
   split at e2 <;> cases e2
  rw [List.getElem?_set_ne (Ne.symm hj)] at e2
  obtain ⟨u', r', q⟩ := hl j y v' e1 e2 e3
  refine ⟨u', r', ?_⟩
  have ny : y ≠ n := fun z => hj (nodup_ix hN e1 (z ▸ hi))
  rcases q with ⟨k, e⟩ | ⟨k, c, e, z⟩
  ·exact .inl ⟨k, by show (if y = n then v else m y) = _; rw [if_neg ny]; exact e⟩
  ·exact .inr ⟨k, c, e, z.sameBut hs (I.cne y c e)⟩
 ·obtain ⟨w', z⟩ := I.cell y c e
  exact ⟨w', z.sameBut hs (I.cne y c e)⟩
 ·obtain ⟨e, z, ne, nf, d⟩ := I.pin p hp
  exact ⟨(hs.2 p.1 ne).trans e, z, ne, nf, d⟩
 ·refine (I.hok b ob e).stay (fun c w' hc q => (hs.2 c ?_).trans q) (fun _ q => q) fun _ _ q => q
  rintro rfl
  rcases hc with z | z
  ·rw [<- z, I.free] at e; cases e
  ·rw [I.free] at z; cases z
abbrev Cx.taking (X : Cx) (xe : Value -> Shared -> Prop) (pn : List (Addr × Obj)) : Cx := { X with xe := xe, pn := pn }
theorem Inv.take {xe : Value -> Shared -> Prop} (I : Inv X pins σ H s) : Inv (X.taking xe (X.pn ++ pins)) [] σ H s :=
 ⟨⟨I.ok.mod, I.ok.kind, I.ok.glob, I.ok.blt, I.ok.above, I.ok.inj, I.ok.has, I.ok.cab, I.ok.hd, I.ok.frames, I.ok.stk, I.ok.exf, I.ok.bs, I.ok.bsz, I.ok.noex, I.ok.exfs, I.ok.funs, I.ok.frf⟩, I.os, I.bare, I.base, I.loc, I.cell, I.free, I.freeC, fun p hp => I.pin p (by rw [List.append_nil] at hp; exact hp), I.hok, I.len⟩
theorem Inv.untake {xe : Value -> Shared -> Prop} {pins' : List (Addr × Obj)} (ok : X.Ok) (I : Inv (X.taking xe (X.pn ++ pins)) pins' σ H s) : Inv X pins σ H s :=
 ⟨ok, I.os, I.bare, I.base, I.loc, I.cell, I.free, I.freeC, fun p hp => I.pin p (List.mem_append_left _ hp), I.hok, I.len⟩
end
end L2
namespace L2
open PySem PySem.Spec PyProof.Rows
inductive AV where
 | D (d : PyData) | R (a : Addr) | C (ds : List PyData) | X (C : Addr) (fs : List (Str × PyData))
 deriving Inhabited
mutual
def Cano : PyData -> Bool
 | .int _ => true
 | .str _ => true
 | .tuple xs => CanoAll xs
 | _ => false
def CanoAll : List PyData -> Bool
 | [] => true
 | x :: xs => Cano x && CanoAll xs
end
structure KeyTree (d : PyData) : Prop where
 can : Cano d = true
 lay : d.canLay0 = true
 dep : d.depth <= 6
def FzL (K : PySem.W.Frag) (H : Hp) (a : Addr) (xs : List V) : Prop :=
 (∃ o, H a = some (.frz o (.lst xs))) \/
  ∃ (o : Obj) (its : Array Value) (n : Nat), K.lookup a = some o /\ o.cls = .type "list" /\ o.dict = none /\ o.data = .seq its n /\ its.size <= sizeLine /\ Vals xs its.toList
theorem FzL.sq {K : PySem.W.Frag} {H : Hp} {a : Addr} {xs : List V} (h : FzL K H a xs) : SqL K H a xs := by
 rcases h with ⟨o, h⟩ | h
 ·exact .inl (.inr ⟨o, h⟩)
 ·exact .inr h
mutual
def Dk (K : PySem.W.Frag) (H : Hp) : PyData -> V -> Prop
 | .none, x => x = .non
 | .bool b, x => x = .bl b
 | .int i, x => x = .int i
 | .str z, x => x = .str z
 | .list ds, x => ∃ a xs, x = .ref a /\ FzL K H a xs /\ DkAll K H ds xs
 | .tuple ds, x => ∃ a xs, x = .ref a /\ H a = some (.tup xs) /\ DkAll K H ds xs
 | .dict _, _ => False
def DkAll (K : PySem.W.Frag) (H : Hp) : List PyData -> List V -> Prop
 | [], xs => xs = []
 | d :: ds, xs => ∃ x r, xs = x :: r /\ Dk K H d x /\ DkAll K H ds r
end
structure Kp (H H' : Hp) : Prop where
 t : ∀ b xs, H b = some (.tup xs) -> H' b = some (.tup xs)
 f : ∀ b o u, H b = some (.frz o u) -> H' b = some (.frz o u)
theorem Kp.refl {H : Hp} : Kp H H := ⟨fun _ _ h => h, fun _ _ _ h => h⟩
theorem Kp.trans {H H1 H2 : Hp} (a : Kp H H1) (b : Kp H1 H2) : Kp H H2 := ⟨fun c xs h => b.t c xs (a.t c xs h), fun c o u h => b.f c o u (a.f c o u h)⟩
theorem Kp.new {H : Hp} {p : Addr} (h : H p = none) (o : HO) : Kp H (upd H p o) :=
 ⟨fun b xs e => by rw [upd_ne (ne_of_none e h)]; exact e, fun b o' u e => by rw [upd_ne (ne_of_none e h)]; exact e⟩
def Mt : HO -> Prop
 | .lst _ => True
 | .dK _ => True
 | .dT _ => True
 | .dd _ => True
 | _ => False
theorem Kp.put {H : Hp} {p : Addr} {o0 : HO} (h : H p = some o0) (m : Mt o0) (o : HO) : Kp H (upd H p o) :=
 ⟨fun b xs e => by rw [upd_ne (ne_of e h (by intro z; subst z; exact m))]; exact e, fun b o' u e => by rw [upd_ne (ne_of e h (by intro z; subst z; exact m))]; exact e⟩
theorem FzL.kp {K : PySem.W.Frag} {H H' : Hp} {a : Addr} {xs : List V} (S : Kp H H') (h : FzL K H a xs) : FzL K H' a xs := by
 rcases h with ⟨o, h⟩ | h
 ·exact .inl ⟨o, S.f _ _ _ h⟩
 ·exact .inr h
section
variable {K : PySem.W.Frag} {H H' : Hp}
mutual
theorem Dk.kp (S : Kp H H') : ∀ (d : PyData) (x : V), Dk K H d x -> Dk K H' d x
 | .none, x, h => by simp only [Dk] at h ⊢; exact h
 | .bool b, x, h => by simp only [Dk] at h ⊢; exact h
 | .int i, x, h => by simp only [Dk] at h ⊢; exact h
 | .str z, x, h => by simp only [Dk] at h ⊢; exact h
 | .list ds, x, h => by
  simp only [Dk] at h ⊢
  obtain ⟨a, xs, e, q, r⟩ := h
  exact ⟨a, xs, e, q.kp S, DkAll.kp S ds xs r⟩
 | .tuple ds, x, h => by
  simp only [Dk] at h ⊢
  obtain ⟨a, xs, e, q, r⟩ := h
  exact ⟨a, xs, e, S.t _ _ q, DkAll.kp S ds xs r⟩
 | .dict _, x, h => by simp only [Dk] at h
theorem DkAll.kp (S : Kp H H') : ∀ (ds : List PyData) (xs : List V), DkAll K H ds xs -> DkAll K H' ds xs
 | [], xs, h => by simp only [DkAll] at h ⊢; exact h
 | d :: ds, xs, h => by
  simp only [DkAll] at h ⊢
  obtain ⟨x, r, e, h1, h2⟩ := h
  exact ⟨x, r, e, Dk.kp S d x h1, DkAll.kp S ds r h2⟩
end
theorem dk_int {i : Int} : Dk K H (.int i) (.int i) := by simp only [Dk]
theorem dk_bl {b : Bool} : Dk K H (.bool b) (.bl b) := by simp only [Dk]
theorem dk_str {z : Str} : Dk K H (.str z) (.str z) := by simp only [Dk]
theorem dk_non : Dk K H .none .non := by simp only [Dk]
theorem Dk.int {x : V} {i : Int} (h : Dk K H (.int i) x) : x = .int i := by simp only [Dk] at h; exact h
theorem Dk.bl {x : V} {i : Bool} (h : Dk K H (.bool i) x) : x = .bl i := by simp only [Dk] at h; exact h
theorem Dk.str {x : V} {i : Str} (h : Dk K H (.str i) x) : x = .str i := by simp only [Dk] at h; exact h
theorem Dk.non {x : V} (h : Dk K H .none x) : x = .non := by simp only [Dk] at h; exact h
theorem Dk.tup {x : V} {ds : List PyData} (h : Dk K H (.tuple ds) x) : ∃ a xs, x = .ref a /\ H a = some (.tup xs) /\ DkAll K H ds xs := by simp only [Dk] at h; exact h
theorem Dk.lst {x : V} {ds : List PyData} (h : Dk K H (.list ds) x) : ∃ a xs, x = .ref a /\ FzL K H a xs /\ DkAll K H ds xs := by simp only [Dk] at h; exact h
theorem dk_tup {a : Addr} {xs : List V} {ds : List PyData} (h : H a = some (.tup xs)) (r : DkAll K H ds xs) : Dk K H (.tuple ds) (.ref a) := by simp only [Dk]; exact ⟨a, xs, rfl, h, r⟩
theorem dk_lst {a : Addr} {xs : List V} {ds : List PyData} (h : FzL K H a xs) (r : DkAll K H ds xs) : Dk K H (.list ds) (.ref a) := by simp only [Dk]; exact ⟨a, xs, rfl, h, r⟩
theorem dks_nil : DkAll K H [] [] := by simp only [DkAll]
theorem dks_cons {d : PyData} {ds : List PyData} {x : V} {xs : List V} (h : Dk K H d x) (r : DkAll K H ds xs) : DkAll K H (d :: ds) (x :: xs) := by simp only [DkAll]; exact ⟨x, xs, rfl, h, r⟩
theorem DkAll.cons {d : PyData} {ds : List PyData} {xs : List V} (h : DkAll K H (d :: ds) xs) : ∃ x r, xs = x :: r /\ Dk K H d x /\ DkAll K H ds r := by simp only [DkAll] at h; exact h
theorem DkAll.nil {xs : List V} (h : DkAll K H [] xs) : xs = [] := by simp only [DkAll] at h; exact h
theorem DkAll.length : ∀ {ds : List PyData} {xs : List V}, DkAll K H ds xs -> xs.length = ds.length
 | [], _, h => by rw [h.nil]; rfl
 | _ :: ds, _, h => by
  obtain ⟨x, r, rfl, _, h2⟩ := h.cons
  rw [List.length_cons, List.length_cons, DkAll.length h2]
theorem DkAll.get : ∀ {ds : List PyData} {xs : List V} {i : Nat} {d : PyData}, DkAll K H ds xs -> ds[i]? = some d -> ∃ x, xs[i]? = some x /\ Dk K H d x
 | [], _, _, _, _, e => by simp at e
 | _ :: ds, _, 0, d, h, e => by
  obtain ⟨x, r, rfl, h1, _⟩ := h.cons
  simp at e; subst e
  exact ⟨x, rfl, h1⟩
 | _ :: ds, _, i + 1, d, h, e => by
  obtain ⟨x, r, rfl, _, h2⟩ := h.cons
  obtain ⟨y, e1, e2⟩ := DkAll.get (i := i) (d := d) h2 (by simpa using e)
  exact ⟨y, by simpa using e1, e2⟩
theorem DkAll.append : ∀ {ds es : List PyData} {xs ys : List V}, DkAll K H ds xs -> DkAll K H es ys -> DkAll K H (ds ++ es) (xs ++ ys)
 | [], _, _, _, h, k => by rw [h.nil]; exact k
 | _ :: ds, _, _, _, h, k => by
  obtain ⟨x, r, rfl, h1, h2⟩ := h.cons
  exact dks_cons h1 (DkAll.append h2 k)
theorem DkAll.drop : ∀ (n : Nat) {ds : List PyData} {xs : List V}, DkAll K H ds xs -> DkAll K H (ds.drop n) (xs.drop n)
 | 0, _, _, h => h
 | _ + 1, [], _, h => by rw [h.nil]; exact dks_nil
 | n + 1, _ :: ds, _, h => by
  obtain ⟨x, r, rfl, _, h2⟩ := h.cons
  exact DkAll.drop n h2
theorem DkAll.take : ∀ (n : Nat) {ds : List PyData} {xs : List V}, DkAll K H ds xs -> DkAll K H (ds.take n) (xs.take n)
 | 0, _, _, _ => dks_nil
 | _ + 1, [], _, h => by rw [h.nil]; exact dks_nil
 | n + 1, _ :: ds, _, h => by
  obtain ⟨x, r, rfl, h1, h2⟩ := h.cons
  exact dks_cons h1 (DkAll.take n h2)
theorem DkAll.cut {ds : List PyData} {xs : List V} (h : DkAll K H ds xs) (lo hi : Option Int) : DkAll K H (cutD ds lo hi) (cutV xs lo hi) := by
 unfold cutD cutV
 rw [h.length]
 exact (h.drop _).take _
theorem DkAll.atI {ds : List PyData} {xs : List V} {i : Int} {d : PyData} (h : DkAll K H ds xs) (e : atI ds i = some d) : ∃ x, L2.atI xs i = some x /\ Dk K H d x := by
 unfold L2.atI at e ⊢
 rw [h.length]
 cases q : ixN ds.length i with
 | none => rw [q] at e; cases e
 | some j =>
  rw [q] at e
  obtain ⟨x, hx, hd⟩ := h.get (show ds[j]? = some d from e)
  exact ⟨x, hx, hd⟩
def FsOk (K : PySem.W.Frag) (H : Hp) : List (Str × PyData) -> List (Str × V) -> Prop := Paired fun p q => p.1 = q.1 /\ Dk K H p.2 q.2
theorem FsOk.kp {fs : List (Str × PyData)} {vs : List (Str × V)} (S : Kp H H') (h : FsOk K H fs vs) : FsOk K H' fs vs := Paired.mapP h fun p q r => ⟨r.1, Dk.kp S _ _ r.2⟩
def XFs (K : PySem.W.Frag) (H : Hp) (d : Option Addr) (fs : List (Str × PyData)) : Prop := match d with
 | none => fs = []
 | some d => ∃ od kvs, H d = some (.frz od (XD d kvs)) /\ FsOk K H fs kvs
theorem XFs.kp {d : Option Addr} {fs : List (Str × PyData)} (S : Kp H H') (h : XFs K H d fs) : XFs K H' d fs := by
 cases d with
 | none => exact h
 | some d => obtain ⟨od, kvs, q, r⟩ := h; exact ⟨od, kvs, S.f _ _ _ q, r.kp S⟩
def RelA (K : PySem.W.Frag) (H : Hp) : AV -> V -> Prop
 | .D d, v => Dk K H d v
 | .R a, v => v = .ref a
 | .C ds, v => ∃ a xs, v = .ref a /\ (∀ H, SqT K H a xs) /\ DkAll K H ds xs
 | .X C fs, v => ∃ a o d, v = .ref a /\ H a = some (.frz o (XR a C d)) /\ XFs K H d fs
theorem ra_int {i : Int} : RelA K H (.D (.int i)) (.int i) := dk_int (K := K) (H := H)
theorem ra_bl {i : Bool} : RelA K H (.D (.bool i)) (.bl i) := dk_bl (K := K) (H := H)
theorem ra_str {i : Str} : RelA K H (.D (.str i)) (.str i) := dk_str (K := K) (H := H)
theorem ra_non : RelA K H (.D .none) .non := dk_non (K := K) (H := H)
theorem RelA.int {x : V} {i : Int} (h : RelA K H (.D (.int i)) x) : x = .int i := Dk.int (K := K) (H := H) h
theorem RelA.bl {x : V} {i : Bool} (h : RelA K H (.D (.bool i)) x) : x = .bl i := Dk.bl (K := K) (H := H) h
theorem RelA.str {x : V} {i : Str} (h : RelA K H (.D (.str i)) x) : x = .str i := Dk.str (K := K) (H := H) h
theorem RelA.non {x : V} (h : RelA K H (.D .none) x) : x = .non := Dk.non (K := K) (H := H) h
theorem RelA.tup {x : V} {ds : List PyData} (h : RelA K H (.D (.tuple ds)) x) : ∃ a xs, x = .ref a /\ H a = some (.tup xs) /\ DkAll K H ds xs := Dk.tup (K := K) (H := H) h
theorem RelA.lst {x : V} {ds : List PyData} (h : RelA K H (.D (.list ds)) x) : ∃ a xs, x = .ref a /\ FzL K H a xs /\ DkAll K H ds xs := Dk.lst (K := K) (H := H) h
theorem RelA.ref {x : V} {a : Addr} (h : RelA K H (.R a) x) : x = .ref a := h
theorem ra_ref {a : Addr} : RelA K H (.R a) (.ref a) := rfl
theorem ra_D {d : PyData} {v : V} (h : Dk K H d v) : RelA K H (.D d) v := h
theorem ra_tup {a : Addr} {xs : List V} {ds : List PyData} (h : H a = some (.tup xs)) (r : DkAll K H ds xs) : RelA K H (.D (.tuple ds)) (.ref a) := dk_tup (K := K) (H := H) h r
abbrev RelAs (K : PySem.W.Frag) (H : Hp) : List AV -> List V -> Prop := Paired (RelA K H)
theorem RelA.kp (S : Kp H H') : ∀ {x : AV} {v : V}, RelA K H x v -> RelA K H' x v
 | .D d, v, h => Dk.kp S d v h
 | .R a, _, h => h
 | .C ds, v, ⟨a, xs, e, q, r⟩ => ⟨a, xs, e, q, DkAll.kp S ds xs r⟩
 | .X C fs, v, ⟨a, o, d, e, q, r⟩ => ⟨a, o, d, e, S.f _ _ _ q, r.kp S⟩
theorem RelAs.kp (S : Kp H H') {xs : List AV} {vs : List V} (h : RelAs K H xs vs) : RelAs K H' xs vs := Paired.mapP h fun _ _ q => q.kp S
theorem RelAs.length {xs : List AV} {vs : List V} (h : RelAs K H xs vs) : xs.length = vs.length := Paired.length h
theorem RelAs.append {xs ys : List AV} {us ws : List V} (h : RelAs K H xs us) (s : RelAs K H ys ws) : RelAs K H (xs ++ ys) (us ++ ws) := by
 induction h with
 | nil => exact s
 | cons r t ih => exact .cons r ih
theorem RelAs.get : ∀ {xs : List AV} {us : List V} {i : Nat} {x : AV}, RelAs K H xs us -> xs[i]? = some x -> ∃ u, us[i]? = some u /\ RelA K H x u
 | _, _, _, _, .nil, e => by simp at e
 | _, _, 0, _, .cons r _, e => by simp at e; subst e; exact ⟨_, rfl, r⟩
 | _, _, i + 1, x, .cons _ t, e => by
  obtain ⟨u, h1, h2⟩ := RelAs.get (i := i) (x := x) t (by simpa using e)
  exact ⟨u, by simpa using h1, h2⟩
theorem RelAs.set {x : AV} {u : V} (r : RelA K H x u) : ∀ {xs : List AV} {us : List V} (i : Nat), RelAs K H xs us -> RelAs K H (xs.set i x) (us.set i u)
 | _, _, _, .nil => .nil
 | _, _, 0, .cons _ t => .cons r t
 | _, _, i + 1, .cons q t => .cons q (RelAs.set r i t)
theorem RelAs.drop : ∀ {xs : List AV} {us : List V} (n : Nat), RelAs K H xs us -> RelAs K H (xs.drop n) (us.drop n)
 | _, _, 0, r => r
 | _, _, _ + 1, .nil => .nil
 | _, _, n + 1, .cons _ t => RelAs.drop n t
theorem RelAs.take : ∀ {xs : List AV} {us : List V} (n : Nat), RelAs K H xs us -> RelAs K H (xs.take n) (us.take n)
 | _, _, 0, _ => .nil
 | _, _, _ + 1, .nil => .nil
 | _, _, n + 1, .cons r t => .cons r (RelAs.take n t)
theorem RelAs.dropLast {xs : List AV} {us : List V} (h : RelAs K H xs us) : RelAs K H xs.dropLast us.dropLast := by
 induction h with
 | nil => exact .nil
 | cons r t ih =>
  cases t with
  | nil => exact .nil
  | cons r2 t => exact .cons r ih
theorem RelAs.rev {xs : List AV} {us : List V} (h : RelAs K H xs us) : RelAs K H xs.reverse us.reverse := by
 induction h with
 | nil => exact .nil
 | cons r t ih => rw [List.reverse_cons, List.reverse_cons]; exact ih.append (.cons r .nil)
def cutA (xs : List AV) (lo hi : Option Int) : List AV := (xs.drop (HT.sIx xs.length 0 lo)).take (HT.sIx xs.length xs.length hi - HT.sIx xs.length 0 lo)
theorem RelAs.cut {xs : List AV} {us : List V} (h : RelAs K H xs us) (lo hi : Option Int) : RelAs K H (cutA xs lo hi) (cutV us lo hi) := by
 unfold cutA cutV
 rw [h.length]
 exact (h.drop _).take _
theorem RelAs.atI {xs : List AV} {us : List V} {i : Int} {x : AV} (h : RelAs K H xs us) (e : atI xs i = some x) : ∃ u, L2.atI us i = some u /\ RelA K H x u := by
 unfold L2.atI at e ⊢
 rw [<- h.length]
 cases q : ixN xs.length i with
 | none => rw [q] at e; cases e
 | some j =>
  rw [q] at e
  obtain ⟨x, hx, hd⟩ := h.get (show xs[j]? = some x from e)
  exact ⟨x, hx, hd⟩
def dats : List AV -> Option (List PyData)
 | [] => some []
 | .D d :: r => match dats r with
  | some ds => some (d :: ds)
  | none => none
 | .R _ :: _ => none
 | .C _ :: _ => none
 | .X _ _ :: _ => none
@[simp] theorem dats_nil : dats [] = some [] := rfl
theorem dats_map : ∀ (ds : List PyData), dats (ds.map .D) = some ds
 | [] => rfl
 | d :: ds => by simp only [List.map_cons, dats, dats_map ds]
theorem dats_eq : ∀ {xs : List AV} {ds : List PyData}, dats xs = some ds -> xs = ds.map .D
 | [], ds, h => by cases h; rfl
 | .D d :: r, ds, h => by
  simp only [dats] at h
  cases q : dats r with
  | none => rw [q] at h; cases h
  | some es => rw [q] at h; cases h; rw [dats_eq q]; rfl
 | .R _ :: _, _, h => by simp [dats] at h
 | .C _ :: _, _, h => by simp [dats] at h
 | .X _ _ :: _, _, h => by simp [dats] at h
theorem RelAs.dk : ∀ {ds : List PyData} {vs : List V}, RelAs K H (ds.map .D) vs -> DkAll K H ds vs
 | [], _, h => by cases h; exact dks_nil
 | _ :: _, _, h => by
  rw [List.map_cons] at h
  cases h with
  | cons r t => exact dks_cons r (RelAs.dk t)
theorem DkAll.rel : ∀ {ds : List PyData} {vs : List V}, DkAll K H ds vs -> RelAs K H (ds.map .D) vs
 | [], _, h => by rw [h.nil]; exact .nil
 | _ :: _, _, h => by
  obtain ⟨x, r, rfl, h1, h2⟩ := h.cons
  exact .cons h1 (DkAll.rel h2)
theorem RelAs.dats {xs : List AV} {vs : List V} {ds : List PyData} (h : RelAs K H xs vs) (e : dats xs = some ds) : DkAll K H ds vs := by rw [dats_eq e] at h; exact h.dk
inductive MO where
 | lst (xs : List AV) | dk (kvs : List (Key × AV)) | dt (kvs : List (List Key × AV)) | dd (kvs : List (PyData × AV))
abbrev M := Addr -> Option MO
def updM (μ : M) (a : Addr) (m : MO) : M := fun b => if b = a then some m else μ b
theorem updM_same {μ : M} {a : Addr} {m : MO} : updM μ a m a = some m := by unfold updM; rw [if_pos rfl]
theorem updM_ne {μ : M} {a b : Addr} {m : MO} (h : b ≠ a) : updM μ a m b = μ b := by unfold updM; rw [if_neg h]
theorem updM_updM {μ : M} {a : Addr} {m n : MO} : updM (updM μ a m) a n = updM μ a n := by funext b; unfold updM; split <;> rfl
def RelK {κ : Type} (K : PySem.W.Frag) (H : Hp) : List (κ × AV) -> List (κ × V) -> Prop := Paired fun p q => p.1 = q.1 /\ RelA K H p.2 q.2
theorem RelK.kp {κ : Type} (S : Kp H H') {xs : List (κ × AV)} {vs : List (κ × V)} (h : RelK K H xs vs) : RelK K H' xs vs := Paired.mapP h fun _ _ q => ⟨q.1, q.2.kp S⟩
def RelD (K : PySem.W.Frag) (H : Hp) : List (PyData × AV) -> List (PyData × Addr × Value) -> Prop := Paired fun p q => p.1 = q.1 /\ KeyTree p.1 /\ Dk K H p.1 (.ref q.2.1) /\ ∃ v, RelA K H p.2 v /\ RelV v q.2.2
theorem RelD.kp (S : Kp H H') {xs : List (PyData × AV)} {vs : List (PyData × Addr × Value)} (h : RelD K H xs vs) : RelD K H' xs vs := Paired.mapP h fun _ _ ⟨a, b, c, v, r, q⟩ => ⟨a, b, Dk.kp S _ _ c, v, r.kp S, q⟩
def RelM (K : PySem.W.Frag) (H : Hp) : MO -> HO -> Prop
 | .lst xs, o => ∃ vs, o = .lst vs /\ RelAs K H xs vs
 | .dk kvs, o => ∃ vs, o = .dK vs /\ RelK K H kvs vs
 | .dt kvs, o => ∃ vs, o = .dT vs /\ RelK K H kvs vs
 | .dd kvs, o => ∃ xs, o = .dd xs /\ RelD K H kvs xs
theorem RelM.kp (S : Kp H H') {m : MO} {o : HO} (h : RelM K H m o) : RelM K H' m o := by
 cases m with
 | lst xs => obtain ⟨vs, e, r⟩ := h; exact ⟨vs, e, r.kp S⟩
 | dk xs => obtain ⟨vs, e, r⟩ := h; exact ⟨vs, e, r.kp S⟩
 | dt xs => obtain ⟨vs, e, r⟩ := h; exact ⟨vs, e, r.kp S⟩
 | dd xs => obtain ⟨vs, e, r⟩ := h; exact ⟨vs, e, r.kp S⟩
theorem rm_lst {xs : List AV} {vs : List V} (h : RelAs K H xs vs) : RelM K H (.lst xs) (.lst vs) := ⟨vs, rfl, h⟩
theorem RelM.mt {m : MO} {o : HO} (h : RelM K H m o) : Mt o := by
 cases m with
 | lst xs => obtain ⟨vs, rfl, r⟩ := h; trivial
 | dk xs => obtain ⟨vs, rfl, r⟩ := h; trivial
 | dt xs => obtain ⟨vs, rfl, r⟩ := h; trivial
 | dd xs => obtain ⟨vs, rfl, r⟩ := h; trivial
def Cn (K : PySem.W.Frag) (μ : M) (H : Hp) : Prop := ∀ a m, μ a = some m -> ∃ o, H a = some o /\ RelM K H m o
theorem Cn.none {μ : M} {p : Addr} (c : Cn K μ H) (h : H p = none) : μ p = none := by
 cases q : μ p with
 | none => rfl
 | some m => obtain ⟨o, e, _⟩ := c p m q; rw [h] at e; cases e
theorem Cn.over {μ : M} {p : Addr} {o : HO} (c : Cn K μ H) (h : H p = Option.none) : Cn K μ (upd H p o) := fun a m e => by
 obtain ⟨o', e', r⟩ := c a m e
 exact ⟨o', by rw [upd_ne (ne_of_none e' h)]; exact e', r.kp (Kp.new h o)⟩
theorem Cn.new {μ : M} {p : Addr} {m : MO} {o : HO} (c : Cn K μ H) (h : H p = Option.none) (r : RelM K H m o) : Cn K (updM μ p m) (upd H p o) := fun a m' e => by
 by_cases ha : a = p
 ·subst ha; rw [updM_same] at e; cases e; exact ⟨o, upd_same, r.kp (Kp.new h o)⟩
 ·rw [updM_ne ha] at e; exact c.over h a m' e
theorem Cn.put {μ : M} {p : Addr} {m : MO} {o o0 : HO} (c : Cn K μ H) (h : H p = some o0) (hm : Mt o0) (r : RelM K H m o) : Cn K (updM μ p m) (upd H p o) := fun a m' e => by
 by_cases ha : a = p
 ·subst ha; rw [updM_same] at e; cases e; exact ⟨o, upd_same, r.kp (Kp.put h hm o)⟩
 ·rw [updM_ne ha] at e
  obtain ⟨o', e', r'⟩ := c a m' e
  exact ⟨o', by rw [upd_ne ha]; exact e', r'.kp (Kp.put h hm o)⟩
def Sub (μ ν : M) : Prop := ∀ a m, μ a = some m -> ν a = some m
theorem Sub.refl {μ : M} : Sub μ μ := fun _ _ h => h
theorem Sub.new {μ ν : M} {p : Addr} {m : MO} (h : Sub μ ν) (e : μ p = none) : Sub μ (updM ν p m) := fun a m' e' => by
 rw [updM_ne (by intro z; subst z; rw [e] at e'; cases e')]; exact h a m' e'
theorem Sub.none {μ ν : M} {p : Addr} (h : Sub μ ν) (e : ν p = none) : μ p = none := by
 cases q : μ p with
 | none => rfl
 | some m => rw [h p m q] at e; cases e
theorem Cn.sub {μ ν : M} (c : Cn K ν H) (h : Sub μ ν) : Cn K μ H := fun a m e => c a m (h a m e)
abbrev ASt := List (Option AV)
def RelSl (K : PySem.W.Frag) (H : Hp) (a : Option AV) (b : Option V) : Prop := ∀ x, a = some x -> ∃ v, b = some v /\ RelA K H x v
abbrev StA (K : PySem.W.Frag) (H : Hp) : ASt -> St -> Prop := Paired (RelSl K H)
theorem RelSl.kp {a : Option AV} {b : Option V} (S : Kp H H') (h : RelSl K H a b) : RelSl K H' a b := fun x e => let ⟨v, e2, r⟩ := h x e; ⟨v, e2, r.kp S⟩
theorem StA.kp {τ : ASt} {σ : St} (S : Kp H H') (h : StA K H τ σ) : StA K H' τ σ := Paired.mapP h fun _ _ q => q.kp S
theorem StA.get : ∀ {τ : ASt} {σ : St} {i : Nat} {x : AV}, StA K H τ σ -> τ[i]? = some (some x) -> ∃ v, σ[i]? = some (some v) /\ RelA K H x v
 | _, _, _, _, .nil, e => by simp at e
 | _, _, 0, _, .cons r _, e => by simp at e; subst e; obtain ⟨v, rfl, q⟩ := r _ rfl; exact ⟨v, rfl, q⟩
 | _, _, i + 1, x, .cons _ t, e => by
  obtain ⟨u, h1, h2⟩ := StA.get (i := i) (x := x) t (by simpa using e)
  exact ⟨u, by simpa using h1, h2⟩
theorem relSl_some {x : AV} {v : V} (r : RelA K H x v) : RelSl K H (some x) (some v) := fun y e => by cases e; exact ⟨v, rfl, r⟩
theorem relSl_none {b : Option V} : RelSl K H none b := fun y e => nomatch e
theorem StA.set {x : AV} {v : V} (r : RelA K H x v) : ∀ {τ : ASt} {σ : St} (i : Nat), StA K H τ σ -> StA K H (τ.set i (some x)) (σ.set i (some v))
 | _, _, _, .nil => .nil
 | _, _, 0, .cons _ t => .cons (relSl_some r) t
 | _, _, i + 1, .cons q t => .cons q (StA.set r i t)
def startA (N : List Str) (xs : List AV) : ASt := xs.map some ++ List.replicate (N.length - xs.length) none
theorem StA.rep : ∀ (n : Nat), StA K H (List.replicate n none) (List.replicate n none)
 | 0 => .nil
 | n + 1 => .cons relSl_none (StA.rep n)
theorem StA.somes : ∀ {xs : List AV} {vs : List V}, RelAs K H xs vs -> StA K H (xs.map some) (vs.map some)
 | _, _, .nil => .nil
 | _, _, .cons r t => .cons (relSl_some r) (StA.somes t)
theorem StA.append {τ τ' : ASt} {σ σ' : St} (h : StA K H τ σ) (s : StA K H τ' σ') : StA K H (τ ++ τ') (σ ++ σ') := by
 induction h with
 | nil => exact s
 | cons r t ih => exact .cons r ih
theorem StA.begin {N : List Str} {xs : List AV} {vs : List V} (h : RelAs K H xs vs) : StA K H (startA N xs) (start N vs) := by
 unfold startA start
 rw [h.length]
 exact (StA.somes h).append (StA.rep _)
def subA (mp : List (Option Nat)) (τ : ASt) : ASt := mp.map fun o => match o with
 | none => none
 | some j => match τ[j]? with
  | some x => x
  | none => none
theorem StA.sub {τ : ASt} {σ : St} (h : StA K H τ σ) : ∀ (mp : List (Option Nat)), StA K H (subA mp τ) (subS mp σ)
 | [] => .nil
 | none :: mp => .cons relSl_none (StA.sub h mp)
 | some j :: mp => by
  refine .cons (fun x e => ?_) (StA.sub h mp)
  have e' : τ[j]? = some (some x) := by
   dsimp only at e
   cases q : τ[j]? with
   | none => rw [q] at e; cases e
   | some y => rw [q] at e; exact congrArg some e
  obtain ⟨v, hv, r⟩ := h.get e'
  refine ⟨v, ?_, r⟩
  show (σ[j]?).join = some v
  rw [hv]; rfl
end
end L2
namespace L2
open PySem PySem.Spec PyProof.Rows
abbrev AE := ASt -> M -> (AV -> M -> Prop) -> Prop
abbrev AT := ASt -> M -> (Bool -> M -> Prop) -> Prop
abbrev AA := ASt -> M -> (List AV -> M -> Prop) -> Prop
abbrev AO := ASt -> M -> (Option Int -> M -> Prop) -> Prop
abbrev AS := (ASt -> M -> Prop) -> (AV -> M -> Prop) -> (ASt -> M -> Prop) -> (ASt -> M -> Prop) -> ASt -> M -> Prop
abbrev AG := AV -> ASt -> M -> (ASt -> M -> Prop) -> Prop
abbrev AGs := List AV -> ASt -> M -> (ASt -> M -> Prop) -> Prop
abbrev A2 := AV -> AV -> M -> (AV -> M -> Prop) -> Prop
abbrev AC := List AV -> M -> (AV -> M -> Prop) -> Prop
@[irreducible] def brP (b : Bool) (T F : Prop) : Prop := match b with
 | true => T
 | false => F
@[irreducible] def opt {α : Type} (o : Option α) (k : α -> Prop) : Prop := match o with
 | some x => k x
 | none => False
theorem br {b : Bool} {T F : Prop} (h1 : b = true -> T) (h2 : b = false -> F) : brP b T F := by
 unfold brP; cases b with
 | true => exact h1 rfl
 | false => exact h2 rfl
theorem brT {b : Bool} {T F : Prop} (hb : b = true) (h : T) : brP b T F := by subst hb; unfold brP; exact h
theorem brF {b : Bool} {T F : Prop} (hb : b = false) (h : F) : brP b T F := by subst hb; unfold brP; exact h
theorem brP_true {T F : Prop} : brP true T F = T := by unfold brP; rfl
theorem br_e {b : Bool} {T F : Prop} (h : brP b T F) : (b = true /\ T) \/ (b = false /\ F) := by
 unfold brP at h; cases b with
 | true => exact .inl ⟨rfl, h⟩
 | false => exact .inr ⟨rfl, h⟩
theorem opt_i {α : Type} {o : Option α} {x : α} {k : α -> Prop} (h : o = some x) (q : k x) : opt o k := by subst h; unfold opt; exact q
theorem opt_e {α : Type} {o : Option α} {k : α -> Prop} (h : opt o k) : ∃ x, o = some x /\ k x := by
 unfold opt at h; cases o with
 | none => exact h.elim
 | some x => exact ⟨x, rfl, h⟩
theorem dif {p : Prop} [Decidable p] {T F : Prop} (h1 : p -> T) (h2 : ¬ p -> F) : brP (decide p) T F := br (fun h => h1 (of_decide_eq_true h)) (fun h => h2 (of_decide_eq_false h))
def LV (K : PySem.W.Frag) (H : Hp) (R : AV -> M -> Prop) (Q : VK) : Prop := ∀ x μ v H', Kp H H' -> Cn K μ H' -> RelA K H' x v -> R x μ -> Q v H'
def LB (K : PySem.W.Frag) (H : Hp) (R : Bool -> M -> Prop) (Q : Bool -> Hp -> Prop) : Prop := ∀ b μ H', Kp H H' -> Cn K μ H' -> R b μ -> Q b H'
def LA (K : PySem.W.Frag) (n : Nat) (H : Hp) (R : List AV -> M -> Prop) (Q : List V -> Hp -> Prop) : Prop := ∀ xs μ vs H', Kp H H' -> Cn K μ H' -> RelAs K H' xs vs -> xs.length = n -> R xs μ -> Q vs H'
def LO (K : PySem.W.Frag) (H : Hp) (R : Option Int -> M -> Prop) (Q : Option Int -> Hp -> Prop) : Prop := ∀ b μ H', Kp H H' -> Cn K μ H' -> R b μ -> Q b H'
def LS (K : PySem.W.Frag) (H : Hp) (R : ASt -> M -> Prop) (Q : St -> Hp -> Prop) : Prop := ∀ τ μ σ H', Kp H H' -> StA K H' τ σ -> Cn K μ H' -> R τ μ -> Q σ H'
theorem LV.kp {K : PySem.W.Frag} {H H' : Hp} {R : AV -> M -> Prop} {Q : VK} (h : LV K H R Q) (S : Kp H H') : LV K H' R Q := fun x μ v H2 S2 => h x μ v H2 (S.trans S2)
theorem LB.kp {K : PySem.W.Frag} {H H' : Hp} {R : Bool -> M -> Prop} {Q : Bool -> Hp -> Prop} (h : LB K H R Q) (S : Kp H H') : LB K H' R Q := fun x μ H2 S2 => h x μ H2 (S.trans S2)
theorem LS.kp {K : PySem.W.Frag} {H H' : Hp} {R : ASt -> M -> Prop} {Q : St -> Hp -> Prop} (h : LS K H R Q) (S : Kp H H') : LS K H' R Q := fun x μ v H2 S2 => h x μ v H2 (S.trans S2)
structure LE' (K : PySem.W.Frag) (H : Hp) (k : ASt -> M -> Prop) (r : AV -> M -> Prop) (b c : ASt -> M -> Prop) (D : Ends) : Prop where
 nx : LS K H k D.nx
 rt : LV K H r D.rt
 bk : LS K H b D.bk
 ct : LS K H c D.ct
theorem LE'.kp {K : PySem.W.Frag} {H H' : Hp} {k : ASt -> M -> Prop} {r : AV -> M -> Prop} {b c : ASt -> M -> Prop} {D : Ends} (h : LE' K H k r b c D) (S : Kp H H') : LE' K H' k r b c D := ⟨h.nx.kp S, h.rt.kp S, h.bk.kp S, h.ct.kp S⟩
def cE (K : PySem.W.Frag) (t : AE) : TE := fun σ H Q => ∃ τ μ R, StA K H τ σ /\ Cn K μ H /\ t τ μ R /\ LV K H R Q
def cT (K : PySem.W.Frag) (t : AT) : TT := fun σ H Q => ∃ τ μ R, StA K H τ σ /\ Cn K μ H /\ t τ μ R /\ LB K H R Q
def cA (K : PySem.W.Frag) (n : Nat) (t : AA) : TA := fun σ H Q => ∃ τ μ R, StA K H τ σ /\ Cn K μ H /\ t τ μ R /\ LA K n H R Q
def cO (K : PySem.W.Frag) (t : AO) : TO := fun σ H Q => ∃ τ μ R, StA K H τ σ /\ Cn K μ H /\ t τ μ R /\ LO K H R Q
def cS (K : PySem.W.Frag) (t : AS) : TS := fun D σ H => ∃ τ μ k r b c, StA K H τ σ /\ Cn K μ H /\ t k r b c τ μ /\ LE' K H k r b c D
def cG (K : PySem.W.Frag) (t : AG) : TG := fun v σ H Q => ∃ x τ μ R, RelA K H x v /\ StA K H τ σ /\ Cn K μ H /\ t x τ μ R /\ LS K H R Q
def cGs (K : PySem.W.Frag) (t : AGs) : TGs := fun vs σ H Q => ∃ xs τ μ R, RelAs K H xs vs /\ StA K H τ σ /\ Cn K μ H /\ t xs τ μ R /\ LS K H R Q
def cR (K : PySem.W.Frag) (r : A2) : R2 := fun x y H Q => ∃ a b μ R, RelA K H a x /\ RelA K H b y /\ Cn K μ H /\ r a b μ R /\ LV K H R Q
def cC (K : PySem.W.Frag) (r : AC) : List V -> Hp -> VK -> Prop := fun xs H Q => ∃ as μ R, RelAs K H as xs /\ Cn K μ H /\ r as μ R /\ LV K H R Q
def cM (K : PySem.W.Frag) (r : AV -> AC) : V -> List V -> Hp -> VK -> Prop := fun x xs H Q => ∃ a as μ R, RelA K H a x /\ RelAs K H as xs /\ Cn K μ H /\ r a as μ R /\ LV K H R Q
def VE (X : Cx) (e : Expr) (t : AE) : Prop := PE X e (cE X.K t)
def VT (X : Cx) (e : Expr) (t : AT) : Prop := PT X e (cT X.K t)
def VW (X : Cx) (e : Expr) (t : AT) : Prop := PW X e (cT X.K t)
def VA (X : Cx) (es : List Expr) (t : AA) : Prop := PA X es (cA X.K es.length t)
def VO (X : Cx) (e : Option Expr) (t : AO) : Prop := PO X e (cO X.K t)
def VS (X : Cx) (st : Stmt) (t : AS) : Prop := PS X st (cS X.K t)
def VSs (X : Cx) (st : List Stmt) (t : AS) : Prop := PSs X st (cS X.K t)
def VG (X : Cx) (e : Expr) (t : AG) : Prop := PG X e (cG X.K t)
def VGs (X : Cx) (es : List Expr) (t : AGs) : Prop := PGs X es (cGs X.K t)
def VOp (X : Cx) (f : Value -> Value -> Sem Value) (r : A2) : Prop := OpR X f (cR X.K r)
def VIx (X : Cx) (r : A2) : Prop := IxR X (cR X.K r)
def VCall (X : Cx) (f : Value) (r : AC) : Prop := CallR X f (cC X.K r)
def VMt (X : Cx) (id : String) (r : AV -> AC) : Prop := MtR X id (cM X.K r)
section
variable {X : Cx}
theorem PE.imp {e : Expr} {t u : TE} (h : PE X e t) (i : ∀ σ H Q, u σ H Q -> t σ H Q) : PE X e u := fun pins s σ H Q I q => h pins s σ H Q I (i σ H Q q)
theorem PT.imp {e : Expr} {t u : TT} (h : PT X e t) (i : ∀ σ H Q, u σ H Q -> t σ H Q) : PT X e u := fun pins s σ H Q I q => h pins s σ H Q I (i σ H Q q)
theorem PW.imp {e : Expr} {t u : TT} (h : PW X e t) (i : ∀ σ H Q, u σ H Q -> t σ H Q) : PW X e u := fun wh pins s σ H Q I q => h wh pins s σ H Q I (i σ H Q q)
theorem PA.imp {e : List Expr} {t u : TA} (h : PA X e t) (i : ∀ σ H Q, u σ H Q -> t σ H Q) : PA X e u := fun pos pins s σ H Q I q => h pos pins s σ H Q I (i σ H Q q)
theorem PO.imp {e : Option Expr} {t u : TO} (h : PO X e t) (i : ∀ σ H Q, u σ H Q -> t σ H Q) : PO X e u := fun pins s σ H Q I q => h pins s σ H Q I (i σ H Q q)
theorem PS.imp {e : Stmt} {t u : TS} (h : PS X e t) (i : ∀ D σ H, u D σ H -> t D σ H) : PS X e u := fun pins s σ H D I q => h pins s σ H D I (i D σ H q)
theorem PSs.imp {e : List Stmt} {t u : TS} (h : PSs X e t) (i : ∀ D σ H, u D σ H -> t D σ H) : PSs X e u := fun pins s σ H D I q => h pins s σ H D I (i D σ H q)
theorem PG.imp {e : Expr} {t u : TG} (h : PG X e t) (i : ∀ v σ H Q, u v σ H Q -> t v σ H Q) : PG X e u := fun pins s σ H v w Q I r q => h pins s σ H v w Q I r (i v σ H Q q)
theorem PGs.imp {e : List Expr} {t u : TGs} (h : PGs X e t) (i : ∀ v σ H Q, u v σ H Q -> t v σ H Q) : PGs X e u := fun pins s σ H v w Q I r q => h pins s σ H v w Q I r (i v σ H Q q)
def vVar (i : Nat) : AE := fun τ μ R => match τ[i]? with
 | some (some x) => R x μ
 | _ => False
theorem vVar_imp {K : PySem.W.Frag} {i : Nat} {σ : St} {H : Hp} {Q : VK} (h : cE K (vVar i) σ H Q) : tVar i σ H Q := by
 obtain ⟨τ, μ, R, hs, hc, h, hq⟩ := h
 unfold vVar at h
 split at h
 ·rename_i x e
  obtain ⟨v, ev, r⟩ := hs.get e
  exact ⟨v, ev, hq _ _ _ _ Kp.refl hc r h⟩
 ·exact h.elim
theorem vv (i : Nat) {x : Str} {pos : Pos} (hN : X.N[i]? = some x := by rfl) (hv : Vis X.env.scope x := by first | exact Or.inl rfl | exact Or.inr (Or.inl rfl) | exact Or.inr (Or.inr rfl)) (hd : (x == ("__debug__" : Str)) = false := by decide)
  (hcd : (x == ("__classdict__" : Str)) = false := by decide) : VE X (.Name x pos) (vVar i) := (pe_var hN hv hd hcd).imp fun _ _ _ h => vVar_imp h
def vC (x : AV) : AE := fun _ μ R => R x μ
theorem ve_const {e : Expr} {v : V} {d : PyData} (h : PE X e (tC v)) (r : ∀ H, Dk X.K H d v) : VE X e (vC (.D d)) := h.imp fun σ H Q zz1 => ex34 zz1 fun τ μ R hs hc h hq => hq _ _ _ _ Kp.refl hc (ra_D (r H)) h
theorem ve_int {i j pos} : VE X (.Constant (.int i) j pos) (vC (.D (.int i))) := ve_const pe_int fun _ => dk_int
theorem ve_bl {b j pos} : VE X (.Constant (.bool b) j pos) (vC (.D (.bool b))) := ve_const pe_bl fun _ => dk_bl
theorem ve_non {j pos} : VE X (.Constant .none j pos) (vC (.D .none)) := ve_const pe_non fun _ => dk_non
theorem ve_str {x j pos} : VE X (.Constant (.str x) j pos) (vC (.D (.str x))) := ve_const pe_str fun _ => dk_str
theorem ve_glob {x : Str} {v : V} {u : Value} {d : PyData} {pos : Pos} (hg : Gl X x) (hm : X.mg x = some u) (r : RelV v u) (hd : ∀ H, Dk X.K H d v) (h1 : (x == ("__debug__" : Str)) = false := by decide) : VE X (.Name x pos) (vC (.D d)) := ve_const (pe_glob hg hm r h1) hd
def vOp (r : A2) (ta tb : AE) : AE := fun τ μ R => ta τ μ fun x μ1 => tb τ μ1 fun y μ2 => r x y μ2 R
theorem vOp_imp {K : PySem.W.Frag} {r : A2} {ta tb : AE} {σ : St} {H : Hp} {Q : VK} (h : cE K (vOp r ta tb) σ H Q) : tOp (cR K r) (cE K ta) (cE K tb) σ H Q := by
 obtain ⟨τ, μ, R, hs, hc, h, hq⟩ := h
 exact ⟨τ, μ, _, hs, hc, h, fun x μ1 v H1 S1 c1 rx hx => ⟨τ, μ1, _, hs.kp S1, c1, hx, fun y μ2 u H2 S2 c2 ry hy => ⟨x, y, μ2, R, rx.kp S2, ry, c2, hy, hq.kp (S1.trans S2)⟩⟩⟩
variable {a b c : Expr} {ta tb tc : AE} {pos : Pos}
theorem ve_op {op : Operator} {r : A2} (ho : VOp X (binaryOp op) r) (ha : VE X a ta) (hb : VE X b tb) : VE X (.BinOp a op b pos) (vOp r ta tb) := (pe_op ho ha hb).imp fun _ _ _ h => vOp_imp h
theorem ve_cmp {op : CmpOp} {r : A2} (ho : VOp X (compareOp op) r) (ha : VE X a ta) (hb : VE X b tb) (hm : behindInMarks op b = false) : VE X (.Compare a [op] [b] pos) (vOp r ta tb) := (pe_cmpR ho ha hb hm).imp fun _ _ _ h => vOp_imp h
def vTest (t : AE) : AT := fun τ μ R => t τ μ fun x μ1 => match x with
 | .D (.bool k) => R k μ1
 | _ => False
theorem vTest_imp {K : PySem.W.Frag} {t : AE} {u : TE} (hu : ∀ σ H Q, cE K t σ H Q -> u σ H Q) {σ : St} {H : Hp} {Q : Bool -> Hp -> Prop} (h : cT K (vTest t) σ H Q) : tTest u σ H Q := by
 obtain ⟨τ, μ, R, hs, hc, h, hq⟩ := h
 refine hu _ _ _ ⟨τ, μ, _, hs, hc, h, fun x μ1 v H1 S1 c1 rx hx => ?_⟩
 split at hx
 ·cases RelA.bl rx
  exact ⟨_, rfl, hq _ _ _ S1 c1 hx⟩
 ·exact hx.elim
theorem vt_cmp {op : CmpOp} {r : A2} (ho : VOp X (compareOp op) r) (ha : VE X a ta) (hb : VE X b tb) (hm : behindInMarks op b = false) : VT X (.Compare a [op] [b] pos) (vTest (vOp r ta tb)) :=
 (pt_cmpR ho ha hb hm).imp fun _ _ _ h => vTest_imp (fun _ _ _ q => vOp_imp q) h
def vChain (r r' : A2) (ta tb tc : AE) : AE := fun τ μ R => ta τ μ fun x μ1 => tb τ μ1 fun y μ2 => r x y μ2 fun z μ3 => match z with
 | .D (.bool k) => brP k (tc τ μ3 fun w μ4 => r' y w μ4 R) (R (.D (.bool false)) μ3)
 | _ => False
theorem vChain_imp {K : PySem.W.Frag} {r r' : A2} {ta tb tc : AE} {σ : St} {H : Hp} {Q : VK} (h : cE K (vChain r r' ta tb tc) σ H Q) : tChain (cR K r) (cR K r') (cE K ta) (cE K tb) (cE K tc) σ H Q := by
 obtain ⟨τ, μ, R, hs, hc, h, hq⟩ := h
 refine ⟨τ, μ, _, hs, hc, h, fun x μ1 v H1 S1 c1 rx hx => ⟨τ, μ1, _, hs.kp S1, c1, hx, fun y μ2 u H2 S2 c2 ry hy => ⟨x, y, μ2, _, rx.kp S2, ry, c2, hy, fun z μ3 q H3 S3 c3 rz hz => ?_⟩⟩⟩
 split at hz
 ·cases RelA.bl rz
  rcases br_e hz with ⟨rfl, hz'⟩ | ⟨rfl, hz'⟩
  ·exact ⟨true, rfl, by
    first
     | exact ⟨τ, μ3, _, hs.kp (S1.trans (S2.trans S3)), c3, hz', fun w μ4 p H4 S4 c4 rw hw => ⟨y, w, μ4, R, ry.kp (S3.trans S4), rw, c4, hw, hq.kp (S1.trans (S2.trans (S3.trans S4)))⟩⟩
     | (rw [if_pos rfl]; exact ⟨τ, μ3, _, hs.kp (S1.trans (S2.trans S3)), c3, hz', fun w μ4 p H4 S4 c4 rw hw => ⟨y, w, μ4, R, ry.kp (S3.trans S4), rw, c4, hw, hq.kp (S1.trans (S2.trans (S3.trans S4)))⟩⟩)⟩
  ·exact ⟨false, rfl, by
    first
     | exact hq _ _ _ _ (S1.trans (S2.trans S3)) c3 ra_bl hz'
     | (rw [if_neg Bool.false_ne_true]; exact hq _ _ _ _ (S1.trans (S2.trans S3)) c3 ra_bl hz')⟩
 ·exact hz.elim
theorem ve_chain {op op' : CmpOp} {r r' : A2} (ho : VOp X (compareOp op) r) (ho' : VOp X (compareOp op') r') (ha : VE X a ta) (hb : VE X b tb) (hc : VE X c tc) (hm : lastMarks [op, op'] [b, c] = false := by rfl) : VE X (.Compare a [op, op'] [b, c] pos) (vChain r r' ta tb tc) :=
 (pe_chain ho ho' ha hb hc hm).imp fun _ _ _ h => vChain_imp h
theorem vt_chain {op op' : CmpOp} {r r' : A2} (ho : VOp X (compareOp op) r) (ho' : VOp X (compareOp op') r') (ha : VE X a ta) (hb : VE X b tb) (hc : VE X c tc) (hm : lastMarks [op, op'] [b, c] = false := by rfl) : VT X (.Compare a [op, op'] [b, c] pos) (vTest (vChain r r' ta tb tc)) :=
 (pt_chain ho ho' ha hb hc hm).imp fun _ _ _ h => vTest_imp (fun _ _ _ q => vChain_imp q) h
theorem vt_val {e : Expr} {t : AE} (h : VE X e t) (he : ∀ whole, isTrue e X.env whole = (do let v <- whole; standAt e.pos; holding [v] (truthy v)) := by intro _; rfl) : VT X e (vTest t) :=
 (pt_val h he).imp fun _ _ _ h => by
  have h := vTest_imp (fun _ _ _ q => q) h
  exact h
def vAnd (t u : AT) : AT := fun τ μ R => t τ μ fun k μ1 => brP k (u τ μ1 R) (R false μ1)
def vOr (t u : AT) : AT := fun τ μ R => t τ μ fun k μ1 => brP k (R true μ1) (u τ μ1 R)
def vNot (t : AT) : AT := fun τ μ R => t τ μ fun k μ1 => R (!k) μ1
theorem VW.pt {e : Expr} {t : AT} (h : VW X e t) : VT X e t := PW.pt h
variable {rest : List Expr} {tA tB' : AT}
theorem vw_and1 (ha : VT X a tA) : VW X (.BoolOp .And [a] pos) tA := pw_and1 ha
theorem vw_or1 (ha : VT X a tA) : VW X (.BoolOp .Or [a] pos) tA := pw_or1 ha
theorem vw_and (ha : VT X a tA) (hb : VW X (.BoolOp .And (b :: rest) pos) tB') : VW X (.BoolOp .And (a :: b :: rest) pos) (vAnd tA tB') :=
 (pw_and ha hb).imp fun σ H Q zz3 => ex34 zz3 fun τ μ R hs hc h hq => ⟨τ, μ, _, hs, hc, h, fun k μ1 H1 S1 c1 hk => by
  rcases br_e hk with ⟨rfl, hk'⟩ | ⟨rfl, hk'⟩
  ·exact ⟨τ, μ1, R, hs.kp S1, c1, hk', hq.kp S1⟩
  ·exact hq _ _ _ S1 c1 hk'⟩
theorem vw_or (ha : VT X a tA) (hb : VW X (.BoolOp .Or (b :: rest) pos) tB') : VW X (.BoolOp .Or (a :: b :: rest) pos) (vOr tA tB') :=
 (pw_or ha hb).imp fun σ H Q zz4 => ex34 zz4 fun τ μ R hs hc h hq => ⟨τ, μ, _, hs, hc, h, fun k μ1 H1 S1 c1 hk => by
  rcases br_e hk with ⟨rfl, hk'⟩ | ⟨rfl, hk'⟩
  ·exact hq _ _ _ S1 c1 hk'
  ·exact ⟨τ, μ1, R, hs.kp S1, c1, hk', hq.kp S1⟩⟩
theorem vt_not (ha : VT X a tA) : VT X (.UnaryOp .Not a pos) (vNot tA) := (pt_not ha).imp fun σ H Q zz5 => ex34 zz5 fun τ μ R hs hc h hq => ⟨τ, μ, _, hs, hc, h, fun k μ1 H1 S1 c1 hk => hq _ _ _ S1 c1 hk⟩
theorem ve_one {op} {t : AE} (h : VE X a t) : VE X (.BoolOp op [a] pos) t := pe_one h
def vAndV (ta tb : AE) : AE := fun τ μ R => ta τ μ fun x μ1 => match x with
 | .D (.bool k) => brP k (tb τ μ1 R) (R (.D (.bool false)) μ1)
 | _ => False
def vNotV (ta : AE) : AE := fun τ μ R => ta τ μ fun x μ1 => match x with
 | .D (.bool k) => R (.D (.bool (!k))) μ1
 | _ => False
theorem ve_and (ha : VE X a ta) (hb : VE X (.BoolOp .And (b :: rest) pos) tb) : VE X (.BoolOp .And (a :: b :: rest) pos) (vAndV ta tb) :=
 (pe_and ha hb).imp fun σ H Q zz6 => ex34 zz6 fun τ μ R hs hc h hq => ⟨τ, μ, _, hs, hc, h, fun x μ1 v H1 S1 c1 rx hk => by
  split at hk
  ·cases RelA.bl rx
   rcases br_e hk with ⟨rfl, hk'⟩ | ⟨rfl, hk'⟩
   ·exact ⟨true, rfl, ⟨τ, μ1, R, hs.kp S1, c1, hk', hq.kp S1⟩⟩
   ·exact ⟨false, rfl, hq _ _ _ _ S1 c1 ra_bl hk'⟩
  ·exact hk.elim⟩
theorem ve_not (ha : VE X a ta) : VE X (.UnaryOp .Not a pos) (vNotV ta) :=
 (pe_not ha).imp fun σ H Q zz8 => ex34 zz8 fun τ μ R hs hc h hq => ⟨τ, μ, _, hs, hc, h, fun x μ1 v H1 S1 c1 rx hk => by
  split at hk
  ·cases RelA.bl rx
   exact ⟨_, rfl, hq _ _ _ _ S1 c1 ra_bl hk⟩
  ·exact hk.elim⟩
def vNil : AA := fun _ μ R => R [] μ
def vCons (ta : AE) (tr : AA) : AA := fun τ μ R => ta τ μ fun x μ1 => tr τ μ1 fun xs μ2 => R (x :: xs) μ2
theorem va_nil : VA X [] vNil := pa_nil.imp fun σ H Q zz10 => ex34 zz10 fun τ μ R hs hc h hq => hq [] μ [] H Kp.refl hc .nil rfl h
theorem va_cons {e : Expr} {es : List Expr} {te : AE} {t : AA} (ha : VE X e te) (hr : VA X es t) (hs : starEach (e :: es) X.env = (false, eval e X.env) :: starEach es X.env := by rfl) : VA X (e :: es) (vCons te t) :=
 (pa_cons ha hr hs).imp fun σ H Q zz11 => ex34 zz11 fun τ μ R hs hc h hq => ⟨τ, μ, _, hs, hc, h, fun x μ1 v H1 S1 c1 rx hx => ⟨τ, μ1, _, hs.kp S1, c1, hx, fun xs μ2 vs H2 S2 c2 rs hl hxs =>
  hq (x :: xs) μ2 (v :: vs) H2 (S1.trans S2) c2 (.cons (rx.kp S2) rs) (by rw [List.length_cons, hl]; rfl) hxs⟩⟩
def vTup (t : AA) : AE := fun τ μ R => t τ μ fun xs μ1 => match dats xs with
 | some ds => R (.D (.tuple ds)) μ1
 | none => False
def vLst (t : AA) : AE := fun τ μ R => t τ μ fun xs μ1 => ∀ p, μ1 p = none -> R (.R p) (updM μ1 p (.lst xs))
variable {es : List Expr} {t : AA}
theorem ve_tup {k : Nat} (h : VA X es t) (hn : es.length <= sizeLine := by decide) : VE X (.Tuple es k pos) (vTup t) :=
 (pe_tup h).imp fun σ H Q zz12 => ex34 zz12 fun τ μ R hs hc h hq => ⟨τ, μ, _, hs, hc, h, fun xs μ1 vs H1 S1 c1 rs hl hx => ⟨by rw [<- rs.length, hl]; exact hn, fun p hp => by
  split at hx
  ·rename_i ds e
   refine hq _ _ _ _ (S1.trans (Kp.new hp _)) (c1.over hp) ?_ hx
   exact dk_tup upd_same (DkAll.kp (Kp.new hp _) _ _ (rs.dats e))
  ·exact hx.elim⟩⟩
theorem ve_lst (h : VA X es t) (hn : es.length <= sizeLine := by decide) : VE X (.List es pos) (vLst t) :=
 (pe_lst h).imp fun σ H Q zz13 => ex34 zz13 fun τ μ R hs hc h hq => ⟨τ, μ, _, hs, hc, h, fun xs μ1 vs H1 S1 c1 rs hl hx => ⟨by rw [<- rs.length, hl]; exact hn, fun p hp =>
  hq _ _ _ _ (S1.trans (Kp.new hp _)) (c1.new hp (rm_lst (rs))) ra_ref (hx p (c1.none hp))⟩⟩
mutual
theorem Dk.reads {pins : List (Addr × Obj)} {σ : St} {H : Hp} {s : Shared} (I : Inv X pins σ H s) : ∀ (d : PyData) (x : V) (u : Value), Dk X.K H d x -> RelV x u -> ∃ as, Reads s.heap u d as
 | .none, x, u, h, r => by cases h.non; cases r; exact ⟨_, .none⟩
 | .bool b, x, u, h, r => by cases h.bl; cases r; exact ⟨_, .bool b⟩
 | .int i, x, u, h, r => by cases h.int; obtain ⟨t, rfl⟩ := r; exact ⟨_, .int i t⟩
 | .str z, x, u, h, r => by cases h.str; obtain ⟨t, rfl⟩ := r; exact ⟨_, .str z t⟩
 | .list ds, x, u, h, r => by
  obtain ⟨a, xs, rfl, q, k⟩ := h.lst
  cases r
  obtain ⟨its, rv, ⟨o, n, e, c, _, d⟩, _⟩ := I.list q.sq
  obtain ⟨as, ra⟩ := DkAll.reads I ds xs its k rv
  exact ⟨_, .list e c d (by simpa using ra)⟩
 | .tuple ds, x, u, h, r => by
  obtain ⟨a, xs, rfl, q, k⟩ := h.tup
  cases r
  obtain ⟨its, rv, ⟨o, e, c, n, d⟩, _⟩ := I.tuple (SqT.of q)
  obtain ⟨as, ra⟩ := DkAll.reads I ds xs its k rv
  exact ⟨_, .tuple e c d (by simpa using ra)⟩
 | .dict _, x, u, h, _ => by simp only [Dk] at h
theorem DkAll.reads {pins : List (Addr × Obj)} {σ : St} {H : Hp} {s : Shared} (I : Inv X pins σ H s) : ∀ (ds : List PyData) (xs : List V) (us : List Value), DkAll X.K H ds xs -> Vals xs us -> ∃ as, ReadsAll s.heap us ds as
 | [], xs, us, h, r => by
  have e := h.nil
  subst e
  cases r
  exact ⟨_, .nil⟩
 | d :: ds, xs, us, h, r => by
  obtain ⟨x, xr, rfl, h1, h2⟩ := h.cons
  cases r with
  | cons r1 r2 =>
   obtain ⟨as, ra⟩ := Dk.reads I d x _ h1 r1
   obtain ⟨bs, rb⟩ := DkAll.reads I ds xr _ h2 r2
   exact ⟨_, .cons ra rb⟩
end
def see (μ : M) : AV -> Option PyData
 | .X _ _ => none
 | .D d => some d
 | .C ds => some (.tuple ds)
 | .R a => match μ a with
  | some (.lst xs) => match dats xs with
   | some ds => some (.list ds)
   | none => none
  | _ => none
@[simp] theorem see_D {μ : M} {d : PyData} : see μ (.D d) = some d := rfl
theorem see_reads {pins : List (Addr × Obj)} {σ : St} {H : Hp} {s : Shared} {μ : M} {x : AV} {v : V} {u : Value} {d : PyData} (I : Inv X pins σ H s) (hc : Cn X.K μ H) (rx : RelA X.K H x v) (r : RelV v u) (e : see μ x = some d) : ∃ as, Reads s.heap u d as := by
 cases x with
 | X C fs => cases e
 | D d' => cases e; exact Dk.reads I _ _ _ rx r
 | C ds =>
  cases e
  obtain ⟨a, xs, rfl, q, k⟩ := rx
  cases r
  obtain ⟨its, rv, ⟨o, e, c, n, d⟩, _⟩ := I.tuple (q H)
  obtain ⟨as, ra⟩ := DkAll.reads I ds xs its k rv
  exact ⟨_, .tuple e c d (by simpa using ra)⟩
 | R a =>
  dsimp only [see] at e
  split at e
  ·rename_i xs ex
   split at e
   ·rename_i ds ed
    cases e
    cases (show v = .ref a from rx)
    cases r
    obtain ⟨o, ho, vs, rfl, rs⟩ := hc a _ ex
    obtain ⟨its, rv, ⟨o, n, e, c, _, dd⟩, _⟩ := I.list (SqL.of ho)
    obtain ⟨as, ra⟩ := DkAll.reads I ds vs its (rs.dats ed) rv
    exact ⟨_, .list e c dd (by simpa using ra)⟩
   ·cases e
  ·cases e
def EqOk (d : PyData) : Prop := d.canLay0 = true /\ d.depth <= 64
def aEq : A2 := fun x y μ R => match x, y with
 | .D d, .D e => EqOk d /\ EqOk e /\ R (.D (.bool (PyData.eqv d e))) μ
 | x, y => opt (see μ x) fun d => opt (see μ y) fun e => EqOk d /\ EqOk e /\ R (.D (.bool (PyData.eqv d e))) μ
theorem aEq_opt {x y : AV} {μ : M} {R : AV -> M -> Prop} (h : aEq x y μ R) : ∃ d e, see μ x = some d /\ see μ y = some e /\ EqOk d /\ EqOk e /\ R (.D (.bool (PyData.eqv d e))) μ := by
 have g : ∀ (h : opt (see μ x) fun d => opt (see μ y) fun e => EqOk d /\ EqOk e /\ R (.D (.bool (PyData.eqv d e))) μ), ∃ d e, see μ x = some d /\ see μ y = some e /\ EqOk d /\ EqOk e /\ R (.D (.bool (PyData.eqv d e))) μ := by
  intro h
  obtain ⟨d, ed, h⟩ := opt_e h
  obtain ⟨e, ee, h⟩ := opt_e h
  exact ⟨d, e, ed, ee, h⟩
 cases x with
 | D d =>
  cases y with
  | D e => exact ⟨_, _, rfl, rfl, h⟩
  | _ => exact g h
 | _ => exact g h
def aNe : A2 := fun x y μ R => match x, y with
 | .D d, .D e => EqOk d /\ EqOk e /\ R (.D (.bool (!PyData.eqv d e))) μ
 | x, y => opt (see μ x) fun d => opt (see μ y) fun e => EqOk d /\ EqOk e /\ R (.D (.bool (!PyData.eqv d e))) μ
theorem aNe_opt {x y : AV} {μ : M} {R : AV -> M -> Prop} (h : aNe x y μ R) : ∃ d e, see μ x = some d /\ see μ y = some e /\ EqOk d /\ EqOk e /\ R (.D (.bool (!PyData.eqv d e))) μ := by
 unfold aNe at h
 split at h
 ·exact ⟨_, _, rfl, rfl, h⟩
 ·obtain ⟨d, ed, h⟩ := opt_e h
  obtain ⟨e, ee, h⟩ := opt_e h
  exact ⟨d, e, ed, ee, h⟩
variable {k : Nat}
theorem o_eq (hr : Room k X.A) : VOp X (compareOp .Eq) aEq := by
 intro pins s σ H x y v u Q I rx ry zz14
 refine ex45 zz14 fun a b μ R ra rb hc h hq => ?_
 obtain ⟨d, e, ed, ee, h⟩ := aEq_opt h
 ·obtain ⟨as, r1⟩ := see_reads I hc ra rx ed
  obtain ⟨bs, r2⟩ := see_reads I hc rb ry ee
  have hu := hr.un
  have := h.1.2
  exact SeqAt.compareEq_reads r1 r2 h.1.1 h.2.1.1 (by omega) ⟨.bl _, H, I, rfl, hq _ _ _ _ Kp.refl hc ra_bl h.2.2⟩
theorem o_ne (hr : Room k X.A) : VOp X (compareOp .NotEq) aNe := by
 intro pins s σ H x y v u Q I rx ry zz15
 refine ex45 zz15 fun a b μ R ra rb hc h hq => ?_
 obtain ⟨d, e, ed, ee, h⟩ := aNe_opt h
 ·obtain ⟨as, r1⟩ := see_reads I hc ra rx ed
  obtain ⟨bs, r2⟩ := see_reads I hc rb ry ee
  have hu := hr.un
  have := h.1.2
  exact SeqAt.compareNe_reads r1 r2 h.1.1 h.2.1.1 (by omega) ⟨.bl _, H, I, rfl, hq _ _ _ _ Kp.refl hc ra_bl h.2.2⟩
def keyOf : PyData -> Option Key
 | .int i => some (.inl i)
 | .str z => some (.inr z)
 | _ => none
def items (μ : M) : AV -> Option (List AV)
 | .D (.tuple ds) => some (ds.map .D)
 | .C ds => some (ds.map .D)
 | .D (.list ds) => some (ds.map .D)
 | .R a => match μ a with
  | some (.lst xs) => some xs
  | _ => none
 | _ => none
theorem items_seq {H : Hp} {μ : M} {x : AV} {v : V} {xs : List AV} (hc : Cn X.K μ H) (rx : RelA X.K H x v) (e : items μ x = some xs) : ∃ p vs, v = .ref p /\ (SqL X.K H p vs \/ SqT X.K H p vs) /\ RelAs X.K H xs vs := by
 unfold items at e
 split at e
 ·cases e; obtain ⟨a, vs, rfl, q, r⟩ := RelA.tup rx; exact ⟨a, vs, rfl, .inr (SqT.of q), r.rel⟩
 ·cases e; obtain ⟨a, vs, rfl, q, r⟩ := rx; exact ⟨a, vs, rfl, .inr (q H), r.rel⟩
 ·cases e; obtain ⟨a, vs, rfl, q, r⟩ := RelA.lst rx; exact ⟨a, vs, rfl, .inl q.sq, r.rel⟩
 ·split at e
  ·rename_i ys ey
   cases e
   obtain ⟨o, ho, vs, rfl, rs⟩ := hc _ _ ey
   exact ⟨_, vs, rx, .inl (SqL.of ho), rs⟩
  ·cases e
 ·cases e
def isT : AV -> Bool
 | .D (.tuple _) => true
 | .C _ => true
 | _ => false
theorem items_kind {H : Hp} {μ : M} {x : AV} {v : V} {xs : List AV} (hc : Cn X.K μ H) (rx : RelA X.K H x v) (e : items μ x = some xs) : ∃ p vs, v = .ref p /\ ((isT x = false /\ SqL X.K H p vs) \/ (isT x = true /\ SqT X.K H p vs)) /\ RelAs X.K H xs vs := by
 unfold items at e
 split at e
 ·cases e; obtain ⟨a, vs, rfl, q, r⟩ := RelA.tup rx; exact ⟨a, vs, rfl, .inr ⟨rfl, SqT.of q⟩, r.rel⟩
 ·cases e; obtain ⟨a, vs, rfl, q, r⟩ := rx; exact ⟨a, vs, rfl, .inr ⟨rfl, q H⟩, r.rel⟩
 ·cases e; obtain ⟨a, vs, rfl, q, r⟩ := RelA.lst rx; exact ⟨a, vs, rfl, .inl ⟨rfl, q.sq⟩, r.rel⟩
 ·split at e
  ·rename_i ys ey
   cases e
   obtain ⟨o, ho, vs, rfl, rs⟩ := hc _ _ ey
   exact ⟨_, vs, rx, .inl ⟨rfl, SqL.of ho⟩, rs⟩
  ·cases e
 ·cases e
def aIn (nb : Bool -> Bool) : A2 := fun x y μ R => match y with
 | .D (.str j) => match x with
  | .D (.str i) => R (.D (.bool (nb (!(Builtin.Str.occurrences j i 0 j.length 1).isEmpty)))) μ
  | _ => False
 | .C ds => opt (see μ x) fun d => EqOk d /\ EqOk (.tuple ds) /\ R (.D (.bool (nb (ds.any fun e => PyData.eqv e d)))) μ
 | .D (.tuple ds) => opt (see μ x) fun d => EqOk d /\ EqOk (.tuple ds) /\ R (.D (.bool (nb (ds.any fun e => PyData.eqv e d)))) μ
 | y => opt (see μ x) fun d => opt (items μ y) fun ys => opt (dats ys) fun ds => EqOk d /\ EqOk (.tuple ds) /\ R (.D (.bool (nb (ds.any fun e => PyData.eqv e d)))) μ
theorem aIn_opt {nb : Bool -> Bool} {x y : AV} {μ : M} {R : AV -> M -> Prop} (h : aIn nb x y μ R) (hn : ∀ z, y ≠ .D (.str z)) : ∃ d ys ds, see μ x = some d /\ items μ y = some ys /\ dats ys = some ds /\ EqOk d /\ EqOk (.tuple ds) /\ R (.D (.bool (nb (ds.any fun e => PyData.eqv e d)))) μ := by
 unfold aIn at h
 split at h
 ·exact absurd rfl (hn _)
 ·obtain ⟨d, ed, h⟩ := opt_e h
  exact ⟨d, _, _, ed, rfl, dats_map _, h⟩
 ·obtain ⟨d, ed, h⟩ := opt_e h
  exact ⟨d, _, _, ed, rfl, dats_map _, h⟩
 ·obtain ⟨d, ed, h⟩ := opt_e h
  obtain ⟨ys, ey, h⟩ := opt_e h
  obtain ⟨ds, eds, h⟩ := opt_e h
  exact ⟨d, ys, ds, ed, ey, eds, h⟩
theorem eqOk_all {ds : List PyData} (h : EqOk (.tuple ds)) : PyData.canLayAll0 ds = true /\ PyData.depthAll ds <= 64 := by
 obtain ⟨h1, h2⟩ := h
 simp only [PyData.canLay0] at h1
 simp only [PyData.depth] at h2
 exact ⟨h1, by omega⟩
theorem o_in (hr : Room k X.A) : VOp X (compareOp .In) (aIn fun b => b) := by
 intro pins s σ H x y v u Q I rx ry zz16
 refine ex45 zz16 fun a b μ R ra rb hc h hq => ?_
 by_cases hb : ∃ z, b = .D (.str z)
 ·obtain ⟨z, rfl⟩ := hb
  unfold aIn at h
  dsimp only at h
  split at h
  ·cases RelA.str ra; cases RelA.str rb
   exact op_in_str pins s σ H _ _ v u Q I rx ry ⟨_, _, rfl, rfl, hq _ _ _ _ Kp.refl hc ra_bl h⟩
  ·exact h.elim
 ·obtain ⟨d, ys, ds, ed, ey, eds, h⟩ := aIn_opt h fun z e => hb ⟨z, e⟩
  ·skip
   obtain ⟨ok1, ok2, h⟩ := h
   obtain ⟨as, r1⟩ := see_reads I hc ra rx ed
   obtain ⟨p, vs, rfl, hp, rs⟩ := items_seq hc rb ey
   cases ry
   obtain ⟨c1, c2⟩ := eqOk_all ok2
   have hs := rs.dats eds
   have hu := hr.un
   have q := hq _ _ _ _ Kp.refl hc ra_bl h
   rcases hp with hp | hp
   ·obtain ⟨its, r, pl, hz⟩ := I.list hp
    obtain ⟨bs, rb⟩ := DkAll.reads I ds vs its hs r
    have e := fun A => items_eqR (A := A) r1 ok1.1
    refine SeqAt.in_listAt (eqR s.heap d) pl.isList (fun w hw => (e _ (by first | (show X.A.units + 64 < _; omega) | (show X.A.units + 1 + 64 < _; omega) | (show X.A.units + 1 + 1 + 64 < _; omega)) rb c1 c2).1 w (by simpa using hw)) ⟨.bl _, H, I, rfl, ?_⟩
    rw [show its.toArray.any (eqR s.heap d) = its.any (eqR s.heap d) by simp, (e X.A (by omega) rb c1 c2).2]
    exact q
   ·obtain ⟨its, r, pl, hz⟩ := I.tuple hp
    obtain ⟨bs, rb⟩ := DkAll.reads I ds vs its hs r
    have e := fun A => items_eqR (A := A) r1 ok1.1
    refine SeqAt.in_tupleAt (eqR s.heap d) pl (fun w hw => (e _ (by first | (show X.A.units + 64 < _; omega) | (show X.A.units + 1 + 64 < _; omega) | (show X.A.units + 1 + 1 + 64 < _; omega)) rb c1 c2).1 w (by simpa using hw)) ⟨.bl _, H, I, rfl, ?_⟩
    rw [show its.toArray.any (eqR s.heap d) = its.any (eqR s.heap d) by simp, (e X.A (by omega) rb c1 c2).2]
    exact q
theorem o_notIn (hr : Room k X.A) : VOp X (compareOp .NotIn) (aIn fun b => !b) := by
 intro pins s σ H x y v u Q I rx ry zz17
 refine ex45 zz17 fun a b μ R ra rb hc h hq => ?_
 by_cases hb : ∃ z, b = .D (.str z)
 ·obtain ⟨z, rfl⟩ := hb
  unfold aIn at h
  dsimp only at h
  split at h
  ·cases RelA.str ra; cases RelA.str rb
   exact op_notIn_str pins s σ H _ _ v u Q I rx ry ⟨_, _, rfl, rfl, hq _ _ _ _ Kp.refl hc ra_bl h⟩
  ·exact h.elim
 ·obtain ⟨d, ys, ds, ed, ey, eds, h⟩ := aIn_opt h fun z e => hb ⟨z, e⟩
  ·skip
   obtain ⟨ok1, ok2, h⟩ := h
   obtain ⟨as, r1⟩ := see_reads I hc ra rx ed
   obtain ⟨p, vs, rfl, hp, rs⟩ := items_seq hc rb ey
   cases ry
   obtain ⟨c1, c2⟩ := eqOk_all ok2
   have hs := rs.dats eds
   have hu := hr.un
   have q := hq _ _ _ _ Kp.refl hc ra_bl h
   rcases hp with hp | hp
   ·obtain ⟨its, r, pl, hz⟩ := I.list hp
    obtain ⟨bs, rb⟩ := DkAll.reads I ds vs its hs r
    have e := fun A => items_eqR (A := A) r1 ok1.1
    refine SeqAt.notIn_listAt (eqR s.heap d) pl.isList (fun w hw => (e _ (by first | (show X.A.units + 64 < _; omega) | (show X.A.units + 1 + 64 < _; omega) | (show X.A.units + 1 + 1 + 64 < _; omega)) rb c1 c2).1 w (by simpa using hw)) ⟨.bl _, H, I, rfl, ?_⟩
    rw [show its.toArray.any (eqR s.heap d) = its.any (eqR s.heap d) by simp, (e X.A (by omega) rb c1 c2).2]
    exact q
   ·obtain ⟨its, r, pl, hz⟩ := I.tuple hp
    obtain ⟨bs, rb⟩ := DkAll.reads I ds vs its hs r
    have e := fun A => items_eqR (A := A) r1 ok1.1
    refine SeqAt.notIn_tupleAt (eqR s.heap d) pl (fun w hw => (e _ (by first | (show X.A.units + 64 < _; omega) | (show X.A.units + 1 + 64 < _; omega) | (show X.A.units + 1 + 1 + 64 < _; omega)) rb c1 c2).1 w (by simpa using hw)) ⟨.bl _, H, I, rfl, ?_⟩
    rw [show its.toArray.any (eqR s.heap d) = its.any (eqR s.heap d) by simp, (e X.A (by omega) rb c1 c2).2]
    exact q
def aIsN : A2 := fun x y μ R => match x, y with
 | .D .none, .D .none => R (.D (.bool true)) μ
 | _, .D .none => R (.D (.bool false)) μ
 | _, _ => False
theorem relA_non {K : PySem.W.Frag} {H : Hp} {x : AV} (h : RelA K H x .non) : x = .D .none := by
 cases x with
 | R a => cases (show V.non = .ref a from h)
 | C ds => obtain ⟨_, _, e, _⟩ := h; cases e
 | X C fs => obtain ⟨_, _, _, e, _⟩ := h; cases e
 | D d =>
  cases d with
  | none => rfl
  | bool b => cases RelA.bl h
  | int b => cases RelA.int h
  | str b => cases RelA.str h
  | list b => obtain ⟨_, _, e, _⟩ := RelA.lst h; cases e
  | tuple b => obtain ⟨_, _, e, _⟩ := RelA.tup h; cases e
  | dict b => exact absurd h (by simp only [RelA, Dk]; exact id)
theorem o_isN : VOp X (compareOp .Is) aIsN := by
 intro pins s σ H x y v u Q I rx ry zz18
 refine ex45 zz18 fun a b μ R ra rb hc h hq => ?_
 unfold aIsN at h
 split at h
 ·cases RelA.non ra; cases RelA.non rb
  exact op_isN pins s σ H _ _ v u Q I rx ry ⟨rfl, hq _ _ _ _ Kp.refl hc ra_bl h⟩
 ·rename_i ne
  cases RelA.non rb
  refine op_isN pins s σ H _ _ v u Q I rx ry ⟨rfl, hq _ _ _ _ Kp.refl hc ?_ h⟩
  have : x ≠ .non := by intro e; subst e; exact ne (relA_non ra)
  rw [decide_eq_false this]; exact ra_bl
 ·exact h.elim
def aI (C : Int -> Int -> Prop) (g : Int -> Int -> PyData) : A2 := fun x y μ R => match x, y with
 | .D (.int i), .D (.int j) => C i j /\ R (.D (g i j)) μ
 | _, _ => False
def aI0 (g : Int -> Int -> PyData) : A2 := fun x y μ R => match x, y with
 | .D (.int i), .D (.int j) => R (.D (g i j)) μ
 | _, _ => False
theorem o_I {f : Value -> Value -> Sem Value} {C : Int -> Int -> Prop} {g : Int -> Int -> V} {g' : Int -> Int -> PyData} (h : OpR X f (rI C g)) (hg : ∀ i j H, Dk X.K H (g' i j) (g i j)) : VOp X f (aI C g') := by
 intro pins s σ H x y v u Q I rx ry zz20
 refine ex45 zz20 fun a b μ R ra rb hc h' hq => ?_
 cases a with
 | D d =>
  cases d with
  | int i =>
   cases b with
   | D e =>
    cases e with
    | int j =>
     cases RelA.int ra; cases RelA.int rb
     exact h pins s σ H _ _ v u Q I rx ry ⟨_, _, rfl, rfl, h'.1, hq _ _ _ _ Kp.refl hc (ra_D (hg _ _ _)) h'.2⟩
    | _ => exact False.elim h'
   | _ => exact False.elim h'
  | _ => exact False.elim h'
 | _ => exact False.elim h'
theorem o_I0 {f : Value -> Value -> Sem Value} {g : Int -> Int -> V} {g' : Int -> Int -> PyData} (h : OpR X f (rI0 g)) (hg : ∀ i j H, Dk X.K H (g' i j) (g i j)) : VOp X f (aI0 g') := by
 intro pins s σ H x y v u Q I rx ry zz21
 refine ex45 zz21 fun a b μ R ra rb hc h' hq => ?_
 cases a with
 | D d =>
  cases d with
  | int i =>
   cases b with
   | D e =>
    cases e with
    | int j =>
     cases RelA.int ra; cases RelA.int rb
     exact h pins s σ H _ _ v u Q I rx ry ⟨_, _, rfl, rfl, hq _ _ _ _ Kp.refl hc (ra_D (hg _ _ _)) h'⟩
    | _ => exact False.elim h'
   | _ => exact False.elim h'
  | _ => exact False.elim h'
 | _ => exact False.elim h'
abbrev aSub : A2 := aI0 fun i j => .int (i - j)
abbrev aFdiv : A2 := aI CDiv fun i j => .int (i / j)
abbrev aMod : A2 := aI (fun _ j => 0 < j) fun i j => .int (i % j)
abbrev aPow : A2 := aI CPow fun i j => .int (i ^ j.toNat)
abbrev aLt : A2 := aI0 fun i j => .bool (decide (i < j))
abbrev aLe : A2 := aI0 fun i j => .bool (decide (i <= j))
abbrev aGt : A2 := aI0 fun i j => .bool (decide (j < i))
abbrev aGe : A2 := aI0 fun i j => .bool (decide (j <= i))
theorem o_sub : VOp X (binaryOp .Sub) aSub := o_I0 op_sub fun _ _ _ => dk_int
theorem o_fdiv : VOp X (binaryOp .FloorDiv) aFdiv := o_I op_fdiv fun _ _ _ => dk_int
theorem o_mod : VOp X (binaryOp .Mod) aMod := o_I op_mod fun _ _ _ => dk_int
theorem o_pow : VOp X (binaryOp .Pow) aPow := o_I op_pow fun _ _ _ => dk_int
theorem o_lt : VOp X (compareOp .Lt) aLt := o_I0 op_lt fun _ _ _ => dk_bl
theorem o_le : VOp X (compareOp .LtE) aLe := o_I0 op_le fun _ _ _ => dk_bl
theorem o_gt : VOp X (compareOp .Gt) aGt := o_I0 op_gt fun _ _ _ => dk_bl
theorem o_ge : VOp X (compareOp .GtE) aGe := o_I0 op_ge fun _ _ _ => dk_bl
def aMul : A2 := fun x y μ R => match x, y with
 | .D (.int i), .D (.int j) => CMul i j /\ R (.D (.int (i * j))) μ
 | .D (.str z), .D (.int n) => (n = 0 \/ n = 1) /\ R (.D (.str (if n = 0 then Str.empty else z))) μ
 | _, _ => False
theorem o_mul : VOp X (binaryOp .Mult) aMul := by
 intro pins s σ H x y v u Q I rx ry zz22
 refine ex45 zz22 fun a b μ R ra rb hc h hq => ?_
 cases a with
 | D d =>
  cases d with
  | int i =>
   cases b with
   | D e =>
    cases e with
    | int j =>
     cases RelA.int ra; cases RelA.int rb
     exact op_mul pins s σ H _ _ v u Q I rx ry ⟨_, _, rfl, rfl, h.1, hq _ _ _ _ Kp.refl hc ra_int h.2⟩
    | _ => exact False.elim h
   | _ => exact False.elim h
  | str z =>
   cases b with
   | D e =>
    cases e with
    | int j =>
     cases RelA.str ra; cases RelA.int rb
     exact op_mul_str01 pins s σ H _ _ v u Q I rx ry ⟨_, _, rfl, rfl, h.1, hq _ _ _ _ Kp.refl hc ra_str h.2⟩
    | _ => exact False.elim h
   | _ => exact False.elim h
  | _ => exact False.elim h
 | _ => exact False.elim h
def aAdd : A2 := fun x y μ R => match x, y with
 | .D (.int i), .D (.int j) => R (.D (.int (i + j))) μ
 | .D (.str i), .D (.str j) => i.length + j.length <= sizeLine /\ R (.D (.str (i ++ j))) μ
 | .D (.tuple i), .D (.tuple j) => i.length + j.length <= sizeLine /\ R (.D (.tuple (i ++ j))) μ
 | .R i, .R j => opt (μ i) fun m => opt (μ j) fun n => match m, n with
  | .lst xs, .lst ys => xs.length + ys.length <= sizeLine /\ ∀ p, μ p = none -> R (.R p) (updM μ p (.lst (xs ++ ys)))
  | _, _ => False
 | _, _ => False
theorem catK {K : PySem.W.Frag} {pins : List (Addr × Obj)} {σ : St} {H : Hp} {s : Shared} {v u : Value} {x y : V} {ds es : List PyData} {Q : VK} (hK : X.K = K) (I : Inv X pins σ H s) (rx : RelV x v) (ry : RelV y u) (hx : Dk K H (.tuple ds) x) (hy : Dk K H (.tuple es) y)
  (hz : ds.length + es.length <= sizeLine) (q : ∀ z H', Kp H H' -> (∀ μ, Cn K μ H -> Cn K μ H') -> Dk K H' (.tuple (ds ++ es)) z -> Q z H') : wpAny (model X.prog X.w) X.A (binaryOp .Add v u) (EP X pins σ Q) X.xe s := by
 subst hK
 obtain ⟨a, xs, rfl, ha, hxs⟩ := hx.tup
 obtain ⟨b, ys, rfl, hb, hys⟩ := hy.tup
 cases rx
 cases ry
 obtain ⟨its, r1, p1, _⟩ := I.tuple (SqT.of ha)
 obtain ⟨its2, r2, p2, _⟩ := I.tuple (SqT.of hb)
 have l1 := hxs.length
 have l2 := hys.length
 by_cases hv : xs = []
 ·subst hv
  have e : its = [] := r1.nil_iff.mpr rfl
  subst e
  have ed : ds = [] := List.length_eq_zero_iff.mp l1.symm
  subst ed
  obtain ⟨⟨cls, dd, data, sl⟩, ho, hc, n, hd⟩ := id p1
  obtain ⟨⟨cls2, dd2, data2, sl2⟩, ho2, hc2, n2, hd2⟩ := id p2
  simp only at hc hd hc2 hd2
  subst hc hd hc2 hd2
  exact concat_meets ⟨_, ho, rfl⟩ ⟨_, ho2, rfl⟩ noFill_tuple_add seq_tuple_add PySem.F.slot_tuple_add PySem.F.entry_tuple_add (PySem.F.args_tuple_add_2 _ _)
   (tuple_addW0 a b [].toArray its2.toArray n n2 dd dd2 sl sl2 rfl) ⟨ho, ho2, .ref b, H, I, rfl, q _ _ Kp.refl (fun _ c => c) (by simpa using hy)⟩
 ·refine HT.cat_tup p1 p2 (fun z => hv (r1.nil_iff.mp z)) (fun z => ⟨.ref a, H, I, rfl, q _ _ Kp.refl (fun _ c => c) ?_⟩) (fun z => ?_) (by rw [<- r1.length, <- r2.length, l1, l2]; exact hz)
  ·have e : ys = [] := r2.nil_iff.mp z
   subst e
   have ed : es = [] := List.length_eq_zero_iff.mp l2.symm
   subst ed
   simpa using hx
  ·have hf := I.hok.fresh (Nat.le_refl s.heap.objs.size)
   refine ⟨.ref s.heap.objs.size, _, I.laid (t' := s.toks) (o := .tup (xs ++ ys)) (fun b ob q => Heap.get?_push_of_some _ q) (Nat.le_refl _) ?_, rfl, q _ _ (Kp.new hf _) (fun _ c => c.over hf) ?_⟩
   ·exact ⟨by rw [List.length_append, l1, l2]; exact hz, _, r1.append r2, IsTup.new _ _⟩
   ·exact dk_tup upd_same (DkAll.kp (Kp.new hf _) _ _ (hxs.append hys))
theorem o_add : VOp X (binaryOp .Add) aAdd := by
 intro pins s σ H x y v u Q I rx ry zz23
 refine ex45 zz23 fun a b μ R ra rb hc h hq => ?_
 cases a with
 | D d =>
  cases d with
  | int i =>
   cases b with
   | D e =>
    cases e with
    | int j =>
     cases RelA.int ra; cases RelA.int rb
     exact op_add pins s σ H _ _ v u Q I rx ry ⟨_, _, rfl, rfl, hq _ _ _ _ Kp.refl hc ra_int h⟩
    | _ => exact False.elim h
   | _ => exact False.elim h
  | str z =>
   cases b with
   | D e =>
    cases e with
    | str j =>
     cases RelA.str ra; cases RelA.str rb
     exact op_add_str pins s σ H _ _ v u Q I rx ry ⟨_, _, rfl, rfl, h.1, hq _ _ _ _ Kp.refl hc ra_str h.2⟩
    | _ => exact False.elim h
   | _ => exact False.elim h
  | tuple ds =>
   cases b with
   | D e =>
    cases e with
    | tuple es => exact catK rfl I rx ry ra rb h.1 fun z H' S c hd => hq _ _ _ _ S (c _ hc) (ra_D hd) h.2
    | _ => exact False.elim h
   | _ => exact False.elim h
  | _ => exact False.elim h
 | R i =>
  cases b with
  | R j =>
   obtain ⟨m, ei, h⟩ := opt_e h
   obtain ⟨n, ej, h⟩ := opt_e h
   cases m with
   | lst xs =>
    cases n with
    | lst ys =>
     cases (show x = .ref i from ra); cases (show y = .ref j from rb)
     obtain ⟨o, ho, vs, rfl, rs⟩ := hc i _ ei
     obtain ⟨o', ho', ws, rfl, rs'⟩ := hc j _ ej
     exact op_cat pins s σ H _ _ v u Q I rx ry ⟨i, j, vs, ws, rfl, rfl, ho, ho', by rw [<- rs.length, <- rs'.length]; exact h.1, fun p hp => hq _ _ _ _ (Kp.new hp _) (hc.new hp (rm_lst (rs.append rs'))) ra_ref (h.2 p (hc.none hp))⟩
    | _ => exact False.elim h
   | _ => exact False.elim h
  | _ => exact False.elim h
 | _ => exact False.elim h
end
end L2
namespace L2
open PySem PySem.Spec PyProof.Rows
section
variable {X : Cx} {a b c : Expr} {ta tb tc : AE} {pos : Pos}
def aIx : A2 := fun x y μ R => match x, y with
 | .D (.str z), .D (.int i) => z.length <= sizeLine /\ opt (atI z.cps.toList i) fun c => R (.D (.str ⟨#[c]⟩)) μ
 | .D (.tuple ds), .D (.int i) => opt (atI ds i) fun d => R (.D d) μ
 | .D (.list ds), .D (.int i) => opt (atI ds i) fun d => R (.D d) μ
 | .R a, .D (.int i) => opt (μ a) fun m => match m with
  | .lst xs => opt (atI xs i) fun w => R w μ
  | _ => False
 | _, _ => False
theorem aIx_int {x y : AV} {μ : M} {R : AV -> M -> Prop} (h : aIx x y μ R) : ∃ i, y = .D (.int i) := by
 have no : (∀ d, aIx (.D d) y μ R -> False) -> (∀ a, aIx (.R a) y μ R -> False) -> False := fun h1 h2 => by
  cases x with
  | D d => exact h1 d h
  | R a => exact h2 a h
  | _ => exact h
 cases y with
 | D e =>
  cases e with
  | int i => exact ⟨i, rfl⟩
  | _ => exact (no (fun d q => by cases d <;> exact q) fun a q => q).elim
 | _ => exact (no (fun d q => by cases d <;> exact q) fun a q => q).elim
theorem i_ix : VIx X aIx := by
 intro value slice pins s σ H x y v u Q I rx ry zq hs
 refine ex45 zq fun a b μ R ra rb hc h hq => ?_
 obtain ⟨i, rfl⟩ := aIx_int h
 cases RelA.int rb
 cases a with
 | D d =>
  cases d with
  | str z =>
   cases RelA.str ra
   obtain ⟨h1, h⟩ := h
   obtain ⟨c, e, h⟩ := opt_e h
   exact ix_str value slice pins s σ H _ _ v u Q I rx ry ⟨_, _, _, rfl, rfl, h1, e, hq _ _ _ _ Kp.refl hc ra_str h⟩ hs
  | tuple ds =>
   obtain ⟨d, ed, h⟩ := opt_e h
   obtain ⟨p, vs, rfl, hp, rs⟩ := RelA.tup ra
   obtain ⟨z, ez, rz⟩ := rs.atI ed
   exact ix_tup value slice pins s σ H _ _ v u Q I rx ry ⟨_, _, _, _, rfl, rfl, SqT.of hp, ez, hq _ _ _ _ Kp.refl hc (ra_D rz) h⟩ hs
  | list ds =>
   obtain ⟨d, ed, h⟩ := opt_e h
   obtain ⟨p, vs, rfl, hp, rs⟩ := RelA.lst ra
   obtain ⟨z, ez, rz⟩ := rs.atI ed
   exact ix_list value slice pins s σ H _ _ v u Q I rx ry ⟨_, _, _, _, rfl, rfl, hp.sq, ez, hq _ _ _ _ Kp.refl hc (ra_D rz) h⟩ hs
  | _ => exact False.elim h
 | R a =>
  obtain ⟨m, em, h⟩ := opt_e h
  cases m with
  | lst xs =>
   obtain ⟨w, ew, h⟩ := opt_e h
   obtain ⟨o, ho, vs, rfl, rs⟩ := hc _ _ em
   cases (show x = .ref _ from ra)
   obtain ⟨z, ez, rz⟩ := rs.atI ew
   exact ix_list value slice pins s σ H _ _ v u Q I rx ry ⟨_, _, _, _, rfl, rfl, SqL.of ho, ez, hq _ _ _ _ Kp.refl hc rz h⟩ hs
  | _ => exact False.elim h
 | _ => exact False.elim h
theorem ve_ix {r : A2} (hr : VIx X r) (ha : VE X a ta) (hb : VE X b tb) (hs : PlainIx b := by intro _ _; rfl) : VE X (.Subscript a b pos) (vOp r ta tb) := (pe_ix hr ha hb hs).imp fun _ _ _ h => vOp_imp h
def vNoPart : AO := fun _ μ R => R none μ
def vPart (t : AE) : AO := fun τ μ R => t τ μ fun x μ1 => match x with
 | .D (.int i) => R (some i) μ1
 | _ => False
theorem vo_none : VO X none vNoPart := po_none.imp fun σ H Q zz24 => ex34 zz24 fun τ μ R hs hc h hq => hq _ _ _ Kp.refl hc h
theorem vo_some (h : VE X a ta) : VO X (some a) (vPart ta) := (po_some h).imp fun σ H Q zz25 => ex34 zz25 fun τ μ R hs hc h hq => ⟨τ, μ, _, hs, hc, h, fun x μ1 v H1 S1 c1 rx hx => by
 split at hx
 ·cases RelA.int rx
  exact ⟨_, rfl, hq _ _ _ S1 c1 hx⟩
 ·exact hx.elim⟩
def aSl (x : AV) (lo hi : Option Int) : M -> (AV -> M -> Prop) -> Prop := fun μ R => match x with
 | .D (.str z) => z.length <= sizeLine /\ R (.D (.str (Txt.slice z lo hi))) μ
 | .D (.tuple ds) => R (.D (.tuple (cutD ds lo hi))) μ
 | .C _ => False
 | x => opt (items μ x) fun xs => ∀ p, μ p = none -> R (.R p) (updM μ p (.lst (cutA xs lo hi)))
def cSl (K : PySem.W.Frag) : V -> Option Int -> Option Int -> Hp -> VK -> Prop := fun x lo hi H Q => ∃ a μ R, RelA K H a x /\ Cn K μ H /\ aSl a lo hi μ R /\ LV K H R Q
theorem s_sl : SlR X (cSl X.K) := by
 intro pins s σ H x v vl vu lo hi sl Q I rx hs pl pu ⟨a, μ, R, ra, hc, h, hq⟩
 unfold aSl at h
 split at h
 ·cases RelA.str ra
  exact sl_str pins s σ H _ v vl vu lo hi sl Q I rx hs pl pu ⟨_, rfl, h.1, hq _ _ _ _ Kp.refl hc ra_str h.2⟩
 ·rename_i ds
  by_cases hw : HT.sIx ds.length 0 lo = 0 /\ HT.sIx ds.length ds.length hi = ds.length
  ·obtain ⟨a, xs, rfl, ha, hx⟩ := RelA.tup ra
   cases rx
   obtain ⟨its, r, ht, hz⟩ := I.tuple (SqT.of ha)
   have hlen : its.toArray.size = ds.length := by rw [List.size_toArray, <- r.length, hx.length]
   refine ⟨"tuple", _, PyProof.Rows.slot_tuple_getitem.lookup, ht.typeIs, ?_⟩
   refine HT.getItem_tuple_all ht hs pl pu (by rw [hlen]; exact hw) ⟨.ref a, H, I, rfl, hq _ _ _ _ Kp.refl hc ?_ h⟩
   rw [cutD_all hw]
   exact ra
  ·obtain ⟨a, xs, rfl, ha, hx⟩ := RelA.tup ra
   refine sl_tup pins s σ H (.ref a) v vl vu lo hi sl Q I rx hs pl pu ⟨a, xs, rfl, SqT.of ha, by rw [hx.length]; exact hw, fun p hp => ?_⟩
   exact hq _ _ _ _ (Kp.new hp _) (hc.over hp) (ra_tup upd_same (DkAll.kp (Kp.new hp _) _ _ (hx.cut lo hi))) h
 ·exact h.elim
 ·rename_i n1 n2 n3
  obtain ⟨xs, ex, h⟩ := opt_e h
  ·obtain ⟨p, vs, rfl, hp, rs⟩ := items_kind hc ra ex
   rcases hp with ⟨_, hp⟩ | ⟨ht, hp⟩
   ·exact sl_list pins s σ H _ v vl vu lo hi sl Q I rx hs pl pu ⟨_, _, rfl, hp, fun p hp => hq _ _ _ _ (Kp.new hp _) (hc.new hp (rm_lst (rs.cut lo hi))) ra_ref (h p (hc.none hp))⟩
   ·exfalso
    unfold isT at ht
    split at ht
    ·exact n2 _ rfl
    ·exact n3 _ rfl
    ·cases ht
def vSl (te : AE) (tl th : AO) : AE := fun τ μ R => te τ μ fun x μ1 => tl τ μ1 fun l μ2 => th τ μ2 fun u μ3 => aSl x l u μ3 R
theorem ve_slice {lo hi : Option Expr} {tl th : AO} {p2 : Pos} (he : VE X a ta) (hl : VO X lo tl) (hu : VO X hi th) : VE X (.Subscript a (.Slice lo hi none p2) pos) (vSl ta tl th) :=
 (pe_slice s_sl he hl hu).imp fun σ H Q zz26 => ex34 zz26 fun τ μ R hs hc h hq => ⟨τ, μ, _, hs, hc, h, fun x μ1 v H1 S1 c1 rx hx => ⟨τ, μ1, _, hs.kp S1, c1, hx, fun l μ2 H2 S2 c2 hl => ⟨τ, μ2, _, hs.kp (S1.trans S2), c2, hl, fun u μ3 H3 S3 c3 hu =>
  ⟨x, μ3, R, rx.kp (S2.trans S3), c3, hu, hq.kp (S1.trans (S2.trans S3))⟩⟩⟩⟩
variable {x : Str} {p : Pos} {e : Expr} {es : List Expr} {t : AA} {fid T : String} {r : AC}
def vCB (r : AC) (t : AA) : AE := fun τ μ R => t τ μ fun xs μ1 => r xs μ1 R
theorem vCB_imp {K : PySem.W.Frag} {n : Nat} {r : AC} {t : AA} {σ : St} {H : Hp} {Q : VK} (h : cE K (vCB r t) σ H Q) : tCB (cC K r) (cA K n t) σ H Q := by
 obtain ⟨τ, μ, R, hs, hc, h, hq⟩ := h
 exact ⟨τ, μ, _, hs, hc, h, fun xs μ1 vs H1 S1 c1 rs hl hx => ⟨xs, μ1, R, rs, c1, hx, hq.kp S1⟩⟩
theorem ve_callB (hc : VCall X (.builtin fid) r) (hg : Gl X x) (hm : X.mg x = none) (hv : bootBuiltins x = some (.builtin fid)) (ha : VA X (e :: es) t) (hn : x ≠ "__name__" := by decide) (hd : (x == ("__debug__" : Str)) = false := by decide)
  (hst : starEach (e :: es) X.env = (false, eval e X.env) :: starEach es X.env := by rfl) (hpl : (backTo pos (starEach es X.env)).any (·.1) = false := by rfl) : VE X (.Call (.Name x p) (e :: es) [] pos) (vCB r t) :=
 (pe_callB hc hg hm hv ha hn hd hst hpl).imp fun _ _ _ h => vCB_imp h
theorem ve_callTy (hc : VCall X (.type T) r) (hg : Gl X x) (hm : X.mg x = none) (hv : bootBuiltins x = some (.type T)) (ha : VA X (e :: es) t) (hn : x ≠ "__name__" := by decide) (hd : (x == ("__debug__" : Str)) = false := by decide)
  (hst : starEach (e :: es) X.env = (false, eval e X.env) :: starEach es X.env := by rfl) (hpl : (backTo pos (starEach es X.env)).any (·.1) = false := by rfl) : VE X (.Call (.Name x p) (e :: es) [] pos) (vCB r t) :=
 (pe_callTy hc hg hm hv ha hn hd hst hpl).imp fun _ _ _ h => vCB_imp h
def aLen : AC := fun xs μ R => match xs with
 | [.D (.str z)] => z.length <= sizeLine /\ R (.D (.int z.length)) μ
 | [.D (.tuple ds)] => R (.D (.int ds.length)) μ
 | [.D (.list ds)] => R (.D (.int ds.length)) μ
 | [.R a] => opt (μ a) fun m => match m with
  | .lst ys => R (.D (.int ys.length)) μ
  | .dk kvs => R (.D (.int kvs.length)) μ
  | _ => False
 | _ => False
theorem c_len : VCall X (.builtin "len") aLen := by
 intro pins s σ H xs us Q I r zz27
 refine ex34 zz27 fun as μ R ra hc h hq => ?_
 have no : ∀ {y : AV} {t : List AV} {x : AV}, aLen (x :: y :: t) μ R -> False := fun {y t x} q => by
  cases x with
  | D d => cases d <;> exact q
  | _ => exact q
 cases ra with
 | nil => exact False.elim h
 | @cons x v xs' vs' r1 r2 =>
  cases r2 with
  | cons _ _ => exact (no h).elim
  | nil =>
   cases x with
   | D d =>
    cases d with
    | str z =>
     cases RelA.str r1
     exact call_len_str pins s σ H _ us Q I r ⟨_, rfl, h.1, hq _ _ _ _ Kp.refl hc ra_int h.2⟩
    | tuple ds =>
     obtain ⟨p, vs, rfl, hp, rs⟩ := RelA.tup r1
     refine call_len_seq pins s σ H _ us Q I r ⟨p, vs, rfl, .inr (SqT.of hp), hq _ _ _ _ Kp.refl hc ?_ h⟩
     rw [rs.length]; exact ra_int
    | list ds =>
     obtain ⟨p, vs, rfl, hp, rs⟩ := RelA.lst r1
     refine call_len_seq pins s σ H _ us Q I r ⟨p, vs, rfl, .inl hp.sq, hq _ _ _ _ Kp.refl hc ?_ h⟩
     rw [rs.length]; exact ra_int
    | _ => exact False.elim h
   | R a =>
    obtain ⟨m, em, h⟩ := opt_e h
    cases (show _ = V.ref _ from r1)
    obtain ⟨o, ho, rm⟩ := hc _ _ em
    cases m with
    | lst ys =>
     obtain ⟨vs, rfl, rs⟩ := rm
     refine call_len_seq pins s σ H _ us Q I r ⟨_, vs, rfl, .inl (SqL.of ho), hq _ _ _ _ Kp.refl hc ?_ h⟩
     rw [rs.length]; exact ra_int
    | dk kvs =>
     obtain ⟨vs, rfl, rs⟩ := rm
     refine call_lenD pins s σ H _ us Q I r ⟨_, vs, rfl, ho, hq _ _ _ _ Kp.refl hc ?_ h⟩
     rw [Paired.length rs]; exact ra_int
    | _ => exact False.elim h
   | _ => exact False.elim h
def aTuple : AC := fun xs μ R => match xs with
 | [.D (.tuple ds)] => R (.D (.tuple ds)) μ
 | [.C _] => False
 | [y] => opt (items μ y) fun ys => opt (dats ys) fun ds => R (.D (.tuple ds)) μ
 | _ => False
theorem aTuple_one {x : AV} {t : List AV} {μ : M} {R : AV -> M -> Prop} (h : aTuple (x :: t) μ R) : t = [] := by
 cases t with
 | nil => rfl
 | cons y t =>
  refine False.elim ?_
  cases x with
  | D d => cases d <;> exact h
  | _ => exact h
theorem aTuple_ns {x : AV} {μ : M} {R : AV -> M -> Prop} (ht : isT x = false) (h : aTuple [x] μ R) : opt (items μ x) fun ys => opt (dats ys) fun ds => R (.D (.tuple ds)) μ := by
 cases x with
 | D d => cases d <;> first | exact h | cases ht
 | C ds => cases ht
 | _ => exact h
theorem aTuple_t {x : AV} {μ : M} {R : AV -> M -> Prop} (ht : isT x = true) (h : aTuple [x] μ R) : ∃ ds, x = .D (.tuple ds) /\ R (.D (.tuple ds)) μ := by
 cases x with
 | D d =>
  cases d with
  | tuple ds => exact ⟨ds, rfl, h⟩
  | _ => cases ht
 | C ds => exact False.elim h
 | _ => cases ht
theorem c_tuple : VCall X (.type "tuple") aTuple := by
 intro pins s σ H xs us Q I r zz28
 refine ex34 zz28 fun as μ R ra hc h hq => ?_
 cases ra with
 | nil => exact False.elim h
 | @cons y v ys' vs' r1 r2 =>
  have hn := aTuple_one h
  subst hn
  cases r2
  cases ht : isT y with
  | true =>
   obtain ⟨ds, rfl, h⟩ := aTuple_t ht h
   obtain ⟨p, vs, rfl, hp, rs⟩ := RelA.tup r1
   exact call_tuple_of pins s σ H _ us Q I r ⟨p, vs, rfl, .inr ⟨SqT.of hp, hq _ _ _ _ Kp.refl hc r1 h⟩⟩
  | false =>
   obtain ⟨ys, ey, h⟩ := opt_e (aTuple_ns ht h)
   obtain ⟨ds, ed, h⟩ := opt_e h
   obtain ⟨p, vs, rfl, hp, rs⟩ := items_kind hc r1 ey
   rcases hp with ⟨_, hp⟩ | ⟨ht2, _⟩
   ·exact call_tuple_of pins s σ H _ us Q I r ⟨p, vs, rfl, .inl ⟨hp, fun l hl => hq _ _ _ _ (Kp.new hl _) (hc.over hl) (ra_tup upd_same (DkAll.kp (Kp.new hl _) _ _ (rs.dats ed))) h⟩⟩
   ·rw [ht] at ht2; cases ht2
def aList : AC := fun xs μ R => match xs with
 | [y] => opt (items μ y) fun ys => ∀ p, μ p = none -> R (.R p) (updM μ p (.lst ys))
 | _ => False
theorem c_list : VCall X (.type "list") aList := by
 intro pins s σ H xs us Q I r zz29
 refine ex34 zz29 fun as μ R ra hc h hq => ?_
 unfold aList at h
 split at h
 ·cases ra with
  | cons r1 r2 =>
   cases r2
   obtain ⟨ys, ey, h⟩ := opt_e h
   obtain ⟨p, vs, rfl, hp, rs⟩ := items_seq hc r1 ey
   exact call_list_of pins s σ H _ us Q I r ⟨p, vs, rfl, hp, fun l hl => hq _ _ _ _ (Kp.new hl _) (hc.new hl (rm_lst (rs))) ra_ref (h l (hc.none hl))⟩
 ·exact h.elim
def bools : List AV -> Option (List Bool)
 | [] => some []
 | .D (.bool b) :: r => match bools r with
  | some bs => some (b :: bs)
  | none => none
 | _ :: _ => none
theorem bools_map : ∀ (bs : List Bool), bools (bs.map fun b => .D (.bool b)) = some bs
 | [] => rfl
 | b :: bs => by simp only [List.map_cons, bools, bools_map bs]
theorem RelAs.bools {K : PySem.W.Frag} {H : Hp} {xs : List AV} {vs : List V} {bs : List Bool} (h : RelAs K H xs vs) (e : L2.bools xs = some bs) : vs = bs.map V.bl := by
 induction h generalizing bs with
 | nil => cases e; rfl
 | @cons x v xs vs r t ih =>
  cases x with
  | D d =>
   cases d with
   | bool b =>
    simp only [L2.bools] at e
    cases q : L2.bools xs with
    | none => rw [q] at e; cases e
    | some cs => rw [q] at e; cases e; cases RelA.bl r; rw [ih q]; rfl
   | _ => simp [L2.bools] at e
  | _ => simp [L2.bools] at e
def aAll : AC := fun xs μ R => match xs with
 | [.R a] => opt (μ a) fun m => match m with
  | .lst ys => opt (bools ys) fun bs => R (.D (.bool (bs.all id))) μ
  | _ => False
 | _ => False
theorem c_all (hcm : X.calm = true) : VCall X (.builtin "all") aAll := by
 intro pins s σ H xs us Q I r zz30
 refine ex34 zz30 fun as μ R ra hc h hq => ?_
 unfold aAll at h
 split at h
 ·cases ra with
  | cons r1 r2 =>
   cases r2
   obtain ⟨m, em, h⟩ := opt_e h
   split at h
   ·obtain ⟨bs, eb, h⟩ := opt_e h
    obtain ⟨o, ho, vs, rfl, rs⟩ := hc _ _ em
    cases (show _ = V.ref _ from r1)
    exact call_all hcm pins s σ H _ us Q I r ⟨_, bs, rfl, SqL.of (by rw [ho, rs.bools eb]), hq _ _ _ _ Kp.refl hc ra_bl h⟩
   ·exact h.elim
 ·exact h.elim
def aMax2 : AC := fun xs μ R => match xs with
 | [.D (.int i), .D (.int j)] => R (.D (.int (if j > i then j else i))) μ
 | _ => False
theorem c_max2 (hcm : X.calm = true) : VCall X (.builtin "max") aMax2 := by
 intro pins s σ H xs us Q I r zz31
 refine ex34 zz31 fun as μ R ra hc h hq => ?_
 unfold aMax2 at h
 split at h
 ·cases ra with
  | cons r1 r2 =>
   cases r2 with
   | cons r2 r3 =>
    cases r3
    cases RelA.int r1; cases RelA.int r2
    exact call_max2 hcm pins s σ H _ us Q I r ⟨_, _, rfl, hq _ _ _ _ Kp.refl hc ra_int h⟩
 ·exact h.elim
variable {o : Expr} {to : AE} {name : Str} {apos cpos : Pos} {m : AV -> AC}
def isLst (μ : M) : AV -> Prop
 | .R a => opt (μ a) fun m => match m with
  | .lst _ => True
  | _ => False
 | .D (.list _) => True
 | _ => False
def isStr : AV -> Prop
 | .D (.str _) => True
 | _ => False
theorem isLst.ty {H : Hp} {μ : M} {x : AV} {v : V} (hc : Cn X.K μ H) (rx : RelA X.K H x v) (h : isLst μ x) : tyV X.K "list" v H := by
 unfold isLst at h
 split at h
 ·obtain ⟨m, e, h⟩ := opt_e h
  split at h
  ·obtain ⟨o, ho, vs, rfl, _⟩ := hc _ _ e
   cases (show v = .ref _ from rx)
   exact .inl ⟨rfl, vs, SqL.of ho⟩
  ·exact h.elim
 ·obtain ⟨a, xs, rfl, q, _⟩ := RelA.lst rx
  exact .inl ⟨rfl, xs, q.sq⟩
 ·exact h.elim
def vBL0 (m : AV -> AC) (to : AE) : AE := fun τ μ R => to τ μ fun x μ1 => isLst μ1 x /\ m x [] μ1 R
def vBL (m : AV -> AC) (to : AE) (t : AA) : AE := fun τ μ R => to τ μ fun x μ1 => isLst μ1 x /\ t τ μ1 fun xs μ2 => m x xs μ2 R
def vBS (m : AV -> AC) (to : AE) (t : AA) : AE := fun τ μ R => to τ μ fun x μ1 => isStr x /\ t τ μ1 fun xs μ2 => m x xs μ2 R
theorem ve_ml0 (slot : Slot "list" name fid) (hty : typeOf (.builtin fid) = pure (.type "method_descriptor")) (hm : VMt X fid m) (ho : VE X o to)
  (hbase : attributeBase o name X.env (eval o X.env) = eval o X.env := by rfl) (hline : (apos.endLine == cpos.line) = true := by rfl) : VE X (.Call (.Attribute o name apos) [] [] cpos) (vBL0 m to) :=
 (pe_bm0 PySem.F.plainAttrs_list slot hty hm ho hbase hline).imp fun σ H Q zz33 => ex34 zz33 fun τ μ R hs hc h hq => ⟨τ, μ, _, hs, hc, h, fun x μ1 v H1 S1 c1 rx hx => ⟨hx.1.ty c1 rx, x, [], μ1, R, rx, .nil, c1, hx.2, hq.kp S1⟩⟩
theorem ve_ml (slot : Slot "list" name fid) (hty : typeOf (.builtin fid) = pure (.type "method_descriptor")) (hm : VMt X fid m) (ho : VE X o to) (ha : VA X (e :: es) t)
  (hbase : attributeBase o name X.env (eval o X.env) = eval o X.env := by rfl)
  (hfew : ((backTo cpos (starEach (e :: es) X.env)).all (fun x => !x.1) && (backToKw cpos (keywordEach [] X.env)).all (fun x => x.1.isSome)
   && decide ((e :: es).length + ([] : List Keyword).length + (if ([] : List Keyword).isEmpty then 0 else 1) < 30)) = true := by rfl)
  (hline : (apos.endLine == cpos.line) = true := by rfl) (hs : starEach (e :: es) X.env = (false, eval e X.env) :: starEach es X.env := by rfl) (hplain : (backTo cpos (starEach es X.env)).any (·.1) = false := by rfl) :
  VE X (.Call (.Attribute o name apos) (e :: es) [] cpos) (vBL m to t) :=
 (pe_bm PySem.F.plainAttrs_list slot hty hm ho ha hbase hfew hline hs hplain).imp fun σ H Q zz34 => ex34 zz34 fun τ μ R hs hc h hq => ⟨τ, μ, _, hs, hc, h, fun x μ1 v H1 S1 c1 rx hx => ⟨hx.1.ty c1 rx, τ, μ1, _, hs.kp S1, c1, hx.2, fun xs μ2 vs H2 S2 c2 rs hl hxs =>
  ⟨x, xs, μ2, R, rx.kp S2, rs, c2, hxs, hq.kp (S1.trans S2)⟩⟩⟩
theorem ve_ms (slot : Slot "str" name fid) (hty : typeOf (.builtin fid) = pure (.type "method_descriptor")) (hm : VMt X fid m) (ho : VE X o to) (ha : VA X (e :: es) t)
  (hbase : attributeBase o name X.env (eval o X.env) = eval o X.env := by rfl)
  (hfew : ((backTo cpos (starEach (e :: es) X.env)).all (fun x => !x.1) && (backToKw cpos (keywordEach [] X.env)).all (fun x => x.1.isSome)
   && decide ((e :: es).length + ([] : List Keyword).length + (if ([] : List Keyword).isEmpty then 0 else 1) < 30)) = true := by rfl)
  (hline : (apos.endLine == cpos.line) = true := by rfl) (hs : starEach (e :: es) X.env = (false, eval e X.env) :: starEach es X.env := by rfl) (hplain : (backTo cpos (starEach es X.env)).any (·.1) = false := by rfl) :
  VE X (.Call (.Attribute o name apos) (e :: es) [] cpos) (vBS m to t) :=
 (pe_bm PySem.F.plainAttrs_str slot hty hm ho ha hbase hfew hline hs hplain).imp fun σ H Q zz35 => ex34 zz35 fun τ μ R hs hc h hq => ⟨τ, μ, _, hs, hc, h, fun x μ1 v H1 S1 c1 rx hx => ⟨by
   obtain ⟨hx, _⟩ := hx
   unfold isStr at hx
   split at hx
   ·cases RelA.str rx; rfl
   ·exact hx.elim, τ, μ1, _, hs.kp S1, c1, hx.2, fun xs μ2 vs H2 S2 c2 rs hl hxs =>
  ⟨x, xs, μ2, R, rx.kp S2, rs, c2, hxs, hq.kp (S1.trans S2)⟩⟩⟩
def mAppend : AV -> AC := fun x xs μ R => match x, xs with
 | .R a, [y] => opt (μ a) fun m => match m with
  | .lst ys => ys.length < sizeLine /\ R (.D .none) (updM μ a (.lst (ys ++ [y])))
  | _ => False
 | _, _ => False
theorem m_append : VMt X "list.append" mAppend := by
 intro pins s σ H x xs v us Q I rx r zz36
 refine ex45 zz36 fun a as μ R ra rs hc h hq => ?_
 unfold mAppend at h
 split at h
 ·rename_i a y
  obtain ⟨m, ey, h⟩ := opt_e h
  split at h
  ·cases rs with
   | cons r1 r2 =>
    cases r2
    obtain ⟨o, ho, vs, rfl, rl⟩ := hc _ _ ey
    cases (show x = .ref a from ra)
    exact mt_append pins s σ H _ _ v us Q I rx r ⟨a, vs, _, rfl, rfl, ho, by rw [<- rl.length]; exact h.1, hq _ _ _ _ (Kp.put ho trivial _) (hc.put ho trivial (rm_lst (rl.append (.cons r1 .nil)))) ra_non h.2⟩
  ·exact h.elim
 ·exact h.elim
def mPop : AV -> AC := fun x xs μ R => match x, xs with
 | .R a, [] => opt (μ a) fun m => match m with
  | .lst ys => opt ys[ys.length - 1]? fun y => R y (updM μ a (.lst ys.dropLast))
  | _ => False
 | _, _ => False
theorem m_pop : VMt X "list.pop" mPop := by
 intro pins s σ H x xs v us Q I rx r zz38
 refine ex45 zz38 fun a as μ R ra rs hc h hq => ?_
 unfold mPop at h
 split at h
 ·rename_i a
  obtain ⟨m, ey, h⟩ := opt_e h
  split at h
  ·obtain ⟨y, e1, h⟩ := opt_e h
   ·cases rs
    obtain ⟨o, ho, vs, rfl, rl⟩ := hc _ _ ey
    cases (show x = .ref a from ra)
    obtain ⟨z, ez, rz⟩ := rl.get e1
    exact mt_pop pins s σ H _ _ v us Q I rx r ⟨a, vs, z, rfl, rfl, ho, by rw [<- rl.length]; exact ez, hq _ _ _ _ (Kp.put ho trivial _) (hc.put ho trivial (rm_lst (rl.dropLast))) (rz.kp (Kp.put ho trivial _)) h⟩
  ·exact h.elim
 ·exact h.elim
end
end L2
namespace L2
open PySem PySem.Spec PyProof.Rows
section
variable {X : Cx} {a b c : Expr} {ta tb tc : AE} {pos : Pos}
def kit (S T : String) : Bool := S == T || (S == "bool" && T == "int")
def tyA (μ : M) : AV -> Option String
 | .D .none => some "NoneType"
 | .D (.bool _) => some "bool"
 | .D (.int _) => some "int"
 | .D (.str _) => some "str"
 | .D (.list _) => some "list"
 | .D (.tuple _) => some "tuple"
 | .D (.dict _) => none
 | .C _ => some "tuple"
 | .X _ _ => none
 | .R a => match μ a with
  | some (.lst _) => some "list"
  | some (.dk _) => some "dict"
  | some (.dt _) => some "dict"
  | some (.dd _) => some "dict"
  | none => none
def vIsT (T : String) (te : AE) : AE := fun τ μ R => te τ μ fun x μ1 => opt (tyA μ1 x) fun S => R (.D (.bool (kit S T))) μ1
def Kits (K : PySem.W.Frag) (T : String) : Prop := ∀ S ∈ ["NoneType", "bool", "int", "str", "list", "tuple", "dict"], PySem.W.kitOne K (.type S) (.type T) = some (kit S T)
theorem isT_ok {pins : List (Addr × Obj)} {σ : St} {H : Hp} {s : Shared} {E : Value -> Shared -> Prop} {Q : Value -> Shared -> Prop} {μ : M} {x : AV} {v : V} {u : Value} {S T : String} (I : Inv X pins σ H s) (hc : Cn X.K μ H) (rx : RelA X.K H x v) (r : RelV v u) (e : tyA μ x = some S) (hk : Kits X.K T)
  (h : ∀ tk, Q (.bool (kit S T)) { s with toks := tk }) : wpAny (model X.prog X.w) X.A (call (.builtin "isinstance") [u, .type T]) Q E s := by
 unfold tyA at e
 split at e
 ·cases e; cases RelA.non rx; cases r; exact PySem.W.kia_one PySem.W.kitx_none I.kIn True.intro (hk _ (by decide)) (fun z => nomatch z) h
 ·cases e; cases RelA.bl rx; cases r; exact PySem.W.kia_one PySem.W.kitx_bool I.kIn True.intro (hk _ (by decide)) (fun z => nomatch z) h
 ·cases e; cases RelA.int rx; obtain ⟨t, rfl⟩ := r; exact PySem.W.kia_one PySem.W.kitx_int I.kIn True.intro (hk _ (by decide)) (fun z => nomatch z) h
 ·cases e; cases RelA.str rx; obtain ⟨t, rfl⟩ := r; exact PySem.W.kia_one PySem.W.kitx_str I.kIn True.intro (hk _ (by decide)) (fun z => nomatch z) h
 ·cases e
  obtain ⟨a, vs, rfl, q, _⟩ := RelA.lst rx
  cases r
  obtain ⟨_, _, ⟨o, n, e1, e2, _⟩, _⟩ := I.list q.sq
  exact PySem.W.kia_one PySem.W.kitx_list I.kIn ⟨o, e1, e2⟩ (hk _ (by decide)) (fun z => nomatch z) h
 ·cases e
  obtain ⟨a, vs, rfl, q, _⟩ := RelA.tup rx
  cases r
  obtain ⟨_, _, ⟨o, e1, e2, _⟩, _⟩ := I.tuple (SqT.of q)
  exact PySem.W.kia_one PySem.W.kitx_tuple I.kIn ⟨o, e1, e2⟩ (hk _ (by decide)) (fun z => nomatch z) h
 ·cases e
 ·cases e
  obtain ⟨a, vs, rfl, q, _⟩ := rx
  cases r
  obtain ⟨_, _, ⟨o, e1, e2, _⟩, _⟩ := I.tuple (q H)
  exact PySem.W.kia_one PySem.W.kitx_tuple I.kIn ⟨o, e1, e2⟩ (hk _ (by decide)) (fun z => nomatch z) h
 ·cases e
 ·rename_i a
  cases (show v = .ref a from rx)
  cases r
  split at e
  ·rename_i xs ex
   cases e
   obtain ⟨o, ho, vs, rfl, _⟩ := hc _ _ ex
   obtain ⟨_, _, ⟨o, n, e1, e2, _⟩, _⟩ := I.list (SqL.of ho)
   exact PySem.W.kia_one PySem.W.kitx_list I.kIn ⟨o, e1, e2⟩ (hk _ (by decide)) (fun z => nomatch z) h
  ·rename_i xs ex
   cases e
   obtain ⟨o, ho, vs, rfl, _⟩ := hc _ _ ex
   obtain ⟨_, _, ws, _, p⟩ := (show ObjOk X.prog X.w H s.heap a (.dK vs) from I.hok a _ ho)
   obtain ⟨o, es, ep, h1, h2, _⟩ := p
   exact PySem.W.kia_one PySem.W.kitx_dict I.kIn ⟨o, h1, h2.1⟩ (hk _ (by decide)) (fun z => nomatch z) h
  ·rename_i xs ex
   cases e
   obtain ⟨o, ho, vs, rfl, _⟩ := hc _ _ ex
   obtain ⟨_, _, xs, _, o, es, ep, h1, h2, _⟩ := (show ObjOk X.prog X.w H s.heap a (.dT vs) from I.hok a _ ho)
   exact PySem.W.kia_one PySem.W.kitx_dict I.kIn ⟨o, h1, h2.1⟩ (hk _ (by decide)) (fun z => nomatch z) h
  ·rename_i xs ex
   cases e
   obtain ⟨o, ho, vs, rfl, _⟩ := hc _ _ ex
   obtain ⟨o, es, ep, h1, h2, _⟩ := (show ObjOk X.prog X.w H s.heap a (.dd vs) from I.hok a _ ho)
   exact PySem.W.kia_one PySem.W.kitx_dict I.kIn ⟨o, h1, h2.1⟩ (hk _ (by decide)) (fun z => nomatch z) h
  ·cases e
theorem ve_isT {T : String} {x : Str} {p p2 : Pos} (hg : Gl X "isinstance") (hm : X.mg "isinstance" = none) (hg2 : Gl X x) (hm2 : X.mg x = none) (hv2 : bootBuiltins x = some (.type T)) (hk : Kits X.K T) (he : VE X a ta)
  (hn2 : x ≠ "__name__" := by decide) (hd2 : (x == ("__debug__" : Str)) = false := by decide)
  (hs : starEach [a, .Name x p2] X.env = (false, eval a X.env) :: starEach [.Name x p2] X.env := by rfl) (hs2 : starEach [.Name x p2] X.env = [(false, eval (.Name x p2) X.env)] := by rfl) (hpl : (backTo pos (starEach [.Name x p2] X.env)).any (·.1) = false := by rfl) :
  VE X (.Call (.Name "isinstance" p) [a, .Name x p2] [] pos) (vIsT T ta) := by
 intro pins s σ H Q I zz40
 refine ex34 zz40 fun τ μ R hst hc h hq => ?_
 refine wpAny_Call_Name_kw (ld_blt I hg hm boot_isinstance ?_)
 refine PyProof.Rows.callWith_builtin1 ?_ hs hpl
 rw [hs]
 refine Calls.spliced_cons (thn (he pins s σ H (fun v H1 => ∃ x μ1 S, Kp H H1 /\ Cn X.K μ1 H1 /\ RelA X.K H1 x v /\ tyA μ1 x = some S /\ R (.D (.bool (kit S T))) μ1) I ⟨τ, μ, _, hst, hc, h, fun x μ1 v H1 S1 c1 rx hx => ?_⟩) fun u s1 zz701 => ?_)
 ·obtain ⟨S, e, hx⟩ := opt_e hx
  exact ⟨x, μ1, S, S1, c1, rx, e, hx⟩
 obtain ⟨v, H1, I1, r1, x, μ1, S, S1, c1, rx, ty, q1⟩ := zz701
 rw [hs2]
 refine Calls.spliced_cons (ld_blt I1 hg2 hm2 hv2 (Calls.spliced_nil ?_) hn2 hd2)
 exact isT_ok I1 c1 rx r1 ty hk fun tk => ⟨.bl _, H1, I1.tok _, rfl, hq _ _ _ _ S1 c1 ra_bl q1⟩
abbrev ASp := List AV -> M -> (AV -> M -> Prop) -> Prop
def cSp (K : PySem.W.Frag) (n : Nat) (sp : ASp) : Sp := fun vs H Q _ => ∃ xs μ R, xs.length = n /\ RelAs K H xs vs /\ Cn K μ H /\ sp xs μ R /\ LV K H R Q
def VCal (P : Program) (w : World) (K : PySem.W.Frag) (mg : Str -> Option Value) (base : Heap) (k : Nat) (x : Str) (ps : List Str) (sp : ASp) : Prop := Cal P w K mg base k x ps (cSp K ps.length sp)
def vCall (n : Nat) (sp : ASp) (t : AA) : AE := fun τ μ R => t τ μ fun xs μ1 => sp xs μ1 R
variable {x : Str} {p : Pos} {e : Expr} {es : List Expr} {t : AA} {k : Nat} {ps : List Str} {sp : ASp}
theorem ve_call (F : VCal X.prog X.w X.K X.mg X.base k x ps sp) (hr : Room k X.A) (hg : Gl X x) (ha : VA X (e :: es) t) (hl : (e :: es).length = ps.length := by rfl) (hdb : (x == ("__debug__" : Str)) = false := by decide)
  (hst : starEach (e :: es) X.env = (false, eval e X.env) :: starEach es X.env := by rfl) (hpl : (backTo pos (starEach es X.env)).any (·.1) = false := by rfl) : VE X (.Call (.Name x p) (e :: es) [] pos) (vCall ps.length sp t) := by
 obtain ⟨g, gd, G, gb, gk, gm⟩ := F
 refine PE.imp (pe_call (E := E0) G hr hg gm gk gb .nil pass0 ha (hdb := hdb) (he := hst) (hpl := hpl)) fun σ H Q zz41 => ex34 zz41 fun τ μ R hs hc h hq => ?_
 exact ⟨τ, μ, _, hs, hc, h, fun xs μ1 vs H1 S1 c1 rs hn hx => ⟨xs, μ1, R, hn.trans hl, by rw [List.append_nil]; exact rs, c1, hx, hq.kp S1⟩⟩
def vNext : AS := fun k _ _ _ τ μ => k τ μ
def vSeq (t u : AS) : AS := fun k r b c τ μ => t (u k r b c) r b c τ μ
variable {st : Stmt} {rest : List Stmt} {s1 s2 : AS}
theorem vss_nil : VSs X [] vNext := pss_nil.imp fun D σ H zz43 => ex64 zz43 fun τ μ nk nr nb nc hs hc h hq => hq.nx _ _ _ _ Kp.refl hs hc h
theorem vss_cons (h1 : VS X st s1) (h2 : VSs X rest s2) : VSs X (st :: rest) (vSeq s1 s2) := (pss_cons h1 h2).imp fun D σ H zz44 => ex64 zz44 fun τ μ nk nr nb nc hs hc h hq =>
 ⟨τ, μ, _, _, _, _, hs, hc, h, ⟨fun τ' μ' σ' H' S' hs' hc' h' => ⟨τ', μ', nk, nr, nb, nc, hs', hc', h', hq.kp S'⟩, hq.rt, hq.bk, hq.ct⟩⟩
theorem vss_one (h1 : VS X st s1) : VSs X [st] s1 := pss_one h1
def vDrop (te : AE) : AS := fun k _ _ _ τ μ => te τ μ fun _ μ1 => k τ μ1
theorem vs_expr (he : VE X a ta) (hs : swapsWith a none pos.line X.env = pure false := by rfl) : VS X (.Expr a pos) (vDrop ta) := (ps_expr he hs).imp fun D σ H zz48 => ex64 zz48 fun τ μ nk nr nb nc hs hc h hq =>
 ⟨τ, μ, _, hs, hc, h, fun x μ1 v H1 S1 c1 rx hx => hq.nx _ _ _ _ S1 (hs.kp S1) c1 hx⟩
def vRet (te : AE) : AS := fun _ r _ _ τ μ => te τ μ r
theorem vs_ret (he : VE X a ta) : VS X (.Return (some a) pos) (vRet ta) := (ps_ret he).imp fun D σ H zz49 => ex64 zz49 fun τ μ nk nr nb nc hs hc h hq => ⟨τ, μ, _, hs, hc, h, hq.rt⟩
def vIfS (ct : AT) (t u : AS) : AS := fun k r b c τ μ => ct τ μ fun x μ1 => brP x (t k r b c τ μ1) (u k r b c τ μ1)
theorem vs_if {c : Expr} {a b : List Stmt} {tc : AT} (hc : VT X c tc) (ha : VSs X a s1) (hb : VSs X b s2) : VS X (.If c a b pos) (vIfS tc s1 s2) := (ps_if hc ha hb).imp fun D σ H zz51 => ex64 zz51 fun τ μ nk nr nb nc hs hc h hq =>
 ⟨τ, μ, _, hs, hc, h, fun k μ1 H1 S1 c1 hk => by
  rcases br_e hk with ⟨rfl, hk'⟩ | ⟨rfl, hk'⟩
  ·exact ⟨τ, μ1, nk, nr, nb, nc, hs.kp S1, c1, hk', hq.kp S1⟩
  ·exact ⟨τ, μ1, nk, nr, nb, nc, hs.kp S1, c1, hk', hq.kp S1⟩⟩
def wName (i : Nat) : AG := fun v τ μ R => R (τ.set i (some v)) μ
theorem vg_name {i : Nat} {x : Str} (hN : X.N.Nodup) (hi : X.N[i]? = some x) (hx : Loc X.env.scope x) (hf : X.fn x = true \/ X.env.scope.names.lookup x = some .local := by first | exact .inl rfl | exact .inr rfl | assumption) : VG X (.Name x pos) (wName i) :=
 (pg_name hN hi hx hf).imp fun v σ H Q zz54 => ex45 zz54 fun x τ μ R rx hs hc h hq => hq _ _ _ _ Kp.refl (hs.set rx i) hc h
def wNil : AGs := fun vs τ μ R => match vs with
 | [] => R τ μ
 | _ :: _ => False
def wCons (t : AG) (u : AGs) : AGs := fun vs τ μ R => match vs with
 | [] => False
 | v :: r => t v τ μ fun τ' μ' => u r τ' μ' R
theorem vgs_nil : VGs X [] wNil := pgs_nil.imp fun vs σ H Q zz55 => ex45 zz55 fun xs τ μ R rx hs hc h hq => by
 cases rx with
 | nil => exact ⟨rfl, hq _ _ _ _ Kp.refl hs hc h⟩
 | cons => exact h.elim
theorem vgs_cons {e : Expr} {es : List Expr} {t : AG} {u : AGs} (h1 : VG X e t) (h2 : VGs X es u)
  (hs : (assignEach (e :: es) X.env).map (·.2) = assign e X.env :: (assignEach es X.env).map (·.2) := by rfl) : VGs X (e :: es) (wCons t u) := (pgs_cons h1 h2 hs).imp fun vs σ H Q zz56 => ex45 zz56 fun xs τ μ R rx hs hc h hq => by
 cases rx with
 | nil => exact h.elim
 | cons r1 r2 => exact ⟨_, _, rfl, _, τ, μ, _, r1, hs, hc, h, fun τ' μ' σ' H' S' hs' hc' h' => ⟨_, τ', μ', R, RelAs.kp S' r2, hs', hc', h', hq.kp S'⟩⟩
def wTup (n : Nat) (t : AGs) : AG := fun v τ μ R => match v with
 | .D (.tuple ds) => ds.length = n /\ t (ds.map .D) τ μ R
 | _ => False
theorem vg_tup {es : List Expr} {k : Nat} {t : AGs} {n : Nat} (hcm : X.calm = true) (h : VGs X es t)
  (hn : (assignEach es X.env).length = n := by rfl) (hst : (assignEach es X.env).findIdx? (·.1) = none := by rfl) : VG X (.Tuple es k pos) (wTup n t) := (pg_tup hcm h hn hst).imp fun v σ H Q zz57 => ex45 zz57 fun x τ μ R rx hs hc h hq => by
 unfold wTup at h
 split at h
 ·obtain ⟨a, vs, rfl, q, r⟩ := RelA.tup rx
  exact ⟨a, vs, rfl, SqT.of q, by rw [r.length]; exact h.1, _, τ, μ, R, r.rel, hs, hc, h.2, hq⟩
 ·exact h.elim
def aSet (o i v : AV) (μ : M) (R : M -> Prop) : Prop := match o, i with
 | .R a, .D (.int k) => opt (μ a) fun m => match m with
  | .lst xs => opt (ixN xs.length k) fun j => R (updM μ a (.lst (xs.set j v)))
  | _ => False
 | _, _ => False
def cSet (K : PySem.W.Frag) : TSet := fun o i v H Q => ∃ a b c μ R, RelA K H a o /\ RelA K H b i /\ RelA K H c v /\ Cn K μ H /\ aSet a b c μ R /\ ∀ μ' H', Kp H H' -> Cn K μ' H' -> R μ' -> Q H'
theorem s_set : PSet X (cSet X.K) := by
 intro pins s σ H o i v ov iv u Q I r1 r2 r3 ⟨a, b, c, μ, R, ra, rb, rc, hc, h, hq⟩
 unfold aSet at h
 split at h
 ·rename_i q k
  obtain ⟨m, ex, h⟩ := opt_e h
  split at h
  ·obtain ⟨j, ej, h⟩ := opt_e h
   ·obtain ⟨o', ho, vs, rfl, rs⟩ := hc _ _ ex
    cases (show o = .ref q from ra)
    cases RelA.int rb
    exact set_list pins s σ H _ _ v ov iv u Q I r1 r2 r3 ⟨q, vs, k, j, rfl, rfl, ho, by rw [<- rs.length]; exact ej, hq _ _ (Kp.put ho trivial _) (hc.put ho trivial (rm_lst (rs.set rc j))) h⟩
  ·exact h.elim
 ·exact h.elim
def wSub (to ti : AE) : AG := fun v τ μ R => to τ μ fun o μ1 => ti τ μ1 fun i μ2 => aSet o i v μ2 fun μ3 => R τ μ3
theorem vg_sub {o i : Expr} {to ti : AE} (ho : VE X o to) (hi : VE X i ti)
  (ha : ∀ v, assign (.Subscript o i pos) X.env v = (do
   let ov <- holding [v] (eval o X.env)
   let iv <- holding [v, ov] (eval i X.env)
   standAt pos
   holding [v, ov, iv] (setItem ov iv v)
   release [v, ov, iv] []) := by intro _; rfl) : VG X (.Subscript o i pos) (wSub to ti) := (pg_sub ho hi s_set ha).imp fun v σ H Q zz58 => ex45 zz58 fun x τ μ R rx hs hc h hq =>
 ⟨τ, μ, _, hs, hc, h, fun o μ1 ov H1 S1 c1 ro h1 => ⟨τ, μ1, _, hs.kp S1, c1, h1, fun i μ2 iv H2 S2 c2 ri h2 => ⟨o, i, x, μ2, _, ro.kp S2, ri, rx.kp (S1.trans S2), c2, h2, fun μ3 H3 S3 c3 h3 => hq _ _ _ _ (S1.trans (S2.trans S3)) (hs.kp (S1.trans (S2.trans S3))) c3 h3⟩⟩⟩
def vAsg (te : AE) (g : AG) : AS := fun k _ _ _ τ μ => te τ μ fun x μ1 => g x τ μ1 k
theorem vAsg_imp {K : PySem.W.Frag} {te : AE} {g : AG} {D : Ends} {σ : St} {H : Hp} (h : cS K (vAsg te g) D σ H) : tAsg (cE K te) (cG K g) D σ H := by
 obtain ⟨τ, μ, nk, nr, nb, nc, hs, hc, h, hq⟩ := h
 exact ⟨τ, μ, _, hs, hc, h, fun x μ1 v H1 S1 c1 rx hx => ⟨x, τ, μ1, _, rx, hs.kp S1, c1, hx, hq.nx.kp S1⟩⟩
theorem vs_asg {tg : Expr} {g : AG} (he : VE X a ta) (hg : VG X tg g) (hs : swapsWithSole [tg] a pos.line X.env = pure false := by rfl) (hw : swappedStores [tg] a X.env = pure none := by rfl)
  (h1 : (assignEach [tg] X.env).map (·.2) = [assign tg X.env] := by rfl) : VS X (.Assign [tg] a pos) (vAsg ta g) := (ps_asg he hg hs hw h1).imp fun _ _ _ h => vAsg_imp h
theorem vs_set {i : Nat} {x : Str} {pos' : Pos} (hN : X.N.Nodup) (hi : X.N[i]? = some x) (hx : Loc X.env.scope x) (he : VE X a ta) (hs : swapsWith a (some (.Name x pos')) pos.line X.env = pure false := by rfl) (hf : X.fn x = true \/ X.env.scope.names.lookup x = some .local := by first | exact .inl rfl | exact .inr rfl | assumption) :
  VS X (.Assign [.Name x pos'] a pos) (vAsg ta (wName i)) := (ps_set hN hi hx he hs hf).imp fun D σ H zz59 => ex64 zz59 fun τ μ nk nr nb nc hs hc h hq =>
 ⟨τ, μ, _, hs, hc, h, fun x μ1 v H1 S1 c1 rx hx => hq.nx _ _ _ _ S1 ((hs.kp S1).set rx i) c1 hx⟩
def vPar (i j : Nat) (t : AA) : AS := fun k _ _ _ τ μ => t τ μ fun xs μ1 => match xs with
 | [v, w] => k ((τ.set i (some v)).set j (some w)) μ1
 | _ => False
def vPar3 (i j l : Nat) (t : AA) : AS := fun k _ _ _ τ μ => t τ μ fun xs μ1 => match xs with
 | [u, v, w] => k (((τ.set i (some u)).set j (some v)).set l (some w)) μ1
 | _ => False
theorem vs_par3 {i j l : Nat} {x y z : Str} {t : AA} {px py pz pt : Pos} {kt k2 pt2} (hc : X.calm = true) (hN : X.N.Nodup) (hi : X.N[i]? = some x) (hj : X.N[j]? = some y) (hl : X.N[l]? = some z) (hij : i ≠ j) (hil : i ≠ l) (hjl : j ≠ l)
  (hx : X.env.scope.names.lookup x = some .local) (hy : X.env.scope.names.lookup y = some .local) (hz : X.env.scope.names.lookup z = some .local) (ha : VA X [a, b, c] t)
  (hw : swappedStores [.Tuple [.Name x px, .Name y py, .Name z pz] kt pt] (.Tuple [a, b, c] k2 pt2) X.env = pure (some [x, y, z]))
  (hs : swapsWithSole [.Tuple [.Name x px, .Name y py, .Name z pz] kt pt] (.Tuple [a, b, c] k2 pt2) pos.line X.env = pure false := by rfl) :
  VS X (.Assign [.Tuple [.Name x px, .Name y py, .Name z pz] kt pt] (.Tuple [a, b, c] k2 pt2) pos) (vPar3 i j l t) := (ps_par3 hc hN hi hj hl hij hil hjl hx hy hz ha hw hs).imp fun D σ H zz61 => ex64 zz61 fun τ μ nk nr nb nc hs hc h hq =>
 ⟨τ, μ, _, hs, hc, h, fun xs μ1 vs H1 S1 c1 rs hl hx => by
  split at hx
  ·cases rs with
   | cons r1 r2 =>
    cases r2 with
    | cons r2 r3 =>
     cases r3 with
     | cons r3 r4 =>
      cases r4
      exact ⟨_, _, _, rfl, hq.nx _ _ _ _ S1 ((((hs.kp S1).set r1 i).set r2 j).set r3 l) c1 hx⟩
  ·exact hx.elim⟩
def wl (c : AT) (tb : AS) (k : ASt -> M -> Prop) (r : AV -> M -> Prop) : Nat -> ASt -> M -> Prop
 | 0 => fun _ _ => False
 | n + 1 => fun τ μ => c τ μ fun x μ1 => brP x (tb (wl c tb k r n) r k (wl c tb k r n) τ μ1) (k τ μ1)
def vWhile (c : AT) (tb : AS) : AS := fun k r _ _ τ μ => ∃ n, wl c tb k r n τ μ
theorem vs_while {c : Expr} {body : List Stmt} {tc : AT} {tb : AS} (hp : PassesOwn (model X.prog X.w) X.A X.env X.xe) (hc : VT X c tc) (hb : VSs X body tb) : VS X (.While c body [] pos) (vWhile tc tb) := (ps_while hp hc hb).imp fun D σ H zw => ex64 zw fun τ μ nk nr nb nc hs hc zh hq => by
 obtain ⟨n, h⟩ := zh
 refine ⟨fun m σ1 H1 => ∃ τ1 μ1, Kp H H1 /\ StA X.K H1 τ1 σ1 /\ Cn X.K μ1 H1 /\ wl tc tb nk nr m τ1 μ1, ⟨n, τ, μ, Kp.refl, hs, hc, h⟩, ?_⟩
 rintro m σ1 H1 ⟨τ1, μ1, S1, hs1, hc1, h1⟩
 cases m with
 | zero => exact h1.elim
 | succ m =>
  refine ⟨τ1, μ1, _, hs1, hc1, h1, fun k μ2 H2 S2 c2 hk => ?_⟩
  rcases br_e hk with ⟨rfl, hk'⟩ | ⟨rfl, hk'⟩
  ·rw [if_pos rfl]
   refine ⟨fun σ' H' => ∃ τ' μ', Kp H H' /\ StA X.K H' τ' σ' /\ Cn X.K μ' H' /\ wl tc tb nk nr m τ' μ', fun σ' H' ⟨τ', μ', q⟩ => ⟨m, Nat.lt_succ_self _, τ', μ', q⟩, τ1, μ2, _, _, _, _, hs1.kp S2, c2, hk', ?_⟩
   have S := S1.trans S2
   exact ⟨fun τ' μ' σ' H' S' hs' hc' h' => ⟨τ', μ', S.trans S', hs', hc', h'⟩, hq.rt.kp S, hq.nx.kp S, fun τ' μ' σ' H' S' hs' hc' h' => ⟨τ', μ', S.trans S', hs', hc', h'⟩⟩
  ·rw [if_neg Bool.false_ne_true]
   exact hq.nx _ _ _ _ (S1.trans S2) (hs1.kp S2) c2 hk'
structure ItOk (K : PySem.W.Frag) (H0 : Hp) (J : It) (xs : List AV) (kp : M -> Prop) : Prop where
 go : ∀ i H μ, Kp H0 H -> Cn K μ H -> kp μ -> i < xs.length -> J.go i H
 yld : ∀ i H μ v H' x, Kp H0 H -> Cn K μ H -> kp μ -> xs[i]? = some x -> J.yld i H v H' -> Kp H H' /\ Cn K μ H' /\ RelA K H' x v
 stop : ∀ H μ, Kp H0 H -> Cn K μ H -> kp μ -> J.stop xs.length H
abbrev AI := ASt -> M -> (List AV -> (M -> Prop) -> M -> Prop) -> Prop
def cI (K : PySem.W.Frag) (wi : AI) : TI := fun σ H R => ∃ τ μ R', StA K H τ σ /\ Cn K μ H /\ wi τ μ R' /\ ∀ xs kp μ' J H', Kp H H' -> Cn K μ' H' -> ItOk K H' J xs kp -> R' xs kp μ' -> R J H'
def VI (X : Cx) (tg iter : Expr) (wi : AI) : Prop := PI X tg iter (cI X.K wi)
theorem PI.imp {tg e : Expr} {t u : TI} (h : PI X tg e t) (i : ∀ σ H Q, u σ H Q -> t σ H Q) : PI X tg e u := fun pins s σ H Q I q => h pins s σ H Q I (i σ H Q q)
theorem itOk_list {K : PySem.W.Frag} {H0 : Hp} {a : Addr} {xs : List AV} {kp : M -> Prop} (h : ∀ H μ, Kp H0 H -> Cn K μ H -> kp μ -> ∃ vs, SqL K H a vs /\ RelAs K H xs vs) : ItOk K H0 (Itl K a) xs kp := by
 refine ⟨fun i H μ S c k hi => ?_, fun i H μ v H' x S c k e y => ?_, fun H μ S c k => ?_⟩
 ·obtain ⟨vs, q, r⟩ := h H μ S c k
  exact ⟨vs, vs[i]'(by rw [<- r.length]; exact hi), q, List.getElem?_eq_getElem _⟩
 ·obtain ⟨vs, q, r⟩ := h H μ S c k
  obtain ⟨rfl, y⟩ := y
  obtain ⟨u, eu, ru⟩ := r.get e
  rw [y vs q] at eu
  cases eu
  exact ⟨Kp.refl, c, ru⟩
 ·obtain ⟨vs, q, r⟩ := h H μ S c k
  exact ⟨vs, q, by rw [r.length]; exact Nat.le_refl _⟩
theorem itOk_tup {K : PySem.W.Frag} {H0 : Hp} {a : Addr} {xs : List AV} {kp : M -> Prop} (h : ∀ H μ, Kp H0 H -> Cn K μ H -> kp μ -> ∃ vs, SqT K H a vs /\ RelAs K H xs vs) : ItOk K H0 (Itt K a) xs kp := by
 refine ⟨fun i H μ S c k hi => ?_, fun i H μ v H' x S c k e y => ?_, fun H μ S c k => ?_⟩
 ·obtain ⟨vs, q, r⟩ := h H μ S c k
  exact ⟨vs, vs[i]'(by rw [<- r.length]; exact hi), q, List.getElem?_eq_getElem _⟩
 ·obtain ⟨vs, q, r⟩ := h H μ S c k
  obtain ⟨rfl, y⟩ := y
  obtain ⟨u, eu, ru⟩ := r.get e
  rw [y vs q] at eu
  cases eu
  exact ⟨Kp.refl, c, ru⟩
 ·obtain ⟨vs, q, r⟩ := h H μ S c k
  exact ⟨vs, q, by rw [r.length]; exact Nat.le_refl _⟩
variable {tg : Expr}
def rngA (lo : Int) : Nat -> List AV
 | 0 => []
 | n + 1 => .D (.int lo) :: rngA (lo + 1) n
theorem rngA_length : ∀ (n : Nat) (lo : Int), (rngA lo n).length = n
 | 0, _ => rfl
 | n + 1, lo => by rw [rngA, List.length_cons, rngA_length n]
theorem rngA_get : ∀ (n : Nat) (lo : Int) (i : Nat) {x : AV}, (rngA lo n)[i]? = some x -> x = .D (.int (lo + i))
 | 0, _, _, _, h => by simp [rngA] at h
 | n + 1, lo, 0, _, h => by simp [rngA] at h; rw [<- h]; simp
 | n + 1, lo, i + 1, _, h => by
  rw [rngA, List.getElem?_cons_succ] at h
  rw [rngA_get n (lo + 1) i h]
  congr 2
  omega
theorem itOk_rng {K : PySem.W.Frag} {H0 : Hp} {lo : Int} {n : Nat} : ItOk K H0 (Itr lo n) (rngA lo n) (fun _ => True) := by
 refine ⟨fun i H μ S c k hi => ?_, fun i H μ v H' x S c k e y => ?_, fun H μ S c k => ?_⟩
 ·show i < n
  rw [rngA_length] at hi; exact hi
 ·obtain ⟨rfl, rfl⟩ := y
  rw [rngA_get n lo i e]
  exact ⟨Kp.refl, c, ra_int⟩
 ·show n <= _
  rw [rngA_length]; exact Nat.le_refl _
def jRng1 (t : AA) : AI := fun τ μ R => t τ μ fun xs μ1 => match xs with
 | [.D (.int j)] => -(2 ^ 62) <= j /\ j < 2 ^ 62 /\ R (rngA 0 j.toNat) (fun _ => True) μ1
 | _ => False
theorem vi_range1 {t : AA} {p : Pos} (hg : Gl X "range") (hm : X.mg "range" = none) (ha : VA X [a] t) (hs : starEach [a] X.env = [(false, eval a X.env)] := by rfl) : VI X tg (.Call (.Name "range" p) [a] [] pos) (jRng1 t) :=
 (pi_range1 hg hm ha hs).imp fun σ H Q zz62 => ex34 zz62 fun τ μ R hs hc h hq => ⟨τ, μ, _, hs, hc, h, fun xs μ1 vs H1 S1 c1 rs hl hx => by
  split at hx
  ·cases rs with
   | cons r1 r2 =>
    cases r2
    cases RelA.int r1
    exact ⟨_, rfl, hx.1, hx.2.1, hq _ _ _ _ _ S1 c1 itOk_rng hx.2.2⟩
  ·exact hx.elim⟩
def fl (g : AG) (tb : AS) (k : ASt -> M -> Prop) (r : AV -> M -> Prop) (kp : M -> Prop) : List AV -> ASt -> M -> Prop
 | [] => fun τ μ => kp μ /\ k τ μ
 | x :: xs => fun τ μ => kp μ /\ g x τ μ fun τ2 μ2 => tb (fl g tb k r kp xs) r k (fl g tb k r kp xs) τ2 μ2
def vFor (wi : AI) (g : AG) (tb : AS) : AS := fun k r _ _ τ μ => wi τ μ fun xs kp μ1 => fl g tb k r kp xs τ μ1
theorem fl_kp {g : AG} {tb : AS} {k : ASt -> M -> Prop} {r : AV -> M -> Prop} {kp : M -> Prop} {xs : List AV} {τ : ASt} {μ : M} (h : fl g tb k r kp xs τ μ) : kp μ := by
 cases xs with
 | nil => exact h.1
 | cons x xs => exact h.1
theorem vs_for {iter : Expr} {body : List Stmt} {wi : AI} {g : AG} {tb : AS} (hp : PassesOwn (model X.prog X.w) X.A X.env X.xe) (hcm : X.calm = true) (hi : VI X tg iter wi) (hg : VG X tg g) (hb : VSs X body tb) (hfs : ∀ x, foldedSetIterable iter X.env x = pure x := by intro _; rfl) :
  VS X (.For tg iter body [] pos) (vFor wi g tb) := (ps_for hp hcm hi hg hb hfs).imp fun D σ H zz64 => ex64 zz64 fun τ μ nk nr nb nc hs hc h hq => by
 refine ⟨τ, μ, _, hs, hc, h, fun xs kp μ0 J H0 S0 c0 it h0 => ?_⟩
 refine for_of xs.length (fun i σ1 H1 => ∃ τ1 μ1, Kp H0 H1 /\ StA X.K H1 τ1 σ1 /\ Cn X.K μ1 H1 /\ fl g tb nk nr kp (xs.drop i) τ1 μ1) ⟨τ, μ0, Kp.refl, hs.kp S0, c0, h0⟩ ?_ ?_ ?_
 ·rintro i σ1 H1 hi ⟨τ1, μ1, S1, hs1, hc1, h1⟩
  exact it.go i H1 μ1 S1 hc1 (fl_kp h1) hi
 ·rintro σ1 H1 ⟨τ1, μ1, S1, hs1, hc1, h1⟩
  rw [List.drop_length] at h1
  exact ⟨it.stop H1 μ1 S1 hc1 h1.1, hq.nx _ _ _ _ (S0.trans S1) hs1 hc1 h1.2⟩
 ·rintro i v σ1 H1 H2 hi ⟨τ1, μ1, S1, hs1, hc1, h1⟩ y
  rw [List.drop_eq_getElem_cons hi] at h1
  obtain ⟨hk, h1⟩ := h1
  obtain ⟨S2, c2, rx⟩ := it.yld i H1 μ1 v H2 _ S1 hc1 hk (List.getElem?_eq_getElem hi) y
  refine ⟨_, τ1, μ1, _, rx, hs1.kp S2, c2, h1, fun τ3 μ3 σ3 H3 S3 hs3 hc3 h3 => ⟨τ3, μ3, _, _, _, _, hs3, hc3, h3, ?_⟩⟩
  have S : Kp H0 H3 := S1.trans (S2.trans S3)
  exact ⟨fun τ' μ' σ' H' S' hs' hc' h' => ⟨τ', μ', S.trans S', hs', hc', h'⟩, hq.rt.kp (S0.trans S), hq.nx.kp (S0.trans S), fun τ' μ' σ' H' S' hs' hc' h' => ⟨τ', μ', S.trans S', hs', hc', h'⟩⟩
def VIfs (X : Cx) (ifs : List Expr) (t : AT) : Prop := PIfs X ifs (cT X.K t)
def vYes : AT := fun _ μ R => R true μ
theorem vifs_nil : VIfs X [] vYes := fun pins s σ H Q I zz65 => ex34 zz65 fun τ μ R hs hc h hq => pifs_nil pins s σ H Q I (hq _ _ _ Kp.refl hc h)
theorem vifs_one {t : AT} (h : VT X a t) : VIfs X [a] t := pifs_one h
def cl (p : Addr) (g : AG) (tst : AT) (te : AE) (kp : M -> Prop) (R : M -> Prop) : List AV -> List AV -> ASt -> M -> Prop
 | [] => fun _ _ μ => kp μ /\ R μ
 | x :: xs => fun acc τ μ => kp μ /\ g x τ μ fun τ1 μ1 => tst τ1 μ1 fun k μ2 =>
  brP k (te τ1 μ2 fun v μ3 => μ3 p = some (.lst acc) /\ acc.length < sizeLine /\ cl p g tst te kp R xs (acc ++ [v]) τ1 (updM μ3 p (.lst (acc ++ [v])))) (cl p g tst te kp R xs acc τ1 μ2)
def vComp (mp : List (Option Nat)) (wi : AI) (g : AG) (tst : AT) (te : AE) : AE := fun τ μ R => wi τ μ fun xs kp μ1 => ∀ p, μ1 p = none -> cl p g tst te kp (fun μ2 => R (.R p) μ2) xs [] (subA mp τ) (updM μ1 p (.lst []))
theorem cl_kp {p : Addr} {g : AG} {tst : AT} {te : AE} {kp : M -> Prop} {R : M -> Prop} {xs acc : List AV} {τ : ASt} {μ : M} (h : cl p g tst te kp R xs acc τ μ) : kp μ := by
 cases xs with
 | nil => exact h.1
 | cons x xs => exact h.1
theorem vComp_imp {K : PySem.W.Frag} {mp : List (Option Nat)} {wi : AI} {g : AG} {tst : AT} {te : AE} {σ : St} {H : Hp} {Q : VK} (h : cE K (vComp mp wi g tst te) σ H Q) : tComp mp (cI K wi) (cG K g) (cT K tst) (cE K te) σ H Q := by
 obtain ⟨τ, μ, R, hs, hc, h, hq⟩ := h
 refine ⟨τ, μ, _, hs, hc, h, fun xs kp μ0 J H0 S0 c0 it h0 => ?_⟩
 intro p hp
 have h0 := h0 p (c0.none hp)
 have c0' : Cn K (updM μ0 p (.lst [])) (upd H0 p (.lst [])) := c0.new hp (rm_lst (.nil))
 have S0' : Kp H0 (upd H0 p (.lst [])) := Kp.new hp _
 refine comp_of xs.length (fun i acc σ1 H1 => ∃ τ1 μ1 as, Kp H0 H1 /\ StA K H1 τ1 σ1 /\ Cn K μ1 H1 /\ RelAs K H1 as acc /\ cl p g tst te kp (fun μ2 => R (.R p) μ2) (xs.drop i) as τ1 μ1) ⟨_, _, [], S0', ((hs.kp S0).kp S0').sub mp, c0', .nil, h0⟩ ?_ ?_ ?_
 ·rintro i acc σ1 H1 hi ⟨τ1, μ1, as, S1, hs1, hc1, ra, h1⟩
  exact it.go i H1 μ1 S1 hc1 (cl_kp h1) hi
 ·rintro acc σ1 H1 ⟨τ1, μ1, as, S1, hs1, hc1, ra, h1⟩
  rw [List.drop_length] at h1
  exact ⟨it.stop H1 μ1 S1 hc1 h1.1, hq _ _ _ _ (S0.trans S1) hc1 ra_ref h1.2⟩
 ·rintro i v acc σ1 H1 H2 hi ⟨τ1, μ1, as, S1, hs1, hc1, ra, h1⟩ y
  rw [List.drop_eq_getElem_cons hi] at h1
  obtain ⟨hk, h1⟩ := h1
  obtain ⟨S2, c2, rx⟩ := it.yld i H1 μ1 v H2 _ S1 hc1 hk (List.getElem?_eq_getElem hi) y
  refine ⟨_, τ1, μ1, _, rx, hs1.kp S2, c2, h1, fun τ3 μ3 σ3 H3 S3 hs3 hc3 h3 => ⟨τ3, μ3, _, hs3, hc3, h3, fun k μ4 H4 S4 c4 h4 => ?_⟩⟩
  rcases br_e h4 with ⟨rfl, h4'⟩ | ⟨rfl, h4'⟩
  ·rw [if_pos rfl]
   refine ⟨τ3, μ4, _, hs3.kp S4, c4, h4', fun w μ5 u H5 S5 c5 rw h5 => ?_⟩
   obtain ⟨e5, hl, h5⟩ := h5
   obtain ⟨o, ho, vs, rfl, rs⟩ := c5 _ _ e5
   have S : Kp H1 H5 := S2.trans (S3.trans (S4.trans S5))
   exact ⟨vs, ho, by rw [<- rs.length]; exact hl, τ3, _, _, (S1.trans S).trans (Kp.put ho trivial _), (hs3.kp (S4.trans S5)).kp (Kp.put ho trivial _), c5.put ho trivial (rm_lst (rs.append (.cons rw .nil))), (rs.append (.cons rw .nil)).kp (Kp.put ho trivial _), h5⟩
  ·rw [if_neg Bool.false_ne_true]
   have S : Kp H1 H4 := S2.trans (S3.trans S4)
   exact ⟨τ3, μ4, as, S1.trans S, hs3.kp S4, c4, ra.kp S, h4'⟩
variable {N' : List Str} {mp : List (Option Nat)} {elt iter : Expr} {ifs : List Expr} {scope : Scope} {wi : AI} {g : AG} {tst : AT} {te : AE}
theorem ve_comp (hc : X.calm = true) (hi : VI X tg iter wi) (hg : ∀ C s H fp, VG (cxComp X N' scope C s H fp) tg g) (ht : ∀ C s H fp, VIfs (cxComp X N' scope C s H fp) ifs tst) (he : ∀ C s H fp, VE (cxComp X N' scope C s H fp) elt te)
  (ok : CompOk X.N X.env.scope.names scope.names N' mp) (hk : scope.kind = .function := by rfl) (hs : ∀ x, foldedSetIterable iter X.env x = pure x := by intro _; rfl) :
  VE X (.ListComp elt [⟨tg, iter, ifs, 0⟩] scope pos) (vComp mp wi g tst te) := (pe_comp (g := cG X.K g) (tst := cT X.K tst) (te := cE X.K te) hc hi (fun C s H fp => hg C s H fp) (fun C s H fp => ht C s H fp) (fun C s H fp => he C s H fp) ok hk hs).imp fun _ _ _ h => vComp_imp h
theorem vs_setC {i : Nat} {y : Str} {py spos : Pos} (hc : X.calm = true) (hN : X.N.Nodup) (hi' : X.N[i]? = some y) (hy : X.env.scope.names.lookup y = some .local)
  (hi : VI X tg iter wi) (hg : ∀ C s H fp, VG (cxComp X N' scope C s H fp) tg g) (ht : ∀ C s H fp, VIfs (cxComp X N' scope C s H fp) ifs tst) (he : ∀ C s H fp, VE (cxComp X N' scope C s H fp) elt te)
  (ok : CompOk X.N X.env.scope.names scope.names N' mp) (hsw : swapsWith (.ListComp elt [⟨tg, iter, ifs, 0⟩] scope pos) (some (.Name y py)) spos.line X.env = pure true := by rfl)
  (hk : scope.kind = .function := by rfl) (hs : ∀ x, foldedSetIterable iter X.env x = pure x := by intro _; rfl) :
  VS X (.Assign [.Name y py] (.ListComp elt [⟨tg, iter, ifs, 0⟩] scope pos) spos) (vAsg (vComp mp wi g tst te) (wName i)) := (ps_setC (g := cG X.K g) (tst := cT X.K tst) (te := cE X.K te) hc hN hi' hy hi (fun C s H fp => hg C s H fp) (fun C s H fp => ht C s H fp) (fun C s H fp => he C s H fp) ok hsw hk hs).imp fun D σ H zz66 => ex64 zz66 fun τ μ nk nr nb nc hs hc h hq =>
 vComp_imp (K := X.K) ⟨τ, μ, _, hs, hc, h, fun x μ1 v H1 S1 c1 rx hx => hq.nx _ _ _ _ S1 ((hs.kp S1).set rx i) c1 hx⟩
end
section
variable {P : Program} {w : World} {K : PySem.W.Frag} {mg : Str -> Option Value} {base : Heap}
def aNx (R : AV -> M -> Prop) : ASt -> M -> Prop := fun _ μ' => ∃ ν, Sub ν μ' /\ R (.D .none) ν
def aRt (R : AV -> M -> Prop) : AV -> M -> Prop := fun v μ' => ∃ ν, Sub ν μ' /\ R v ν
def aNo : ASt -> M -> Prop := fun _ _ => False
theorem Fun.vok {x qual : Str} {st : Stmt} {f : Addr} {fd : FuncData} {N ps : List Str} {k : Nat} {sp : ASp} (F : Fun K x qual st f fd) (S : FnScope N ps (defScope st))
  (hbody : ∀ (cdv : Value) (A : Around) (outer : List Env) (s : Shared) (H : Hp) (E : XK), Room k (A.deeper (envOfC qual (defScope st) s.heap.objs.size f cdv)) ->
   ∃ t, VSs (cxOf CX0 P w K mg base N qual (defScope st) f cdv A outer s H E).nox (defBody st) t /\ ∀ xs μ R, xs.length = ps.length -> sp xs μ R -> t (aNx R) (aRt R) aNo aNo (startA N xs) μ) : FnOk P w K mg base CX0 (k + 1) f fd ps (cSp K ps.length sp) := by
 refine F.ok S (fun vs H Q E h => ?_) (fun cdv A outer s H vs Q E hr h => ?_)
 ·obtain ⟨xs, μ, R, hl, rs, _⟩ := h
  rw [<- rs.length]; exact hl
 ·obtain ⟨xs, μ, R, hl, rs, hc, hsp, hq⟩ := h
  obtain ⟨t, ht, h⟩ := hbody cdv A outer s H E hr
  refine ⟨_, ht, startA N xs, μ, _, _, _, _, StA.begin rs, hc, h xs μ R hl hsp, ⟨fun τ μ' σ H' S' _ c zz67 => ex12 zz67 fun ν hν r => ?_, fun v μ' u H' S' c rv zz68 => ex12 zz68 fun ν hν r => ?_, fun _ _ _ _ _ _ _ h => h.elim, fun _ _ _ _ _ _ _ h => h.elim⟩⟩
  ·exact hq _ _ _ _ S' (c.sub hν) ra_non r
  ·exact hq _ _ _ _ S' (c.sub hν) rv r
end
end L2
namespace L2
open PySem PySem.Spec PyProof.Rows
section
variable {X : Cx} {a b c : Expr} {ta tb tc : AE} {pos : Pos} {tg : Expr}
def jSeq (t : AE) : AI := fun τ μ R => t τ μ fun x μ1 => opt (items μ1 x) fun xs => R xs (fun μ => items μ x = some xs) μ1
theorem vi_seq (hl : VE X a ta) : VI X tg a (jSeq ta) := by
 intro pins s σ H R I zz69
 refine ex34 zz69 fun τ μ R' hs hc h hq => ?_
 refine thn (hl pins s σ H (fun v H1 => ∃ x μ1 xs, Kp H H1 /\ Cn X.K μ1 H1 /\ RelA X.K H1 x v /\ items μ1 x = some xs /\ R' xs (fun μ => items μ x = some xs) μ1) I ⟨τ, μ, _, hs, hc, h, fun x μ1 v H1 S1 c1 rx hx => ?_⟩) fun v s1 zz702 => ?_
 ·obtain ⟨xs, e, hx⟩ := opt_e hx
  exact ⟨x, μ1, xs, S1, c1, rx, e, hx⟩
 obtain ⟨xv, H1, I1, r1, x, μ1, xs, S1, c1, rx, e, hx⟩ := zz702
 obtain ⟨p, vs, rfl, hp, rs⟩ := items_kind c1 rx e
 cases r1
 rcases hp with ⟨k, hp⟩ | ⟨k, hp⟩
 ·obtain ⟨its, rv, pl, hz⟩ := I1.list hp
  refine wpAny_pyIter_list pl.isList ?_
  refine ⟨s1.heap.objs.size, [s1.heap.objs.size], _, _, H1, rfl, I1.kept (t' := s1.toks) fun b o e => Heap.get?_push_of_some _ e, turn_list p _, ⟨_, Heap.get?_push_size _ rfl, rfl, rfl⟩, fun b hb => ?_, hq _ _ _ _ _ S1 c1 (itOk_list fun H μ S c k2 => ?_) hx⟩
  ·have e : b = s1.heap.objs.size := by simpa using hb
   subst e
   exact I1.fpOk (Nat.le_refl _) (I1.hok.fresh (Nat.le_refl _))
  ·obtain ⟨q, ws, e, hw, rw⟩ := items_kind c (rx.kp S) k2
   cases e
   rcases hw with ⟨_, hw⟩ | ⟨k3, _⟩
   ·exact ⟨ws, hw, rw⟩
   ·rw [k] at k3; cases k3
 ·obtain ⟨its, rv, pl, hz⟩ := I1.tuple hp
  refine wpAny_pyIter_tuple (show s1.heap.IsTuple p its.toArray from pl) ?_
  refine ⟨s1.heap.objs.size, [s1.heap.objs.size], _, _, H1, rfl, I1.kept (t' := s1.toks) fun b o e => Heap.get?_push_of_some _ e, turn_tuple p _, ⟨_, Heap.get?_push_size _ rfl, rfl, rfl⟩, fun b hb => ?_, hq _ _ _ _ _ S1 c1 (itOk_tup fun H μ S c k2 => ?_) hx⟩
  ·have e : b = s1.heap.objs.size := by simpa using hb
   subst e
   exact I1.fpOk (Nat.le_refl _) (I1.hok.fresh (Nat.le_refl _))
  ·obtain ⟨q, ws, e, hw, rw⟩ := items_kind c (rx.kp S) k2
   cases e
   rcases hw with ⟨k3, _⟩ | ⟨_, hw⟩
   ·rw [k] at k3; cases k3
   ·exact ⟨ws, hw, rw⟩
end
section
variable {c : AT} {g : AG} {tb : AS} {k : ASt -> M -> Prop} {r : AV -> M -> Prop} {bb cc : ASt -> M -> Prop} {tst : AT} {te : AE}
theorem while_i {τ : ASt} {μ : M} (I : Nat -> ASt -> M -> Prop) (m : Nat) (h0 : I m τ μ)
  (step : ∀ m τ μ (W : ASt -> M -> Prop), I m τ μ -> (∀ m' τ' μ', m' < m -> I m' τ' μ' -> W τ' μ') -> c τ μ fun x μ1 => brP x (tb W r k W τ μ1) (k τ μ1)) : ∃ n, wl c tb k r n τ μ := by
 have key : ∀ n m τ μ, m < n -> I m τ μ -> wl c tb k r n τ μ := by
  intro n
  induction n with
  | zero => intro m τ μ h _; omega
  | succ n ih => intro m τ μ h hI; exact step m τ μ (wl c tb k r n) hI fun m' τ' μ' hm hI' => ih m' τ' μ' (by omega) hI'
 exact ⟨m + 1, key (m + 1) m τ μ (Nat.lt_succ_self _) h0⟩
theorem seq_i {t u : AS} {τ : ASt} {μ : M} (J : ASt -> M -> Prop) (h1 : ∀ W : ASt -> M -> Prop, (∀ τ' μ', J τ' μ' -> W τ' μ') -> t W r bb cc τ μ) (h2 : ∀ τ' μ', J τ' μ' -> u k r bb cc τ' μ') : vSeq t u k r bb cc τ μ := h1 (u k r bb cc) h2
theorem seq_d {t u : AS} {τ : ASt} {μ : M} (h : t (u k r bb cc) r bb cc τ μ) : vSeq t u k r bb cc τ μ := h
theorem asg_c {x : AV} {i : Nat} {τ : ASt} {μ : M} (h : k (τ.set i (some x)) μ) : vAsg (vC x) (wName i) k r bb cc τ μ := h
theorem asg_v {t : AE} {i : Nat} {τ : ASt} {μ : M} (h : t τ μ fun x μ1 => k (τ.set i (some x)) μ1) : vAsg t (wName i) k r bb cc τ μ := h
theorem for_i {kp : M -> Prop} {xs : List AV} {τ : ASt} {μ : M} (I : Nat -> ASt -> M -> Prop) (h0 : I 0 τ μ) (hk : ∀ i τ μ, I i τ μ -> kp μ)
  (step : ∀ i x τ μ (W : ASt -> M -> Prop), xs[i]? = some x -> I i τ μ -> (∀ τ' μ', I (i + 1) τ' μ' -> W τ' μ') -> g x τ μ fun τ2 μ2 => tb W r k W τ2 μ2)
  (done : ∀ τ μ, I xs.length τ μ -> k τ μ) : fl g tb k r kp xs τ μ := by
 have key : ∀ n i τ μ, n + i = xs.length -> I i τ μ -> fl g tb k r kp (xs.drop i) τ μ := by
  intro n
  induction n with
  | zero =>
   intro i τ μ h hI
   have e : i = xs.length := by omega
   subst e
   rw [List.drop_length]
   exact ⟨hk _ _ _ hI, done τ μ hI⟩
  | succ n ih =>
   intro i τ μ h hI
   have hi : i < xs.length := by omega
   rw [List.drop_eq_getElem_cons hi]
   exact ⟨hk _ _ _ hI, step i _ τ μ _ (List.getElem?_eq_getElem hi) hI fun τ' μ' q => ih (i + 1) τ' μ' (by omega) q⟩
 exact key xs.length 0 τ μ rfl h0
theorem comp_i {p : Addr} {kp : M -> Prop} {R : M -> Prop} {xs : List AV} {τ : ASt} {μ : M} (I : Nat -> List AV -> ASt -> M -> Prop) (h0 : I 0 [] τ μ) (hk : ∀ i acc τ μ, I i acc τ μ -> kp μ)
  (step : ∀ i x acc τ μ (W : List AV -> ASt -> M -> Prop), xs[i]? = some x -> I i acc τ μ -> (∀ acc' τ' μ', I (i + 1) acc' τ' μ' -> W acc' τ' μ') -> g x τ μ fun τ1 μ1 => tst τ1 μ1 fun k μ2 =>
   brP k (te τ1 μ2 fun v μ3 => μ3 p = some (.lst acc) /\ acc.length < sizeLine /\ W (acc ++ [v]) τ1 (updM μ3 p (.lst (acc ++ [v])))) (W acc τ1 μ2))
  (done : ∀ acc τ μ, I xs.length acc τ μ -> R μ) : cl p g tst te kp R xs [] τ μ := by
 have key : ∀ n i acc τ μ, n + i = xs.length -> I i acc τ μ -> cl p g tst te kp R (xs.drop i) acc τ μ := by
  intro n
  induction n with
  | zero =>
   intro i acc τ μ h hI
   have e : i = xs.length := by omega
   subst e
   rw [List.drop_length]
   exact ⟨hk _ _ _ _ hI, done acc τ μ hI⟩
  | succ n ih =>
   intro i acc τ μ h hI
   have hi : i < xs.length := by omega
   rw [List.drop_eq_getElem_cons hi]
   exact ⟨hk _ _ _ _ hI, step i _ acc τ μ (fun acc' τ' μ' => cl p g tst te kp R (xs.drop (i + 1)) acc' τ' μ') (List.getElem?_eq_getElem hi) hI fun acc' τ' μ' q => ih (i + 1) acc' τ' μ' (by omega) q⟩
 exact key xs.length 0 [] τ μ rfl h0
end
theorem eqOk_str {z : Str} (h : PyData.canLay0 (.str z) = true) : EqOk (.str z) := ⟨h, by simp [PyData.depth]⟩
theorem eqOk_int (i : Int) : EqOk (.int i) := ⟨rfl, by simp [PyData.depth]⟩
theorem eqv_int (i j : Int) : PyData.eqv (.int i) (.int j) = decide (i = j) := by
 rw [PyData.eqv]; exact Bool.eq_iff_iff.mpr (by simp)
theorem ieq {i j : Int} {T F : Prop} (h1 : i = j -> T) (h2 : i ≠ j -> F) : EqOk (.int i) /\ EqOk (.int j) /\ brP (PyData.eqv (.int i) (.int j)) T F := by
 refine ⟨eqOk_int _, eqOk_int _, ?_⟩
 rw [eqv_int]
 exact dif h1 h2
theorem items_R {μ : M} {p : Addr} {xs : List AV} (h : μ p = some (.lst xs)) : items μ (.R p) = some xs := by
 show (match μ p with | some (.lst xs) => some xs | _ => none) = _
 rw [h]
end L2
namespace L2
open PySem PySem.Spec PyProof.Rows
def valA {κ : Type} [DecidableEq κ] (kvs : List (κ × AV)) (k : κ) : Option AV := (kvs.find? fun kv => decide (kv.1 = k)).map (·.2)
def putA {κ : Type} [DecidableEq κ] (kvs : List (κ × AV)) (k : κ) (v : AV) : List (κ × AV) :=
 if (kvs.any fun kv => decide (kv.1 = k)) = true then kvs.map fun kv => if kv.1 = k then (kv.1, v) else kv else kvs ++ [(k, v)]
def keysOf : List PyData -> Option (List Key)
 | [] => some []
 | d :: ds => match keyOf d, keysOf ds with
  | some k, some ks => some (k :: ks)
  | _, _ => none
def dget (m : MO) (d : PyData) : Option (Option AV) := match m with
 | .dk kvs => (keyOf d).map (valA kvs)
 | .dt kvs => match d with
  | .tuple ds => (keysOf ds).map (valA kvs)
  | _ => none
 | .lst _ => none
 | .dd _ => none
def dput (m : MO) (d : PyData) (v : AV) : Option MO := match m with
 | .dk kvs => (keyOf d).map fun k => .dk (putA kvs k v)
 | .dt kvs => match d with
  | .tuple ds => (keysOf ds).map fun k => .dt (putA kvs k v)
  | _ => none
 | .lst _ => none
 | .dd _ => none
def dsize : MO -> Nat
 | .dk kvs => kvs.length
 | .dt kvs => kvs.length
 | .lst xs => xs.length
 | .dd kvs => kvs.length
section
variable {X : Cx} {K : PySem.W.Frag} {H : Hp}
def RelOA (K : PySem.W.Frag) (H : Hp) : Option AV -> Option V -> Prop
 | some x, some v => RelA K H x v
 | none, none => True
 | _, _ => False
theorem RelK.val {κ : Type} [DecidableEq κ] {kvs : List (κ × AV)} {vs : List (κ × V)} (h : RelK K H kvs vs) (k : κ) : RelOA K H (valA kvs k) (valV vs k) := by
 unfold RelK at h
 induction h with
 | nil => exact trivial
 | @cons p q l₁ l₂ r t ih =>
  obtain ⟨p1, p2⟩ := p
  obtain ⟨q1, q2⟩ := q
  obtain ⟨e, r⟩ := r
  dsimp only at e
  subst e
  unfold valA valV at ih ⊢
  by_cases hk : p1 = k
  ·simp only [List.find?_cons, decide_eq_true hk]; exact r
  ·simp only [List.find?_cons, decide_eq_false hk]; exact ih
theorem RelK.put {κ : Type} [DecidableEq κ] {kvs : List (κ × AV)} {vs : List (κ × V)} (h : RelK K H kvs vs) (k : κ) {x : AV} {v : V} (r : RelA K H x v) : RelK K H (putA kvs k x) (putK vs k v) := by
 have hn : (kvs.any fun kv => decide (kv.1 = k)) = (vs.any fun kv => decide (kv.1 = k)) := by
  unfold RelK at h
  induction h with
  | nil => rfl
  | @cons p q l₁ l₂ rr t ih => rw [List.any_cons, List.any_cons, ih, rr.1]
 have hm : RelK K H (kvs.map fun kv => if kv.1 = k then (kv.1, x) else kv) (vs.map fun kv => if kv.1 = k then (kv.1, v) else kv) := by
  clear hn
  unfold RelK at h ⊢
  induction h with
  | nil => exact .nil
  | @cons p q l₁ l₂ rr t ih =>
   refine .cons ?_ ih
   obtain ⟨e, rr⟩ := rr
   dsimp only
   by_cases hk : p.1 = k
   ·rw [if_pos hk, if_pos (e ▸ hk)]; exact ⟨e, r⟩
   ·rw [if_neg hk, if_neg (e ▸ hk)]; exact ⟨e, rr⟩
 have ha : RelK K H (kvs ++ [(k, x)]) (vs ++ [(k, v)]) := by
  clear hn hm
  unfold RelK at h ⊢
  exact Paired.snoc h ⟨rfl, r⟩
 unfold putA putK
 rw [hn]
 split
 ·exact hm
 ·exact ha
theorem keyOf_v {d : PyData} {k : Key} {v : V} (h : Dk K H d v) (e : keyOf d = some k) : v = kV k := by
 unfold keyOf at e
 split at e
 ·cases e; exact h.int
 ·cases e; exact h.str
 ·cases e
theorem keysOf_v : ∀ {ds : List PyData} {ks : List Key} {vs : List V}, DkAll K H ds vs -> keysOf ds = some ks -> vs = ks.map kV
 | [], ks, vs, h, e => by cases e; exact h.nil
 | d :: ds, ks, vs, h, e => by
  obtain ⟨x, r, rfl, h1, h2⟩ := h.cons
  simp only [keysOf] at e
  split at e
  ·rename_i k ks' e1 e2
   cases e
   rw [keyOf_v h1 e1, keysOf_v h2 e2]; rfl
  ·cases e
theorem dget_ok {μ : M} {a : Addr} {m : MO} {d : PyData} {v : V} {o : Option AV} (hc : Cn K μ H) (hm : μ a = some m) (hd : Dk K H d v) (e : dget m d = some o) : ∃ r, DGet H a v r /\ RelOA K H o r := by
 obtain ⟨ob, ho, rm⟩ := hc a m hm
 unfold dget at e
 split at e
 ·obtain ⟨k, ek, rfl⟩ := Option.map_eq_some_iff.mp e
  obtain ⟨vs, rfl, rs⟩ := rm
  rw [keyOf_v hd ek]
  exact ⟨_, DGet.k ho, rs.val k⟩
 ·split at e
  ·obtain ⟨ks, ek, rfl⟩ := Option.map_eq_some_iff.mp e
   obtain ⟨vs, rfl, rs⟩ := rm
   obtain ⟨b, xs, rfl, hb, hx⟩ := hd.tup
   rw [keysOf_v hx ek] at hb
   exact ⟨_, DGet.t ho hb, rs.val ks⟩
  ·cases e
 ·cases e
 ·cases e
theorem dput_ok {μ : M} {a : Addr} {m m' : MO} {d : PyData} {v w : V} {x : AV} (hc : Cn K μ H) (hm : μ a = some m) (hd : Dk K H d v) (hx : RelA K H x w) (e : dput m d x = some m') (hs : dsize m < sizeLine) : ∃ H', DPut H a v w H' /\ Kp H H' /\ Cn K (updM μ a m') H' := by
 obtain ⟨ob, ho, rm⟩ := hc a m hm
 unfold dput at e
 split at e
 ·obtain ⟨k, ek, rfl⟩ := Option.map_eq_some_iff.mp e
  obtain ⟨vs, rfl, rs⟩ := rm
  rw [keyOf_v hd ek]
  exact ⟨_, DPut.k ho (by rw [<- Paired.length rs]; exact hs), Kp.put ho trivial _, hc.put ho trivial ⟨_, rfl, rs.put k hx⟩⟩
 ·split at e
  ·obtain ⟨ks, ek, rfl⟩ := Option.map_eq_some_iff.mp e
   obtain ⟨vs, rfl, rs⟩ := rm
   obtain ⟨b, xs, rfl, hb, hxs⟩ := hd.tup
   rw [keysOf_v hxs ek] at hb
   exact ⟨_, DPut.t ho hb (by rw [<- Paired.length rs]; exact hs), Kp.put ho trivial _, hc.put ho trivial ⟨_, rfl, rs.put ks hx⟩⟩
  ·cases e
 ·cases e
 ·cases e
variable {o i e value : Expr} {pos pos' : Pos} {td ty tv tx : AE}
def vDGet (td ty : AE) : AE := fun τ μ R => td τ μ fun x μ1 => ty τ μ1 fun y μ2 => match x, y with
 | .R a, .D d => opt (μ2 a) fun m => opt (dget m d) fun r => opt r fun v => R v μ2
 | _, _ => False
theorem ve_dget (hu : X.A.units + 1 < cLine) (ho : VE X o td) (hi : VE X i ty) (hs : NoSl i := by intro _ _; rfl) : VE X (.Subscript o i pos) (vDGet td ty) := (pe_dget hu ho hi hs).imp fun σ H Q zz71 => ex34 zz71 fun τ μ R hs hc h hq =>
 ⟨τ, μ, _, hs, hc, h, fun x μ1 v H1 S1 c1 rx hx => ⟨τ, μ1, _, hs.kp S1, c1, hx, fun y μ2 u H2 S2 c2 ry hy => by
  split at hy
  ·obtain ⟨m, em, hy⟩ := opt_e hy
   obtain ⟨r, er, hy⟩ := opt_e hy
   obtain ⟨w, rfl, hy2⟩ := opt_e hy
   obtain ⟨r', g, ro⟩ := dget_ok c2 em ry er
   cases r' with
   | none => exact ro.elim
   | some z => exact ⟨_, z, (rx.kp S2).ref, g, hq _ _ _ _ (S1.trans S2) c2 ro hy2⟩
  ·exact hy.elim⟩⟩
def vDPut (td ty tv : AE) : AS := fun k _ _ _ τ μ => tv τ μ fun v μ1 => td τ μ1 fun x μ2 => ty τ μ2 fun y μ3 => match x, y with
 | .R a, .D d => opt (μ3 a) fun m => opt (dput m d v) fun m' => dsize m < sizeLine /\ k τ (updM μ3 a m')
 | _, _ => False
theorem vs_dput (hu : X.A.units + 1 < cLine) (ho : VE X o td) (hi : VE X i ty) (hv : VE X value tv) (hs : swapsWith value (some (.Subscript o i pos')) pos.line X.env = pure false := by rfl) : VS X (.Assign [.Subscript o i pos'] value pos) (vDPut td ty tv) := (ps_dput hu ho hi hv hs).imp fun D σ H zz72 => ex64 zz72 fun τ μ nk nr nb nc hs hc h hq =>
 ⟨τ, μ, _, hs, hc, h, fun v μ1 vv H1 S1 c1 rv h1 => ⟨τ, μ1, _, hs.kp S1, c1, h1, fun x μ2 xv H2 S2 c2 rx h2 => ⟨τ, μ2, _, hs.kp (S1.trans S2), c2, h2, fun y μ3 yv H3 S3 c3 ry h3 => by
  split at h3
  ·obtain ⟨m, em, h3⟩ := opt_e h3
   obtain ⟨m', em', h3⟩ := opt_e h3
   obtain ⟨H4, g, S4, c4⟩ := dput_ok c3 em ry (rv.kp (S2.trans S3)) em' h3.1
   have S := S1.trans (S2.trans (S3.trans S4))
   exact ⟨_, H4, (rx.kp S3).ref, g, hq.nx _ _ _ _ S (hs.kp S) c4 h3.2⟩
  ·exact h3.elim⟩⟩⟩
theorem rm_dk {kvs : List (Key × AV)} {vs : List (Key × V)} (h : RelK K H kvs vs) : RelM K H (.dk kvs) (.dK vs) := ⟨vs, rfl, h⟩
end
end L2
namespace L2
theorem len_succ {α : Type} {us : List α} {n : Nat} (h : us.length = n + 1) : ∃ a t, us = a :: t /\ t.length = n := match us, h with | a :: t, h => ⟨a, t, rfl, Nat.succ.inj h⟩
theorem len_one {α : Type} {us : List α} (h : us.length = 1) : ∃ a, us = [a] := by
 obtain ⟨a, t, rfl, h2⟩ := len_succ h
 rw [List.eq_nil_of_length_eq_zero h2]; exact ⟨a, rfl⟩
theorem len_two {α : Type} {us : List α} (h : us.length = 2) : ∃ a b, us = [a, b] := by
 obtain ⟨a, t, rfl, h2⟩ := len_succ h
 obtain ⟨b, rfl⟩ := len_one h2
 exact ⟨a, b, rfl⟩
open PySem PySem.Spec PySem.Calls PyProof.Rows
abbrev AX := Addr -> List (Str × PyData) -> M -> Prop
def XFx (K : PySem.W.Frag) (H : Hp) (d : Option Addr) (fs : List (Str × PyData)) : Prop := match d with
 | none => fs = []
 | some d => ∃ kvs, H d = some (XD d kvs) /\ FsOk K H fs kvs
def EK (K : PySem.W.Frag) (EX : AX) : XK := fun c oa H => ∃ a C fs μ d, c = .ref C /\ oa = some a /\ H a = some (XR a C d) /\ XFx K H d fs /\ Cn K μ H /\ EX C fs μ
def XA (X : Cx) (EX : AX) : Prop := XeOk X (EK X.K EX)
section
variable {K : PySem.W.Frag} {H H' : Hp}
theorem Kp.ext {p : Addr} {φ : Heap -> Prop} (h : H p = some (.ext φ)) (o : HO) : Kp H (upd H p o) :=
 ⟨fun b xs e => by rw [upd_ne (ne_of e h (by intro z; cases z))]; exact e, fun b o' u e => by rw [upd_ne (ne_of e h (by intro z; cases z))]; exact e⟩
theorem Cn.ext {μ : M} {p : Addr} {φ : Heap -> Prop} (c : Cn K μ H) (h : H p = some (.ext φ)) (o : HO) : Cn K μ (upd H p o) := fun b m e => by
 obtain ⟨o', q, r⟩ := c b m e
 refine ⟨o', ?_, r.kp (Kp.ext h o)⟩
 rw [upd_ne]
 ·exact q
 ·rintro rfl
  rw [h] at q; cases q
  exact r.mt
theorem Kp.same (k : ∀ b o, H b = some o -> H' b = some o) : Kp H H' := ⟨fun b _ e => k b _ e, fun b _ _ e => k b _ e⟩
theorem Cn.same {μ : M} (c : Cn K μ H) (k : ∀ b o, H b = some o -> H' b = some o) : Cn K μ H' := fun b m e => by
 obtain ⟨o', q, r⟩ := c b m e
 exact ⟨o', k b o' q, r.kp (Kp.same k)⟩
theorem FsOk.zip : ∀ (fns : List Str) {ds : List PyData} {vs : List V}, DkAll K H ds vs -> FsOk K H (fns.zip ds) (fns.zip vs)
 | [], _, _, _ => .nil
 | _ :: _, [], _, h => by rw [h.nil]; exact .nil
 | f :: fns, _ :: ds, _, h => by
  obtain ⟨x, r, rfl, h1, h2⟩ := h.cons
  exact .cons ⟨rfl, h1⟩ (FsOk.zip fns h2)
theorem FsOk.lookup {f : Str} {d : PyData} {fs : List (Str × PyData)} {vs : List (Str × V)} (h : FsOk K H fs vs) (e : fs.lookup f = some d) : ∃ v, vs.lookup f = some v /\ Dk K H d v := by
 unfold FsOk at h
 induction h with
 | nil => cases e
 | @cons p q l1 l2 r t ih =>
  obtain ⟨g, d'⟩ := p
  obtain ⟨g', v'⟩ := q
  obtain ⟨r1, r2⟩ := r
  dsimp only at r1 r2
  subst r1
  rw [List.lookup_cons] at e ⊢
  split at e
  ·cases e
   exact ⟨v', rfl, r2⟩
  ·exact ih e
end
section
variable {X : Cx} {pins : List (Addr × Obj)} {σ : St} {H : Hp} {s : Shared}
theorem Inv.freeze {a C : Addr} {d : Option Addr} {fs : List (Str × PyData)} {μ : M} (I : Inv X pins σ H s) (q : H a = some (XR a C d)) (f : XFx X.K H d fs) (c : Cn X.K μ H) :
  ∃ H', Inv X pins σ H' s /\ RelA X.K H' (.X C fs) (.ref a) /\ Cn X.K μ H' := by
 obtain ⟨vs, hg, h6⟩ := xr_get I.hok q
 have I1 : Inv X pins σ (upd H a (.frz _ (XR a C d))) s := I.retype q ⟨hg, xr_ok hg h6⟩
 have c1 := c.ext q (.frz ⟨.ref C, d, .fields vs, #[]⟩ (XR a C d))
 have S1 := Kp.ext q (.frz ⟨.ref C, d, .fields vs, #[]⟩ (XR a C d))
 cases d with
 | none => exact ⟨_, I1, ⟨a, _, none, rfl, upd_same, f⟩, c1⟩
 | some dx =>
  obtain ⟨kvs, qd, r⟩ := f
  obtain ⟨mA, N, hr, wi⟩ := xd_get I.hok qd
  obtain ⟨od, hod, _⟩ := lookIn_ns N
  have ne : dx ≠ a := by
   rintro rfl
   obtain ⟨o, es, ep, g, hd, _⟩ := N
   rw [hg] at g
   cases g
   cases hd
  have qd' : upd H a (.frz ⟨.ref C, some dx, .fields vs, #[]⟩ (XR a C (some dx))) dx = some (XD dx kvs) := by rw [upd_ne ne]; exact qd
  refine ⟨_, I1.retype (o := .frz od (XD dx kvs)) qd' ⟨hod, xd_ok N hr wi⟩, ⟨a, ⟨.ref C, some dx, .fields vs, #[]⟩, some dx, rfl, ?_, od, kvs, upd_same, (r.kp S1).kp (Kp.ext qd' _)⟩, c1.ext qd' _⟩
  rw [upd_ne (Ne.symm ne)]
  exact upd_same
theorem xinst {a C : Addr} {fs : List (Str × PyData)} (I : Inv X pins σ H s) (r : RelA X.K H (.X C fs) (.ref a)) :
  ∃ ox od, PySem.W.InstAt s.heap a ox C od /\ ∀ f d, fs.lookup f = some d -> ∃ od' u v, od = some od' /\ PySem.W.lookIn f od' = some (some u) /\ RelV v u /\ Dk X.K H d v := by
 obtain ⟨a', o, d, e, q, f⟩ := r
 cases e
 obtain ⟨g1, ⟨vs, hg, h6⟩, _⟩ := (show ObjOk X.prog X.w H s.heap a (.frz o (XR a C d)) from I.hok a _ q)
 cases d with
 | none =>
  refine ⟨_, none, ⟨hg, rfl, rfl, trivial⟩, fun f' d' e => ?_⟩
  rw [show fs = [] from f] at e
  cases e
 | some dx =>
  obtain ⟨od, kvs, qd, rf⟩ := f
  obtain ⟨_, ⟨mA, N, hr, wi⟩, _⟩ := (show ObjOk X.prog X.w H s.heap dx (.frz od (XD dx kvs)) from I.hok dx _ qd)
  obtain ⟨od', ho, hl⟩ := lookIn_ns N
  refine ⟨_, some od', ⟨hg, rfl, rfl, ho⟩, fun f' d' e => ?_⟩
  obtain ⟨v, ev, rv⟩ := rf.lookup e
  obtain ⟨u, hu, ru⟩ := RelO.some_of (v := v) (o := mA f') (by rw [<- ev]; exact hr f')
  exact ⟨od', u, v, rfl, by rw [hl, hu], ru, rv⟩
end
def spI (C : Addr) (fns : List Str) : Sp := fun vs H Q _ => ∃ (e t : Addr) (ys : List V), vs = .ref e :: ys /\ ys.length = fns.length /\ H e = some (XO e C t none) /\
 ∀ H2 t' dx, (∀ b o, b ≠ e -> H b = some o -> H2 b = some o) -> H2 e = some (XO e C t' (some dx)) -> H2 dx = some (XD dx (fns.zip ys)) -> dx ≠ e -> Q .non H2
def XCal (P : Program) (w : World) (K : PySem.W.Frag) (mg : Str -> Option Value) (base : Heap) (k : Nat) (x : Str) (C : Addr) (fns : List Str) : Prop :=
 ∃ f fd ps, FnOk P w K mg base CX0 k f fd ps (spI C fns) /\ Binds K fd ps [] /\ XMk K C f /\ mg x = some (.ref C) /\ PySem.W.mroIn K C (.type "BaseException") = some true
def vRaise (EX : AX) (C : Addr) (fns : List Str) (t : AA) : AS := fun _ _ _ _ τ μ => t τ μ fun xs μ1 => opt (dats xs) fun ds => ds.length = fns.length /\ EX C (fns.zip ds) μ1
section
variable {X : Cx} {x : Str} {p pos pos' : Pos} {e : Expr} {es : List Expr} {t : AA} {k : Nat} {C : Addr} {fns : List Str} {EX : AX}
theorem vs_raise (F : XCal X.prog X.w X.K X.mg X.base k x C fns) (hr : Room (k + 1) X.A) (hc : X.calm = true) (hx : XA X EX) (hg : Gl X x) (ha : VA X (e :: es) t) (hn : (e :: es).length <= 1000 := by decide) (hdb : (x == ("__debug__" : Str)) = false := by decide)
  (hst : starEach (e :: es) X.env = (false, eval e X.env) :: starEach es X.env := by rfl) (hpl : (backTo pos (starEach es X.env)).any (·.1) = false := by rfl) : VS X (.Raise (some (.Call (.Name x p) (e :: es) [] pos)) none pos') (vRaise EX C fns t) := by
 obtain ⟨f, fd, ps, G, gb, mk, gm, mr⟩ := F
 refine PS.imp (ps_raise hc hx (pe_xmake (E := E0) mk G hr hg gm gb pass0 ha hdb hst hpl)) fun D σ H zz75 => ex64 zz75 fun τ μ nk nr nb nc hs hc h hq => ?_
 refine ⟨τ, μ, _, hs, hc, h, fun xs μ1 vs H1 S1 c1 rs hl hx => ⟨by rw [<- rs.length, hl]; exact hn, fun a tp ha => ?_⟩⟩
 obtain ⟨ds, ed, el, hE⟩ := opt_e hx
 have dk := rs.dats ed
 refine ⟨a, tp, vs, rfl, by rw [dk.length]; exact el, upd_same, fun H2 t' dx keep q1 q2 ne => ⟨rfl, a, C, t', some dx, rfl, q1, mk.xc, mr, ?_⟩⟩
 have kk : ∀ b o, H1 b = some o -> upd H2 a (XR a C (some dx)) b = some o := fun b o q => by
  have hb : b ≠ a := by rintro rfl; rw [ha] at q; cases q
  rw [upd_ne hb]
  exact keep b o hb (by rw [upd_ne hb]; exact q)
 exact ⟨a, C, fns.zip ds, μ1, some dx, rfl, rfl, upd_same, ⟨_, by rw [upd_ne ne]; exact q2, (FsOk.zip fns dk).kp (Kp.same kk)⟩, c1.same kk, hE⟩
end
abbrev ASpX := List AV -> M -> (AV -> M -> Prop) -> AX -> Prop
def cSpX (K : PySem.W.Frag) (n : Nat) (sp : ASpX) : Sp := fun vs H Q E => ∃ xs μ R EX, xs.length = n /\ RelAs K H xs vs /\ Cn K μ H /\ sp xs μ R EX /\ LV K H R Q /\ ∀ c a H', EK K EX c a H' -> E c a H'
def VCalX (P : Program) (w : World) (K : PySem.W.Frag) (mg : Str -> Option Value) (base : Heap) (k : Nat) (x : Str) (ps : List Str) (sp : ASpX) : Prop :=
 ∃ g gd, FnOk P w K mg base (CX1 P w) k g gd ps (cSpX K ps.length sp) /\ Binds K gd ps [] /\ PySem.W.keepIn K (.ref g) = true /\ mg x = some (.ref g)
theorem VCalX.mono {P : Program} {w : World} {K : PySem.W.Frag} {mg : Str -> Option Value} {base : Heap} {n m : Nat} {x : Str} {ps : List Str} {sp : ASpX} (c : VCalX P w K mg base n x ps sp) (h : n <= m) : VCalX P w K mg base m x ps sp :=
 let ⟨g, gd, G, r⟩ := c; ⟨g, gd, G.mono h, r⟩
def vCallX (sp : ASpX) (EX : AX) (t : AA) : AE := fun τ μ R => t τ μ fun xs μ1 => sp xs μ1 R EX
section
variable {X : Cx} {x : Str} {p pos : Pos} {e : Expr} {es : List Expr} {t : AA} {k : Nat} {ps : List Str} {sp : ASpX} {EX : AX}
theorem ve_callX (F : VCalX X.prog X.w X.K X.mg X.base k x ps sp) (hr : Room k X.A) (hx : XA X EX) (hg : Gl X x) (ha : VA X (e :: es) t) (hl : (e :: es).length = ps.length := by rfl) (hdb : (x == ("__debug__" : Str)) = false := by decide)
  (hst : starEach (e :: es) X.env = (false, eval e X.env) :: starEach es X.env := by rfl) (hpl : (backTo pos (starEach es X.env)).any (·.1) = false := by rfl) : VE X (.Call (.Name x p) (e :: es) [] pos) (vCallX sp EX t) := by
 obtain ⟨g, gd, G, gb, gk, gm⟩ := F
 refine PE.imp (pe_call (E := EK X.K EX) G hr hg gm gk gb .nil (XeOk.passes hx fun _ _ _ q => q) ha (hdb := hdb) (he := hst) (hpl := hpl)) fun σ H Q zz76 => ex34 zz76 fun τ μ R hs hc h hq => ?_
 exact ⟨τ, μ, _, hs, hc, h, fun xs μ1 vs H1 S1 c1 rs hn hx => ⟨xs, μ1, R, EX, hn.trans hl, by rw [List.append_nil]; exact rs, c1, hx, hq.kp S1, fun _ _ _ q => q⟩⟩
end
def upX (EX : AX) : AX := fun C fs μ => ∃ ν, Sub ν μ /\ EX C fs ν
theorem XA.up {X : Cx} {EX : AX} (h : XA X EX) : XA X (upX EX) := by
 intro pins σ H s a C d vs I q R z
 refine h pins σ H s a C d vs I q R ?_
 obtain ⟨a', C', fs, _, d', e1, e2, e3, e4, e5, ν, hν, e6⟩ := z
 exact ⟨a', C', fs, ν, d', e1, e2, e3, e4, e5.sub hν, e6⟩
section
variable {P : Program} {w : World} {K : PySem.W.Frag} {mg : Str -> Option Value} {base : Heap}
theorem Fun.vokX {x qual : Str} {st : Stmt} {f : Addr} {fd : FuncData} {N ps : List Str} {k : Nat} {sp : ASpX} (F : Fun K x qual st f fd) (S : FnScope N ps (defScope st))
  (hbody : ∀ (cdv : Value) (A : Around) (outer : List Env) (s : Shared) (H : Hp) (E : XK) (EX : AX), Room k (A.deeper (envOfC qual (defScope st) s.heap.objs.size f cdv)) -> XA (cxOf (CX1 P w) P w K mg base N qual (defScope st) f cdv A outer s H E) (upX EX) ->
   ∃ t, VSs (cxOf (CX1 P w) P w K mg base N qual (defScope st) f cdv A outer s H E) (defBody st) t /\ ∀ xs μ R, xs.length = ps.length -> sp xs μ R EX -> t (aNx R) (aRt R) aNo aNo (startA N xs) μ) : FnOk P w K mg base (CX1 P w) (k + 1) f fd ps (cSpX K ps.length sp) := by
 obtain ⟨oc, od, kV, doc, pm, an, cdv, ct, osl, rfl, lk, hcd⟩ := F.ex
 refine fn_of lk hcd S (fun vs H Q E h => ?_) fun A outer s H vs Q E hr h => ?_
 ·obtain ⟨xs, μ, R, EX, hl, rs, _⟩ := h
  rw [<- rs.length]; exact hl
 ·obtain ⟨xs, μ, R, EX, hl, rs, hc, hsp, hq, hE⟩ := h
  have hXA : XA (cxOf (CX1 P w) P w K mg base N qual (defScope st) f cdv A outer s H E) EX := fun pins σ H1 s1 a C d vs I q R h => xeOk_cx pins σ H1 s1 a C d vs I q R (hE _ _ _ h)
  obtain ⟨t, ht, h⟩ := hbody cdv A outer s H E EX hr hXA.up
  refine ⟨_, ht, startA N xs, μ, _, _, _, _, StA.begin rs, hc, h xs μ R hl hsp, ⟨fun τ μ' σ H' S' _ c zz77 => ex12 zz77 fun ν hν r => ?_, fun v μ' u H' S' c rv zz78 => ex12 zz78 fun ν hν r => ?_, fun _ _ _ _ _ _ _ h => h.elim, fun _ _ _ _ _ _ _ h => h.elim⟩⟩
  ·exact hq _ _ _ _ S' (c.sub hν) ra_non r
  ·exact hq _ _ _ _ S' (c.sub hν) rv r
end
def cS0 (K : PySem.W.Frag) (H0 : Hp) (t : AS) : TS := fun D σ H => ∃ τ μ k r b c, StA K H τ σ /\ Cn K μ H /\ t k r b c τ μ /\ LE' K H0 k r b c D
def VS0 (X : Cx) (st : Stmt) (t : AS) : Prop := PS X st (cS0 X.K X.H₀ t)
def VSs0 (X : Cx) (st : List Stmt) (t : AS) : Prop := PSs X st (cS0 X.K X.H₀ t)
section
variable {X : Cx} {pins : List (Addr × Obj)} {σ : St} {H : Hp} {s : Shared} {st : Stmt} {rest : List Stmt} {t s1 s2 : AS}
theorem Inv.kp0 (I : Inv X pins σ H s) : Kp X.H₀ H := ⟨I.base.tups, I.base.frzs⟩
theorem VS.z (h : VS X st t) : VS0 X st t := fun pins s σ H D I zz79 => ex64 zz79 fun τ μ k r b c hs hc h' hq => h pins s σ H D I ⟨τ, μ, k, r, b, c, hs, hc, h', hq.kp I.kp0⟩
theorem vss0_cons (h1 : VS0 X st s1) (h2 : VSs0 X rest s2) : VSs0 X (st :: rest) (vSeq s1 s2) := (pss_cons h1 h2).imp fun D σ H zz81 => ex64 zz81 fun τ μ nk nr nb nc hs hc h hq =>
 ⟨τ, μ, _, _, _, _, hs, hc, h, ⟨fun τ' μ' σ' H' S' hs' hc' h' => ⟨τ', μ', nk, nr, nb, nc, hs', hc', h', hq⟩, hq.rt, hq.bk, hq.ct⟩⟩
theorem vss0_one (h1 : VS0 X st s1) : VSs0 X [st] s1 := pss_one h1
def vTry (K : PySem.W.Frag) (m i : Nat) (Dc : Addr) (tb : AX -> AS) (th : AS) : AS := fun k r b c τ μ =>
 tb (fun C fs μ' => PySem.W.mroIn K C (.ref Dc) = some true /\ th (fun τ1 μ1 => k (τ1.set i none) μ1) r (fun τ1 μ1 => b (τ1.set i none) μ1) (fun τ1 μ1 => c (τ1.set i none) μ1) ((List.replicate m none).set i (some (.X C fs))) μ') k r b c τ μ
theorem StA.blank : ∀ (σ : St), StA X.K H (List.replicate σ.length none) σ
 | [] => .nil
 | _ :: σ => .cons relSl_none (StA.blank σ)
theorem StA.unset2 {K : PySem.W.Frag} : ∀ {τ : ASt} {σ : St} (i : Nat), StA K H τ σ -> StA K H (τ.set i none) (σ.set i none)
 | _, _, _, .nil => .nil
 | _, _, 0, .cons _ t => .cons relSl_none t
 | _, _, i + 1, .cons q t => .cons q (StA.unset2 i t)
theorem vs0_try {body suite : List Stmt} {b₀ : Stmt} {x n : Str} {p p2 pos : Pos} {i : Nat} {Dc : Addr} {tb : AX -> AS} {th : AS} (hb : ∀ xe pn EX, XA (X.taking xe pn) EX -> VSs (X.taking xe pn) body (tb EX)) (hh : ∀ e, VSs (X.suite e) (b₀ :: suite) th)
  (hg : Gl X x) (hm : X.mg x = some (.ref Dc)) (hD : xcIn X.K Dc = true) (hB : PySem.W.mroIn X.K Dc (.type "BaseException") = some true) (hst : X.stack = X.env :: X.outer) (hfr : X.env.frame = some X.env.locals)
  (hN : X.N.Nodup) (hi : X.N[i]? = some n) (hk : X.env.scope.names.lookup n = some .local) (hdb : (x == ("__debug__" : Str)) = false := by decide) :
  VS0 X (.Try body [.ExceptHandler (some (.Name x p)) (some n) (b₀ :: suite) p2] [] [] pos) (vTry X.K X.N.length i Dc tb th) := by
 intro pins s σ H D I zz82
 refine ex64 zz82 fun τ μ nk nr nb nc hs hc h hq => ?_
 refine wpAny_Try_except ?_
 have ok := I.ok
 generalize hxe : (fun (e : Value) (s₁ : Shared) => wpAny (model X.prog X.w) X.A (noteFrame e X.env) (fun _ s₂ => wpAny (model X.prog X.w) X.A (setFlight e none) (fun _ s₃ =>
  wpAny (model X.prog X.w) X.A (handleBy e X.env [.ExceptHandler (some (.Name x p)) (some n) (b₀ :: suite) p2]) (SP X pins D) X.xe s₃) X.xe s₂) X.xe s₁) = xe
 have hXA : XA (X.taking xe (X.pn ++ pins)) (fun C fs μ' => PySem.W.mroIn X.K C (.ref Dc) = some true /\ th (fun τ1 μ1 => nk (τ1.set i none) μ1) nr (fun τ1 μ1 => nb (τ1.set i none) μ1) (fun τ1 μ1 => nc (τ1.set i none) μ1) ((List.replicate X.N.length none).set i (some (.X C fs))) μ') := by
  rintro pins' σ' H' s' a C d vs I1 hx R ⟨a', C', fs, μ', d', ec, ea, _, hf, hc', hmro, hth⟩
  cases ec; cases ea
  show xe (.ref a) s'
  rw [<- hxe]
  have J0 : Inv X pins σ' H' s' := I1.untake ok
  rename_i hx'
  have dd : d' = d := by
   obtain ⟨vs', g1, _⟩ := xr_get J0.hok hx'
   have := R.at_.symm.trans g1
   cases this
   rfl
  subst dd
  refine leave_two (base := X.base) (outer := X.outer) (L := X.env.locals) (by rw [<- hst]; exact ok.frames) (by rw [<- hst]; exact J0.stack) hfr R fun h' L => ?_
  have J := J0.left hx (by rw [hst]; exact L)
  obtain ⟨vs', R', _⟩ := L.rc
  refine wpAny_handleBy_cons (codeAny_handlers_test ?_) (by intro q; cases q)
  refine ld_glob (X := X.suite a) J.suite hg hm ?_ hdb
  refine matches_own (K := X.K) J.kIn hD R'.at_ hB hmro ?_
  refine codeAny_handlers_suite_as ?_
  refine flight_ok R' fun h2 k2 => ?_
  have J2 : Inv X pins σ' H' { s' with heap := h2 } := J.kept (t' := s'.toks) k2
  obtain ⟨H3, J3, rX, c3⟩ := J2.freeze hx hf hc'
  refine store_ok (X := X.suite a) J3.suite hN hi (.inl hk) (v := .ref a) (u := .ref a) rfl (fun s4 J4 => ?_) (.inr hk)
  have hlen : X.N.length = σ'.length := J3.len.symm
  refine wpAny_mono (hh a pins s4 _ H3 { nx := fun σ H => D.nx (σ.set i none) H, rt := D.rt, bk := fun σ H => D.bk (σ.set i none) H, ct := fun σ H => D.ct (σ.set i none) H } J4 ⟨_, _, _, _, _, _, ?_, c3, hth, ?_⟩) (fun fl s5 hfl => ?_) (fun _ _ z => z.elim)
  ·rw [hlen]
   exact (StA.blank (X := X) σ').set rX i
  ·have S := J3.kp0
   exact ⟨fun τ1 μ1 σ1 H1 S1 hs1 hc1 h1 => hq.nx _ _ _ _ (S.trans S1) (hs1.unset2 i) hc1 h1, hq.rt.kp S, fun τ1 μ1 σ1 H1 S1 hs1 hc1 h1 => hq.bk _ _ _ _ (S.trans S1) (hs1.unset2 i) hc1 h1, fun τ1 μ1 σ1 H1 S1 hs1 hc1 h1 => hq.ct _ _ _ _ (S.trans S1) (hs1.unset2 i) hc1 h1⟩
  ·cases fl with
   | next =>
    obtain ⟨σ6, H6, I6, q6⟩ := hfl
    exact gone_ok (I6.unsuite ok) hN hi hk fun s7 I7 => ⟨_, H6, I7, q6⟩
   | brk =>
    obtain ⟨σ6, H6, I6, q6⟩ := hfl
    exact gone_ok (I6.unsuite ok) hN hi hk fun s7 I7 => ⟨_, H6, I7, q6⟩
   | cont =>
    obtain ⟨σ6, H6, I6, q6⟩ := hfl
    exact gone_ok (I6.unsuite ok) hN hi hk fun s7 I7 => ⟨_, H6, I7, q6⟩
   | ret u =>
    obtain ⟨v, σ6, H6, I6, rv, q6⟩ := hfl
    exact gone_ok (I6.unsuite ok) hN hi hk fun s7 I7 => ⟨v, _, H6, I7, rv, q6⟩
 refine wpAny_mono (hb xe (X.pn ++ pins) _ hXA [] s σ H D I.take ⟨τ, μ, _, _, _, _, hs, hc, h, hq.kp I.kp0⟩) (fun fl s1 hf => ?_) (fun e s1 he => ?_)
 ·cases fl with
  | next =>
   obtain ⟨σ', H', I1, q⟩ := hf
   exact wpAny_execs_nil ⟨σ', H', I1.untake ok, q⟩
  | brk =>
   obtain ⟨σ', H', I1, q⟩ := hf
   exact ⟨σ', H', I1.untake ok, q⟩
  | cont =>
   obtain ⟨σ', H', I1, q⟩ := hf
   exact ⟨σ', H', I1.untake ok, q⟩
  | ret u =>
   obtain ⟨v, σ', H', I1, rv, q⟩ := hf
   exact ⟨v, σ', H', I1.untake ok, rv, q⟩
 ·exact he
end
theorem Fun.vok0 {P : Program} {w : World} {K : PySem.W.Frag} {mg : Str -> Option Value} {base : Heap} {x qual : Str} {st : Stmt} {f : Addr} {fd : FuncData} {N ps : List Str} {k : Nat} {sp : ASp} (F : Fun K x qual st f fd) (S : FnScope N ps (defScope st))
  (hbody : ∀ (cdv : Value) (A : Around) (outer : List Env) (s : Shared) (H : Hp) (E : XK), Room k (A.deeper (envOfC qual (defScope st) s.heap.objs.size f cdv)) ->
   ∃ t, VSs0 (cxOf CX0 P w K mg base N qual (defScope st) f cdv A outer s H E).nox (defBody st) t /\ ∀ xs μ R, xs.length = ps.length -> sp xs μ R -> t (aNx R) (aRt R) aNo aNo (startA N xs) μ) : FnOk P w K mg base CX0 (k + 1) f fd ps (cSp K ps.length sp) := by
 refine F.ok S (fun vs H Q E h => ?_) (fun cdv A outer s H vs Q E hr h => ?_)
 ·obtain ⟨xs, μ, R, hl, rs, _⟩ := h
  rw [<- rs.length]; exact hl
 ·obtain ⟨xs, μ, R, hl, rs, hc, hsp, hq⟩ := h
  obtain ⟨t, ht, h⟩ := hbody cdv A outer s H E hr
  refine ⟨_, ht, startA N xs, μ, _, _, _, _, StA.begin rs, hc, h xs μ R hl hsp, ⟨fun τ μ' σ H' S' _ c zz83 => ex12 zz83 fun ν hν r => ?_, fun v μ' u H' S' c rv zz84 => ex12 zz84 fun ν hν r => ?_, fun _ _ _ _ _ _ _ h => h.elim, fun _ _ _ _ _ _ _ h => h.elim⟩⟩
  ·exact hq _ _ _ _ S' (c.sub hν) ra_non r
  ·exact hq _ _ _ _ S' (c.sub hν) rv r
section
variable {X : Cx} {a : Expr} {ta : AE} {pos p p2 : Pos} {x : Str}
def vXIs (K : PySem.W.Frag) (c : Value) (te : AE) : AE := fun τ μ R => te τ μ fun x μ1 => match x with
 | .X C _ => XIs K C /\ opt (PySem.W.kitOne K (.ref C) c) fun b => R (.D (.bool b)) μ1
 | _ => False
theorem vXIs_ok {c : Value} {τ : ASt} {σ : St} {H : Hp} {μ : M} {R : AV -> M -> Prop} {Q : VK} {s : Shared} {pins : List (Addr × Obj)} {W : Value -> Shared -> Prop} (he : VE X a ta) (I : Inv X pins σ H s) (hs : StA X.K H τ σ) (hc : Cn X.K μ H) (h : vXIs X.K c ta τ μ R) (hq : LV X.K H R Q)
  (k : ∀ e C fs H1 s1 b, Inv X pins σ H1 s1 -> RelA X.K H1 (.X C fs) (.ref e) -> XIs X.K C -> PySem.W.kitOne X.K (.ref C) c = some b -> Q (.bl b) H1 -> W (.ref e) s1) : wpAny (model X.prog X.w) X.A (eval a X.env) W X.xe s := by
 refine thn (he pins s σ H (fun v H1 => ∃ C fs μ1 b, Kp H H1 /\ Cn X.K μ1 H1 /\ RelA X.K H1 (.X C fs) v /\ XIs X.K C /\ PySem.W.kitOne X.K (.ref C) c = some b /\ R (.D (.bool b)) μ1) I ⟨τ, μ, _, hs, hc, h, fun x μ1 v H1 S1 c1 rx hx => ?_⟩) fun u s1 zz703 => ?_
 ·split at hx
  ·obtain ⟨xi, hx⟩ := hx
   obtain ⟨b, kb, hx⟩ := opt_e hx
   exact ⟨_, _, μ1, b, S1, c1, rx, xi, kb, hx⟩
  ·exact hx.elim
 ·obtain ⟨v, H1, I1, r1, C, fs, μ1, b, S1, c1, rx, xi, kb, q1⟩ := zz703
  obtain ⟨e, o, d, ev, q⟩ := id rx
  subst ev
  obtain rfl : u = Value.ref e := r1
  exact k e C fs H1 s1 b I1 rx xi kb (hq _ _ _ _ S1 c1 ra_bl q1)
theorem ve_xisi {D : Addr} (hg : Gl X "isinstance") (hm : X.mg "isinstance" = none) (hg2 : Gl X x) (hm2 : X.mg x = some (.ref D)) (he : VE X a ta) (hd2 : (x == ("__debug__" : Str)) = false := by decide)
  (hs : starEach [a, .Name x p2] X.env = (false, eval a X.env) :: starEach [.Name x p2] X.env := by rfl) (hs2 : starEach [.Name x p2] X.env = [(false, eval (.Name x p2) X.env)] := by rfl) (hpl : (backTo pos (starEach [.Name x p2] X.env)).any (·.1) = false := by rfl) :
  VE X (.Call (.Name "isinstance" p) [a, .Name x p2] [] pos) (vXIs X.K (.ref D) ta) := by
 intro pins s σ H Q I zz85
 refine ex34 zz85 fun τ μ R hst hc h hq => ?_
 refine wpAny_Call_Name_kw (ld_blt I hg hm boot_isinstance ?_)
 refine PyProof.Rows.callWith_builtin1 ?_ hs hpl
 rw [hs]
 refine Calls.spliced_cons (vXIs_ok he I hst hc h hq fun e C fs H1 s1 b I1 rx xi kb q => ?_)
 rw [hs2]
 refine Calls.spliced_cons (ld_glob I1 hg2 hm2 (Calls.spliced_nil ?_) hd2)
 obtain ⟨ox, od, J, _⟩ := xinst I1 rx
 exact PySem.W.kia_one (kitx_exc xi) I1.kIn ⟨ox, od, J⟩ kb (fun z => nomatch z) fun tk => ⟨.bl b, H1, I1.tok _, rfl, q⟩
theorem ve_xisiT {T : String} (hg : Gl X "isinstance") (hm : X.mg "isinstance" = none) (hg2 : Gl X x) (hm2 : X.mg x = none) (hv2 : bootBuiltins x = some (.type T)) (he : VE X a ta) (hn2 : x ≠ "__name__" := by decide) (hd2 : (x == ("__debug__" : Str)) = false := by decide)
  (hs : starEach [a, .Name x p2] X.env = (false, eval a X.env) :: starEach [.Name x p2] X.env := by rfl) (hs2 : starEach [.Name x p2] X.env = [(false, eval (.Name x p2) X.env)] := by rfl) (hpl : (backTo pos (starEach [.Name x p2] X.env)).any (·.1) = false := by rfl) :
  VE X (.Call (.Name "isinstance" p) [a, .Name x p2] [] pos) (vXIs X.K (.type T) ta) := by
 intro pins s σ H Q I zz86
 refine ex34 zz86 fun τ μ R hst hc h hq => ?_
 refine wpAny_Call_Name_kw (ld_blt I hg hm boot_isinstance ?_)
 refine PyProof.Rows.callWith_builtin1 ?_ hs hpl
 rw [hs]
 refine Calls.spliced_cons (vXIs_ok he I hst hc h hq fun e C fs H1 s1 b I1 rx xi kb q => ?_)
 rw [hs2]
 refine Calls.spliced_cons (ld_blt I1 hg2 hm2 hv2 (Calls.spliced_nil ?_) hn2 hd2)
 obtain ⟨ox, od, J, _⟩ := xinst I1 rx
 exact PySem.W.kia_one (kitx_exc xi) I1.kIn ⟨ox, od, J⟩ kb (fun z => nomatch z) fun tk => ⟨.bl b, H1, I1.tok _, rfl, q⟩
def tGl (cs : List Addr) : TA := fun _ H Q => Q (cs.map V.ref) H
theorem pa_gl0 : PA X [] (tGl []) := pa_nil
theorem pa_gl {D : Addr} {cs : List Addr} {es : List Expr} (hg : Gl X x) (hm : X.mg x = some (.ref D)) (h : PA X es (tGl cs)) (hd : (x == ("__debug__" : Str)) = false := by decide) (hs : starEach (.Name x p :: es) X.env = (false, eval (.Name x p) X.env) :: starEach es X.env := by rfl) : PA X (.Name x p :: es) (tGl (D :: cs)) :=
 pa_cons (pe_glob (v := .ref D) hg hm rfl hd) h hs
def vXIsT (K : PySem.W.Frag) (cs : List Addr) (te : AE) : AE := fun τ μ R => te τ μ fun x μ1 => match x with
 | .X C _ => XIs K C /\ opt (PySem.W.kitAny K (.ref C) (cs.map Value.ref)) fun b => R (.D (.bool b)) μ1
 | _ => False
theorem vals_refs : ∀ {cs : List Addr} {us : List Value}, Vals (cs.map V.ref) us -> us = cs.map Value.ref
 | [], _, h => by cases h; rfl
 | c :: cs, _, h => by
  rw [List.map_cons] at h
  cases h with
  | cons r t => rw [vals_refs t]; cases r; rfl
theorem ve_xisiTs {es : List Expr} {cs : List Addr} {k : Nat} (hg : Gl X "isinstance") (hm : X.mg "isinstance" = none) (hT : PA X es (tGl cs)) (he : VE X a ta) (hl : cs.length <= sizeLine := by decide)
  (hs : starEach [a, .Tuple es k p2] X.env = (false, eval a X.env) :: starEach [.Tuple es k p2] X.env := by rfl) (hs2 : starEach [.Tuple es k p2] X.env = [(false, eval (.Tuple es k p2) X.env)] := by rfl) (hpl : (backTo pos (starEach [.Tuple es k p2] X.env)).any (·.1) = false := by rfl) :
  VE X (.Call (.Name "isinstance" p) [a, .Tuple es k p2] [] pos) (vXIsT X.K cs ta) := by
 intro pins s σ H Q I zz88
 refine ex34 zz88 fun τ μ R hst hc h hq => ?_
 refine wpAny_Call_Name_kw (ld_blt I hg hm boot_isinstance ?_)
 refine PyProof.Rows.callWith_builtin1 ?_ hs hpl
 rw [hs]
 refine Calls.spliced_cons (thn (he pins s σ H (fun v H1 => ∃ C fs μ1 b, Kp H H1 /\ Cn X.K μ1 H1 /\ RelA X.K H1 (.X C fs) v /\ XIs X.K C /\ PySem.W.kitAny X.K (.ref C) (cs.map Value.ref) = some b /\ R (.D (.bool b)) μ1) I ⟨τ, μ, _, hst, hc, h, fun x μ1 v H1 S1 c1 rx hx => ?_⟩) fun u s1 zz705 => ?_)
 ·split at hx
  ·obtain ⟨xi, hx⟩ := hx
   obtain ⟨b, kb, hx⟩ := opt_e hx
   exact ⟨_, _, μ1, b, S1, c1, rx, xi, kb, hx⟩
  ·exact hx.elim
 obtain ⟨v, H1, I1, r1, C, fs, μ1, b, S1, c1, rx, xi, kb, q1⟩ := zz705
 obtain ⟨e, o, d, ev, q⟩ := id rx
 subst ev
 obtain rfl : u = Value.ref e := r1
 rw [hs2]
 refine Calls.spliced_cons (thn (pe_tup (pos := p2) (x1 := k) hT pins s1 σ H1 (fun v H2 => ∃ p, v = .ref p /\ H1 p = none /\ H2 = upd H1 p (.tup (cs.map V.ref))) I1 ⟨by rw [List.length_map]; exact hl, fun p hp => ⟨p, rfl, hp, rfl⟩⟩) fun u s2 zz546 => Calls.spliced_nil ?_)
 obtain ⟨v, H2, I2, r2, p, ev, hp, eH⟩ := zz546
 subst ev eH
 obtain rfl : u = Value.ref p := r2
 obtain ⟨its, rv, ⟨⟨cl, dd, da, sl⟩, ht, hcl, n, hda⟩, _⟩ := I2.tuple (SqT.of (upd_same (H := H1) (a := p) (o := .tup (cs.map V.ref))))
 dsimp only at hcl hda
 subst hcl hda
 rw [vals_refs rv] at ht
 have S2 : Kp H1 (upd H1 p (.tup (cs.map V.ref))) := Kp.new hp _
 obtain ⟨ox, od, J, _⟩ := xinst I2 (rx.kp S2)
 exact PySem.W.kia_tup (kitx_exc xi) I2.kIn ⟨ox, od, J⟩ ht kb (fun z => nomatch z) fun tk => ⟨.bl b, _, I2.tok _, rfl, hq _ _ _ _ (S1.trans S2) (c1.over hp) ra_bl q1⟩
end
end L2
namespace L2
open PySem PySem.Spec PyProof.Rows
def enumA : Nat -> List PyData -> List AV
 | _, [] => []
 | i, d :: ds => .D (.tuple [.int i, d]) :: enumA (i + 1) ds
theorem enumA_length : ∀ (ds : List PyData) (k : Nat), (enumA k ds).length = ds.length
 | [], _ => rfl
 | _ :: ds, k => by rw [enumA, List.length_cons, enumA_length ds, List.length_cons]
theorem enumA_get : ∀ {ds : List PyData} {k i : Nat} {x : AV}, (enumA k ds)[i]? = some x -> ∃ d, ds[i]? = some d /\ x = .D (.tuple [.int ((k + i : Nat) : Int), d])
 | [], _, _, _, h => by simp [enumA] at h
 | d :: ds, k, 0, _, h => by simp [enumA] at h; exact ⟨d, rfl, by rw [<- h]; simp⟩
 | _ :: ds, k, i + 1, _, h => by
  rw [enumA, List.getElem?_cons_succ] at h
  obtain ⟨d, e, q⟩ := enumA_get h
  refine ⟨d, by simpa using e, ?_⟩
  rw [q]
  have e2 : k + 1 + i = k + (i + 1) := by omega
  rw [e2]
theorem itOk_enumT {K : PySem.W.Frag} {H0 : Hp} {a : Addr} {ys : List AV} {ds : List PyData} {kp : M -> Prop} (hd : dats ys = some ds) (h : ∀ H μ, Kp H0 H -> Cn K μ H -> kp μ -> ∃ vs, SqT K H a vs /\ RelAs K H ys vs) : ItOk K H0 (Ien K a) (enumA 0 ds) kp := by
 have hn : ds.length = ys.length := by rw [dats_eq hd, List.length_map]
 refine ⟨fun i H μ S c k hi => ?_, fun i H μ v H' x S c k e y => ?_, fun H μ S c k => ?_⟩
 ·obtain ⟨vs, q, r⟩ := h H μ S c k
  rw [enumA_length, hn] at hi
  exact ⟨vs, vs[i]'(by rw [<- r.length]; exact hi), q, List.getElem?_eq_getElem _⟩
 ·obtain ⟨vs, q, r⟩ := h H μ S c k
  obtain ⟨T, z, hT, rfl, rfl, y⟩ := y
  obtain ⟨d, e1, rfl⟩ := enumA_get e
  obtain ⟨u, eu, ru⟩ := (r.dats hd).get e1
  rw [y vs q] at eu
  cases eu
  refine ⟨Kp.new hT _, c.over hT, ra_tup upd_same ?_⟩
  rw [Nat.zero_add]
  exact dks_cons dk_int (dks_cons (Dk.kp (Kp.new hT _) _ _ ru) dks_nil)
 ·obtain ⟨vs, q, r⟩ := h H μ S c k
  exact ⟨vs, q, by rw [enumA_length, hn, r.length]⟩
theorem itOk_enumL {K : PySem.W.Frag} {H0 : Hp} {a : Addr} {ys : List AV} {ds : List PyData} {kp : M -> Prop} (hd : dats ys = some ds) (h : ∀ H μ, Kp H0 H -> Cn K μ H -> kp μ -> ∃ vs, SqL K H a vs /\ RelAs K H ys vs) : ItOk K H0 (Iel K a) (enumA 0 ds) kp := by
 have hn : ds.length = ys.length := by rw [dats_eq hd, List.length_map]
 refine ⟨fun i H μ S c k hi => ?_, fun i H μ v H' x S c k e y => ?_, fun H μ S c k => ?_⟩
 ·obtain ⟨vs, q, r⟩ := h H μ S c k
  rw [enumA_length, hn] at hi
  exact ⟨vs, vs[i]'(by rw [<- r.length]; exact hi), q, List.getElem?_eq_getElem _⟩
 ·obtain ⟨vs, q, r⟩ := h H μ S c k
  obtain ⟨T, z, hT, rfl, rfl, y⟩ := y
  obtain ⟨d, e1, rfl⟩ := enumA_get e
  obtain ⟨u, eu, ru⟩ := (r.dats hd).get e1
  rw [y vs q] at eu
  cases eu
  refine ⟨Kp.new hT _, c.over hT, ra_tup upd_same ?_⟩
  rw [Nat.zero_add]
  exact dks_cons dk_int (dks_cons (Dk.kp (Kp.new hT _) _ _ ru) dks_nil)
 ·obtain ⟨vs, q, r⟩ := h H μ S c k
  exact ⟨vs, q, by rw [enumA_length, hn, r.length]⟩
def jEnum (t : AE) : AI := fun τ μ R => t τ μ fun x μ1 => opt (items μ1 x) fun ys => opt (dats ys) fun ds => R (enumA 0 ds) (fun μ => items μ x = some ys) μ1
section
variable {X : Cx} {a : Expr} {ta : AE} {pos p : Pos}
theorem vi_enum {elts : List Expr} {k : Nat} {tpos : Pos} (hg : Gl X "enumerate") (hm : X.mg "enumerate" = none) (hl : VE X a ta) (hs : starEach [a] X.env = [(false, eval a X.env)] := by rfl) : VI X (.Tuple elts k tpos) (.Call (.Name "enumerate" p) [a] [] pos) (jEnum ta) := by
 intro pins s σ H R I zz91
 refine ex34 zz91 fun τ μ R' hst hc h hq => ?_
 refine wpAny_Call_Name_kw (ld_blt I hg hm boot_enumerate ?_)
 refine PyProof.Rows.callWith_type1 ?_ hs rfl
 rw [hs]
 refine Calls.spliced_cons (thn (hl pins s σ H (fun v H1 => ∃ x μ1 ys ds, Kp H H1 /\ Cn X.K μ1 H1 /\ RelA X.K H1 x v /\ items μ1 x = some ys /\ dats ys = some ds /\ R' (enumA 0 ds) (fun μ => items μ x = some ys) μ1) I ⟨τ, μ, _, hst, hc, h, fun x μ1 v H1 S1 c1 rx hx => ?_⟩) fun u s1 zz706 => Calls.spliced_nil ?_)
 ·obtain ⟨ys, e, hx⟩ := opt_e hx
  obtain ⟨ds, ed, hx⟩ := opt_e hx
  exact ⟨x, μ1, ys, ds, S1, c1, rx, e, ed, hx⟩
 obtain ⟨xv, H1, I1, r1, x, μ1, ys, ds, S1, c1, rx, e, ed, hx⟩ := zz706
 obtain ⟨p, vs, rfl, hp, rs⟩ := items_kind c1 rx e
 cases r1
 have fin : ∀ b ∈ [s1.heap.objs.size + 1, s1.heap.objs.size], FpOk X pins H1 b := fun b hb => by
  have hb' : s1.heap.objs.size <= b := by
   rcases List.mem_cons.mp hb with rfl | hb
   ·exact Nat.le_succ _
   ·have e : b = s1.heap.objs.size := by simpa using hb
    exact Nat.le_of_eq e.symm
  exact I1.fpOk hb' (I1.hok.fresh hb')
 rcases hp with ⟨k, hp⟩ | ⟨k, hp⟩
 ·obtain ⟨its, rv, pl, hz⟩ := I1.list hp
  refine call_enumerate_list pl.isList fun h' he hit hsz kk => ?_
  refine wpAny_pyIter_enum he ?_
  refine ⟨s1.heap.objs.size + 1, [s1.heap.objs.size + 1, s1.heap.objs.size], _, _, H1, rfl, I1.kept (t' := s1.toks) kk, turn_enumL p _ _ (Nat.succ_ne_self _), ⟨⟨_, he⟩, hit⟩, fin, hq _ _ _ _ _ S1 c1 (itOk_enumL ed fun H μ S c k2 => ?_) hx⟩
  obtain ⟨q, ws, e, hw, rw⟩ := items_kind c (rx.kp S) k2
  cases e
  rcases hw with ⟨_, hw⟩ | ⟨k3, _⟩
  ·exact ⟨ws, hw, rw⟩
  ·rw [k] at k3; cases k3
 ·obtain ⟨its, rv, pl, hz⟩ := I1.tuple hp
  refine L2_call_enum_tuple pl fun h' he hit hsz kk => ?_
  refine wpAny_pyIter_enum he ?_
  refine ⟨s1.heap.objs.size + 1, [s1.heap.objs.size + 1, s1.heap.objs.size], _, _, H1, rfl, I1.kept (t' := s1.toks) kk, turn_enum p _ _ (Nat.succ_ne_self _), ⟨⟨_, he⟩, hit⟩, fin, hq _ _ _ _ _ S1 c1 (itOk_enumT ed fun H μ S c k2 => ?_) hx⟩
  obtain ⟨q, ws, e, hw, rw⟩ := items_kind c (rx.kp S) k2
  cases e
  rcases hw with ⟨k3, _⟩ | ⟨_, hw⟩
  ·rw [k] at k3; cases k3
  ·exact ⟨ws, hw, rw⟩
end
theorem putK_fresh {kvs : List (Key × V)} {k : Key} {v : V} (h : k ∉ kvs.map (·.1)) : putK kvs k v = kvs ++ [(k, v)] := by
 unfold putK
 rw [if_neg]
 intro q
 rw [List.any_eq_true] at q
 obtain ⟨x, hx, e⟩ := q
 exact h (List.mem_map.mpr ⟨x, hx, of_decide_eq_true e⟩)
theorem mergeK_nodup : ∀ (more kvs : List (Key × V)), ((kvs ++ more).map (·.1)).Nodup -> mergeK kvs more = kvs ++ more
 | [], kvs, _ => by rw [List.append_nil]; rfl
 | (k, v) :: more, kvs, h => by
  show mergeK (putK kvs k v) more = _
  have hk : k ∉ kvs.map (·.1) := fun z => by
   rw [List.map_append, List.nodup_append] at h
   exact h.2.2 k z k (by simp) rfl
  rw [putK_fresh hk, mergeK_nodup more, List.append_assoc]
  ·rfl
  ·rw [List.append_assoc]; exact h
def vPs : List AE -> ASt -> M -> (List AV -> M -> Prop) -> Prop
 | [], _, μ, R => R [] μ
 | t :: ts, τ, μ, R => t τ μ fun x μ1 => vPs ts τ μ1 fun xs μ2 => R (x :: xs) μ2
def trsOf (K : PySem.W.Frag) (ks : List Key) (ts : List AE) : List (TE × TE) := (ks.zip ts).map fun p => (tC (kV p.1), cE K p.2)
theorem pairs_ok {K : PySem.W.Frag} : ∀ {ks : List Key} {ts : List AE} {τ : ASt} {μ : M} {R : List AV -> M -> Prop} {σ : St} {H : Hp} {Q : List (V × V) -> Hp -> Prop}, ks.length = ts.length -> StA K H τ σ -> Cn K μ H -> vPs ts τ μ R ->
  (∀ xs μ' vs H', Kp H H' -> Cn K μ' H' -> RelAs K H' xs vs -> xs.length = ts.length -> R xs μ' -> Q ((ks.zip vs).map fun kv => (kV kv.1, kv.2)) H') -> tPairs (trsOf K ks ts) σ H Q
 | [], [], τ, μ, R, σ, H, Q, _, hs, hc, h, q => q [] μ [] H Kp.refl hc .nil rfl h
 | k :: ks, t :: ts, τ, μ, R, σ, H, Q, hl, hs, hc, h, q =>
  ⟨τ, μ, _, hs, hc, h, fun x μ1 v H1 S1 c1 rx hx => pairs_ok (ks := ks) (ts := ts) (by simpa using hl) (hs.kp S1) c1 hx fun xs μ2 vs H2 S2 c2 rs hn hr => q (x :: xs) μ2 (v :: vs) H2 (S1.trans S2) c2 (.cons (rx.kp S2) rs) (by simp [hn]) hr⟩
def VPs (X : Cx) (pos : Pos) (keys : List (Option Expr)) (values : List Expr) (ks : List Key) (ts : List AE) : Prop := PPs X pos keys values (trsOf X.K ks ts)
def vDisp (ks : List Key) (ts : List AE) : AE := fun τ μ R => ∀ p, μ p = none -> vPs ts τ (updM μ p (.dk [])) fun xs μ1 => μ1 p = some (.dk []) /\ R (.R p) (updM μ1 p (.dk (ks.zip xs)))
section
variable {X : Cx} {pos : Pos} {keys : List (Option Expr)} {values : List Expr} {ks : List Key} {ts : List AE}
theorem vps_nil : VPs X pos [] [] [] [] := pps_nil
theorem vps_str {z : Str} {j} {p : Pos} {v : Expr} {t : AE} (hv : VE X v t) (hr : VPs X pos keys values ks ts) : VPs X pos (some (.Constant (.str z) j p) :: keys) (v :: values) (.inr z :: ks) (t :: ts) := pps_cons (tk := tC (kV (.inr z))) pe_str hv hr
theorem RelAs.zipK {K : PySem.W.Frag} {H : Hp} : ∀ (ks : List Key) {xs : List AV} {vs : List V}, RelAs K H xs vs -> RelK K H (ks.zip xs) (ks.zip vs)
 | [], _, _, _ => .nil
 | _ :: _, _, _, .nil => .nil
 | _ :: ks, _, _, .cons r t => .cons ⟨rfl, r⟩ (RelAs.zipK ks t)
theorem ve_disp (h : VPs X pos keys values ks ts) (hk : ks.Nodup) (hkl : ks.length = ts.length := by rfl) (h15' : ks.length <= 15 := by decide) (hall : keys.all (·.isSome) = true := by rfl) (hl : keys.length = values.length := by rfl) (h0 : keys ≠ [] := by intro z; cases z) (h15 : keys.length <= 15 := by decide) : VE X (.Dict keys values pos) (vDisp ks ts) :=
 (pe_disp h hall hl h0 h15).imp fun σ H Q zz92 => ex34 zz92 fun τ μ R hs hc h hq => by
  intro p hp
  refine pairs_ok hkl (hs.kp (Kp.new hp _)) (hc.new hp (rm_dk .nil)) (h p (hc.none hp)) fun xs μ1 vs H1 S1 c1 rs hn hx => ?_
  obtain ⟨o, ho, ws, rfl, rk⟩ := c1 _ _ hx.1
  cases rk
  have hn2 : ks.length = vs.length := by rw [<- rs.length, hn]; exact hkl
  refine ⟨ho, ks.zip vs, rfl, by rw [List.length_zip]; omega, ?_⟩
  rw [mergeK_nodup _ _ (by rw [List.nil_append, List.map_fst_zip (by omega)]; exact hk), List.nil_append]
  exact hq _ _ _ _ ((Kp.new hp _).trans (S1.trans (Kp.put ho trivial _))) (c1.put ho trivial (rm_dk (rs.zipK ks))) ra_ref hx.2
end
theorem valA_hd {κ : Type} [DecidableEq κ] {k : κ} {v : AV} {r : List (κ × AV)} : valA ((k, v) :: r) k = some v := by
 unfold valA
 simp only [List.find?_cons, decide_eq_true (rfl : k = k)]; rfl
theorem valA_tl {κ : Type} [DecidableEq κ] {k k' : κ} {v : AV} {r : List (κ × AV)} (h : k' ≠ k) : valA ((k', v) :: r) k = valA r k := by
 unfold valA
 simp only [List.find?_cons, decide_eq_false h]
theorem bools_of {α : Type} (g : α -> Bool) (xs : List α) : bools (xs.map fun x => .D (.bool (g x))) = some (xs.map g) := by
 rw [show (xs.map fun x => AV.D (.bool (g x))) = (xs.map g).map fun b => .D (.bool b) by rw [List.map_map]; rfl]
 exact bools_map _
theorem updM_self {μ : M} {p : Addr} {m : MO} (h : μ p = some m) : updM μ p m = μ := by
 funext b
 unfold updM
 split
 ·rename_i e; rw [e, h]
 ·rfl
theorem cmapf {α : Type} {p : Addr} {g : AG} {tst : AT} {te : AE} {kp : M -> Prop} {R : M -> Prop} {τ : ASt} {μ : M} (as : List α) (g0 : α -> AV) (b : α -> Bool) (f : α -> AV) (Sh : ASt -> Prop) (h0 : Sh τ) (hp : μ p = some (.lst [])) (hn : as.length <= sizeLine) (hk : ∀ acc, kp (updM μ p (.lst acc)))
  (step : ∀ (i : Nat) (x : α) (τ' : ASt) (acc : List AV) (W : ASt -> AV -> M -> Prop) (W2 : ASt -> M -> Prop), as[i]? = some x -> Sh τ' -> (b x = true -> ∀ τ1, Sh τ1 -> W τ1 (f x) (updM μ p (.lst acc))) -> (b x = false -> ∀ τ1, Sh τ1 -> W2 τ1 (updM μ p (.lst acc))) ->
   g (g0 x) τ' (updM μ p (.lst acc)) fun τ1 μ1 => tst τ1 μ1 fun k μ2 => brP k (te τ1 μ2 (W τ1)) (W2 τ1 μ2))
  (done : R (updM μ p (.lst ((as.filter b).map f)))) : cl p g tst te kp R (as.map g0) [] τ μ := by
 refine comp_i (fun i acc τ' μ' => Sh τ' /\ acc = ((as.take i).filter b).map f /\ μ' = updM μ p (.lst acc)) ⟨h0, by simp, (updM_self hp).symm⟩ (fun i acc τ μ' ⟨_, _, e⟩ => by rw [e]; exact hk _) ?_ ?_
 ·rintro i y acc τ' μ' W hy ⟨sh, rfl, rfl⟩ hW
  rw [List.getElem?_map] at hy
  obtain ⟨x, hx, rfl⟩ := Option.map_eq_some_iff.mp hy
  have hi : i < as.length := (List.getElem?_eq_some_iff.mp hx).1
  have ht : as.take (i + 1) = as.take i ++ [x] := by rw [List.take_succ, hx]; rfl
  refine step i x τ' _ (fun τ1 v μ3 => μ3 p = some (.lst (((as.take i).filter b).map f)) /\ (((as.take i).filter b).map f).length < sizeLine /\ W ((((as.take i).filter b).map f) ++ [v]) τ1 (updM μ3 p (.lst ((((as.take i).filter b).map f) ++ [v])))) (fun τ1 μ2 => W (((as.take i).filter b).map f) τ1 μ2) hx sh (fun hb τ1 s1 => ⟨updM_same, ?_, hW _ _ _ ⟨s1, ?_, updM_updM⟩⟩) (fun hb τ1 s1 => hW _ _ _ ⟨s1, ?_, rfl⟩)
  ·rw [List.length_map]
   have h1 := List.length_filter_le b (as.take i)
   rw [List.length_take] at h1
   omega
  ·rw [ht, List.filter_append, List.map_append, List.filter_cons, if_pos hb]; rfl
  ·rw [ht, List.filter_append, List.map_append, List.filter_cons, if_neg (by rw [hb]; exact Bool.false_ne_true)]; simp
 ·rintro acc τ' μ' ⟨_, rfl, rfl⟩
  rw [List.length_map, List.take_length]
  exact done
theorem cmap {α : Type} {p : Addr} {g : AG} {te : AE} {kp : M -> Prop} {R : M -> Prop} {τ : ASt} {μ : M} (as : List α) (g0 f : α -> AV) (Sh : ASt -> Prop) (h0 : Sh τ) (hp : μ p = some (.lst [])) (hn : as.length <= sizeLine) (hk : ∀ acc, kp (updM μ p (.lst acc)))
  (step : ∀ (i : Nat) (x : α) (τ' : ASt) (acc : List AV) (W : ASt -> AV -> M -> Prop), as[i]? = some x -> Sh τ' -> (∀ τ1, Sh τ1 -> W τ1 (f x) (updM μ p (.lst acc))) -> g (g0 x) τ' (updM μ p (.lst acc)) fun τ1 μ1 => te τ1 μ1 (W τ1))
  (done : R (updM μ p (.lst (as.map f)))) : cl p g vYes te kp R (as.map g0) [] τ μ := by
 refine cmapf as g0 (fun _ => true) f Sh h0 hp hn hk (fun i x τ' acc W W2 hx sh h1 _ => ?_) (by rw [List.filter_eq_self.mpr (fun _ _ => rfl)]; exact done)
 have := step i x τ' acc W hx sh (h1 rfl)
 simp only [vYes, brP_true]
 exact this
theorem all_i {α : Type} {g : α -> Bool} {as : List α} {μ : M} {p : Addr} {R : AV -> M -> Prop} (h : μ p = some (.lst (as.map fun x => .D (.bool (g x))))) (q : R (.D (.bool (as.all g))) μ) : aAll [.R p] μ R := by
 refine opt_i h (opt_i (bools_of g as) ?_)
 rw [List.all_map]
 exact q
theorem kits_tuple {K : PySem.W.Frag} : Kits K "tuple" := by
 intro S hS
 simp only [List.mem_cons, List.not_mem_nil, or_false] at hS
 rcases hS with rfl | rfl | rfl | rfl | rfl | rfl | rfl <;> rfl
theorem kits_bool {K : PySem.W.Frag} : Kits K "bool" := by
 intro S hS
 simp only [List.mem_cons, List.not_mem_nil, or_false] at hS
 rcases hS with rfl | rfl | rfl | rfl | rfl | rfl | rfl <;> rfl
def xisIn (K : PySem.W.Frag) (C : Addr) : Bool :=
 PySem.W.findIn K (.ref C) "__getattribute__" == some (some (.builtin "BaseException.__getattribute__")) && PySem.W.findIn K (.ref C) "__getattr__" == some none && PySem.W.findIn K (.ref C) "__setattr__" == some (some (.builtin "object.__setattr__")) && PySem.W.hasDictIn K C &&
 PySem.W.mroIn K C (.type "BaseException") == some true && PySem.W.mroIn K C (.type "object") == some true && veOver K C && PySem.W.findIn K (.ref C) "__class__" == some (some (.builtin "object.__class__")) &&
 PySem.W.specialIn K (.builtin "object.__class__") "__get__" == some (some (.builtin "getset_descriptor.__get__")) && PySem.W.takesIn K (.builtin "object.__class__") == some true && xcIn K C && PySem.W.keepIn K (.ref C)
theorem xis_of {K : PySem.W.Frag} {C : Addr} (h : xisIn K C = true) : XIs K C /\ xcIn K C = true /\ PySem.W.keepIn K (.ref C) = true := by
 unfold xisIn at h
 simp only [Bool.and_eq_true, beq_iff_eq] at h
 obtain ⟨⟨⟨⟨⟨⟨⟨⟨⟨⟨⟨h1, h2⟩, h3⟩, h4⟩, h5⟩, h6⟩, h7⟩, h8⟩, h9⟩, h10⟩, h11⟩, h12⟩ := h
 exact ⟨⟨⟨h1, h2, h3, h4, h5, h6, h7⟩, h8, h9, h10⟩, h11, h12⟩
def errIn (K : PySem.W.Frag) (C D : Addr) (cs : List Addr) : Bool :=
 xisIn K C && PySem.W.mroIn K C (.ref D) == some true && PySem.W.kitOne K (.ref C) (.ref D) == some true && PySem.W.kitOne K (.ref C) (.type "ValueError") == some true && PySem.W.kitAny K (.ref C) (cs.map Value.ref) == some false && xcIn K D && PySem.W.mroIn K D (.type "BaseException") == some true && PySem.W.mroIn K C (.ref C) == some true
structure Err (K : PySem.W.Frag) (C D : Addr) (cs : List Addr) : Prop where
 xi : XIs K C
 xc : xcIn K C = true
 kp : PySem.W.keepIn K (.ref C) = true
 un : PySem.W.mroIn K C (.ref D) = some true
 iD : PySem.W.kitOne K (.ref C) (.ref D) = some true
 iV : PySem.W.kitOne K (.ref C) (.type "ValueError") = some true
 no : PySem.W.kitAny K (.ref C) (cs.map Value.ref) = some false
 xD : xcIn K D = true
 mD : PySem.W.mroIn K D (.type "BaseException") = some true
 me : PySem.W.mroIn K C (.ref C) = some true
theorem err_of {K : PySem.W.Frag} {C D : Addr} {cs : List Addr} (h : errIn K C D cs = true) : Err K C D cs := by
 unfold errIn at h
 simp only [Bool.and_eq_true, beq_iff_eq] at h
 obtain ⟨⟨⟨⟨⟨⟨⟨h1, h2⟩, h3⟩, h4⟩, h5⟩, h6⟩, h7⟩, h8⟩ := h
 obtain ⟨a, b, c⟩ := xis_of h1
 exact ⟨a, b, c, h2, h3, h4, h5, h6, h7, h8⟩
theorem Err.self {K : PySem.W.Frag} {C D : Addr} {cs : List Addr} (_ : Err K C D cs) : PySem.W.kitOne K (.ref C) (.ref C) = some true := by
 unfold PySem.W.kitOne
 rw [if_pos (beq_iff_eq.mpr rfl)]
def cdef : Stmt -> Stmt
 | .ClassDef _ _ _ (b :: _) _ _ _ _ _ _ _ => b
 | s => s
section
variable {X : Cx} {K : PySem.W.Frag} {a : Expr} {ta : AE} {pos p p2 : Pos} {x : Str}
theorem ve_kisi {D : Addr} (hK : X.K = K) (hg : Gl X "isinstance") (hm : X.mg "isinstance" = none) (hg2 : Gl X x) (hm2 : X.mg x = some (.ref D)) (he : VE X a ta) (hd2 : (x == ("__debug__" : Str)) = false := by decide)
  (hs : starEach [a, .Name x p2] X.env = (false, eval a X.env) :: starEach [.Name x p2] X.env := by rfl) (hs2 : starEach [.Name x p2] X.env = [(false, eval (.Name x p2) X.env)] := by rfl) (hpl : (backTo pos (starEach [.Name x p2] X.env)).any (·.1) = false := by rfl) :
  VE X (.Call (.Name "isinstance" p) [a, .Name x p2] [] pos) (vXIs K (.ref D) ta) := by subst hK; exact ve_xisi hg hm hg2 hm2 he hd2 hs hs2 hpl
theorem ve_kisiT {T : String} (hK : X.K = K) (hg : Gl X "isinstance") (hm : X.mg "isinstance" = none) (hg2 : Gl X x) (hm2 : X.mg x = none) (hv2 : bootBuiltins x = some (.type T)) (he : VE X a ta) (hn2 : x ≠ "__name__" := by decide) (hd2 : (x == ("__debug__" : Str)) = false := by decide)
  (hs : starEach [a, .Name x p2] X.env = (false, eval a X.env) :: starEach [.Name x p2] X.env := by rfl) (hs2 : starEach [.Name x p2] X.env = [(false, eval (.Name x p2) X.env)] := by rfl) (hpl : (backTo pos (starEach [.Name x p2] X.env)).any (·.1) = false := by rfl) :
  VE X (.Call (.Name "isinstance" p) [a, .Name x p2] [] pos) (vXIs K (.type T) ta) := by subst hK; exact ve_xisiT hg hm hg2 hm2 hv2 he hn2 hd2 hs hs2 hpl
theorem ve_kisiTs {es : List Expr} {cs : List Addr} {k : Nat} (hK : X.K = K) (hg : Gl X "isinstance") (hm : X.mg "isinstance" = none) (hT : PA X es (tGl cs)) (he : VE X a ta) (hl : cs.length <= sizeLine := by decide)
  (hs : starEach [a, .Tuple es k p2] X.env = (false, eval a X.env) :: starEach [.Tuple es k p2] X.env := by rfl) (hs2 : starEach [.Tuple es k p2] X.env = [(false, eval (.Tuple es k p2) X.env)] := by rfl) (hpl : (backTo pos (starEach [.Tuple es k p2] X.env)).any (·.1) = false := by rfl) :
  VE X (.Call (.Name "isinstance" p) [a, .Tuple es k p2] [] pos) (vXIsT K cs ta) := by subst hK; exact ve_xisiTs hg hm hT he hl hs hs2 hpl
end
end L2
namespace L2
open PySem PySem.Spec PyProof.Rows
def rk : PyData -> Nat
 | .none => 0 | .bool _ => 1 | .int _ => 2 | .str _ => 3 | .list _ => 4 | .tuple _ => 5 | .dict _ => 6
mutual
theorem eqv_eq : ∀ (x y : PyData), Cano x = true -> Cano y = true -> PyData.eqv x y = true -> x = y
 | .int a, .int b, _, _, h => by simp [PyData.eqv] at h; rw [h]
 | .str a, .str b, _, _, h => by simp [PyData.eqv] at h; rw [h]
 | .tuple xs, .tuple ys, h1, h2, h => by
  simp only [Cano] at h1 h2
  rw [PyData.eqv] at h
  rw [eqvs_eq xs ys h1 h2 h]
 | .int _, .str _, _, _, h => by simp [PyData.eqv] at h
 | .int _, .tuple _, _, _, h => by simp [PyData.eqv] at h
 | .str _, .int _, _, _, h => by simp [PyData.eqv] at h
 | .str _, .tuple _, _, _, h => by simp [PyData.eqv] at h
 | .tuple _, .int _, _, _, h => by simp [PyData.eqv] at h
 | .tuple _, .str _, _, _, h => by simp [PyData.eqv] at h
 | .none, _, h, _, _ => by simp [Cano] at h
 | .bool _, _, h, _, _ => by simp [Cano] at h
 | .list _, _, h, _, _ => by simp [Cano] at h
 | .dict _, _, h, _, _ => by simp [Cano] at h
 | .int _, .none, _, h, _ => by simp [Cano] at h
 | .int _, .bool _, _, h, _ => by simp [Cano] at h
 | .int _, .list _, _, h, _ => by simp [Cano] at h
 | .int _, .dict _, _, h, _ => by simp [Cano] at h
 | .str _, .none, _, h, _ => by simp [Cano] at h
 | .str _, .bool _, _, h, _ => by simp [Cano] at h
 | .str _, .list _, _, h, _ => by simp [Cano] at h
 | .str _, .dict _, _, h, _ => by simp [Cano] at h
 | .tuple _, .none, _, h, _ => by simp [Cano] at h
 | .tuple _, .bool _, _, h, _ => by simp [Cano] at h
 | .tuple _, .list _, _, h, _ => by simp [Cano] at h
 | .tuple _, .dict _, _, h, _ => by simp [Cano] at h
theorem eqvs_eq : ∀ (xs ys : List PyData), CanoAll xs = true -> CanoAll ys = true -> PyData.eqvAll xs ys = true -> xs = ys
 | [], [], _, _, _ => rfl
 | [], _ :: _, _, _, h => by simp [PyData.eqvAll] at h
 | _ :: _, [], _, _, h => by simp [PyData.eqvAll] at h
 | x :: xs, y :: ys, h1, h2, h => by
  simp only [CanoAll, Bool.and_eq_true] at h1 h2
  rw [PyData.eqvAll, Bool.and_eq_true] at h
  rw [eqv_eq x y h1.1 h2.1 h.1, eqvs_eq xs ys h1.2 h2.2 h.2]
end
mutual
theorem eqv_self : ∀ (x : PyData), Cano x = true -> PyData.eqv x x = true
 | .int a, _ => by simp [PyData.eqv]
 | .str a, _ => by simp [PyData.eqv]
 | .tuple xs, h => by rw [PyData.eqv]; exact eqvs_self xs (by simpa only [Cano] using h)
 | .none, h => by simp [Cano] at h
 | .bool _, h => by simp [Cano] at h
 | .list _, h => by simp [Cano] at h
 | .dict _, h => by simp [Cano] at h
theorem eqvs_self : ∀ (xs : List PyData), CanoAll xs = true -> PyData.eqvAll xs xs = true
 | [], _ => rfl
 | x :: xs, h => by
  simp only [CanoAll, Bool.and_eq_true] at h
  rw [PyData.eqvAll, eqv_self x h.1, eqvs_self xs h.2]; rfl
end
end L2
namespace L2
open PySem PySem.W PyProof.Rows
section
variable {n : Nat} {lt : Nat -> Nat -> Bool}
variable {p : Array Nat} {s : Shared}
end
end L2
namespace L2
open PySem
section
variable {prog : Program} {w : World} {A : Around} {E : Value -> Shared -> Prop} {s : Shared}
end
end L2
namespace L2
open PySem PySem.W PyProof.Rows
section
variable {prog : Program} {w : World} {A : Around} {E : Value -> Shared -> Prop} {s : Shared}
end
end L2
namespace L2
open PySem PySem.Spec PyProof.Rows
section
variable {X : Cx} {k : Nat}
end
end L2
namespace L2
open PySem PySem.Spec PyProof.Rows
section
variable {prog : Program} {w : World} {A : Around} {E : Value -> Shared -> Prop} {s : Shared}
end
section
variable {X : Cx} {tg a : Expr} {ta : AE} {pos p : Pos}
end
end L2
namespace L2
open PySem PySem.Spec PyProof.Rows
def isDM : MO -> Prop
 | .dk _ => True
 | .dt _ => True
 | _ => False
section
variable {X : Cx} {o e f : Expr} {apos cpos : Pos} {td ty tx : AE}
def vDGet2 (td ty tx : AE) : AE := fun τ μ R => td τ μ fun x μ1 => match x with
 | .R a => (∃ m, μ1 a = some m /\ isDM m) /\ ty τ μ1 fun y μ2 => tx τ μ2 fun z μ3 => match y with
  | .D d => opt (μ3 a) fun m => opt (dget m d) fun r => R (r.getD z) μ3
  | _ => False
 | _ => False
end
section
variable {X : Cx} {e : Expr} {te : AE} {p p2 pos pos2 : Pos}
def vRevL (te : AE) : AE := fun τ μ R => te τ μ fun x μ1 => match x with
 | .R a => opt (μ1 a) fun m => match m with
  | .lst xs => ∀ l, μ1 l = none -> R (.R l) (updM μ1 l (.lst xs.reverse))
  | _ => False
 | _ => False
theorem ve_revL (hc : X.calm = true) (hg : Gl X "list") (hm : X.mg "list" = none) (hg2 : Gl X "reversed") (hm2 : X.mg "reversed" = none) (he : VE X e te)
  (hs : starEach [.Call (.Name "reversed" p2) [e] [] pos2] X.env = [(false, eval (.Call (.Name "reversed" p2) [e] [] pos2) X.env)] := by rfl) (hs2 : starEach [e] X.env = [(false, eval e X.env)] := by rfl) :
  VE X (.Call (.Name "list" p) [.Call (.Name "reversed" p2) [e] [] pos2] [] pos) (vRevL te) := (pe_revL hc hg hm hg2 hm2 he hs hs2).imp fun σ H Q zz95 => ex34 zz95 fun τ μ R hs hc h hq =>
 ⟨τ, μ, _, hs, hc, h, fun x μ1 v H1 S1 c1 rx hx => by
  split at hx
  ·rename_i a
   obtain ⟨m, em, hx⟩ := opt_e hx
   split at hx
   ·obtain ⟨ob, ho, ws, rfl, rs⟩ := c1 _ _ em
    cases rx
    exact ⟨a, ws, rfl, SqL.of ho, fun l hl => hq _ _ _ _ (S1.trans (Kp.new hl _)) (c1.new hl (rm_lst rs.rev)) ra_ref (hx l (c1.none hl))⟩
   ·exact hx.elim
  ·exact hx.elim⟩
end
end L2
namespace L2
open PySem
def RiseA (xs : Array Nat) : Prop := xs.toList.Pairwise (· < ·)
theorem RiseA.lt {xs : Array Nat} (h : RiseA xs) {i j : Nat} {d : Nat} (hij : i < j) (hj : j < xs.size) : xs.getD i d < xs.getD j d := by
 have := List.pairwise_iff_getElem.mp h i j (by simp; omega) (by simpa using hj) hij
 simp only [Array.getElem_toList] at this
 simp only [Array.getD, show i < xs.size by omega, hj, dif_pos]
 exact this
theorem below_go {xs : Array Nat} (h : RiseA xs) {j : Nat} : ∀ (f lo hi : Nat), hi - lo <= f -> lo <= hi -> hi <= xs.size -> (∀ i, i < lo -> xs.getD i j < j) -> (∀ i, hi <= i -> i < xs.size -> j <= xs.getD i j) ->
  SetTable.below.go xs j f lo hi <= xs.size /\ (∀ i, i < SetTable.below.go xs j f lo hi -> xs.getD i j < j) /\ ∀ i, SetTable.below.go xs j f lo hi <= i -> i < xs.size -> j <= xs.getD i j
 | 0, lo, hi, h1, h2, h3, h4, h5 => by
  have e : lo = hi := by omega
  subst e
  exact ⟨h3, h4, h5⟩
 | f + 1, lo, hi, h1, h2, h3, h4, h5 => by
  rw [SetTable.below.go]
  by_cases c : lo < hi
  ·rw [if_pos c]
   dsimp only
   by_cases c2 : xs.getD ((lo + hi) / 2) j < j
   ·rw [if_pos c2]
    refine below_go h f _ _ (by omega) (by omega) h3 (fun i hi' => ?_) h5
    by_cases e : i = (lo + hi) / 2
    ·rw [e]; exact c2
    ·have := h.lt (d := j) (show i < (lo + hi) / 2 by omega) (show (lo + hi) / 2 < xs.size by omega)
     omega
   ·rw [if_neg c2]
    refine below_go h f _ _ (by omega) (by omega) (by omega) h4 (fun i hi' hs => ?_)
    by_cases e : i = (lo + hi) / 2
    ·rw [e]; omega
    ·have := h.lt (d := j) (show (lo + hi) / 2 < i by omega) hs
     omega
  ·rw [if_neg c]
   have e : lo = hi := by omega
   subst e
   exact ⟨h3, h4, h5⟩
theorem below_ok {xs : Array Nat} (h : RiseA xs) (j : Nat) : SetTable.below xs j <= xs.size /\ (∀ i, i < SetTable.below xs j -> xs.getD i j < j) /\ ∀ i, SetTable.below xs j <= i -> i < xs.size -> j <= xs.getD i j :=
 below_go h xs.size 0 xs.size (by omega) (Nat.zero_le _) (Nat.le_refl _) (fun i hi => absurd hi (Nat.not_lt_zero _)) fun i hi hs => by omega
theorem insert_list {α : Type} (xs : Array α) (p : Nat) (x : α) (hp : p <= xs.size) : (SetTable.insertAt xs p x).toList = xs.toList.take p ++ x :: xs.toList.drop p := by
 rw [SetTable.toList_insertAt]
theorem rise_insert {xs : Array Nat} (h : RiseA xs) {j : Nat} (hj : xs[SetTable.below xs j]? ≠ some j) : RiseA (SetTable.insertAt xs (SetTable.below xs j) j) := by
 obtain ⟨b1, b2, b3⟩ := below_ok h j
 unfold RiseA
 rw [insert_list _ _ _ b1]
 have ht : ∀ a ∈ xs.toList.take (SetTable.below xs j), a < j := fun a ha => by
  obtain ⟨i, hi, e⟩ := List.getElem_of_mem ha
  have h1 : i < SetTable.below xs j := by
   rw [List.length_take] at hi; omega
  have := b2 i h1
  simp only [Array.getD, show i < xs.size by omega, dif_pos] at this
  rw [<- e]
  simpa using this
 have hd : ∀ a ∈ xs.toList.drop (SetTable.below xs j), j < a := fun a ha => by
  obtain ⟨i, hi, e⟩ := List.getElem_of_mem ha
  have h1 : SetTable.below xs j + i < xs.size := by
   rw [List.length_drop] at hi; simp at hi; omega
  have h2 := b3 _ (Nat.le_add_right _ i) h1
  simp only [Array.getD, h1, dif_pos] at h2
  have e2 : a = xs[SetTable.below xs j + i] := by rw [<- e]; simp
  have h3 : a ≠ j := by
   intro z
   by_cases c : i = 0
   ·subst c
    apply hj
    rw [Array.getElem?_eq_getElem (by omega)]
    exact congrArg some (e2.symm.trans z)
   ·have h0 : SetTable.below xs j < xs.size := by omega
    have h4 := b3 _ (Nat.le_refl _) h0
    simp only [Array.getD, h0, dif_pos] at h4
    have h5 := h.lt (d := 0) (show SetTable.below xs j < SetTable.below xs j + i by omega) h1
    simp only [Array.getD, h0, h1, dif_pos] at h5
    have h5' : xs[SetTable.below xs j] < xs[SetTable.below xs j + i] := h5
    have h4' : j <= xs[SetTable.below xs j] := h4
    omega
  have h2' : j <= xs[SetTable.below xs j + i] := h2
  omega
 refine List.pairwise_append.mpr ⟨h.sublist (List.take_sublist _ _), List.pairwise_cons.mpr ⟨hd, h.sublist (List.drop_sublist _ _)⟩, fun a ha b hb => ?_⟩
 rcases List.mem_cons.mp hb with rfl | hb
 ·exact ht a ha
 ·have := ht a ha
  have := hd b hb
  omega
structure TblOk (t : SetTable) (led : Bool) : Prop where
 rise : RiseA t.place
 dum : t.dummies = #[]
 led : t.led = led
theorem rise_range (n : Nat) : RiseA (Array.range n) := by
 unfold RiseA
 rw [Array.toList_range]
 exact List.pairwise_lt_range
theorem TblOk.standIn {t : SetTable} {led : Bool} (h : TblOk t led) (n : Nat) : TblOk (t.standIn n) led := ⟨rise_range n, rfl, h.led⟩
theorem TblOk.orStandIn {t : SetTable} {led : Bool} (h : TblOk t led) (n : Nat) : TblOk (t.orStandIn n) led := by
 unfold SetTable.orStandIn
 split
 ·exact h
 ·exact h.standIn n
theorem TblOk.plain {t : SetTable} {led : Bool} (h : TblOk t led) (b : Bool) : TblOk { t with plain := b } led := ⟨h.rise, h.dum, h.led⟩
theorem has_none (j : Nat) : SetTable.has #[] j = false := by
 unfold SetTable.has
 simp
theorem slot_empty {t : SetTable} {led : Bool} (h : TblOk t led) {j : Nat} (e : t.slot j = .empty) : t.place[SetTable.below t.place j]? ≠ some j := by
 unfold SetTable.slot at e
 dsimp only at e
 split at e
 ·cases e
 ·rename_i c
  simpa using c
theorem slot_dummy {t : SetTable} {led : Bool} (h : TblOk t led) {j : Nat} : t.slot j ≠ .dummy := by
 unfold SetTable.slot
 dsimp only
 rw [h.dum, has_none]
 split
 ·intro z; cases z
 ·intro z; cases z
theorem advance_dummy (t : SetTable) (p : SetTable.Probe) : (t.advance p).dummy = p.dummy := by
 unfold SetTable.advance
 split <;> rfl
theorem probe_empty {t : SetTable} {led : Bool} (h : TblOk t led) {hashAt : Nat -> Int} {hh : Int} {j : Nat} {d : Option Nat} : ∀ (f : Nat) (p : SetTable.Probe), p.dummy = none -> SetTable.probe.go t hashAt hh f p = some (.empty j d) -> d = none /\ t.slot j = .empty
 | 0, _, _, e => by simp [SetTable.probe.go] at e
 | f + 1, p, hp, e => by
  rw [SetTable.probe.go] at e
  cases c : t.slot p.j with
  | empty =>
   rw [c] at e
   have e' := Option.some.inj e
   injection e' with e1 e2
   exact ⟨e2.symm.trans hp, by rw [<- e1]; exact c⟩
  | dummy => exact absurd c (slot_dummy h)
  | live i =>
   rw [c] at e
   dsimp only at e
   split at e
   ·cases e
   ·exact probe_empty h f _ ((advance_dummy t p).trans hp) e
theorem free_ok {t : SetTable} {led : Bool} (h : TblOk t led) {hh : Int} {s : Nat} {b : Bool} (e : t.freeSlot hh = some (s, b)) : t.place[SetTable.below t.place s]? ≠ some s := by
 unfold SetTable.freeSlot SetTable.probe at e
 split at e
 ·rename_i j d c
  obtain ⟨rfl, hs⟩ := probe_empty h _ _ rfl c
  have e' := Option.some.inj e
  have e1 : j = s := congrArg Prod.fst e'
  rw [<- e1]
  exact slot_empty h hs
 ·cases e
theorem TblOk.put {t : SetTable} {led : Bool} (h : TblOk t led) {s : Nat} (hs : t.place[SetTable.below t.place s]? ≠ some s) : TblOk (t.put s).1 led := by
 refine ⟨rise_insert h.rise hs, ?_, h.led⟩
 show (if SetTable.has t.dummies s then _ else t.dummies) = #[]
 rw [h.dum, has_none]; rfl
theorem TblOk.layNew {t : SetTable} {led : Bool} (h : TblOk t led) (es : Array (Int × Value)) (hh : Int) (x : Value) : TblOk (layNew t es hh x).2.1 led := by
 unfold PySem.layNew
 split
 ·rename_i s b c
  exact (h.put (free_ok h c)).orStandIn _
 ·exact h.standIn _
theorem TblOk.laid {mask finger moves : Nat} {led plain : Bool} {hs : Array Int} {t : SetTable} {order : Array Nat} (e : SetTable.laid mask finger moves led plain hs = some (t, order)) : TblOk t led := by
 unfold SetTable.laid at e
 cases c : SetTable.layClean mask hs with
 | none => rw [c] at e; cases e
 | some owner =>
  rw [c] at e
  have e' := Option.some.inj e
  injection e' with e1 _
  subst e1
  refine ⟨?_, rfl, rfl⟩
  unfold RiseA
  show (List.map _ _).Pairwise _
  rw [List.pairwise_map]
  refine List.Pairwise.filterMap _ (R := (· < ·)) (fun a a' haa b hb b' hb' => ?_) List.pairwise_lt_range
  obtain ⟨z, _, rfl⟩ := Option.map_eq_some_iff.mp hb
  obtain ⟨z', _, rfl⟩ := Option.map_eq_some_iff.mp hb'
  exact haa
theorem TblOk.relayAll {t : SetTable} {led : Bool} (h : TblOk t led) (es : Array (Int × Value)) (w : Nat) : TblOk (relayAll t es w).2.1 led := by
 unfold PySem.relayAll
 split
 ·rename_i t' order c
  dsimp only
  split
  ·have := TblOk.laid c
   rw [h.led] at this
   exact this
  ·exact h.standIn _
 ·exact h.standIn _
theorem TblOk.fresh (led : Bool) : TblOk (.fresh 0 0 led) led := ⟨List.Pairwise.nil, rfl, rfl⟩
end L2
namespace L2
open PySem
section
variable {prog : Program} {w : World} {Kt : Type} [DecidableEq Kt] {knd : KeyKind prog w Kt} {A : Around} {E : Value -> Shared -> Prop} {s : Shared} {a : Addr} {led : Bool}
def SetIs (knd : KeyKind prog w Kt) (h : Heap) (a : Addr) (l : List (Int × Value)) (led : Bool) : Prop :=
 ∃ o es ep t, h.get? a = some o /\ o.ExactSet /\ o.data = .set es ep t /\ es.toList = l /\ ElemsOf knd l /\ t.fits es.size = true /\ TblOk t led
theorem set_store {h : Heap} {o : Obj} {es : Array (Int × Value)} {ep : Nat} {t : SetTable} (ho : h.get? a = some o) (hex : o.ExactSet) (hd : o.data = .set es ep t) {es' : Array (Int × Value)} {t' : SetTable} (hel : ElemsOf knd es'.toList) (hf : t'.fits es'.size = true) (hT : TblOk t' led) :
  (h.update a (Obj.putSet es' t')).get? a = some { o with data := .set es' (ep + 1) t' } /\ SetIs knd (h.update a (Obj.putSet es' t')) a es'.toList led := by
 have e := Heap.get?_update_self (Obj.putSet es' t') ho (by rw [putSet_of es' t' hd]; rfl)
 rw [putSet_of es' t' hd] at e
 exact ⟨e, _, es', ep + 1, t', e, hex, rfl, rfl, hel, hf, hT⟩
theorem add_tail {g : Bool -> Sem Unit} (hg : ∀ (b : Bool) (s1 : Shared) (Q' : Unit -> Shared -> Prop), Q' () s1 -> wpAny (model prog w) A (g b) Q' E s1) {o : Obj} {es : Array (Int × Value)} {ep : Nat} {t : SetTable} (ho : s.heap.get? a = some o) (hex : o.ExactSet) (hd : o.data = .set es ep t)
  {es1 : Array (Int × Value)} {t2 : SetTable} (hel : ElemsOf knd es1.toList) (hb : es1.size < scanBound) (hf : t2.fits es1.size = true) (hT : TblOk t2 led) {wasDummy : Bool} {R : Option Bool -> Shared -> Prop}
  (h : ∀ h' l', Heap.SameBut a s.heap h' -> SetIs knd h' a l' led -> l'.Perm es1.toList -> R (some true) { s with heap := h' }) :
  wpAny (model prog w) A (do
   storeSet a es1 t2
   if (!wasDummy && t2.tooFull) = true then do
    g (relayAll t2 es1 (SetTable.grown es1.size)).2.2
    storeSet a (relayAll t2 es1 (SetTable.grown es1.size)).1 (relayAll t2 es1 (SetTable.grown es1.size)).2.1
    pure (some true)
   else pure (some true)) R E s := by
 obtain ⟨g1, g2⟩ := set_store (knd := knd) (led := led) ho hex hd hel hf hT
 refine wpAny_bind (wpAny_storeSet_of ho hd ?_ (fits_of_scanBound hb))
 have b1 := Heap.SameBut.update s.heap a (Obj.putSet es1 t2)
 split
 ·have p1 := relayAll_perm t2 es1 (SetTable.grown es1.size)
  have f1 := relayAll_fits t2 es1 (SetTable.grown es1.size)
  have k1 := hT.relayAll es1 (SetTable.grown es1.size)
  generalize relayAll t2 es1 (SetTable.grown es1.size) = R1 at p1 f1 k1 ⊢
  obtain ⟨es2, t3, gave⟩ := R1
  dsimp only at p1 f1 k1 ⊢
  have z : es2.size < scanBound := by
   have e : es2.size = es1.size := by rw [<- Array.length_toList, p1.length_eq, Array.length_toList]
   rw [e]; exact hb
  obtain ⟨_, g4⟩ := set_store (knd := knd) (led := led) g1 hex rfl (hel.perm p1) f1 k1
  exact wpAny_bind (hg _ _ _ (wpAny_bind (wpAny_storeSet_of g1 rfl (wpAny_pure (h _ _ (b1.trans (Heap.SameBut.update _ a _)) g4 p1)) (fits_of_scanBound z))))
 ·exact wpAny_pure (h _ _ b1 g2 (List.Perm.refl _))
theorem add_set {l : List (Int × Value)} {k : Kt} {x : Value} {Q : Bool -> Shared -> Prop} (hx : knd.is k x = true) (hs : x.scannable = true) (hS : SetIs knd s.heap a l led) (hb : l.length + 1 < scanBound)
  (h1 : (∃ e ∈ l, knd.is k e.2 = true) -> Q false s) (h2 : (∀ e ∈ l, knd.is k e.2 = false) -> ∀ h' l', Heap.SameBut a s.heap h' -> SetIs knd h' a l' led -> l'.Perm (l ++ [(knd.hash k, x)]) -> Q true { s with heap := h' }) :
  wpAny (model prog w) A (setAddHashed a x (knd.hash k)) Q E s := by
 obtain ⟨o, es, ep, t, ho, hex, hd, rfl, hel, hf, hT⟩ := hS
 rw [Array.length_toList] at hb
 have hb0 : es.size < scanBound := by omega
 unfold setAddHashed setAddHashedIn
 refine wpAny_holding (wpAny_bind (wpAny_setState_of ho hd hf (show wpAny _ _ _ _ _ _ from ?_)))
 dsimp only
 rw [byScan_of hs hb0 hel, if_pos rfl]
 unfold setAddByScan
 refine wpAny_bind (wpAny_bind (wpAny_rule (wpAny_bind (wpAny_setScan_of hx ho hd hf hel ?_))))
 cases c : List.findIdx? (fun e => knd.is k e.2) es.toList with
 | some j =>
  obtain ⟨hj, hp, _⟩ := List.findIdx?_eq_some_iff_getElem.mp c
  exact wpAny_pure (wpAny_pure (h1 ⟨_, List.getElem_mem hj, hp⟩))
 | none =>
  have hno := List.findIdx?_eq_none_iff.mp c
  have q1 := layNew_perm t es (knd.hash k) x
  have q2 := layNew_fits t es (knd.hash k) x
  have q3 := hT.layNew es (knd.hash k) x
  dsimp only
  generalize layNew t es (knd.hash k) x = L1 at q1 q2 q3 ⊢
  obtain ⟨es1, t1, dm, gv⟩ := L1
  dsimp only at q1 q2 q3 ⊢
  rw [Array.toList_push] at q1
  have e1 : ElemsOf knd es1.toList := (hel.push hx hs).perm q1
  have z1 : es1.size < scanBound := by
   rw [<- Array.length_toList, q1.length_eq, List.length_append, Array.length_toList]; exact hb
  have gw : ∀ (b : Bool) (s1 : Shared) (Q' : Unit -> Shared -> Prop), Q' () s1 -> wpAny (model prog w) A (match b with | true => rule "set.scan.the-table-gave-way" | false => pure ()) Q' E s1 := fun b s1 Q' q => by
   cases b
   ·exact wpAny_pure q
   ·exact wpAny_rule q
  have fin : ∀ h' l', Heap.SameBut a s.heap h' -> SetIs knd h' a l' led -> l'.Perm es1.toList -> Q true { s with heap := h' } := fun h' l' b1 b2 b3 => h2 (fun e he => by simpa using hno e he) h' l' b1 b2 (b3.trans q1)
  refine wpAny_bind (gw _ _ _ ?_)
  split
  ·refine wpAny_bind (show wpAny _ _ (hashByValue 8 x) _ _ _ from ?_)
   rw [hashByValue_scannable 8 hs]
   refine wpAny_pure (add_tail (led := led) (fun b s1 Q' q => ?_) ho hex hd e1 z1 ?_ ?_ fun h' l' b1 b2 b3 => ?_)
   ·cases b
    ·exact wpAny_pure q
    ·exact wpAny_rule q
   ·split
    ·exact q2
    ·exact SetTable.fits_plain_off q2
   ·split
    ·exact q3
    ·exact q3.plain false
   ·dsimp only
    exact wpAny_pure (fin h' l' b1 b2 b3)
  ·refine wpAny_bind (wpAny_pure (show wpAny _ _ _ _ _ _ from ?_))
   rw [if_pos rfl]
   refine add_tail (fun b s1 Q' q => ?_) ho hex hd e1 z1 q2 q3 fun h' l' b1 b2 b3 => ?_
   ·cases b
    ·exact wpAny_pure q
    ·exact wpAny_rule q
   ·dsimp only
    exact wpAny_pure (fin h' l' b1 b2 b3)
end
end L2
namespace L2
open PySem
theorem ul_plain : plainId "set.update.loop" = true := by decide +kernel
theorem ul_entry : entryFor table "set.update.loop" = some Builtin.«set.update.loop» := entryFor_of_tree (by kernel_rfl)
section
variable {prog : Program} {w : World} {Kt : Type} [DecidableEq Kt] {knd : KeyKind prog w Kt} {A : Around} {R : Result -> Shared -> Prop} {sa it t : Addr} {led : Bool}
def Unlike (knd : KeyKind prog w Kt) (l : List (Int × Value)) : Prop := l.Pairwise fun e e' => ∀ k, knd.is k e.2 = true -> knd.is k e'.2 = false
def Keys (knd : KeyKind prog w Kt) (l : List (Int × Value)) (ks : List Kt) : Prop := ∀ k, (∃ e ∈ l, knd.is k e.2 = true) ↔ k ∈ ks
theorem Unlike.add {l : List (Int × Value)} {x : Value} {k : Kt} {h : Int} (hl : Unlike knd l) (hx : knd.is k x = true) (hn : ∀ e ∈ l, knd.is k e.2 = false) : Unlike knd (l ++ [(h, x)]) := by
 refine List.pairwise_append.mpr ⟨hl, List.pairwise_singleton _ _, fun e he e' he' k' hk' => ?_⟩
 have e1 : e' = (h, x) := by simpa using he'
 subst e1
 cases c : knd.is k' x with
 | false => rfl
 | true =>
  have := knd.inj x k' k c hx
  subst this
  rw [hn e he] at hk'; cases hk'
theorem Unlike.perm {l l' : List (Int × Value)} (h : Unlike knd l) (p : l'.Perm l) : Unlike knd l' := by
 refine (List.Perm.pairwise_iff (R := fun (e e' : Int × Value) => ∀ k, knd.is k e.2 = true -> knd.is k e'.2 = false) (fun {e e'} hh k hk => ?_) p.symm).mp h
 cases c : knd.is k e.2 with
 | false => rfl
 | true => rw [hh k c] at hk; cases hk
theorem items_at : ∀ {ks : List Kt} {vs : List Value} {i : Nat} {x : Value}, ItemsAre knd ks vs -> vs[i]? = some x -> ∃ k, ks[i]? = some k /\ knd.is k x = true
 | _, _, _, _, .nil, h => by simp at h
 | _, _, 0, _, .cons h1 _, h => by simp at h; subst h; exact ⟨_, rfl, h1⟩
 | _, _, i + 1, _, .cons _ t, h => by simpa using items_at (i := i) t (by simpa using h)
end
end L2
namespace L2
open PySem
section
variable {prog : Program} {w : World} {A : Around} {E : Value -> Shared -> Prop} {s : Shared}
theorem si_check {M : Model} {self v : Value} {Q : Unit -> Shared -> Prop} (hT : s.TypeIs self "set") (q : Q () s) : wpAny M A (checkBuiltinCall "set.__init__" ⟨[self, v], []⟩) Q E s := by
 simp only [checkBuiltinCall, kind_set_init, split_set_init, sig_set_init]
 refine wpAny_bind (wpAny_isInstance hT sub_set_self (show wpAny _ _ _ _ _ _ from ?_))
 rw [show (!true) = false from rfl, if_neg Bool.false_ne_true]
 unfold Bind.checkArgs
 dsimp only
 refine wpAny_bind (m := Bind.printed "set" true _ _) (PyProof.Rows.printed_name (by decide) (wpAny_bind (m := Bind.printed "*" false _ _) (PyProof.Rows.printed_star (self := self) rfl hT fun short => ?_)))
 have e : (if (Manifest.Receiver.self == Manifest.Receiver.none) = true then [self, v].length else [self, v].length - 1) = 1 := rfl
 rw [e]
 have hc : Bind.check ⟨.positional, "set", "*", .self, [⟨"iterable", .posOnly, false⟩]⟩ "set" short 1 [] = pure () := by simp +decide [Bind.check, Bind.checkCount, Bind.isPositional]
 simp only [List.map_nil]
 rw [hc]; exact wpAny_pure q
theorem sc_type (v : Value) : checkTypeCall "set" ⟨[v], []⟩ = pure () := by kernel_rfl
theorem sc_new (v : Value) : checkBuiltinCall "set.__new__" ⟨[.type "set", v], []⟩ = pure () := by kernel_rfl
def ledOf (w : World) : Bool := !(w.params.followText "set-order")
def newSetObj (w : World) : Obj := { cls := .type "set", dict := none, data := .set #[] 0 (.fresh 0 0 (ledOf w)) }
theorem sn_code {v : Value} {Q1 : Value -> Shared -> Prop} (h : Q1 (.ref s.heap.objs.size) { s with heap := s.heap.push (newSetObj w) }) :
  codeAny (model prog w) A (.call (.builtin "set.__new__") ⟨[.type "set", v], []⟩) (wants Q1 E) s := by
 refine codeAny_of_tree (show wpAny _ A.in1 (do checkBuiltinCall "set.__new__" ⟨[.type "set", v], []⟩; again (.builtin "set.__new__" ⟨[.type "set", v], []⟩)) _ _ s from ?_)
 refine wpAny_bind (wpAny_of_eq (sc_new v) (wpAny_pure ⟨plainId_quiet F.plain_set_new _, codeAny_builtin F.entry_set_new (show wpAny _ _ _ _ _ _ from ?_)⟩))
 rw [Around.under_plainId F.plain_set_new _]
 unfold Builtin.«set.__new__» Builtin.Frozenset.newClass
 have k1 := sub_set_self
 obtain ⟨hp, g, d, tk, os⟩ := s
 dsimp only
 wp_walk
 refine wpAny_askSetting (wpAny_pure (show wpAny _ _ _ _ _ _ from ?_))
 dsimp only
 simp only [newObj]
 exact wpAny_bind (wpAny_alloc (wpAny_pure (wpAny_pure h)))
theorem call_set_1 {v : Value} {Q : Value -> Shared -> Prop} (h : wpAny (model prog w) A.in1.in1 (Builtin.Frozenset.updateFrom "set.__init__" s.heap.objs.size v) (fun _ s2 => Q (.ref s.heap.objs.size) s2) E { s with heap := s.heap.push (newSetObj w) }) :
  wpAny (model prog w) A (call (.type "set") [v]) Q E s := by
 obtain ⟨c, tl, hmro⟩ := F.called_set.mro
 have k1 := F.called_set.made
 have k2 := F.called_set.sub
 refine wpAny_call (codeAny_of_tree (show wpAny _ _ (callAny (.type "set") _) _ _ _ from ?_))
 refine wpAny_pure ⟨Code.quiet_builtin _ (by decide +kernel), codeAny_builtin F.entry_type_call ?_⟩
 rw [Around.under_plain (weight_type_call_type "set" [v] []) rfl]
 have k3 := F.called_set.notType
 have k4 := F.called_set.canCreate
 have k5 := sc_type v
 repeat any_goals first | assumption | wp_step
 refine codeAny_mono (sn_code (E := E) (Q1 := fun ob s1 => ob = .ref s.heap.objs.size /\ s1 = { s with heap := s.heap.push (newSetObj w) }) ⟨rfl, rfl⟩) fun r s1 hr => ?_
 cases r with
 | error e => exact hr
 | ok fl =>
  cases fl with
  | ret ob =>
   obtain ⟨rfl, rfl⟩ := hr
   have g : (s.heap.push (newSetObj w)).get? s.heap.objs.size = some (newSetObj w) := Heap.get?_push_size _ rfl
   have T : Shared.TypeIs { s with heap := s.heap.push (newSetObj w) } (.ref s.heap.objs.size) "set" := ⟨_, g, rfl⟩
   have k6 := F.called_set.init.lookup
   have k7 := F.called_set.init.bind (.ref s.heap.objs.size)
   repeat any_goals first | assumption | wp_step
   refine codeAny_mono (codeAny_call_builtin (R := wants (fun r s2 => r = .none /\ Q (.ref s.heap.objs.size) s2) E) F.called_set.init.plain F.entry_set_init (si_check T ?_)) fun r2 s2 hr2 => ?_
   ·unfold Builtin.«set.__init__» noKeywords
    generalize hU : Builtin.Frozenset.updateFrom = U at h ⊢
    unfold newSetObj at g
    wp_walk
    exact wpAny_mono h (fun _ _ q => wpAny_pure ⟨rfl, q⟩) fun _ _ e => e
   ·cases r2 with
    | error e => exact hr2
    | ok fl2 =>
     cases fl2 with
     | ret z =>
      obtain ⟨rfl, q⟩ := hr2
      repeat any_goals first | assumption | wp_step
     | _ => exact hr2.elim
  | _ => exact hr.elim
end
end L2
namespace L2
open PySem
section
theorem sub_tup_set : isSubtype (.type "tuple") (.type "set") = pure false := by rw [isSubtype_type]; kernel_rfl
theorem sub_tup_fro : isSubtype (.type "tuple") (.type "frozenset") = pure false := by rw [isSubtype_type]; kernel_rfl
end
section
variable {prog : Program} {w : World} {Kt : Type} [DecidableEq Kt] {knd : KeyKind prog w Kt} {A : Around} {E : Value -> Shared -> Prop} {s : Shared} {sa t : Addr} {led : Bool}
theorem none_elems : ElemsOf knd [] := fun e he => by cases he
theorem none_keys : Keys knd [] [] := fun k => ⟨fun ⟨e, he, _⟩ => (by cases he), fun h => (by cases h)⟩
theorem new_set_is {h : Heap} : SetIs knd (h.push (newSetObj w)) h.objs.size [] (ledOf w) :=
 ⟨_, #[], 0, _, Heap.get?_push_size _ rfl, ⟨rfl, rfl, rfl⟩, rfl, rfl, none_elems, rfl, TblOk.fresh _⟩
end
end L2
namespace L2
open PySem
end L2
namespace L2
open PySem
section
variable {prog : Program} {w : World} {A : Around} {E : Value -> Shared -> Prop} {s : Shared}
end
end L2
namespace L2
open PySem PySem.Spec PyProof.Rows PySem.W
section
variable {prog : Program} {w : World} {A : Around} {E : Value -> Shared -> Prop} {s : Shared}
end
end L2
namespace L2
open PySem PySem.Spec PyProof.Rows
section
variable {X : Cx} {pins : List (Addr × Obj)} {σ : St} {H : Hp} {s : Shared}
end
end L2
namespace L2
open PySem PySem.Spec PyProof.Rows
noncomputable instance decPD : DecidableEq PyData := fun a b => Classical.propDecidable (a = b)
section
variable {prog : Program} {w : World}
variable (prog w) in
end
end L2
namespace L2
open PySem PySem.Spec PyProof.Rows
section
variable {X : Cx} {pins : List (Addr × Obj)} {σ : St} {H : Hp} {s : Shared} {a : Addr} {e : Expr} {te : AE} {τ : ASt} {μ : M}
theorem VE.run {R1 : AV -> M -> Prop} (he : VE X e te) (I : Inv X pins σ H s) (hs : StA X.K H τ σ) (hc : Cn X.K μ H) (h : te τ μ R1) :
  wpAny (model X.prog X.w) X.A (eval e X.env) (fun u s1 => ∃ x v μ1 H1, Inv X pins σ H1 s1 /\ RelV v u /\ Kp H H1 /\ Cn X.K μ1 H1 /\ RelA X.K H1 x v /\ R1 x μ1) X.xe s :=
 wpAny_mono (he pins s σ H (fun v H1 => ∃ x μ1, Kp H H1 /\ Cn X.K μ1 H1 /\ RelA X.K H1 x v /\ R1 x μ1) I ⟨τ, μ, R1, hs, hc, h, fun x μ1 v H1 S c r q => ⟨x, μ1, S, c, r, q⟩⟩)
  (fun _ _ z => by obtain ⟨v, H1, I1, rv, x, μ1, S, c, r, q⟩ := z; exact ⟨x, v, μ1, H1, I1, rv, S, c, r, q⟩) fun _ _ e => e
variable {o i value : Expr} {pos pos' : Pos} {td ty tv : AE}
end
end L2
namespace L2
open PySem PySem.Spec PyProof.Rows
abbrev ZObj (h : Heap) (z TI TO : Addr) (f0 : Value) (b1 : Bool) : Prop :=
 h.get? z = some { cls := .type "zip", dict := none, data := .fields #[f0, .bool b1, .bool false, .ref TI, .ref TO], slots := #[] }
section
variable {prog : Program} {w : World} {A : Around} {E : Value -> Shared -> Prop} {s : Shared}
theorem any_alive {M : Model} {a : Addr} {Q : Option Obj -> Shared -> Prop} (h : Q (s.heap.get? a) s) : wpAny M A (loadIfAlive a) Q E s := fun _ _ _ => h
theorem owned_busy {z TI TO T : Addr} {b1 : Bool} {Q : Bool -> Shared -> Prop} (hz : ZObj s.heap z TI TO (rawInt T) b1) (hT : ∃ o, s.heap.get? T = some o) (h : ∀ h', ZObj h' z TI TO (rawInt T) true -> Heap.SameBut z s.heap h' -> Q false { s with heap := h' }) :
  wpAny (model prog w) A (Builtin.SmallTypes.ownedTupleIsFree (.ref z)) Q E s := by
 obtain ⟨oT, hoT⟩ := hT
 unfold Builtin.SmallTypes.ownedTupleIsFree
 refine wpAny_bind (wpAny_field hz rfl (x := rawInt T) rfl (show wpAny _ _ (loadIfAlive ((T : Int).toNat) >>= _) _ _ _ from wpAny_bind (any_alive ?_)))
 rw [Int.toNat_natCast, hoT]
 refine (show wpAny _ _ (field (.ref z) 1 >>= _) _ _ _ from wpAny_bind (wpAny_field hz rfl (x := .bool b1) rfl ?_))
 cases b1 with
 | true => exact wpAny_pure (h s.heap hz (Heap.SameBut.refl _ _))
 | false => exact wpAny_bind (wpAny_setField_rec hz (by simp) fun h1 hz1 hs1 => wpAny_pure (h h1 hz1 hs1))
theorem zt_len : typeLookup (.type "zip") "__len__" = pure none := by rw [typeLookup_type, builtinLookup_eq_fast]; kernel_rfl
theorem zt_hint : typeLookup (.type "zip") "__length_hint__" = pure none := by rw [typeLookup_type, builtinLookup_eq_fast]; kernel_rfl
structure PairsAt (h : Heap) (no : List Addr) (base : Nat) (as : List Addr) (ps : List (Value × Value)) : Prop where
 rise : as.Pairwise (· < ·)
 new : ∀ T ∈ as, base <= T /\ T ∉ no
 at_ : Paired (fun T p => IsPair h T p.1 p.2) as ps
theorem PairsAt.kp {h h' : Heap} {no : List Addr} {base : Nat} {as : List Addr} {ps : List (Value × Value)} (x : PairsAt h no base as ps) (hk : ∀ b o, b ∉ no -> h.get? b = some o -> h'.get? b = some o) : PairsAt h' no base as ps := by
 obtain ⟨a, b, c⟩ := x
 refine ⟨a, b, ?_⟩
 clear a
 induction c with
 | nil => exact .nil
 | @cons T p l1 l2 r t ih => exact .cons (hk T _ (b T List.mem_cons_self).2 r) (ih fun U hU => b U (List.mem_cons_of_mem _ hU))
theorem paired_mem {α β : Type} {F : α -> β -> Prop} {xs : List α} {ys : List β} (h : Paired F xs ys) : ∀ x ∈ xs, ∃ y, F x y := by
 induction h with
 | nil => exact fun _ h => nomatch h
 | @cons a b l1 l2 r t ih =>
  intro x hx
  rcases List.mem_cons.mp hx with rfl | hx
  ·exact ⟨b, r⟩
  ·exact ih x hx
end
end L2
namespace L2
open PySem PySem.Spec PyProof.Rows
section
variable {X : Cx} {pins : List (Addr × Obj)} {σ : St} {s : Shared}
theorem Inv.trackP : ∀ {as : List Addr} {ps : List (V × V)} {us : List (Value × Value)} {H : Hp}, Inv X pins σ H s -> as.Pairwise (· < ·) -> (∀ a ∈ as, FpOk X pins H a) -> Paired (fun T p => IsPair s.heap T p.1 p.2) as us -> Paired (fun (p : V × V) (u : Value × Value) => RelV p.1 u.1 /\ RelV p.2 u.2) ps us ->
  ∃ H', Inv X pins σ H' s /\ (∀ b o, H b = some o -> H' b = some o) /\ Paired (fun a (p : V × V) => H' a = some (.tup [p.1, p.2])) as ps /\ ∀ b, b ∉ as -> H' b = H b
 | [], _, _, H, I, _, _, h1, h2 => by cases h1; cases h2; exact ⟨H, I, fun _ _ e => e, .nil, fun _ _ => rfl⟩
 | a :: as, _, _, H, I, hp, hf, h1, h2 => by
  cases h1 with
  | @cons _ u _ us r1 t1 =>
  cases h2 with
  | @cons p _ ps _ r2 t2 =>
   have fa := hf a List.mem_cons_self
   have I1 : Inv X pins σ (upd H a (.tup [p.1, p.2])) s := I.track fa ⟨by show 2 <= sizeLine; decide, [u.1, u.2], .cons r2.1 (.cons r2.2 .nil), _, r1, rfl, _, rfl⟩
   have hlt := (List.pairwise_cons.mp hp).1
   obtain ⟨H', I', k', q', o'⟩ := Inv.trackP I1 (List.pairwise_cons.mp hp).2 (fun b hb => by
    obtain ⟨f0, f1⟩ := hf b (List.mem_cons_of_mem _ hb)
    exact ⟨by rw [upd_ne (Nat.ne_of_gt (hlt b hb))]; exact f0, f1⟩) t1 t2
   have na : a ∉ as := fun h => Nat.lt_irrefl _ (hlt a h)
   refine ⟨H', I', fun b o e => k' b o (by rw [upd_ne (ne_of_none e fa.1)]; exact e), .cons (by rw [o' a na]; exact upd_same) q', fun b hb => ?_⟩
   rw [o' b (fun h => hb (List.mem_cons_of_mem _ h)), upd_ne (fun z => hb (by simp [z]))]
theorem Kp.all {H H' : Hp} (h : ∀ b o, H b = some o -> H' b = some o) : Kp H H' := ⟨fun b xs e => h b _ e, fun b o u e => h b _ e⟩
theorem Cn.allK {K : PySem.W.Frag} {μ : M} {H H' : Hp} (c : Cn K μ H) (h : ∀ b o, H b = some o -> H' b = some o) : Cn K μ H' := fun a m e => by
 obtain ⟨o, ho, r⟩ := c a m e
 exact ⟨o, h a o ho, r.kp (Kp.all h)⟩
def vTZip (ta tb : AE) : AE := fun τ μ R => ta τ μ fun x μ1 => tb τ μ1 fun y μ2 => match x, y with
 | .R a, .R b => opt (μ2 a) fun m => opt (μ2 b) fun n => match m, n with
  | .lst us, .lst vs => opt (dats us) fun ds => opt (dats vs) fun es => (ds.length = es.length /\ ds.length <= 1000) /\ R (.D (.tuple (List.zipWith (fun d e => PyData.tuple [d, e]) ds es))) μ2
  | _, _ => False
 | _, _ => False
theorem pair_vals {xs ys : List V} {us vs : List Value} (h : Vals xs us) (k : Vals ys vs) : Paired (fun (p : V × V) (u : Value × Value) => RelV p.1 u.1 /\ RelV p.2 u.2) (xs.zip ys) (us.zip vs) := by
 induction h generalizing ys vs with
 | nil => simp; exact .nil
 | cons r1 t1 ih =>
  cases k with
  | nil => simp; exact .nil
  | cons r2 t2 => exact .cons ⟨r1, r2⟩ (ih t2)
theorem dk_pairs {K : PySem.W.Frag} {H' : Hp} : ∀ {as : List Addr} {xs ys : List V} {ds es : List PyData}, Paired (fun a (p : V × V) => H' a = some (.tup [p.1, p.2])) as (xs.zip ys) -> DkAll K H' ds xs -> DkAll K H' es ys -> DkAll K H' (List.zipWith (fun d e => PyData.tuple [d, e]) ds es) (as.map V.ref)
 | as, xs, ys, [], es, h, h1, h2 => by
  have := h1.nil
  subst this
  simp at h
  cases h
  exact dks_nil
 | as, xs, ys, d :: ds, [], h, h1, h2 => by
  have := h2.nil
  subst this
  simp at h
  cases h
  exact dks_nil
 | as, xs, ys, d :: ds, e :: es, h, h1, h2 => by
  obtain ⟨x, r, rfl, a1, a2⟩ := h1.cons
  obtain ⟨y, q, rfl, b1, b2⟩ := h2.cons
  cases h with
  | cons r1 t1 => exact dks_cons (dk_tup r1 (dks_cons a1 (dks_cons b1 dks_nil))) (dk_pairs t1 a2 b2)
def aInt : AC := fun xs μ R => match xs with
 | [.D (.bool b)] => R (.D (.int (if b then 1 else 0))) μ
 | [.D (.int i)] => R (.D (.int i)) μ
 | _ => False
theorem c_int : VCall X (.type "int") aInt := by
 intro pins s σ H xs us Q I r zz202
 refine ex34 zz202 fun as μ R ra hc h hq => ?_
 cases ra with
 | nil => exact False.elim h
 | @cons x v xs' vs' r1 r2 =>
  cases r2 with
  | nil =>
   cases x with
   | D d =>
    cases d with
    | bool b =>
     cases RelA.bl r1
     exact call_int1 pins s σ H _ us Q I r (.inr ⟨_, rfl, hq _ _ _ _ Kp.refl hc ra_int h⟩)
    | int i =>
     cases RelA.int r1
     exact call_int1 pins s σ H _ us Q I r (.inl ⟨_, rfl, hq _ _ _ _ Kp.refl hc ra_int h⟩)
    | _ => exact False.elim h
   | _ => exact False.elim h
  | cons _ _ =>
   refine False.elim ?_
   cases x with
   | D d => cases d <;> exact h
   | _ => exact h
def txts : List AV -> Option (List Str)
 | [] => some []
 | .D (.str z) :: xs => (txts xs).map (z :: ·)
 | _ :: _ => none
theorem txts_rel {K : PySem.W.Frag} {H : Hp} : ∀ {xs : List AV} {vs : List V} {zs : List Str}, RelAs K H xs vs -> txts xs = some zs -> vs = zs.map V.str
 | [], _, zs, r, e => by cases r; cases e; rfl
 | x :: xs, _, zs, r, e => by
  cases r with
  | cons r1 r2 =>
   unfold txts at e
   split at e
   ·rename_i h; cases h
   ·rename_i z xs' h
    cases h
    obtain ⟨ys, ey, rfl⟩ := Option.map_eq_some_iff.mp e
    cases RelA.str r1
    rw [txts_rel r2 ey]; rfl
   ·cases e
def mJoin : AV -> AC := fun x xs μ R => match x, xs with
 | .D (.str z), [.R p] => opt (μ p) fun m => match m with
  | .lst ys => opt (txts ys) fun zs => (zs.map (·.length)).sum + zs.length * z.length <= 16777216 /\ R (.D (.str (Txt.join z zs))) μ
  | _ => False
 | _, _ => False
theorem m_join : VMt X "str.join" mJoin := by
 intro pins s σ H x xs v us Q I rx r zz203
 refine ex45 zz203 fun a as μ R ra rs hc h hq => ?_
 unfold mJoin at h
 split at h
 ·obtain ⟨m, em, h⟩ := opt_e h
  split at h
  ·obtain ⟨zs, ez, h⟩ := opt_e h
   obtain ⟨o, ho, ws, rfl, rr⟩ := hc _ _ em
   cases RelA.str ra
   cases rs with
   | cons r1 r2 =>
    cases r2
    cases r1
    rw [txts_rel rr ez] at ho
    exact mt_join_h pins s σ H _ _ v us Q I rx r ⟨_, _, zs, rfl, rfl, ho, h.1, hq _ _ _ _ Kp.refl hc ra_str h.2⟩
  ·exact h.elim
 ·exact h.elim
end
end L2
namespace L2
open PySem PySem.Spec PyProof.Rows
section
variable {prog : Program} {w : World} {A : Around} {E : Value -> Shared -> Prop} {s : Shared}
end
section
variable {X : Cx} {e st : Expr} {te ts : AE} {p2 pos : Pos}
end
end L2
namespace L2
open PySem PySem.Spec PyProof.Rows
section
variable {X : Cx} {tg : Expr}
end
end L2
namespace L2
open PySem PySem.Spec PyProof.Rows
def lets (z : Str) : Prop := ∀ c ∈ z.cps.toList, 97 <= c /\ c <= 122
theorem cps_app (a b : Str) : (a ++ b).cps.toList = a.cps.toList ++ b.cps.toList := by
 show (a.cps ++ b.cps).toList = _
 simp
theorem len_cps (z : Str) : z.length = z.cps.toList.length := by simp [Str.length]
theorem lets_app {a b : Str} (ha : lets a) (hb : lets b) : lets (a ++ b) := fun c hc => by
 rw [cps_app] at hc
 rcases List.mem_append.mp hc with h | h
 ·exact ha c h
 ·exact hb c h
theorem slice_to {x : Str} {j : Int} (h0 : 0 <= j) (h1 : j <= (x.length : Int)) : (Txt.slice x none (some j)).cps.toList = x.cps.toList.take j.toNat := by
 have := StrLaws.sliceText_to (x := x) (j := j) ⟨h0, by rw [<- len_cps]; exact h1⟩
 show (StrLaws.sliceText x none (some j)).cps.toList = _
 rw [this]
 simp
theorem slice_from {x : Str} {j : Int} (h0 : 0 <= j) (h1 : j <= (x.length : Int)) : (Txt.slice x (some j) none).cps.toList = x.cps.toList.drop j.toNat := by
 have h1' : j <= (x.cps.toList.length : Int) := by rw [<- len_cps]; exact h1
 have := StrLaws.sliceText_from (x := x) (i := j) ⟨h0, h1'⟩
 show (StrLaws.sliceText x (some j) none).cps.toList = _
 rw [this]
 show (((x.cps.toList.drop j.toNat).take ((x.cps.toList.length : Int) - j).toNat).toArray).toList = _
 rw [List.toList_toArray, List.take_of_length_le (by rw [List.length_drop]; omega)]
theorem e0_cps : ("" : Str).cps.toList = [] := by decide +kernel
theorem lets_join : ∀ {zs : List Str}, (∀ z ∈ zs, lets z) -> lets (Txt.join "" zs) := fun {zs} h => by
 show lets (PySem.Builtin.Str.glued "" zs)
 rw [StrLaws.glued_eq_join]
 induction zs with
 | nil => exact fun c hc => by simp [Str.join, Str.empty] at hc
 | cons x zs ih =>
  cases zs with
  | nil => exact h x List.mem_cons_self
  | cons y zs =>
   show lets (x ++ "" ++ Str.join "" (y :: zs))
   exact lets_app (lets_app (h x List.mem_cons_self) (fun c hc => by rw [e0_cps] at hc; simp at hc)) (ih fun z hz => h z (List.mem_cons_of_mem _ hz))
section
variable {core lg : Str} {at' turn : Int}
theorem q_cps : ("q" : Str).cps.toList = [113] := by decide +kernel
end
end L2
namespace L2
open PySem PySem.SetTable
def advM (mask : Nat) (p : Probe) : Probe :=
 if p.more > 0 then { p with j := p.j + 1, more := p.more - 1 } else
 { p with j := (leap mask p.i p.perturb).1, more := runEnd mask (leap mask p.i p.perturb).1 - (leap mask p.i p.perturb).1, i := (leap mask p.i p.perturb).1, perturb := (leap mask p.i p.perturb).2 }
def runP (mask i perturb l : Nat) : Probe := { j := i + l, more := runEnd mask i - i - l, i := i, perturb := perturb, dummy := none }
def pAt (mask : Nat) (h : Int) : Nat -> Probe
 | 0 => runP mask (bits h % (mask + 1)) (bits h) 0
 | n + 1 => advM mask (pAt mask h n)
def sq (mask : Nat) (h : Int) (n : Nat) : Nat := (pAt mask h n).j
def rn (mask : Nat) (h : Int) : Nat -> Nat × Nat
 | 0 => (bits h % (mask + 1), bits h)
 | r + 1 => leap mask (rn mask h r).1 (rn mask h r).2
def nr (mask : Nat) (h : Int) : Nat -> Nat
 | 0 => 0
 | r + 1 => nr mask h r + (runEnd mask (rn mask h r).1 - (rn mask h r).1) + 1
end L2
namespace L2
open PySem
section
variable {prog : Program} {w : World}
variable {A : Around} {E : Value -> Shared -> Prop} {s : Shared}
end
end L2
namespace L2
open PySem PySem.Spec PyProof.Rows
section
variable {prog : Program} {w : World} {A : Around} {R : Result -> Shared -> Prop} {sa it t : Addr} {led : Bool}
structure StepIt (prog : Program) (w : World) (it t : Addr) (items : Array Value) (St : Nat -> Heap -> Prop) : Prop where
 item : ∀ {A : Around} {E : Value -> Shared -> Prop} {s : Shared} {i : Nat} {x : Value} {Q : Option Value -> Shared -> Prop}, St i s.heap -> items[i]? = some x -> (∀ h', St (i + 1) h' -> Heap.SameBut it s.heap h' -> Q (some x) { s with heap := h' }) -> wpAny (model prog w) A (pyNext (.ref it)) Q E s
 fin : ∀ {A : Around} {E : Value -> Shared -> Prop} {s : Shared} {i : Nat} {Q : Option Value -> Shared -> Prop}, A.handled = none -> St i s.heap -> items[i]? = none -> (∀ h', Heap.ExtBut it s.heap h' -> Q none { s with heap := h' }) -> wpAny (model prog w) A (pyNext (.ref it)) Q E s
 keep : ∀ {i : Nat} {h h' : Heap} {p : Addr}, it ≠ p -> t ≠ p -> St i h -> Heap.SameBut p h h' -> St i h'
 noseq : ∀ {i : Nat} {h : Heap} {o : Obj} {vs : Array Value} {n : Nat}, St i h -> h.get? it = some o -> o.data ≠ .seq vs n
theorem step_list {items : Array Value} (hit : t ≠ it) : StepIt prog w it t items fun i h => h.IsListIter it t i /\ h.IsList t items where
 item := fun st hx q => wpAny_pyNext_list_item st.1 st.2 hx fun h' s1 sb => q h' ⟨s1, let ⟨o, e, r⟩ := st.2; ⟨o, (sb.2 t hit).trans e, r⟩⟩ sb
 fin := fun hh st hx q => wpAny_pyNext_list_end hh st.1 st.2 hx q
 keep := fun h1 h2 st sb => ⟨st.1.at fun o e => (sb.2 it h1).trans e, let ⟨o, e, r⟩ := st.2; ⟨o, (sb.2 t h2).trans e, r⟩⟩
 noseq := fun st e q => by
  obtain ⟨⟨o, e', c, d⟩, _⟩ := st
  rw [e] at e'; cases e'
  rw [d] at q; cases q
theorem step_tuple {items : Array Value} (hit : t ≠ it) : StepIt prog w it t items fun i h => h.IsTupleIter it t i /\ h.IsTuple t items where
 item := fun st hx q => wpAny_pyNext_tuple_item st.1 st.2 hx fun h' s1 sb => q h' ⟨s1, st.2.at fun o e => (sb.2 t hit).trans e⟩ sb
 fin := fun hh st hx q => wpAny_pyNext_tuple_end hh st.1 st.2 hx q
 keep := fun h1 h2 st sb => ⟨st.1.at fun o e => (sb.2 it h1).trans e, st.2.at fun o e => (sb.2 t h2).trans e⟩
 noseq := fun st e q => by
  obtain ⟨⟨o, e', c, d⟩, _⟩ := st
  rw [e] at e'; cases e'
  rw [d] at q; cases q
theorem sub_lst_set : isSubtype (.type "list") (.type "set") = pure false := by rw [isSubtype_type]; kernel_rfl
theorem sub_lst_fro : isSubtype (.type "list") (.type "frozenset") = pure false := by rw [isSubtype_type]; kernel_rfl
end
section
variable {X : Cx} {pins : List (Addr × Obj)} {σ : St} {H : Hp} {s : Shared} {k : Nat}
end
end L2
namespace L2
open PySem PySem.Spec PyProof.Rows
section
variable {X : Cx} {tg : Expr}
end
end L2
namespace L2
open PySem PySem.Spec PyProof.Rows
section
variable {prog : Program} {w : World} {A : Around} {E : Value -> Shared -> Prop}
end
section
variable {X : Cx} {pos : Pos}
end
end L2
namespace L2
open PySem PySem.Spec PyProof.Rows
section
variable {prog : Program} {w : World} {Kt : Type} [DecidableEq Kt] {knd : KeyKind prog w Kt} {A : Around} {R : Result -> Shared -> Prop} {sa it t : Addr} {led : Bool}
theorem scan_loop {St : Nat -> Heap -> Prop} {items : Array Value} (S : StepIt prog w it t items St) (hh : A.handled = none) (hne : sa ≠ it) (hst : sa ≠ t) {ks : List Kt} (hks : ItemsAre knd ks items.toList) (hsc : ∀ v ∈ items.toList, v.scannable = true) (hsz : items.size < 1000) :
  ∀ (m i : Nat) (s : Shared) (l : List (Int × Value)) (dn : List Kt), m + i = items.size -> St i s.heap -> SetIs knd s.heap sa l led -> Unlike knd l -> Keys knd l dn -> l.length <= i -> (∀ k, k ∈ dn ↔ k ∈ ks.take i) ->
   (∀ h' tk l', (∀ b o, b ≠ sa -> b ≠ it -> s.heap.get? b = some o -> h'.get? b = some o) -> SetIs knd h' sa l' led -> Unlike knd l' -> Keys knd l' ks -> l'.length <= items.size -> R (.ok (.ret .none)) { s with heap := h', toks := tk }) ->
   codeAny (model prog w) A (.builtin "set.update.loop" ⟨[.ref sa, .ref it], []⟩) R s := by
 intro m
 induction m with
 | zero =>
  intro i s l dn hm hI hS hU hK hl hdn q
  refine codeAny_builtin ul_entry ?_
  rw [Around.under_plainId ul_plain _]
  refine (show wpAny _ A.in1 (pyNext (.ref it) >>= _) _ _ s from wpAny_bind (S.fin (show A.in1.handled = none from hh) hI (by rw [Array.getElem?_eq_none (by omega)]) fun h' hx => ?_))
  refine wpAny_pure (q h' s.toks l (fun b o h1 h2 e => hx b o h2 e) ?_ hU ?_ (by omega))
  ·obtain ⟨o, es, ep, tt, e, r⟩ := hS
   exact ⟨o, es, ep, tt, hx sa o hne e, r⟩
  ·intro k
   rw [hK k, hdn k, List.take_of_length_le]
   have := hks.length
   simp at this; omega
 | succ m ih =>
  intro i s l dn hm hI hS hU hK hl hdn q
  have hi : i < items.size := by omega
  have hx : items[i]? = some items[i] := Array.getElem?_eq_getElem hi
  obtain ⟨k, ek, hk⟩ := items_at (i := i) (x := items[i]) hks (by rw [Array.getElem?_toList]; exact hx)
  have hsx := hsc items[i] (by simp)
  have htk : ∀ k', k' ∈ ks.take (i + 1) ↔ k' ∈ ks.take i \/ k' = k := fun k' => by
   rw [List.take_succ, ek, List.mem_append]; simp
  refine codeAny_builtin ul_entry ?_
  rw [Around.under_plainId ul_plain _]
  refine (show wpAny _ A.in1 (pyNext (.ref it) >>= _) _ _ s from wpAny_bind (S.item hI hx fun h1 st1 sb1 => ?_))
  have hS1 : SetIs knd h1 sa l led := by
   obtain ⟨o, es, ep, tt, e, r⟩ := hS
   exact ⟨o, es, ep, tt, (sb1.2 sa hne).trans e, r⟩
  refine (show wpAny _ A.in1 (holding [items[i]] (setAdd sa items[i]) >>= _) _ _ _ from wpAny_bind (wpAny_holding ?_))
  unfold setAdd
  refine wpAny_holding (wpAny_bind (knd.pyHash hk ?_))
  refine add_set hk hsx (s := { s with heap := h1, toks := s.toks + 1 }) hS1 (by have : scanBound = 4096 := rfl; omega) (fun hex => ?_) (fun hno h2 l' sb2 hS2 hp => ?_)
  ·refine wpAny_pure ⟨plainId_quiet ul_plain _, ih (i + 1) _ l dn (by omega) st1 hS1 hU hK (by omega) (fun k' => ?_) fun h' tk l' hkeep a1 a2 a3 a4 => ?_⟩
   ·rw [htk k', <- hdn k']
    refine ⟨.inl, fun h => h.elim id fun e => ?_⟩
    rw [e]; exact (hK k).mp hex
   ·exact q h' tk l' (fun b o b1 b2 e => hkeep b o b1 b2 ((sb1.2 b b2).trans e)) a1 a2 a3 a4
  ·have hlen : l'.length = l.length + 1 := by rw [hp.length_eq, List.length_append]; rfl
   refine wpAny_pure ⟨plainId_quiet ul_plain _, ih (i + 1) _ l' (dn ++ [k]) (by omega) (S.keep hne.symm hst.symm st1 sb2) hS2 ((hU.add hk hno).perm hp) (fun k' => ?_) (by omega) (fun k' => ?_) fun h' tk l'' hkeep a1 a2 a3 a4 => ?_⟩
   ·rw [List.mem_append, <- hK k']
    constructor
    ·rintro ⟨e, he, hek⟩
     rcases List.mem_append.mp (hp.mem_iff.mp he) with he | he
     ·exact .inl ⟨e, he, hek⟩
     ·have e1 : e = (knd.hash k, items[i]) := by simpa using he
      subst e1
      exact .inr (List.mem_singleton.mpr (knd.inj _ k' k hek hk))
    ·rintro (⟨e, he, hek⟩ | he)
     ·exact ⟨e, hp.mem_iff.mpr (List.mem_append_left _ he), hek⟩
     ·have e1 : k' = k := by simpa using he
      subst e1
      exact ⟨(knd.hash k', items[i]), hp.mem_iff.mpr (List.mem_append_right _ (List.mem_singleton.mpr rfl)), hk⟩
   ·rw [htk k', <- hdn k', List.mem_append, List.mem_singleton]
   ·exact q h' tk l'' (fun b o b1 b2 e => hkeep b o b1 b2 ((sb2.2 b b1).trans ((sb1.2 b b2).trans e))) a1 a2 a3 a4
variable {E : Value -> Shared -> Prop} {s : Shared}
theorem scan_tuple {id : String} {items : Array Value} {ks : List Kt} {Q : Unit -> Shared -> Prop} (hh : A.handled = none) (ht : s.heap.IsTuple t items) (hks : ItemsAre knd ks items.toList) (hsc : ∀ v ∈ items.toList, v.scannable = true) (hsz : items.size < 1000)
  (hS : SetIs knd s.heap sa [] led) (hst : sa ≠ t)
  (h : ∀ h' tk l', (∀ b o, b ≠ sa -> s.heap.get? b = some o -> h'.get? b = some o) -> SetIs knd h' sa l' led -> Unlike knd l' -> Keys knd l' ks -> l'.length <= items.size -> Q () { s with heap := h', toks := tk }) :
  wpAny (model prog w) A (Builtin.Frozenset.updateFrom id sa (.ref t)) Q E s := by
 have T : s.TypeIs (.ref t) "tuple" := ht.typeIs
 have k1 := sub_tup_set
 have k2 := sub_tup_fro
 have k3 : (Value.type "tuple" == Value.type "dict") = false := by decide
 unfold Builtin.Frozenset.updateFrom
 generalize hPI : pyIter = PI
 wp_walk
 subst hPI
 refine wpAny_pyIter_tuple ht (show wpAny _ _ _ _ _ _ from wpAny_bind (wpAny_runValue ?_))
 have lt1 : t < s.heap.objs.size := by obtain ⟨o, e, _⟩ := ht; exact Heap.lt_size e
 have lt2 : sa < s.heap.objs.size := by obtain ⟨o, _, _, _, e, _⟩ := hS; exact Heap.lt_size e
 refine scan_loop (led := led) (step_tuple (items := items) (Nat.ne_of_lt lt1)) hh (Nat.ne_of_lt lt2) hst hks hsc hsz items.size 0 _ [] [] (by omega) ⟨⟨_, Heap.get?_push_size _ rfl, rfl, rfl⟩, ht.push _⟩ ?_ List.Pairwise.nil none_keys (Nat.zero_le _) (fun k => by simp) fun h' tk l' a1 a2 a3 a4 a5 => ?_
 ·obtain ⟨o, es, ep, tt, e, r⟩ := hS
  exact ⟨o, es, ep, tt, Heap.get?_push_of_some _ e, r⟩
 ·exact wpAny_pure (h h' tk l' (fun b o n e => a1 b o n (Nat.ne_of_lt (Heap.lt_size e)) (Heap.get?_push_of_some _ e)) a2 a3 a4 a5)
theorem scan_list {id : String} {items : Array Value} {ks : List Kt} {Q : Unit -> Shared -> Prop} (hh : A.handled = none) (ht : s.heap.IsList t items) (hks : ItemsAre knd ks items.toList) (hsc : ∀ v ∈ items.toList, v.scannable = true) (hsz : items.size < 1000)
  (hS : SetIs knd s.heap sa [] led) (hst : sa ≠ t)
  (h : ∀ h' tk l', (∀ b o, b ≠ sa -> s.heap.get? b = some o -> h'.get? b = some o) -> SetIs knd h' sa l' led -> Unlike knd l' -> Keys knd l' ks -> l'.length <= items.size -> Q () { s with heap := h', toks := tk }) :
  wpAny (model prog w) A (Builtin.Frozenset.updateFrom id sa (.ref t)) Q E s := by
 have T : s.TypeIs (.ref t) "list" := ht.typeIs
 have k1 := sub_lst_set
 have k2 := sub_lst_fro
 have k3 : (Value.type "list" == Value.type "dict") = false := by decide
 unfold Builtin.Frozenset.updateFrom
 generalize hPI : pyIter = PI
 wp_walk
 subst hPI
 refine wpAny_pyIter_list ht (show wpAny _ _ _ _ _ _ from wpAny_bind (wpAny_runValue ?_))
 have lt1 : t < s.heap.objs.size := by obtain ⟨o, e, _⟩ := ht; exact Heap.lt_size e
 have lt2 : sa < s.heap.objs.size := by obtain ⟨o, _, _, _, e, _⟩ := hS; exact Heap.lt_size e
 refine scan_loop (led := led) (step_list (items := items) (Nat.ne_of_lt lt1)) hh (Nat.ne_of_lt lt2) hst hks hsc hsz items.size 0 _ [] [] (by omega) ⟨⟨_, Heap.get?_push_size _ rfl, rfl, rfl⟩, let ⟨o, e, r⟩ := ht; ⟨o, Heap.get?_push_of_some _ e, r⟩⟩ ?_ List.Pairwise.nil none_keys (Nat.zero_le _) (fun k => by simp) fun h' tk l' a1 a2 a3 a4 a5 => ?_
 ·obtain ⟨o, es, ep, tt, e, r⟩ := hS
  exact ⟨o, es, ep, tt, Heap.get?_push_of_some _ e, r⟩
 ·exact wpAny_pure (h h' tk l' (fun b o n e => a1 b o n (Nat.ne_of_lt (Heap.lt_size e)) (Heap.get?_push_of_some _ e)) a2 a3 a4 a5)
end
section
variable {X : Cx} {pins : List (Addr × Obj)} {σ : St} {H : Hp} {s : Shared} {k : Nat}
theorem str_items {P : Program} {w : World} : ∀ {zs : List Str} {us : List Value}, Vals (zs.map V.str) us -> ItemsAre (mixKind P w) (zs.map Sum.inr) us /\ ∀ v ∈ us, v.scannable = true
 | [], _, r => by cases r; exact ⟨.nil, fun _ z => nomatch z⟩
 | z :: zs, _, r => by
  cases r with
  | cons r1 r2 =>
   obtain ⟨t, rfl⟩ := r1
   obtain ⟨a, b⟩ := str_items (P := P) (w := w) r2
   refine ⟨.cons (mixKind_str _ _ _ _) a, fun v hv => ?_⟩
   rcases List.mem_cons.mp hv with rfl | hv
   ·rfl
   ·exact b v hv
def valStr : Value -> Str
 | .str z _ => z
 | _ => Str.empty
theorem keys_str {P : Program} {w : World} {l : List (Int × Value)} {zs : List Str} (hel : ElemsOf (mixKind P w) l) (hU : Unlike (mixKind P w) l) (hK : Keys (mixKind P w) l (zs.map Sum.inr)) : (l.map fun e => valStr e.2).Nodup /\ ∀ z, z ∈ (l.map fun e => valStr e.2) ↔ z ∈ zs := by
 have key : ∀ e ∈ l, ∃ z t, e.2 = .str z t /\ z ∈ zs := fun e he => by
  obtain ⟨⟨k, hk, _⟩, _⟩ := hel e he
  obtain ⟨z, hz, rfl⟩ := List.mem_map.mp ((hK k).mp ⟨e, he, hk⟩)
  rcases keyIs_shape (show keyIs (Sum.inr z) e.2 = true from hk) with ⟨i, t, e1, e2⟩ | ⟨x, t, e1, e2⟩
  ·cases e1
  ·cases e1; exact ⟨z, t, e2, hz⟩
 refine ⟨?_, fun z => ⟨fun h => ?_, fun h => ?_⟩⟩
 ·rw [List.Nodup, List.pairwise_map]
  refine List.Pairwise.imp_of_mem (fun {e e'} he he' hu q => ?_) hU
  obtain ⟨z, t, e1, _⟩ := key e he
  obtain ⟨z', t', e2, _⟩ := key e' he'
  rw [e1, e2] at q
  have q' : z = z' := q
  subst q'
  have := hu (.inr z) (by rw [e1]; exact mixKind_str _ _ _ _)
  rw [e2, mixKind_str] at this
  cases this
 ·obtain ⟨e, he, rfl⟩ := List.mem_map.mp h
  obtain ⟨z, t, e1, hz⟩ := key e he
  rw [e1]; exact hz
 ·obtain ⟨e, he, hk⟩ := (hK (.inr z)).mpr (List.mem_map.mpr ⟨z, h, rfl⟩)
  obtain ⟨z', t, e1, _⟩ := key e he
  rcases keyIs_shape (show keyIs (Sum.inr z) e.2 = true from hk) with ⟨i, t, e3, e2⟩ | ⟨x, t, e3, e2⟩
  ·cases e3
  ·cases e3
   exact List.mem_map.mpr ⟨e, he, by rw [e2]; rfl⟩
def vLenSet (te : AE) : AE := fun τ μ R => te τ μ fun x μ1 => opt (items μ1 x) fun ys => opt (txts ys) fun zs => zs.length < 900 /\ ∀ us : List Str, us.Nodup -> (∀ z, z ∈ us ↔ z ∈ zs) -> R (.D (.int us.length)) μ1
theorem ve_lenset {e : Expr} {te : AE} {p p2 pos pos2 : Pos} (hr : Room k X.A) (hg : Gl X "len") (hm : X.mg "len" = none) (hg2 : Gl X "set") (hm2 : X.mg "set" = none) (he : VE X e te)
  (hs : starEach [.Call (.Name "set" p2) [e] [] pos2] X.env = [(false, eval (.Call (.Name "set" p2) [e] [] pos2) X.env)] := by rfl) (hs2 : starEach [e] X.env = [(false, eval e X.env)] := by rfl) :
  VE X (.Call (.Name "len" p) [.Call (.Name "set" p2) [e] [] pos2] [] pos) (vLenSet te) := by
 intro pins s σ H Q I zz126
 refine ex34 zz126 fun τ μ R hst hcn h hq => ?_
 refine wpAny_Call_Name_kw (ld_blt I hg hm boot_len (PyProof.Rows.callWith_builtin1 ?_ hs rfl))
 rw [hs]
 refine Calls.spliced_cons (wpAny_Call_Name_kw (ld_blt I hg2 hm2 boot_set (PyProof.Rows.callWith_type1 ?_ hs2 rfl)))
 rw [hs2]
 refine Calls.spliced_cons (wpAny_mono (he.run I hst hcn h) (fun u s1 zz127 => ex46 zz127 fun x v μ1 H1 I1 rv S1 c1 rx h1 => Calls.spliced_nil ?_) fun _ _ e => e)
 obtain ⟨ys, ey, h1⟩ := opt_e h1
 obtain ⟨zs, ez, hl, h1⟩ := opt_e h1
 obtain ⟨p0, ws, rfl, hk, rs⟩ := items_kind c1 rx ey
 cases rv
 have ew := txts_rel rs ez
 subst ew
 have hd : X.A.handled = none := hr.hd
 have fin : ∀ (h2 : Heap) (tk : Nat) (l : List (Int × Value)), (∀ b o, s1.heap.get? b = some o -> h2.get? b = some o) -> SetIs (mixKind X.prog X.w) h2 s1.heap.objs.size l (ledOf X.w) -> Unlike (mixKind X.prog X.w) l -> Keys (mixKind X.prog X.w) l (zs.map Sum.inr) -> l.length < 1000 ->
   wpAny (model X.prog X.w) X.A (call (.builtin "len") [.ref s1.heap.objs.size]) (EP X pins σ Q) X.xe { s1 with heap := h2, toks := tk } := fun h2 tk l k1 S2 U2 K2 L2 => by
  obtain ⟨o, es, ep, t, ho, hex, hdt, rfl, hel, hf, hT⟩ := S2
  obtain ⟨n1, n2⟩ := keys_str hel U2 K2
  rw [Array.length_toList] at L2
  refine call_len_set (s := { s1 with heap := h2, toks := tk }) ho hex hdt hf (by omega) ?_
  refine ⟨.int es.size, H1, I1.kept (t' := tk + 1 + 1) k1, ⟨_, rfl⟩, ?_⟩
  have := h1 _ n1 n2
  rw [List.length_map, Array.length_toList] at this
  exact hq _ _ _ _ S1 c1 ra_int this
 refine call_set_1 (s := s1) ?_
 rcases hk with ⟨_, hk⟩ | ⟨_, hk⟩
 ·obtain ⟨its, r', pl, hz⟩ := I1.list hk
  obtain ⟨i1, i2⟩ := str_items (P := X.prog) (w := X.w) r'
  have la : p0 < s1.heap.objs.size := by obtain ⟨o, e, _⟩ := pl.isList; exact Heap.lt_size e
  have hlen := r'.length
  rw [List.length_map] at hlen
  have hsz : its.toArray.size < 1000 := by simp only [List.size_toArray]; omega
  refine scan_list (s := { s1 with heap := s1.heap.push (newSetObj X.w) }) (show X.A.in1.in1.handled = none from hd) (let ⟨o, e, r⟩ := pl.isList; ⟨o, Heap.get?_push_of_some _ e, r⟩) (by simpa using i1) (by simpa using i2) hsz new_set_is (Ne.symm (Nat.ne_of_lt la)) fun h2 tk l k1 S2 U2 K2 L2 => Calls.spliced_nil ?_
  exact fin h2 tk l (fun b o e => k1 b o (Nat.ne_of_lt (Heap.lt_size e)) (Heap.get?_push_of_some _ e)) S2 U2 K2 (by omega)
 ·obtain ⟨its, r', pl, hz⟩ := I1.tuple hk
  obtain ⟨i1, i2⟩ := str_items (P := X.prog) (w := X.w) r'
  have la : p0 < s1.heap.objs.size := by obtain ⟨o, e, _⟩ := pl; exact Heap.lt_size e
  have hlen := r'.length
  rw [List.length_map] at hlen
  have hsz : its.toArray.size < 1000 := by simp only [List.size_toArray]; omega
  refine scan_tuple (s := { s1 with heap := s1.heap.push (newSetObj X.w) }) (show X.A.in1.in1.handled = none from hd) (Heap.IsTuple.push pl _) (by simpa using i1) (by simpa using i2) hsz new_set_is (Ne.symm (Nat.ne_of_lt la)) fun h2 tk l k1 S2 U2 K2 L2 => Calls.spliced_nil ?_
  exact fin h2 tk l (fun b o e => k1 b o (Nat.ne_of_lt (Heap.lt_size e)) (Heap.get?_push_of_some _ e)) S2 U2 K2 (by omega)
end
end L2
namespace L2
open PySem PySem.Spec PySem.Calls PyProof.Rows
theorem sib {vs : Array Value} {i j : Nat} {x : Value} (h : i ≠ j) : (vs.setIfInBounds i x)[j]? = vs[j]? := by rw [Array.getElem?_setIfInBounds, if_neg h]
theorem entry_unchain : entryFor table "proto.unchain" = some Builtin.«proto.unchain» := entryFor_of_tree (by kernel_rfl)
section
variable {prog : Program} {w : World} {A : Around} {E : Value -> Shared -> Prop} {s : Shared} {K : PySem.W.Frag} {env : Env}
theorem unchain_ok {x : Addr} {R : Result -> Shared -> Prop} (hR : R (.ok (.ret .none)) s) : ∀ (l : List Addr) (o : Addr) (ls : List Addr) (slow : Addr) (tg : Bool), Ctxs s.heap o l -> Ctxs s.heap slow ls -> l.length <= ls.length -> x ∉ l ->
  codeAny (model prog w) A (.builtin "proto.unchain" ⟨[.ref x, .ref o, .ref slow, .bool tg], []⟩) R s
 | [], o, ls, slow, tg, c, cs, hl, hx => by
  cases c with
  | nil a b c =>
   refine codeAny_builtin entry_unchain ?_
   unfold Builtin.«proto.unchain»
   dsimp only
   refine wpAny_bind (wpAny_field a b c ?_)
   rw [if_pos (by decide)]
   exact wpAny_pure hR
 | E' :: l, o, ls, slow, tg, c, cs, hl, hx => by
  cases c with
  | cons a b c t =>
   refine codeAny_builtin entry_unchain ?_
   unfold Builtin.«proto.unchain»
   dsimp only
   refine wpAny_bind (wpAny_field a b c ?_)
   rw [if_neg (by simp)]
   have hne : E' ≠ x := fun z => hx (z ▸ List.mem_cons_self ..)
   rw [if_neg (by simpa using hne)]
   by_cases hs : E' = slow
   ·rw [if_pos (by simpa using hs)]
    exact wpAny_bind (wpAny_rule (wpAny_pure hR))
   ·rw [if_neg (by simpa using hs)]
    have hx' : x ∉ l := fun z => hx (List.mem_cons_of_mem _ z)
    cases tg with
    | false =>
     refine wpAny_bind (wpAny_pure (wpAny_pure ⟨?_, unchain_ok hR l E' ls slow true t cs (by simp at hl; omega) hx'⟩))
     exact Code.quiet_builtin _ (by decide +kernel)
    | true =>
     cases cs with
     | nil => simp at hl
     | cons a2 b2 c2 t2 =>
      refine wpAny_bind (wpAny_field a2 b2 c2 (wpAny_pure ⟨?_, unchain_ok hR l E' _ _ false t t2 (by simp at hl; omega) hx'⟩))
      exact Code.quiet_builtin _ (by decide +kernel)
theorem raiseNew_ok {α : Type} {x e : Addr} {l : List Addr} {o : Obj} {vs : Array Value} {Q : α -> Shared -> Prop} (hh : A.handled = some (.ref e)) (hne : e ≠ x) (hx : s.heap.get? x = some o) (hd : o.data = .fields vs) (h2 : 2 < vs.size) (c : Ctxs s.heap e l) (hl : x ∉ l)
  (h : E (.ref x) { s with heap := s.heap.update x (Obj.mapFields (·.setIfInBounds 2 (.ref e))) }) : wpAny (model prog w) A (raiseNew (.ref x) : Sem α) Q E s := by
 unfold raiseNew
 refine wpAny_bind (wpAny_handled ?_)
 rw [hh]
 dsimp only
 rw [if_pos (by simpa using hne)]
 refine wpAny_bind (wpAny_holding (wpAny_runValue (unchain_ok ?_ l e l e false c c (Nat.le_refl _) hl)))
 refine wpAny_bind (wpAny_setField (i := 2) (x := .ref e) hx hd h2 (wpAny_throw h))
theorem raise_from {x : Sem Value} {k : Nat} {p pos : Pos} {Q : Flow -> Shared -> Prop}
  (h : wpAny (model prog w) A x (fun v s1 => ∃ a C d vs e l, v = .ref a /\ K.In s1.heap /\ s1.heap.get? a = some ⟨.ref C, d, .fields vs, #[]⟩ /\ vs.size = 6 /\ vs[1]? = some .none /\ xcIn K C = true /\ PySem.W.mroIn K C (.type "BaseException") = some true /\
   A.handled = some (.ref e) /\ e ≠ a /\ Ctxs s1.heap e l /\ a ∉ l /\
   ∀ h' vs', h'.get? a = some ⟨.ref C, d, .fields vs', #[]⟩ -> vs'.size = 6 -> vs'[1]? = some .none -> vs'[2]? = some (.ref e) -> (∀ b o, b ≠ a -> s1.heap.get? b = some o -> h'.get? b = some o) -> E (.ref a) { s1 with heap := h' }) E s) :
  wpAny (model prog w) A (raiseStmt env (some x) (some (do let v <- eval (.Constant .none k p) env; standAt pos; pure v))) Q E s := by
 unfold raiseStmt
 refine wpAny_bind (wpAny_mono h (fun v s1 h1 => ?_) fun _ _ z => z)
 obtain ⟨a, C, d, vs, e, l, rfl, X, he, h6, h1, hc, hm, hh, hne, cx, hl, hE⟩ := h1
 obtain ⟨nm, qn, N, bs, bm, hdct, sn, sub, ab, col, dd, k0, k1, k2, k3, k5, hC, _⟩ := xc_of X hc
 obtain ⟨hp, g, dr, tk, os⟩ := s1
 dsimp only at X he hC cx hE
 have Lt : PySem.W.Looks (model prog w) hp (typeOf (.ref a)) (.ref C) := (PySem.W.Looks.ld he).andThen .now
 have Li : PySem.W.Looks (model prog w) hp (isType (.ref a)) false := (PySem.W.Looks.ld he).andThen .now
 have Ls : PySem.W.Looks (model prog w) hp (isInstance (.ref a) (.type "BaseException")) true := Lt.andThen (PySem.W.looks_mroIn X hm)
 refine wpAny_bind (wpAny_holding (wpAny_bind (wpAny_Constant_none (wpAny_bind (wpAny_standAt (wpAny_pure ?_))))))
 refine wpAny_bind (wpAny_pure ?_)
 refine wpAny_bind (wpAny_holding ?_)
 unfold excFromValue isExcClass
 refine wpAny_bind (wpAny_bind (Li.at (wpAny_pure ?_)))
 rw [if_neg (by decide)]
 refine wpAny_bind (Ls.at ?_)
 rw [if_pos rfl]
 refine wpAny_pure ?_
 dsimp only
 rw [if_pos (by decide)]
 refine wpAny_bind (wpAny_pure ?_)
 refine wpAny_bind (wpAny_setField he rfl (by rw [h6]; decide) ?_)
 have e1 := Heap.get?_update_self (Obj.mapFields (·.setIfInBounds 3 Value.none)) he rfl
 have o1 : ∀ b o, b ≠ a -> hp.get? b = some o -> (hp.update a (Obj.mapFields (·.setIfInBounds 3 Value.none))).get? b = some o := fun b o hb q => by rw [Heap.get?_update_other _ _ (Ne.symm hb)]; exact q
 dsimp only
 generalize hp.update a (Obj.mapFields (·.setIfInBounds 3 Value.none)) = hp1 at e1 o1 ⊢
 refine wpAny_bind (wpAny_setField e1 rfl (by simp [h6]) ?_)
 have e2 := Heap.get?_update_self (Obj.mapFields (·.setIfInBounds 4 (Value.bool true))) e1 rfl
 have o2 : ∀ b o, b ≠ a -> hp1.get? b = some o -> (hp1.update a (Obj.mapFields (·.setIfInBounds 4 (Value.bool true)))).get? b = some o := fun b o hb q => by rw [Heap.get?_update_other _ _ (Ne.symm hb)]; exact q
 dsimp only
 generalize hp1.update a (Obj.mapFields (·.setIfInBounds 4 (Value.bool true))) = hp2 at e2 o2 ⊢
 have o3 : ∀ b o, b ≠ a -> hp.get? b = some o -> hp2.get? b = some o := fun b o hb q => o2 b o hb (o1 b o hb q)
 have hCa : C ≠ a := by
  rintro rfl
  rw [he] at hC
  cases hC
 have hC2 := o3 _ _ hCa hC
 have Lt2 : PySem.W.Looks (model prog w) hp2 (typeOf (.ref a)) (.ref C) := (PySem.W.Looks.ld e2).andThen .now
 have Lc2 : PySem.W.Looks (model prog w) hp2 (typeOf (.ref C)) (.type "type") := (PySem.W.Looks.ld hC2).andThen .now
 have Li2 : PySem.W.Looks (model prog w) hp2 (isType (.ref a)) false := (PySem.W.Looks.ld e2).andThen .now
 refine wpAny_bind (Li2.at ?_)
 rw [if_neg (by decide)]
 unfold raisedInstance
 refine wpAny_bind (wpAny_bind (Lt2.at (wpAny_bind (Lc2.at ?_))))
 rw [if_pos (by decide)]
 refine wpAny_pure ?_
 unfold setFlight
 refine wpAny_bind (wpAny_bind (wpAny_field e2 rfl (x := .none) (by rw [sib (by decide), sib (by decide)]; exact h1) ?_))
 rw [if_neg (by decide)]
 have k2 : ∀ b o (vs : Array Value), hp.get? b = some o -> o.data = .fields vs -> ∃ o' vs', hp2.get? b = some o' /\ o'.data = .fields vs' /\ vs'[2]? = vs[2]? := fun b o vs' q dq => by
  by_cases hb : b = a
  ·subst hb
   rw [he] at q; cases q
   cases dq
   exact ⟨_, _, e2, rfl, by rw [Array.getElem?_setIfInBounds, if_neg (by decide), Array.getElem?_setIfInBounds, if_neg (by decide)]⟩
  ·exact ⟨o, vs', o3 b o hb q, dq, rfl⟩
 refine wpAny_pure (raiseNew_ok hh hne e2 rfl (by simp [h6]) (cx.keep k2) hl ?_)
 have e3 := Heap.get?_update_self (Obj.mapFields (·.setIfInBounds 2 (Value.ref e))) e2 rfl
 refine hE _ _ e3 (by simp [h6]) (by rw [sib (by decide), sib (by decide), sib (by decide)]; exact h1) (by simp [h6]) fun b o hb q => ?_
 rw [Heap.get?_update_other _ _ (Ne.symm hb)]; exact o3 b o hb q
end
theorem Ctxs.lt {h : Heap} {e : Addr} {l : List Addr} (c : Ctxs h e l) : ∀ m ∈ e :: l, m < h.objs.size := by
 induction c with
 | nil a b c => intro m hm; simp at hm; subst hm; exact Heap.lt_size a
 | cons a b c t ih =>
  intro m hm
  rcases List.mem_cons.mp hm with rfl | hm
  ·exact Heap.lt_size a
  ·exact ih m hm
structure LeftFly (fs : List Addr) (e : Addr) (cls : Value) (d : Option Addr) (L : Addr) (h h' : Heap) : Prop where
 size : h.objs.size <= h'.objs.size
 keep : ∀ b o, b ∉ fs -> b ≠ e -> h.get? b = some o -> h'.get? b = some o
 slot : ∀ b o, b ∈ fs -> h.get? b = some o -> ∃ sl, h'.get? b = some { o with slots := sl }
 rc : ∃ vs T oT ts, h'.get? e = some ⟨cls, d, .fields vs, #[]⟩ /\ vs.size = 6 /\ vs[1]? = some (.ref T) /\ T ≠ e /\ h'.get? T = some oT /\ oT.data = .fields ts /\ ts[3]? = some (rawInt L) /\ h.get? T = none /\ ∃ l, Ctxs h' e l
section
variable {M : Model} {A A1 : Around} {E E1 : Value -> Shared -> Prop} {s : Shared} {base : Heap} {env : Env} {outer : List Env} {L e : Addr} {cls : Value} {d : Option Addr} {vs : Array Value}
theorem note_fly {Q : Unit -> Shared -> Prop} (hfr : A.frames = some (env :: outer)) (hl : s.heap.FunFrames base (env :: outer)) (hf : env.frame = some L) (he : s.heap.get? e = some ⟨cls, d, .fields vs, #[]⟩) (h6 : vs.size = 6) (hv : vs[1]? = some .none) (hcx : ∃ l, Ctxs s.heap e l)
  (h : ∀ h', LeftFly (frs (env :: outer)) e cls d L s.heap h' -> Q () { s with heap := h' }) : wpAny M A (noteFrame (.ref e) env) Q E s := by
 have hef : e ∉ frs (env :: outer) := fun hm => by
  obtain ⟨_, o, q, nf⟩ := hl.mem hm
  rw [he] at q; cases q
  exact nf vs rfl
 unfold noteFrame
 simp only [hf]
 refine wpAny_bind (wpAny_field he rfl hv ?_)
 rw [if_neg (by decide)]
 refine wpAny_bind (wpAny_frameOf_fun hfr hl hf fun h1 S1 => ?_)
 refine wpAny_bind (wpAny_entryPlaceOf fun pl ip => ?_)
 unfold EntryCells.newEntry newFields
 have he1 : h1.get? e = some ⟨cls, d, .fields vs, #[]⟩ := (S1.2.1 e hef).trans he
 have hT : h1.objs.size ≠ e := Nat.ne_of_gt (Heap.lt_size he1)
 refine wpAny_bind (wpAny_newObj_type ?_ (ip.sizeOk5 _ _ _ _ _))
 generalize hts : ([Value.none, Value.ref L, Value.none, rawInt L, Value.none] ++ if pl.isEmpty = true then List.replicate 6 Value.none else pl).toArray = ts
 have hts3 : ts[3]? = some (rawInt L) := by rw [<- hts]; simp
 have he2 := Heap.get?_push_of_some (h := h1) { cls := .type "traceback", dict := none, data := .fields ts } he1
 refine wpAny_setField he2 rfl (by rw [h6]; decide) (h _ ?_)
 have hd3 := Heap.get?_update_self (Obj.mapFields (·.setIfInBounds 1 (Value.ref h1.objs.size))) he2 rfl
 have hT3 : ((h1.push { cls := .type "traceback", dict := none, data := .fields ts }).update e (Obj.mapFields (·.setIfInBounds 1 (Value.ref h1.objs.size)))).get? h1.objs.size = some { cls := .type "traceback", dict := none, data := .fields ts } :=
  (Heap.get?_update_other _ _ hT.symm).trans (Heap.get?_push_size h1 rfl)
 dsimp only
 generalize hh3 : (h1.push { cls := .type "traceback", dict := none, data := .fields ts }).update e (Obj.mapFields (·.setIfInBounds 1 (Value.ref h1.objs.size))) = h3 at hd3 hT3
 have oth : ∀ b o, b ≠ e -> h1.get? b = some o -> h3.get? b = some o := fun b o hb q => by
  rw [<- hh3, Heap.get?_update_other _ _ (Ne.symm hb)]
  exact Heap.get?_push_of_some _ q
 refine ⟨?_, fun b o hb hbe q => oth b o hbe ((S1.2.1 b hb).trans q), fun b o hb q => ?_, ⟨_, h1.objs.size, _, ts, hd3, by simp [h6], by simp [h6], hT, hT3, rfl, hts3, Heap.get?_none_of_le (by rw [S1.1]; exact Nat.le_refl _), hcx.imp fun l c => c.keep fun b o vs' q dq => ?_⟩⟩
 ·rw [<- hh3, Heap.size_update, Heap.size_push, S1.1]; exact Nat.le_succ _
 ·obtain ⟨sl, q1⟩ := S1.2.2 b o q
  exact ⟨sl, oth b _ (fun z => hef (z ▸ hb)) q1⟩
 ·by_cases hbe : b = e
  ·subst hbe
   rw [he] at q; cases q
   cases dq
   exact ⟨_, _, hd3, rfl, by rw [Array.getElem?_setIfInBounds, if_neg (by decide)]⟩
  ·by_cases hb : b ∈ frs (env :: outer)
   ·obtain ⟨sl, q1⟩ := S1.2.2 b o q
    exact ⟨_, vs', oth b _ hbe q1, dq, rfl⟩
   ·exact ⟨o, vs', oth b o hbe ((S1.2.1 b hb).trans q), dq, rfl⟩
theorem came_fly {fs : List Addr} {h' : Heap} (hf : env.frame = some L) (F : LeftFly fs e cls d L s.heap h') (h : ∀ h', LeftFly fs e cls d L s.heap h' -> E (.ref e) { s with heap := h' }) : cameBackBy M A env E (.ref e) { s with heap := h' } := by
 obtain ⟨vs, T, oT, ts, a1, a2, a3, a4, a5, a6, a7, a8, l, a9⟩ := F.rc
 unfold cameBackBy
 refine wpAny_bind (wpAny_field a1 rfl a3 ?_)
 rw [if_neg (by simp)]
 unfold setFlight
 refine wpAny_bind (wpAny_field a1 rfl a3 ?_)
 rw [if_pos (by simp)]
 have h3s : 3 < ts.size := (Array.getElem?_eq_some_iff.mp a7).1
 refine wpAny_setField a5 a6 h3s (h _ ?_)
 have eT := Heap.get?_update_self (Obj.mapFields (·.setIfInBounds 3 (env.frame.elim Value.none fun f => rawInt f))) a5 (Obj.isFreed_of_fields (Obj.data_mapFields a6 _))
 have oth : ∀ b, T ≠ b -> (h'.update T (Obj.mapFields (·.setIfInBounds 3 (env.frame.elim Value.none fun f => rawInt f)))).get? b = h'.get? b := fun b hb => Heap.get?_update_other _ _ hb
 have new : ∀ b o, s.heap.get? b = some o -> T ≠ b := fun b o q z => by rw [<- z, a8] at q; cases q
 refine ⟨by rw [Heap.size_update]; exact F.size, fun b o hb hbe q => (oth b (new b o q)).trans (F.keep b o hb hbe q), fun b o hb q => ?_, vs, T, _, _, (oth e a4).trans a1, a2, a3, a4, eT, Obj.data_mapFields a6 _, ?_, a8, l, a9.keep fun b o vs' q dq => ?_⟩
 ·obtain ⟨sl, q1⟩ := F.slot b o hb q
  exact ⟨sl, (oth b (new b o q)).trans q1⟩
 ·rw [Array.getElem?_setIfInBounds, if_pos rfl, if_pos h3s, hf]; rfl
 ·by_cases hb : T = b
  ·subst hb
   rw [a5] at q; cases q
   rw [a6] at dq; cases dq
   exact ⟨_, _, eT, Obj.data_mapFields a6 _, by rw [Array.getElem?_setIfInBounds, if_neg (by decide)]⟩
  ·exact ⟨o, vs', (oth b hb).trans q, dq, rfl⟩
theorem leave_fly {fs : List Addr} {h' : Heap} {Q : Unit -> Shared -> Prop} (hf : env.frame = some L) (F : LeftFly fs e cls d L s.heap h') (h : ∀ h', LeftBy fs e cls d s.heap h' -> Q () { s with heap := h' }) : wpAny M A («leaving» env (.ref e)) Q E { s with heap := h' } := by
 obtain ⟨vs, T, oT, ts, a1, a2, a3, a4, a5, a6, a7, a8, l, a9⟩ := F.rc
 unfold «leaving» noteFrame
 simp only [hf]
 refine wpAny_bind (wpAny_bind (wpAny_field a1 rfl a3 ?_))
 rw [if_pos (by simp)]
 refine wpAny_bind (wpAny_field a5 a6 a7 ?_)
 rw [if_pos (show (rawInt L == rawInt L) = true from by first | (simp; done) | exact beq_self_eq_true _)]
 refine wpAny_pure ?_
 unfold setFlight
 refine wpAny_bind (wpAny_field a1 rfl a3 ?_)
 rw [if_pos (by simp)]
 have h3s : 3 < ts.size := (Array.getElem?_eq_some_iff.mp a7).1
 refine wpAny_setField a5 a6 h3s (h _ ?_)
 have eT := Heap.get?_update_self (Obj.mapFields (·.setIfInBounds 3 ((none : Option Addr).elim Value.none fun f => rawInt f))) a5 (Obj.isFreed_of_fields (Obj.data_mapFields a6 _))
 have oth : ∀ b, T ≠ b -> (h'.update T (Obj.mapFields (·.setIfInBounds 3 ((none : Option Addr).elim Value.none fun f => rawInt f)))).get? b = h'.get? b := fun b hb => Heap.get?_update_other _ _ hb
 have new : ∀ b o, s.heap.get? b = some o -> T ≠ b := fun b o q z => by rw [<- z, a8] at q; cases q
 refine ⟨by rw [Heap.size_update]; exact F.size, fun b o hb hbe q => (oth b (new b o q)).trans (F.keep b o hb hbe q), fun b o hb q => ?_, ⟨vs, ⟨(oth e a4).trans a1, a2, .inr ⟨T, _, _, a3, a4, eT, Obj.data_mapFields a6 _, ?_⟩, l, a9.keep fun b o vs' q dq => ?_⟩, by rw [a3]; intro z; cases z⟩, T, fun vs' R => ?_, a8⟩
 ·obtain ⟨sl, q1⟩ := F.slot b o hb q
  exact ⟨sl, (oth b (new b o q)).trans q1⟩
 ·rw [Array.getElem?_setIfInBounds, if_pos rfl, if_pos h3s]; rfl
 ·by_cases hb : T = b
  ·subst hb
   rw [a5] at q; cases q
   rw [a6] at dq; cases dq
   exact ⟨_, _, eT, Obj.data_mapFields a6 _, by rw [Array.getElem?_setIfInBounds, if_neg (by decide)]⟩
  ·exact ⟨o, vs', (oth b hb).trans q, dq, rfl⟩
 ·have := R.at_.symm.trans ((oth e a4).trans a1)
  cases this
  exact a3
end
def XF (X : Cx) (EX : AX) : Prop := ∀ (pins : List (Addr × Obj)) (σ : St) (H : Hp) (s : Shared) (a C : Addr) (d : Option Addr) (h' : Heap), Inv X pins σ H s -> H a = some (XR a C d) -> LeftFly (frs X.stack) a (.ref C) d X.env.locals s.heap h' -> EK X.K EX (.ref C) (some a) H -> X.xe (.ref a) { s with heap := h' }
theorem xf_cx {P : Program} {w : World} {K : PySem.W.Frag} {mg : Str -> Option Value} {base : Heap} {N : List Str} {qual : Str} {scope : Scope} {f : Addr} {cd : Value} {A : Around} {outer : List Env} {s : Shared} {H : Hp} {E : XK} {EX : AX} (hE : ∀ c a H', EK K EX c a H' -> E c a H') :
  XF (cxOf (CX1 P w) P w K mg base N qual scope f cd A outer s H E) EX := by
 intro pins σ H1 s1 a C d h' I hx F hq
 show wpAny (model P w) _ («leaving» (envOfC qual scope s.heap.objs.size f cd) (.ref a)) _ _ { s1 with heap := h' }
 refine leave_fly rfl F fun h'' L => ?_
 have J := I.left hx L
 obtain ⟨vs', R', _⟩ := L.rc
 exact ⟨a, C, d, H1, rfl, J.os, J.bare, J.base, J.hok, ⟨vs', R'⟩, hx, hE _ _ _ hq⟩
theorem XF.up {X : Cx} {EX : AX} (h : XF X EX) : XF X (upX EX) := by
 intro pins σ H s a C d h' I q F z
 refine h pins σ H s a C d h' I q F ?_
 obtain ⟨a', C', fs, _, d', e1, e2, e3, e4, e5, ν, hν, e6⟩ := z
 exact ⟨a', C', fs, ν, d', e1, e2, e3, e4, e5.sub hν, e6⟩
structure XNo (K : PySem.W.Frag) (mg : Str -> Option Value) (y : Str) (C : Addr) : Prop where
 xc : xcIn K C = true
 ini : PySem.W.findIn K (.ref C) "__init__" = some (some (.builtin "ValueError.__init__"))
 kp : PySem.W.keepIn K (.ref C) = true
 mr : PySem.W.mroIn K C (.type "BaseException") = some true
 at_ : mg y = some (.ref C)
def vTryR (K : PySem.W.Frag) (Dc Ec : Addr) (EX : AX) (tb : AX -> AS) : AS := fun k r b c τ μ =>
 tb (fun C _ μ' => PySem.W.mroIn K C (.ref Dc) = some true /\ EX Ec [] μ') k r b c τ μ
def vRaise0 (EX : AX) (C : Addr) : AS := fun _ _ _ _ _ μ => EX C [] μ
section
variable {X : Cx} {y : Str} {p pos pos' : Pos} {C : Addr} {EX : AX}
theorem vs_raise0 (F : XNo X.K X.mg y C) (hc : X.calm = true) (hx : XA X EX) (hg : Gl X y) (hdb : (y == ("__debug__" : Str)) = false := by decide) : VS X (.Raise (some (.Call (.Name y p) [] [] pos)) none pos') (vRaise0 EX C) := by
 refine PS.imp (ps_raise hc hx (pe_xmake0 F.xc F.ini F.kp hg F.at_ hdb)) fun D σ H zz122 => ex64 zz122 fun τ μ nk nr nb nc hs hc h hq => ?_
 intro a tp ha
 refine ⟨a, C, tp, none, rfl, upd_same, F.xc, F.mr, ?_⟩
 have kk : ∀ b o, H b = some o -> upd (upd H a (XO a C tp none)) a (XR a C none) b = some o := fun b o q => by
  have hb : b ≠ a := by rintro rfl; rw [ha] at q; cases q
  rw [upd_ne hb, upd_ne hb]
  exact q
 exact ⟨a, C, [], μ, none, rfl, rfl, upd_same, rfl, hc.same kk, h⟩
theorem vs0_tryR {body : List Stmt} {x : Str} {k : Nat} {p1 p2 p3 p4 p5 p6 : Pos} {Dc Ec : Addr} {tb : AX -> AS} (hb : ∀ xe pn EX, XA (X.taking xe pn) EX -> VSs (X.taking xe pn) body (tb EX))
  (hg : Gl X x) (hm : X.mg x = some (.ref Dc)) (hD : xcIn X.K Dc = true) (hB : PySem.W.mroIn X.K Dc (.type "BaseException") = some true) (F : XNo X.K X.mg y Ec) (hg2 : Gl X y) (hx : XF X EX) (hst : X.stack = X.env :: X.outer) (hfr : X.env.frame = some X.env.locals)
  (hdb : (x == ("__debug__" : Str)) = false := by decide) (hdb2 : (y == ("__debug__" : Str)) = false := by decide) :
  VS0 X (.Try body [.ExceptHandler (some (.Name x p1)) none [.Raise (some (.Call (.Name y p2) [] [] p3)) (some (.Constant .none k p4)) p5] p6] [] [] pos) (vTryR X.K Dc Ec EX tb) := by
 intro pins s σ H D I zz123
 refine ex64 zz123 fun τ μ nk nr nb nc hs hc h hq => ?_
 refine wpAny_Try_except ?_
 have ok := I.ok
 generalize hxe : (fun (e : Value) (s₁ : Shared) => wpAny (model X.prog X.w) X.A (noteFrame e X.env) (fun _ s₂ => wpAny (model X.prog X.w) X.A (setFlight e none) (fun _ s₃ =>
  wpAny (model X.prog X.w) X.A (handleBy e X.env [.ExceptHandler (some (.Name x p1)) none [.Raise (some (.Call (.Name y p2) [] [] p3)) (some (.Constant .none k p4)) p5] p6]) (SP X pins D) X.xe s₃) X.xe s₂) X.xe s₁) = xe
 have hXA : XA (X.taking xe (X.pn ++ pins)) (fun C _ μ' => PySem.W.mroIn X.K C (.ref Dc) = some true /\ EX Ec [] μ') := by
  rintro pins' σ' H' s' a C d vs I1 hx1 R ⟨a', C', fs, μ', d', ec, ea, hx', hf, hc', hmro, hth⟩
  cases ec; cases ea
  show xe (.ref a) s'
  rw [<- hxe]
  have J0 : Inv X pins σ' H' s' := I1.untake ok
  refine leave_two (base := X.base) (outer := X.outer) (L := X.env.locals) (by rw [<- hst]; exact ok.frames) (by rw [<- hst]; exact J0.stack) hfr R fun h' L => ?_
  have J := J0.left hx1 (by rw [hst]; exact L)
  obtain ⟨vs', R', _⟩ := L.rc
  refine wpAny_handleBy_cons (codeAny_handlers_test ?_) (by intro q; cases q)
  refine ld_glob (X := X.suite a) J.suite hg hm ?_ hdb
  refine matches_own (K := X.K) J.kIn hD R'.at_ hB hmro ?_
  refine codeAny_handlers_suite ?_
  refine flight_ok R' fun h2 k2 => ?_
  have J2 : Inv X pins σ' H' { s' with heap := h2 } := J.kept (t' := s'.toks) k2
  obtain ⟨l, c2⟩ := R'.cx
  have c2 := c2.same k2
  refine wpAny_execs_cons ?_
  rw [arm_exec_Raise]
  refine wpAny_bind (wpAny_standAt ?_)
  refine raise_from (K := X.K) (x := do let v <- eval (.Call (.Name y p2) [] [] p3) X.env; standAt p5; pure v) (wpAny_bind ?_)
  refine wpAny_Call_Name_kw (ld_glob (X := X.suite a) J2.suite hg2 F.at_ ?_ hdb2)
  refine PySem.W.callWith_K0 J2.kIn F.kp ?_
  refine xmake0 (rest := []) J2.kIn F.xc F.ini (fun h3 k3 g3 => ?_) (by decide)
  refine wpAny_bind (wpAny_standAt (wpAny_pure ?_))
  have lt := c2.lt
  have ne : a ≠ h2.objs.size + 1 := Nat.ne_of_lt (Nat.lt_succ_of_lt (lt a (List.mem_cons_self ..)))
  have nl : h2.objs.size + 1 ∉ l := fun z => Nat.not_lt_of_le (Nat.le_succ _) (lt _ (List.mem_cons_of_mem _ z))
  refine ⟨h2.objs.size + 1, Ec, none, _, a, l, rfl, fun b o q => k3 b o (J2.kIn b o q), g3, rfl, rfl, F.xc, F.mr, rfl, ne, c2.same k3, nl, fun h4 vs4 g4 s4 n4 x4 k4 => ?_⟩
  have kk : ∀ b o, h2.get? b = some o -> h4.get? b = some o := fun b o q => k4 b o (Nat.ne_of_lt (Nat.lt_succ_of_lt (Heap.lt_size q))) (k3 b o q)
  have J5 : Inv X pins σ' (upd H' (h2.objs.size + 1) (XR (h2.objs.size + 1) Ec none)) { s' with heap := h4 } := J2.laid (t' := s'.toks) kk (Nat.le_succ _) (xr_ok g4 s4)
  have fresh : H' (h2.objs.size + 1) = none := J2.hok.fresh (Nat.le_succ _)
  refine note_fly (base := X.base) (outer := X.outer) (L := X.env.locals) (by rw [<- hst]; exact ok.frames) (by rw [<- hst]; exact J5.stack) hfr g4 s4 n4 ⟨_, .cons g4 rfl x4 (c2.same kk)⟩ fun h5 F5 => ?_
  refine came_fly hfr F5 fun h6 F6 => ?_
  refine hx pins σ' _ _ _ Ec none h6 J5 upd_same (by rw [hst]; exact F6) ⟨_, Ec, [], μ', none, rfl, rfl, upd_same, rfl, hc'.same fun b o q => ?_, hth⟩
  rw [upd_ne (fun z => by rw [z, fresh] at q; cases q)]; exact q
 refine wpAny_mono (hb xe (X.pn ++ pins) _ hXA [] s σ H D I.take ⟨τ, μ, _, _, _, _, hs, hc, h, hq.kp I.kp0⟩) (fun fl s1 hf => ?_) (fun e s1 he => ?_)
 ·cases fl with
  | next =>
   obtain ⟨σ', H', I1, q⟩ := hf
   exact wpAny_execs_nil ⟨σ', H', I1.untake ok, q⟩
  | brk =>
   obtain ⟨σ', H', I1, q⟩ := hf
   exact ⟨σ', H', I1.untake ok, q⟩
  | cont =>
   obtain ⟨σ', H', I1, q⟩ := hf
   exact ⟨σ', H', I1.untake ok, q⟩
  | ret u =>
   obtain ⟨v, σ', H', I1, rv, q⟩ := hf
   exact ⟨v, σ', H', I1.untake ok, rv, q⟩
 ·exact he
end
section
variable {P : Program} {w : World} {K : PySem.W.Frag} {mg : Str -> Option Value} {base : Heap}
theorem Fun.vokX0 {x qual : Str} {st : Stmt} {f : Addr} {fd : FuncData} {N ps : List Str} {k : Nat} {sp : ASpX} (F : Fun K x qual st f fd) (S : FnScope N ps (defScope st))
  (hbody : ∀ (cdv : Value) (A : Around) (outer : List Env) (s : Shared) (H : Hp) (E : XK) (EX : AX), Room k (A.deeper (envOfC qual (defScope st) s.heap.objs.size f cdv)) -> XF (cxOf (CX1 P w) P w K mg base N qual (defScope st) f cdv A outer s H E) (upX EX) ->
   ∃ t, VSs0 (cxOf (CX1 P w) P w K mg base N qual (defScope st) f cdv A outer s H E) (defBody st) t /\ ∀ xs μ R, xs.length = ps.length -> sp xs μ R EX -> t (aNx R) (aRt R) aNo aNo (startA N xs) μ) : FnOk P w K mg base (CX1 P w) (k + 1) f fd ps (cSpX K ps.length sp) := by
 obtain ⟨oc, od, kV, doc, pm, an, cdv, ct, osl, rfl, lk, hcd⟩ := F.ex
 refine fn_of lk hcd S (fun vs H Q E h => ?_) fun A outer s H vs Q E hr h => ?_
 ·obtain ⟨xs, μ, R, EX, hl, rs, _⟩ := h
  rw [<- rs.length]; exact hl
 ·obtain ⟨xs, μ, R, EX, hl, rs, hc, hsp, hq, hE⟩ := h
  have hXF : XF (cxOf (CX1 P w) P w K mg base N qual (defScope st) f cdv A outer s H E) EX := xf_cx hE
  obtain ⟨t, ht, h⟩ := hbody cdv A outer s H E EX hr hXF.up
  refine ⟨_, ht, startA N xs, μ, _, _, _, _, StA.begin rs, hc, h xs μ R hl hsp, ⟨fun τ μ' σ H' S' _ c zz124 => ex12 zz124 fun ν hν r => ?_, fun v μ' u H' S' c rv zz125 => ex12 zz125 fun ν hν r => ?_, fun _ _ _ _ _ _ _ h => h.elim, fun _ _ _ _ _ _ _ h => h.elim⟩⟩
  ·exact hq _ _ _ _ S' (c.sub hν) ra_non r
  ·exact hq _ _ _ _ S' (c.sub hν) rv r
end
end L2
namespace L2
open PySem PySem.Spec PySem.Calls PyProof.Rows
def aRepr : AC := fun xs μ R => match xs with
 | [x] => opt (see μ x) fun d => OkD d /\ R (.D (.str d.shown)) μ
 | _ => False
section
variable {X : Cx} {k : Nat}
theorem c_repr (hr : Room k X.A) : VCall X (.builtin "repr") aRepr := by
 intro pins s σ H xs us Q I r zz114
 refine ex34 zz114 fun as μ R ra hc h hq => ?_
 unfold aRepr at h
 split at h
 ·cases ra with
  | cons r1 r2 =>
   cases r2
   obtain ⟨u, rfl, ru⟩ := vals1 r
   obtain ⟨d, ed, ok, h⟩ := opt_e h
   obtain ⟨bs, rd⟩ := see_reads I hc r1 ru ed
   have hsz : d.shown.length <= sizeLine := Nat.le_trans (PyProof.Rows.shown_le13 ok.lay ok.sh) (by decide)
   have hn : d.hasDict = false := PyData.hasDict_of_layable ok.lay
   have hu := hr.un
   have hdp := ok.depth
   have fin : ∀ (h' : Heap) (t : Tok) (tk : Nat), (∀ b o, s.heap.get? b = some o -> h'.get? b = some o) -> EP X pins σ Q (.str d.shown t) { s with heap := h', toks := tk } := fun h' t tk hk =>
    ⟨.str d.shown, H, I.kept hk, ⟨_, rfl⟩, hq _ _ _ _ Kp.refl hc ra_str h⟩
   cases rd with
   | none => exact P.repr_of_none (by simpa only [PyData.shown] using fin s.heap s.toks (s.toks + 1) fun _ _ e => e)
   | bool b => exact P.repr_of_bool (by simpa only [PyData.shown] using fin s.heap s.toks (s.toks + 1) fun _ _ e => e)
   | int i t =>
    have hs : decide (i.natAbs.log2 < 1920) = true := by simpa only [PyData.showable] using ok.sw
    exact P.repr_of_int (of_decide_eq_true hs) (by simpa only [PyData.shown] using fin s.heap s.toks (s.toks + 1) fun _ _ e => e)
   | str z t => exact P.repr_of_str (by simpa only [PyData.shown] using fin s.heap s.toks (s.toks + 1) fun _ _ e => e) (by simpa only [PyData.shown] using hsz)
   | list h1 h2 h3 h4 => exact repr_of_reads' (.list h1 h2 h3 h4) ok.sw (PyData.noDict_hsm hn) hr.gd (by omega) (fun _ _ e => e) (fun h' u tk hk => fin h' u tk hk) hsz
   | tuple h1 h2 h3 h4 => exact repr_of_reads' (.tuple h1 h2 h3 h4) ok.sw (PyData.noDict_hsm hn) hr.gd (by omega) (fun _ _ e => e) (fun h' u tk hk => fin h' u tk hk) hsz
   | dict h1 h2 h3 h4 h5 => simp [PyData.hasDict] at hn
 ·exact h.elim
end
def aEqS : A2 := fun x y μ R => match x, y with
 | .D (.str i), .D (.str j) => R (.D (.bool (decide (i = j)))) μ
 | _, _ => False
theorem o_eqS {X : Cx} : VOp X (compareOp .Eq) aEqS := by
 intro pins s σ H x y v u Q I rx ry zz115
 refine ex45 zz115 fun a b μ R ra rb hc h hq => ?_
 cases a with
 | D d =>
  cases d with
  | str i =>
   cases b with
   | D e =>
    cases e with
    | str j =>
     cases RelA.str ra
     cases RelA.str rb
     obtain ⟨t, rfl⟩ := rx
     obtain ⟨t', rfl⟩ := ry
     exact eq_str (fin_bl I (hq _ _ _ _ Kp.refl hc ra_bl h) (by rw [Bool.eq_iff_iff]; simp))
    | _ => exact False.elim h
   | _ => exact False.elim h
  | _ => exact False.elim h
 | _ => exact False.elim h
structure RoomW (k : Nat) (A : Around) : Prop where
 dp : A.depth + 3 * k + 5 < recursionLimit
 un : A.units + 16 * k + 200 < cLine
 gd : A.guards = some []
theorem Room.mark {k : Nat} {A : Around} (r : Room k A) (v : Option Value) : RoomW k (A.mark v) := ⟨r.dp, r.un, r.gd⟩
theorem RoomW.mono {j k : Nat} {A : Around} (r : RoomW k A) (h : j <= k) : RoomW j A := ⟨by have := r.dp; omega, by have := r.un; omega, r.gd⟩
theorem RoomW.deeper {k : Nat} {A : Around} (r : RoomW (k + 1) A) (env : Env) : RoomW k (A.deeper env) :=
 ⟨by have := r.dp; show A.depth + 1 + 3 * k + 5 < _; omega, by have := r.un; show A.units + 3 + 16 * k + 200 < _; omega, r.gd⟩
theorem RoomW.depth {k : Nat} {A : Around} (r : RoomW k A) : A.depth < recursionLimit := by have := r.dp; omega
structure FnOkW (P : Program) (w : World) (K : PySem.W.Frag) (mg : Str -> Option Value) (base : Heap) (CX : CXT) (k : Nat) (f : Addr) (fd : FuncData) (ps : List Str) (sp : Sp) : Prop where
 len : ∀ vs H Q E, sp vs H Q E -> vs.length = ps.length
 run : ∀ (A : Around) (outer : List Env) (s : Shared) (H : Hp) (args : Args) (us : List Value) (vs : List V) (Q : VK) (E : XK), RoomW k A -> Env0 P w K mg base A outer s H -> BindsTo s fd args (ps.zip us) -> Vals vs us -> sp vs H Q E ->
  codeAny (model P w) A (.call (.ref f) args) (CR CX outer P w H s Q E) s
abbrev Cx.wild (X : Cx) (A : Around) : Cx := { X with A := A, calm := false }
theorem fnW_of {CX : CXT} {P : Program} {w : World} {K : PySem.W.Frag} {mg : Str -> Option Value} {base : Heap} {k : Nat} {f : Addr} {name qual : Str} {params : Arguments} {body : List Stmt} {scope : Scope} {dV kV doc pm cdv ct oc : Value} {an od : Option Addr}
  {osl : Array (Option Value)} {N ps : List Str} {sp : Sp} (lk : K.lookup f = some ⟨oc, od, .func (PySem.W.fnOf name qual params body scope dV kV doc pm an cdv ct), osl⟩) (hcd : PySem.W.codeIn K cdv qual = true) (S : FnScope N ps scope)
  (len : ∀ vs H Q E, sp vs H Q E -> vs.length = ps.length)
  (hbody : ∀ (A : Around) (outer : List Env) (s : Shared) (H : Hp) (vs : List V) (Q : VK) (E : XK), RoomW k (A.deeper (envOfC qual scope s.heap.objs.size f cdv)) -> sp vs H Q E ->
   ∃ t, PSs ((cxOf CX P w K mg base N qual scope f cdv A outer s H E).wild (A.deeper (envOfC qual scope s.heap.objs.size f cdv))) body t /\ t { nx := fun _ H' => Q .non H', rt := Q } (start N vs) H) :
  FnOkW P w K mg base CX (k + 1) f (PySem.W.fnOf name qual params body scope dV kV doc pm an cdv ct) ps sp := by
 refine ⟨len, fun A outer s H args us vs Q E hr e0 hb r hsp => ?_⟩
 have hl := len _ _ _ _ hsp
 have KX : K.In s.heap := e0.mod.kin.keeps fun b o e => (e0.bs b o e).1
 have lim : s.heap.NoLimit := e0.mod.nolimit.keeps fun b o e => (e0.bs b o e).1
 have hkind : ∀ y ∈ ps.zip us, scope.names.lookup y.1 = some .local \/ (scope.names.lookup y.1 = some .cell /\ ((cellsFrom (s.heap.objs.size + 1) scope.names []).lookup y.1).isSome = true) := fun ⟨n, v⟩ hy => by
  rcases S.par n (List.of_mem_zip hy).1 with q | q
  ·exact .inl q
  ·exact .inr ⟨q, PySem.W.cellsFrom_some _ _ _ (.inl q)⟩
 refine codeAny_call_function hr.depth (KX _ _ lk) rfl S.co S.gen rfl (PySem.W.codeRec_of KX hcd) (hb _ _ _ _ ?_)
 refine wpAny_newFunctionEnv_cells S.kind hkind fun env he s1 x => ?_
 subst he
 refine ⟨lim.keeps x.toInCall.keep, codeAny_func ?_⟩
 obtain ⟨t, ht, hq⟩ := hbody A outer s H vs Q E (hr.deeper _) hsp
 have e1 : Env0 P w K mg base { A with handled := none } outer s H := ⟨e0.frames, e0.mod, e0.bs, e0.bsz, e0.funs, e0.frf, e0.hok, e0.bare⟩
 have I0 : Inv (cxOf CX P w K mg base N qual scope f cdv { A with handled := none } outer s H E) [] (start N vs) H s1 := inv_start S rfl e1 hl r x
 have I : Inv ((cxOf CX P w K mg base N qual scope f cdv A outer s H E).wild (A.deeper (envOfC qual scope s.heap.objs.size f cdv))) [] (start N vs) H s1 :=
  ⟨⟨I0.ok.mod, I0.ok.kind, I0.ok.glob, I0.ok.blt, I0.ok.above, I0.ok.inj, I0.ok.has, I0.ok.cab, fun z => (nomatch z), Around.frames_deeper e0.frames, I0.ok.stk, I0.ok.exf, I0.ok.bs, I0.ok.bsz, I0.ok.noex, I0.ok.exfs, I0.ok.funs, I0.ok.frf⟩, I0.os, I0.bare, I0.base, I0.loc, I0.cell, I0.free, I0.freeC, I0.pin, I0.hok, I0.len⟩
 refine wpAny_mono (ht [] s1 (start N vs) H _ I hq) (fun fl s' hs => ?_) fun e s' hs => hs
 have fin : ∀ {σ' : St} {H' : Hp} {v : V} {u : Value}, Inv ((cxOf CX P w K mg base N qual scope f cdv A outer s H E).wild (A.deeper (envOfC qual scope s.heap.objs.size f cdv))) [] σ' H' s' -> RelV v u -> Q v H' -> CE outer P w H s Q u s' :=
  fun {σ' H' v u} J rv q => ⟨v, H', J.os, J.bare, J.base, J.hok, rv, q⟩
 cases fl with
 | ret u =>
  obtain ⟨v, σ', H', J, rv, q⟩ := hs
  exact fin J rv q
 | next =>
  obtain ⟨σ', H', J, q⟩ := hs
  exact fin (v := V.non) (u := Value.none) J rfl q
 | brk =>
  obtain ⟨_, _, _, q⟩ := hs
  exact False.elim q
 | cont =>
  obtain ⟨_, _, _, q⟩ := hs
  exact False.elim q
def VCalW (P : Program) (w : World) (K : PySem.W.Frag) (mg : Str -> Option Value) (base : Heap) (k : Nat) (x : Str) (ps : List Str) (sp : ASp) : Prop :=
 ∃ g gd, FnOkW P w K mg base CX0 k g gd ps (cSp K ps.length sp) /\ Binds K gd ps [] /\ PySem.W.keepIn K (.ref g) = true /\ mg x = some (.ref g)
theorem VCalW.mono {P : Program} {w : World} {K : PySem.W.Frag} {mg : Str -> Option Value} {base : Heap} {n m : Nat} {x : Str} {ps : List Str} {sp : ASp} (c : VCalW P w K mg base n x ps sp) (h : n <= m) : VCalW P w K mg base m x ps sp :=
 let ⟨g, gd, G, r⟩ := c; ⟨g, gd, ⟨G.len, fun A outer s H args us vs Q E hr => G.run A outer s H args us vs Q E (hr.mono h)⟩, r⟩
theorem Fun.vokW {P : Program} {w : World} {K : PySem.W.Frag} {mg : Str -> Option Value} {base : Heap} {x qual : Str} {st : Stmt} {f : Addr} {fd : FuncData} {N ps : List Str} {k : Nat} {sp : ASp} (F : Fun K x qual st f fd) (S : FnScope N ps (defScope st))
  (hbody : ∀ (cdv : Value) (A : Around) (outer : List Env) (s : Shared) (H : Hp) (E : XK), RoomW k (A.deeper (envOfC qual (defScope st) s.heap.objs.size f cdv)) ->
   ∃ t, VSs ((cxOf CX0 P w K mg base N qual (defScope st) f cdv A outer s H E).wild (A.deeper (envOfC qual (defScope st) s.heap.objs.size f cdv))).nox (defBody st) t /\ ∀ xs μ R, xs.length = ps.length -> sp xs μ R -> t (aNx R) (aRt R) aNo aNo (startA N xs) μ) : FnOkW P w K mg base CX0 (k + 1) f fd ps (cSp K ps.length sp) := by
 obtain ⟨oc, od, kV, doc, pm, an, cdv, ct, osl, rfl, lk, hcd⟩ := F.ex
 refine fnW_of lk hcd S (fun vs H Q E h => ?_) fun A outer s H vs Q E hr h => ?_
 ·obtain ⟨xs, μ, R, hl, rs, _⟩ := h
  rw [<- rs.length]; exact hl
 ·obtain ⟨xs, μ, R, hl, rs, hc, hsp, hq⟩ := h
  obtain ⟨t, ht, h⟩ := hbody cdv A outer s H E hr
  refine ⟨_, PSs.nox ht, startA N xs, μ, _, _, _, _, StA.begin rs, hc, h xs μ R hl hsp, ⟨fun τ μ' σ H' S' _ c zz116 => ex12 zz116 fun ν hν r => ?_, fun v μ' u H' S' c rv zz117 => ex12 zz117 fun ν hν r => ?_, fun _ _ _ _ _ _ _ h => h.elim, fun _ _ _ _ _ _ _ h => h.elim⟩⟩
  ·exact hq _ _ _ _ S' (c.sub hν) ra_non r
  ·exact hq _ _ _ _ S' (c.sub hν) rv r
section
variable {X : Cx} {x : Str} {p pos : Pos} {e : Expr} {es : List Expr} {t : AA} {k : Nat} {ps : List Str} {sp : ASp}
theorem ve_callW (F : VCalW X.prog X.w X.K X.mg X.base k x ps sp) (hr : RoomW k X.A) (hg : Gl X x) (ha : VA X (e :: es) t) (hl : (e :: es).length = ps.length := by rfl) (hdb : (x == ("__debug__" : Str)) = false := by decide)
  (hst : starEach (e :: es) X.env = (false, eval e X.env) :: starEach es X.env := by rfl) (hpl : (backTo pos (starEach es X.env)).any (·.1) = false := by rfl) : VE X (.Call (.Name x p) (e :: es) [] pos) (vCall ps.length sp t) := by
 obtain ⟨g, gd, G, gb, gk, gm⟩ := F
 intro pins s σ H Q I zz118
 refine ex34 zz118 fun τ μ R hs hc h hq => ?_
 refine wpAny_Call_Name_kw (ld_glob I hg gm ?_ hdb)
 refine PySem.W.callWith_K (h₀ := X.base) I.ok.mod.kin gk (thn (ha pos pins s σ H (fun vs H1 => ∃ xs μ1, Kp H H1 /\ Cn X.K μ1 H1 /\ RelAs X.K H1 xs vs /\ xs.length = (e :: es).length /\ sp xs μ1 R) I ⟨τ, μ, _, hs, hc, h, fun xs μ1 vs H1 S1 c1 rs hn hx => ⟨xs, μ1, S1, c1, rs, hn, hx⟩⟩) fun us s1 zw => ⟨by obtain ⟨vs, H1, I1, r, z⟩ := zw; exact I1.kIn, ?_⟩) hst hpl
 obtain ⟨vs, H1, I1, r, xs, μ1, S1, c1, rs, hn, hx⟩ := zw
 have hsp : cSp X.K ps.length sp vs H1 Q E0 := ⟨xs, μ1, R, hn.trans hl, rs, c1, hx, hq.kp S1⟩
 have hlu : us.length = ps.length := by rw [<- r.length, <- rs.length]; exact hn.trans hl
 refine wpAny_call (codeAny_mono (G.run X.A X.stack s1 H1 ⟨us, []⟩ us vs Q E0 hr I1.env0 (by simpa using gb s1 us I1.kIn (by simpa using hlu)) r hsp) fun r s' hq => ?_)
 cases r with
 | error e => exact pass0 pins σ H1 s1 e s' I1 hq
 | ok fl =>
  cases fl with
  | ret u => exact I1.after hq
  | next => exact False.elim hq
  | brk => exact False.elim hq
  | cont => exact False.elim hq
end
end L2
namespace L2
open PySem PySem.Spec PyProof.Rows
abbrev Src (prog : Program) (w : World) (i l : Addr) (xs : Array Value) (St : Nat -> Heap -> Prop) : Prop := ∀ A : Around, A.handled = none -> Draws prog w A i [i, l] xs.size (fun k v => xs[k]? = some v) St
theorem Src.keep {prog : Program} {w : World} {i l : Addr} {xs : Array Value} {St : Nat -> Heap -> Prop} (S : Src prog w i l xs St) {k : Nat} {h h' : Heap} (st : St k h) (h1 : ∀ o, h.get? i = some o -> h'.get? i = some o) (h2 : ∀ o, h.get? l = some o -> h'.get? l = some o) : St k h' :=
 (S {} rfl).frame k h h' st fun b hb o e => by
  rcases List.mem_cons.mp hb with rfl | hb
  ·exact h1 o e
  ·rw [List.mem_singleton.mp hb] at e ⊢; exact h2 o e
theorem Src.live {prog : Program} {w : World} {i l : Addr} {xs : Array Value} {St : Nat -> Heap -> Prop} (S : Src prog w i l xs St) {k : Nat} {h : Heap} (st : St k h) : ∃ o, h.get? i = some o := (S {} rfl).live k h st
section
variable {prog : Program} {w : World} {A : Around} {E : Value -> Shared -> Prop} {s : Shared} {z TI TO i1 i2 l1 l2 : Addr} {xs ys : Array Value} {St1 St2 : Nat -> Heap -> Prop} {k : Nat}
theorem zg_first {a b : Value} {Q : Value -> Shared -> Prop} (hh : A.handled = none) (D : ZipApart z TI TO i1 i2 l1 l2) (S1 : Src prog w i1 l1 xs St1) (S2 : Src prog w i2 l2 ys St2) (hz : IsZip s.heap z TI TO .none) (hTI : IsPair s.heap TI (.ref i1) (.ref i2)) (hTO : IsPair s.heap TO a b)
  (h1 : St1 k s.heap) (h2 : St2 k s.heap) (hx : k < xs.size) (hy : k < ys.size)
  (hQ : ∀ h' tk x y, xs[k]? = some x -> ys[k]? = some y -> IsZip h' z TI TO (rawInt s.heap.objs.size) -> IsPair h' TO x y -> St1 (k + 1) h' -> St2 (k + 1) h' -> IsPair h' s.heap.objs.size x y -> (∀ c o, c ≠ z -> c ≠ TO -> c ≠ i1 -> c ≠ i2 -> s.heap.get? c = some o -> h'.get? c = some o) -> Q (.ref s.heap.objs.size) { s with heap := h', toks := tk }) :
  wpAny (model prog w) A (Builtin.«zip.__next__» ⟨[.ref z], []⟩) (fun fin s' => ∃ v, fin = .done (.ret v) /\ Q v s') E s := by
 refine (show wpAny _ _ (field (.ref z) 2 >>= _) _ _ _ from wpAny_bind (wpAny_field hz rfl (x := .bool false) rfl (show wpAny _ _ (field (.ref z) 3 >>= _) _ _ _ from wpAny_bind (wpAny_field hz rfl (x := .ref TI) rfl (wpAny_bind (wpAny_seqItems hTI rfl (show wpAny _ _ (Builtin.SmallTypes.ownedTupleIsFree (.ref z) >>= _) _ _ _ from wpAny_bind ?_)))))))
 unfold Builtin.SmallTypes.ownedTupleIsFree
 refine wpAny_bind (wpAny_field hz rfl (x := .none) rfl (wpAny_pure ?_))
 rw [if_pos rfl]
 refine wpAny_bind (wpAny_rule (wpAny_bind (wpAny_field hz rfl (x := .ref TO) rfl (wpAny_bind (wpAny_setField_rec hz (by simp) fun g1 e1 k1 => wpAny_bind ?_)))))
 have z1 : IsZip g1 z TI TO .ellipsis := e1
 have a1 : St1 k g1 := S1.keep h1 (fun o e => k1.extBut _ _ D.i1z e) (fun o e => k1.extBut _ _ D.l1z e)
 simp only [List.zipIdx_cons, List.zipIdx_nil, List.forIn_cons, List.forIn_nil]
 refine wpAny_bind (wpAny_bind (wpAny_onRaise (show wpAny _ _ (Builtin.SmallTypes.nextOf (.ref i1) >>= _) _ _ _ from wpAny_bind ((S1 A hh).item k _ _ _ hx a1 fun x g2 tk2 ex b2 k2 => wpAny_pure ?_))))
 have o2 : IsPair g2 TO a b := k2.extBut _ _ D.TOi1 (k1.extBut _ _ D.TOz hTO)
 refine wpAny_bind (wpAny_seqItems o2 rfl (wpAny_bind (wpAny_updateSeq_pair o2 fun g3 e3 k3 => wpAny_bind (wpAny_letGo (wpAny_pure ?_)))))
 have o3 : IsPair g3 TO x b := e3
 have a3 : St2 k g3 := S2.keep h2 (fun o e => k3.extBut _ _ D.TOi2.symm (k2.extBut _ _ D.i12.symm (k1.extBut _ _ D.i2z e))) (fun o e => k3.extBut _ _ D.l2TO (k2.extBut _ _ D.l2i1 (k1.extBut _ _ D.l2z e)))
 refine wpAny_bind (wpAny_bind (wpAny_onRaise (show wpAny _ _ (Builtin.SmallTypes.nextOf (.ref i2) >>= _) _ _ _ from wpAny_bind ((S2 A hh).item k _ _ _ hy a3 fun y g4 tk4 ey b4 k4 => wpAny_pure ?_))))
 have o4 : IsPair g4 TO x b := k4.extBut _ _ D.TOi2 o3
 refine wpAny_bind (wpAny_seqItems o4 rfl (wpAny_bind (wpAny_updateSeq_pair o4 fun g5 e5 k5 => wpAny_bind (wpAny_letGo (wpAny_pure (wpAny_pure ?_))))))
 have o5 : IsPair g5 TO x y := e5
 refine wpAny_bind (wpAny_seqItems o5 rfl (wpAny_bind (wpAny_newTuple ?_)))
 have sz : g5.objs.size = s.heap.objs.size := by rw [k5.1, k4.1, k3.1, k2.1, k1.1]
 have z5 : IsZip g5 z TI TO .ellipsis := k5.extBut _ _ D.TOz.symm (k4.extBut _ _ D.i2z.symm (k3.extBut _ _ D.TOz.symm (k2.extBut _ _ D.i1z.symm z1)))
 have up5 : ∀ c o, c ≠ z -> c ≠ TO -> c ≠ i1 -> c ≠ i2 -> s.heap.get? c = some o -> g5.get? c = some o := fun c o c1 c2 c3 c4 e => k5.extBut _ _ c2 (k4.extBut _ _ c4 (k3.extBut _ _ c2 (k2.extBut _ _ c3 (k1.extBut _ _ c1 e))))
 have lz : z < g5.objs.size := Heap.lt_size z5
 refine (show wpAny _ _ (Builtin.SmallTypes.ownedTupleHandOut (.ref z) (.ref g5.objs.size) >>= _) _ _ _ from wpAny_bind ?_)
 unfold Builtin.SmallTypes.ownedTupleHandOut
 have z6 : IsZip (g5.push { cls := .type "tuple", data := .seq #[x, y] }) z TI TO .ellipsis := Heap.get?_push_of_some _ z5
 refine wpAny_bind (wpAny_setField_rec z6 (by simp) fun g7 e7 k7 => wpAny_setField_rec (show IsZip g7 z TI TO (rawInt g5.objs.size) from e7) (by simp) fun g8 e8 k8 => wpAny_pure ⟨_, rfl, ?_⟩)
 have up8 : ∀ c o, c ≠ z -> g5.get? c = some o -> g8.get? c = some o := fun c o c1 e => k8.extBut _ _ c1 (k7.extBut _ _ c1 (Heap.get?_push_of_some _ e))
 have t8 : IsPair g8 g5.objs.size x y := k8.extBut _ _ (Nat.ne_of_gt lz) (k7.extBut _ _ (Nat.ne_of_gt lz) (Heap.get?_push_size _ rfl))
 have z8 : IsZip g8 z TI TO (rawInt g5.objs.size) := e8
 have b5 : St1 (k + 1) g5 := S1.keep b2 (fun o e => k5.extBut _ _ D.TOi1.symm (k4.extBut _ _ D.i12 (k3.extBut _ _ D.TOi1.symm e))) (fun o e => k5.extBut _ _ D.l1TO (k4.extBut _ _ D.l1i2 (k3.extBut _ _ D.l1TO e)))
 have c5 : St2 (k + 1) g5 := S2.keep b4 (fun o e => k5.extBut _ _ D.TOi2.symm e) (fun o e => k5.extBut _ _ D.l2TO e)
 show Q (.ref g5.objs.size) _
 rw [sz] at z8 t8 ⊢
 exact hQ g8 _ x y ex ey z8 (up8 _ _ D.TOz o5) (S1.keep b5 (fun o e => up8 _ o D.i1z e) (fun o e => up8 _ o D.l1z e)) (S2.keep c5 (fun o e => up8 _ o D.i2z e) (fun o e => up8 _ o D.l2z e)) t8 fun c o c1 c2 c3 c4 e => up8 c o c1 (up5 c o c1 c2 c3 c4 e)
theorem zg_more {T : Addr} {b1 : Bool} {Q : Value -> Shared -> Prop} (hh : A.handled = none) (D : ZipApart z TI TO i1 i2 l1 l2) (S1 : Src prog w i1 l1 xs St1) (S2 : Src prog w i2 l2 ys St2) (hz : ZObj s.heap z TI TO (rawInt T) b1) (hT : ∃ o, s.heap.get? T = some o) (hTI : IsPair s.heap TI (.ref i1) (.ref i2))
  (h1 : St1 k s.heap) (h2 : St2 k s.heap) (hx : k < xs.size) (hy : k < ys.size)
  (hQ : ∀ h' tk x y, xs[k]? = some x -> ys[k]? = some y -> ZObj h' z TI TO (rawInt T) true -> St1 (k + 1) h' -> St2 (k + 1) h' -> IsPair h' s.heap.objs.size x y -> (∀ c o, c ≠ z -> c ≠ i1 -> c ≠ i2 -> s.heap.get? c = some o -> h'.get? c = some o) -> Q (.ref s.heap.objs.size) { s with heap := h', toks := tk }) :
  wpAny (model prog w) A (Builtin.«zip.__next__» ⟨[.ref z], []⟩) (fun fin s' => ∃ v, fin = .done (.ret v) /\ Q v s') E s := by
 refine (show wpAny _ _ (field (.ref z) 2 >>= _) _ _ _ from wpAny_bind (wpAny_field hz rfl (x := .bool false) rfl (show wpAny _ _ (field (.ref z) 3 >>= _) _ _ _ from wpAny_bind (wpAny_field hz rfl (x := .ref TI) rfl (wpAny_bind (wpAny_seqItems hTI rfl (show wpAny _ _ (Builtin.SmallTypes.ownedTupleIsFree (.ref z) >>= _) _ _ _ from wpAny_bind (owned_busy hz hT fun g1 hz1 hs1 => ?_))))))))
 simp only [Bool.false_eq_true, if_false]
 refine wpAny_bind ?_
 rw [<- Array.forIn_toList]
 simp only [List.forIn_cons, List.forIn_nil]
 have a1 : St1 k g1 := S1.keep h1 (fun o e => hs1.extBut _ _ D.i1z e) (fun o e => hs1.extBut _ _ D.l1z e)
 refine wpAny_bind (wpAny_bind (wpAny_holding (show wpAny _ _ (Builtin.SmallTypes.nextOf (.ref i1) >>= _) _ _ _ from wpAny_bind ((S1 A hh).item k _ _ _ hx a1 fun x g2 tk2 ex b2 hs2 => wpAny_pure (wpAny_pure ?_)))))
 have a2 : St2 k g2 := S2.keep h2 (fun o e => hs2.extBut _ _ D.i12.symm (hs1.extBut _ _ D.i2z e)) (fun o e => hs2.extBut _ _ D.l2i1 (hs1.extBut _ _ D.l2z e))
 refine wpAny_bind (wpAny_bind (wpAny_holding (show wpAny _ _ (Builtin.SmallTypes.nextOf (.ref i2) >>= _) _ _ _ from wpAny_bind ((S2 A hh).item k _ _ _ hy a2 fun y g3 tk3 ey b3 hs3 => wpAny_pure (wpAny_pure (wpAny_pure (wpAny_bind (wpAny_newTuple (wpAny_pure ⟨_, rfl, ?_⟩) (show 2 <= sizeLine by decide)))))))))
 have sz : g3.objs.size = s.heap.objs.size := by rw [hs3.1, hs2.1, hs1.1]
 rw [sz]
 have up : ∀ c o, c ≠ z -> c ≠ i1 -> c ≠ i2 -> s.heap.get? c = some o -> g3.get? c = some o := fun c o c1 c2 c3 e => hs3.extBut _ _ c3 (hs2.extBut _ _ c2 (hs1.extBut _ _ c1 e))
 have pu : ∀ c o, g3.get? c = some o -> (g3.push { cls := .type "tuple", data := .seq #[x, y] }).get? c = some o := fun c o e => Heap.get?_push_of_some _ e
 refine hQ _ _ x y ex ey (pu _ _ (hs3.extBut _ _ D.i2z.symm (hs2.extBut _ _ D.i1z.symm hz1))) (S1.keep b2 (fun o e => pu _ o (hs3.extBut _ _ D.i12 e)) (fun o e => pu _ o (hs3.extBut _ _ D.l1i2 e))) (S2.keep b3 (fun o e => pu _ o e) (fun o e => pu _ o e)) ?_ fun c o c1 c2 c3 e => pu c o (up c o c1 c2 c3 e)
 rw [<- sz]
 exact Heap.get?_push_size _ rfl
theorem zg_end {a b : Value} {Q : PySem.Fin -> Shared -> Prop} (hh : A.handled = none) (D : ZipApart z TI TO i1 i2 l1 l2) (S1 : Src prog w i1 l1 xs St1) (S2 : Src prog w i2 l2 ys St2) (hz : IsZip s.heap z TI TO .none) (hTI : IsPair s.heap TI (.ref i1) (.ref i2)) (hTO : IsPair s.heap TO a b)
  (h1 : St1 k s.heap) (h2 : St2 k s.heap) (hend : k = xs.size \/ k < xs.size /\ k = ys.size)
  (hE : ∀ h' tk e, (∀ c o, c ≠ z -> c ≠ TO -> c ≠ i1 -> c ≠ i2 -> s.heap.get? c = some o -> h'.get? c = some o) -> (∃ o, h'.get? e = some o /\ o.cls = .type "StopIteration") -> E (.ref e) { s with heap := h', toks := tk }) :
  wpAny (model prog w) A (Builtin.«zip.__next__» ⟨[.ref z], []⟩) Q E s := by
 refine (show wpAny _ _ (field (.ref z) 2 >>= _) _ _ _ from wpAny_bind (wpAny_field hz rfl (x := .bool false) rfl (show wpAny _ _ (field (.ref z) 3 >>= _) _ _ _ from wpAny_bind (wpAny_field hz rfl (x := .ref TI) rfl (wpAny_bind (wpAny_seqItems hTI rfl (show wpAny _ _ (Builtin.SmallTypes.ownedTupleIsFree (.ref z) >>= _) _ _ _ from wpAny_bind ?_)))))))
 unfold Builtin.SmallTypes.ownedTupleIsFree
 refine wpAny_bind (wpAny_field hz rfl (x := .none) rfl (wpAny_pure ?_))
 rw [if_pos rfl]
 refine wpAny_bind (wpAny_rule (wpAny_bind (wpAny_field hz rfl (x := .ref TO) rfl (wpAny_bind (wpAny_setField_rec hz (by simp) fun g1 e1 k1 => wpAny_bind ?_)))))
 have z1 : IsZip g1 z TI TO .ellipsis := e1
 have a1 : St1 k g1 := S1.keep h1 (fun o e => k1.extBut _ _ D.i1z e) (fun o e => k1.extBut _ _ D.l1z e)
 simp only [List.zipIdx_cons, List.zipIdx_nil, List.forIn_cons, List.forIn_nil]
 rcases hend with he | ⟨hx, he⟩
 ·rw [he] at a1
  refine wpAny_bind (wpAny_bind (wpAny_onRaise (show wpAny _ _ (Builtin.SmallTypes.nextOf (.ref i1) >>= _) _ _ _ from wpAny_bind ((S1 A hh).done _ _ _ a1 fun g2 e k2 hS => ?_))))
  obtain ⟨oe, hoe, hce⟩ := hS
  have z2 : IsZip g2 z TI TO .ellipsis := k2 _ _ D.i1z.symm z1
  have ne : e ≠ z := fun q => by subst q; rw [z2] at hoe; cases hoe; simp at hce
  exact wpAny_setField_rec z2 (by simp) fun g3 _ k3 => hE g3 _ e (fun c o c1 _ c3 _ q => k3.extBut _ _ c1 (k2 _ _ c3 (k1.extBut _ _ c1 q))) ⟨oe, k3.extBut _ _ ne hoe, hce⟩
 ·refine wpAny_bind (wpAny_bind (wpAny_onRaise (show wpAny _ _ (Builtin.SmallTypes.nextOf (.ref i1) >>= _) _ _ _ from wpAny_bind ((S1 A hh).item k _ _ _ hx a1 fun x g2 tk2 ex b2 k2 => wpAny_pure ?_))))
  have o2 : IsPair g2 TO a b := k2.extBut _ _ D.TOi1 (k1.extBut _ _ D.TOz hTO)
  refine wpAny_bind (wpAny_seqItems o2 rfl (wpAny_bind (wpAny_updateSeq_pair o2 fun g3 e3 k3 => wpAny_bind (wpAny_letGo (wpAny_pure ?_)))))
  have a3 : St2 k g3 := S2.keep h2 (fun o e => k3.extBut _ _ D.TOi2.symm (k2.extBut _ _ D.i12.symm (k1.extBut _ _ D.i2z e))) (fun o e => k3.extBut _ _ D.l2TO (k2.extBut _ _ D.l2i1 (k1.extBut _ _ D.l2z e)))
  rw [he] at a3
  refine wpAny_bind (wpAny_bind (wpAny_onRaise (show wpAny _ _ (Builtin.SmallTypes.nextOf (.ref i2) >>= _) _ _ _ from wpAny_bind ((S2 A hh).done _ _ _ a3 fun g4 e k4 hS => ?_))))
  obtain ⟨oe, hoe, hce⟩ := hS
  have z4 : IsZip g4 z TI TO .ellipsis := k4 _ _ D.i2z.symm (k3.extBut _ _ D.TOz.symm (k2.extBut _ _ D.i1z.symm z1))
  have ne : e ≠ z := fun q => by subst q; rw [z4] at hoe; cases hoe; simp at hce
  exact wpAny_setField_rec z4 (by simp) fun g5 _ k5 => hE g5 _ e (fun c o c1 c2 c3 c4 q => k5.extBut _ _ c1 (k4 _ _ c4 (k3.extBut _ _ c2 (k2.extBut _ _ c3 (k1.extBut _ _ c1 q))))) ⟨oe, k5.extBut _ _ ne hoe, hce⟩
end
end L2
namespace L2
open PySem PySem.Spec PyProof.Rows
def IsB : Bool -> Heap -> Addr -> Array Value -> Prop
 | false, h, l, xs => h.IsList l xs
 | true, h, l, xs => h.IsTuple l xs
def ItB : Bool -> Heap -> Addr -> Addr -> Nat -> Prop
 | false, h, i, l, k => h.IsListIter i l k
 | true, h, i, l, k => h.IsTupleIter i l k
abbrev nmIt : Bool -> String
 | false => "list_iterator"
 | true => "tuple_iterator"
theorem IsB.at {b : Bool} {h h' : Heap} {l : Addr} {xs : Array Value} (x : IsB b h l xs) (k : ∀ o, h.get? l = some o -> h'.get? l = some o) : IsB b h' l xs := by
 cases b with
 | false => exact Heap.IsList.at x fun o e => k o e
 | true => exact Heap.IsTuple.at x fun o e => k o e
theorem srcB {prog : Program} {w : World} (b : Bool) (i l : Addr) (hne : l ≠ i) (xs : Array Value) : Src prog w i l xs (fun k h => ItB b h i l k /\ IsB b h l xs) := fun A hh => by
 cases b with
 | false => exact Draws.list hh i l hne xs
 | true => exact L2_draws_tuple hh i l hne xs
abbrev zh1 (b : Bool) (h : Heap) (l : Addr) : Heap := h.push { cls := .type (nmIt b), data := .fields #[.ref l, .int 0 0] }
abbrev zh3 (b c : Bool) (h : Heap) (l m : Addr) : Heap := (zh1 c (zh1 b h l) m).push { cls := .type "tuple", data := .seq #[.ref h.objs.size, .ref (zh1 b h l).objs.size] }
abbrev zh5 (b c : Bool) (h : Heap) (l m : Addr) : Heap := ((zh3 b c h l m).push { cls := .type "tuple", data := .seq #[.none, .none] }).push { cls := .type "zip", data := .fields #[.none, .bool false, .bool false, .ref (zh1 c (zh1 b h l) m).objs.size, .ref (zh3 b c h l m).objs.size] }
section
variable {prog : Program} {w : World} {A : Around} {E : Value -> Shared -> Prop} {s : Shared}
theorem iterB {b : Bool} {l : Addr} {xs : Array Value} {Q : Value -> Shared -> Prop} (h : IsB b s.heap l xs) (hQ : Q (.ref s.heap.objs.size) { s with heap := zh1 b s.heap l }) : wpAny (model prog w) A (pyIter (.ref l)) Q E s := by
 cases b with
 | false => exact wpAny_pyIter_list h hQ
 | true => exact wpAny_pyIter_tuple h hQ
theorem newZipB (b c : Bool) (l m : Addr) (xs ys : Array Value) : Meets (Builtin.«zip.__new__» ⟨[.type "zip", .ref l, .ref m], []⟩) (fun _ R s => IsB b s.heap l xs /\ IsB c s.heap m ys /\ R (.ok (.ret (.ref (((zh3 b c s.heap l m).push { cls := .type "tuple", data := .seq #[.none, .none] }).objs.size)))) { s with heap := zh5 b c s.heap l m }) :=
 .of_wp fun prog w A R s h => by
  obtain ⟨hp, g, d, tk, os⟩ := s
  obtain ⟨a1, a2, q⟩ := h
  have hsub := sub_zip
  have b1 : IsB b (Shared.heap ⟨hp, g, d, tk, os⟩) l xs := a1
  have b2 : IsB c (Shared.heap ⟨zh1 b hp l, g, d, tk, os⟩) m ys := a2.at fun o e => Heap.get?_push_of_some _ e
  wp_walk using iterB b1, iterB b2
  exact ⟨_, rfl, q⟩
theorem callZipB {b c : Bool} {l m : Addr} {xs ys : Array Value} {Q : Value -> Shared -> Prop} (h1 : IsB b s.heap l xs) (h2 : IsB c s.heap m ys)
  (h : ∀ h', IsZip h' (s.heap.objs.size + 4) (s.heap.objs.size + 2) (s.heap.objs.size + 3) .none -> IsPair h' (s.heap.objs.size + 2) (.ref s.heap.objs.size) (.ref (s.heap.objs.size + 1)) -> IsPair h' (s.heap.objs.size + 3) .none .none -> ItB b h' s.heap.objs.size l 0 -> ItB c h' (s.heap.objs.size + 1) m 0 -> h'.objs.size = s.heap.objs.size + 5 ->
   (∀ d o, s.heap.get? d = some o -> h'.get? d = some o) -> Q (.ref (s.heap.objs.size + 4)) { s with heap := h' }) : wpAny (model prog w) A (call (.type "zip") [.ref l, .ref m]) Q E s := by
 refine callType_new F.called_zip (by decide) (F.typeCall_zip_2 _ _) (F.newCall_zip_2 _ _) (fun obj => F.args_object_init_3 obj _ _) F.entry_zip_new (newZipB b c l m xs ys) ⟨h1, h2, ?_⟩
 have e1 : (zh1 b s.heap l).objs.size = s.heap.objs.size + 1 := Heap.size_push ..
 have e2 : (zh1 c (zh1 b s.heap l) m).objs.size = s.heap.objs.size + 2 := by rw [Heap.size_push, e1]
 have e3 : (zh3 b c s.heap l m).objs.size = s.heap.objs.size + 3 := by rw [Heap.size_push, e2]
 have e4 : ((zh3 b c s.heap l m).push { cls := .type "tuple", data := .seq #[.none, .none] }).objs.size = s.heap.objs.size + 4 := by rw [Heap.size_push, e3]
 have e5 : (zh5 b c s.heap l m).objs.size = s.heap.objs.size + 5 := by rw [Heap.size_push, e4]
 have p5 : (zh5 b c s.heap l m).get? ((zh3 b c s.heap l m).push { cls := .type "tuple", data := .seq #[.none, .none] }).objs.size = some _ := Heap.get?_push_size _ rfl
 have p4 : (zh5 b c s.heap l m).get? (zh3 b c s.heap l m).objs.size = some _ := Heap.get?_push_of_some _ (Heap.get?_push_size _ rfl)
 have p3 : (zh5 b c s.heap l m).get? (zh1 c (zh1 b s.heap l) m).objs.size = some _ := Heap.get?_push_of_some _ (Heap.get?_push_of_some _ (Heap.get?_push_size _ rfl))
 have p2 : (zh5 b c s.heap l m).get? (zh1 b s.heap l).objs.size = some _ := Heap.get?_push_of_some _ (Heap.get?_push_of_some _ (Heap.get?_push_of_some _ (Heap.get?_push_size _ rfl)))
 have p1 : (zh5 b c s.heap l m).get? s.heap.objs.size = some _ := Heap.get?_push_of_some _ (Heap.get?_push_of_some _ (Heap.get?_push_of_some _ (Heap.get?_push_of_some _ (Heap.get?_push_size _ rfl))))
 have pk : ∀ d o, s.heap.get? d = some o -> (zh5 b c s.heap l m).get? d = some o := fun d o x => Heap.get?_push_of_some _ (Heap.get?_push_of_some _ (Heap.get?_push_of_some _ (Heap.get?_push_of_some _ (Heap.get?_push_of_some _ x))))
 show _ /\ _
 rw [e2, e3, e4] at p5
 rw [e1, e2] at p3
 rw [e3] at p4
 rw [e1] at p2
 rw [e4]
 refine ⟨⟨_, p5, rfl⟩, h _ p5 p3 p4 ?_ ?_ e5 pk⟩
 ·cases b with
  | false => exact ⟨_, p1, rfl, rfl⟩
  | true => exact ⟨_, p1, rfl, rfl⟩
 ·cases c with
  | false => exact ⟨_, p2, rfl, rfl⟩
  | true => exact ⟨_, p2, rfl, rfl⟩
theorem walkZ {z TI TO i1 i2 l1 l2 : Addr} {xs ys : Array Value} {St1 St2 : Nat -> Heap -> Prop} (hh : A.handled = none) (D : ZipApart z TI TO i1 i2 l1 l2) (S1 : Src prog w i1 l1 xs St1) (S2 : Src prog w i2 l2 ys St2) :
  WalksT prog w A z [z, TI, TO, i1, i2, l1, l2] [z, TO, i1, i2] (min xs.size ys.size) (fun i vals => ∃ x y, xs[i]? = some x /\ ys[i]? = some y /\ vals = #[x, y])
   (fun i h => IsZip h z TI TO .none /\ IsPair h TI (.ref i1) (.ref i2) /\ (∃ a b, IsPair h TO a b) /\ St1 i h /\ St2 i h)
   (fun i T h => IsZip h z TI TO (rawInt T) /\ IsPair h TI (.ref i1) (.ref i2) /\ (∃ a b, IsPair h TO a b) /\ St1 (i + 1) h /\ St2 (i + 1) h /\ T ≠ z /\ T ≠ TO /\ T ≠ i1 /\ T ≠ i2) where
 sub := fun c hc => by simp at hc ⊢; rcases hc with rfl | rfl | rfl | rfl <;> simp
 frame := fun i h h' st hk => by
  obtain ⟨a1, a2, ⟨a, b, a3⟩, a4, a5⟩ := st
  exact ⟨hk z (by simp) _ a1, hk TI (by simp) _ a2, ⟨a, b, hk TO (by simp) _ a3⟩, S1.keep a4 (fun o e => hk i1 (by simp) o e) (fun o e => hk l1 (by simp) o e), S2.keep a5 (fun o e => hk i2 (by simp) o e) (fun o e => hk l2 (by simp) o e)⟩
 item := fun i s Q E hi st hQ => by
  obtain ⟨a1, a2, ⟨a, b, a3⟩, a4, a5⟩ := st
  have ix : i < xs.size := Nat.lt_of_lt_of_le hi (Nat.min_le_left ..)
  have iy : i < ys.size := Nat.lt_of_lt_of_le hi (Nat.min_le_right ..)
  have hT : s.TypeIs (.ref z) "zip" := ⟨_, a1, rfl⟩
  have lt : ∀ {c o}, s.heap.get? c = some o -> s.heap.objs.size ≠ c := fun e => Nat.ne_of_gt (Heap.lt_size e)
  unfold pyNext
  refine wpAny_bind (wpAny_attempt (wpAny_callSpecial?_slot (name := Str.ofString "__next__") hT F.slot_zip_next (wpAny_call_entry F.slot_zip_next hT F.entry_zip_next (zg_first (show A.in1.handled = none from hh) D S1 S2 a1 a2 a3 a4 a5 ix iy fun h' tk x y ex ey b1 b2 b3 b4 b5 hk => wpAny_pure ?_) (F.args_zip_next_1 _))))
  refine hQ s.heap.objs.size #[x, y] h' tk ⟨x, y, ex, ey, rfl⟩ (Nat.le_refl _) ⟨_, b5, rfl, _, rfl⟩ ⟨b1, hk _ _ D.TIz D.TITO D.TIi1 D.TIi2 a2, ⟨_, _, b2⟩, b3, b4, lt a1, lt a3, ?_, ?_⟩ fun c o hc e => hk c o (fun q => hc (by simp [q])) (fun q => hc (by simp [q])) (fun q => hc (by simp [q])) (fun q => hc (by simp [q])) e
  ·obtain ⟨o, e⟩ := S1.live a4; exact lt e
  ·obtain ⟨o, e⟩ := S2.live a5; exact lt e
 go := fun elts k pos i T s Q E hm hQ => by
  obtain ⟨a1, a2, ⟨a, b, a3⟩, a4, a5, _⟩ := hm
  exact wpAny_letOwnedTupleGo_zip a1 fun h' b1 k1 => hQ h' ⟨b1, k1.extBut _ _ D.TIz a2, ⟨a, b, k1.extBut _ _ D.TOz a3⟩, S1.keep a4 (fun o e => k1.extBut _ _ D.i1z e) (fun o e => k1.extBut _ _ D.l1z e), S2.keep a5 (fun o e => k1.extBut _ _ D.i2z e) (fun o e => k1.extBut _ _ D.l2z e)⟩ fun c o hc e => k1.extBut _ _ (fun q => hc (by simp [q])) e
 apart := fun i T h hm hT => by
  obtain ⟨_, _, _, _, _, t1, t2, t3, t4⟩ := hm
  simp at hT
  rcases hT with rfl | rfl | rfl | rfl
  ·exact t1 rfl
  ·exact t2 rfl
  ·exact t3 rfl
  ·exact t4 rfl
 done := fun s Q E st hQ => by
  obtain ⟨a1, a2, ⟨a, b, a3⟩, a4, a5⟩ := st
  have hT : s.TypeIs (.ref z) "zip" := ⟨_, a1, rfl⟩
  have hend : min xs.size ys.size = xs.size \/ min xs.size ys.size < xs.size /\ min xs.size ys.size = ys.size := by omega
  unfold pyNext
  refine wpAny_bind (wpAny_attempt (wpAny_callSpecial?_slot (name := Str.ofString "__next__") hT F.slot_zip_next (wpAny_call_entry F.slot_zip_next hT F.entry_zip_next (zg_end (show A.in1.handled = none from hh) D S1 S2 a1 a2 a3 a4 a5 hend fun h' tk e hk he => ?_) (F.args_zip_next_1 _))))
  obtain ⟨o, ho, hc⟩ := he
  refine wpAny_bind (wpAny_isInstance (T := "StopIteration") (b := true) ⟨o, ho, hc⟩ isSubtype_stop (wpAny_pure (hQ h' tk fun c o hc e => ?_)))
  exact hk c o (fun q => hc (by simp [q])) (fun q => hc (by simp [q])) (fun q => hc (by simp [q])) (fun q => hc (by simp [q])) e
 self := fun i s Q E st h => wpAny_pyIter_zip st.1 h
end
end L2
namespace L2
open PySem PySem.Spec PyProof.Rows
def SqB (K : PySem.W.Frag) : Bool -> Hp -> Addr -> List V -> Prop
 | false, H, a, xs => SqL K H a xs
 | true, H, a, xs => SqT K H a xs
section
variable {X : Cx} {pins : List (Addr × Obj)} {σ : St} {H : Hp} {s : Shared} {b : Bool} {a c : Addr} {xs ys : List V}
theorem Inv.seqB (I : Inv X pins σ H s) (h : SqB X.K b H a xs) : ∃ its : List Value, Vals xs its /\ IsB b s.heap a its.toArray := by
 cases b with
 | false => obtain ⟨its, r, p, _⟩ := I.list h; exact ⟨its, r, p.isList⟩
 | true => obtain ⟨its, r, p, _⟩ := I.tuple h; exact ⟨its, r, p⟩
theorem Inv.seqB_inj (I : Inv X pins σ H s) (h : SqB X.K b H a xs) (h' : SqB X.K b H a ys) : xs = ys := by
 cases b with
 | false => exact I.list_inj h h'
 | true => exact I.tuple_inj h h'
theorem Inv.seqB_ne (I : Inv X pins σ H s) (h : SqB X.K b H a xs) (f : FpOk X pins H c) : a ≠ c := by
 rintro rfl
 obtain ⟨f0, _, _, f3, _⟩ := f
 have rd : ∀ {o : HO}, Rd H a o -> False := fun r => by
  rcases r with r | ⟨_, r⟩
  ·rw [f0] at r; cases r
  ·rw [f0] at r; cases r
 have kk : ∀ {o : Obj}, X.K.lookup a = some o -> False := fun {o} e => by
  have eb := I.ok.mod.kin a o e
  rcases f3 with f3 | f3
  ·exact I.ok.noex a o eb f3
  ·exact Nat.lt_irrefl _ (Nat.lt_of_lt_of_le (Heap.lt_size (I.ok.bs a o eb).1) f3)
 cases b with
 | false => rcases h with h | ⟨o, _, _, e, _⟩; exact rd h; exact kk e
 | true => rcases h with h | ⟨o, _, _, e, _⟩; exact rd h; exact kk e
end
def Izp (K : PySem.W.Frag) (p q : Bool) (a b : Addr) : It :=
 ⟨fun i H => ∃ xs ys x y, SqB K p H a xs /\ SqB K q H b ys /\ xs[i]? = some x /\ ys[i]? = some y,
  fun i H v H' => ∃ T x y, H T = none /\ v = .ref T /\ H' = upd H T (.tup [x, y]) /\ (∀ xs, SqB K p H a xs -> xs[i]? = some x) /\ ∀ ys, SqB K q H b ys -> ys[i]? = some y,
  fun i H => ∃ xs ys, SqB K p H a xs /\ SqB K q H b ys /\ i = min xs.length ys.length⟩
theorem turn_zip {P : Program} {w : World} {K : PySem.W.Frag} {elts : List Expr} {k : Nat} {pos : Pos} (p q : Bool) (a b z TI TO i1 i2 : Addr) (d1 : TI ≠ z) (d2 : TO ≠ z) (d3 : i1 ≠ z) (d4 : i2 ≠ z) (d5 : TI ≠ TO) (d6 : TI ≠ i1) (d7 : TI ≠ i2) (d8 : TO ≠ i1) (d9 : TO ≠ i2) (d10 : i1 ≠ i2) :
  Turn P w K (.Tuple elts k pos) (Izp K p q a b) [z, TI, TO, i1, i2] z (fun i h => IsZip h z TI TO .none /\ IsPair h TI (.ref i1) (.ref i2) /\ (∃ u v, IsPair h TO u v) /\ ItB p h i1 a i /\ ItB q h i2 b i) where
 mem := by simp
 obj := fun i h st c hc => by
  obtain ⟨a1, a2, ⟨u, v, a3⟩, a4, a5⟩ := st
  have it : ∀ {r : Bool} {j l : Addr} {n : Nat}, ItB r h j l n -> ∃ o, h.get? j = some o /\ ∀ v, o.data ≠ .cell v := fun {r j l n} x => by
   cases r with
   | false => obtain ⟨o, e, _, d⟩ := (show h.IsListIter j l n from x); exact ⟨o, e, fun v y => by rw [d] at y; cases y⟩
   | true => obtain ⟨o, e, _, d⟩ := (show h.IsTupleIter j l n from x); exact ⟨o, e, fun v y => by rw [d] at y; cases y⟩
  simp only [List.mem_cons, List.not_mem_nil, or_false] at hc
  rcases hc with rfl | rfl | rfl | rfl | rfl
  ·exact ⟨_, a1, fun v y => nomatch y⟩
  ·exact ⟨_, a2, fun v y => nomatch y⟩
  ·exact ⟨_, a3, fun v y => nomatch y⟩
  ·exact it a4
  ·exact it a5
 keep := fun i h h' st k => by
  obtain ⟨a1, a2, ⟨u, v, a3⟩, a4, a5⟩ := st
  have it : ∀ {r : Bool} {j l : Addr} {n : Nat}, ItB r h j l n -> (∀ o, h.get? j = some o -> h'.get? j = some o) -> ItB r h' j l n := fun {r j l n} x kk => by
   cases r with
   | false => exact Heap.IsListIter.at x fun o e => kk o e
   | true => exact Heap.IsTupleIter.at x fun o e => kk o e
  exact ⟨k z (by simp) _ a1, k TI (by simp) _ a2, ⟨u, v, k TO (by simp) _ a3⟩, it a4 fun o e => k i1 (by simp) o e, it a5 fun o e => k i2 (by simp) o e⟩
 item := by
  intro X hP hw hK hc i pins s σ H E I hf st hg
  subst hP hw hK
  obtain ⟨xs, ys, x, y, sx, sy, ex, ey⟩ := hg
  obtain ⟨its, rv, px⟩ := I.seqB sx
  obtain ⟨jts, rw', py⟩ := I.seqB sy
  obtain ⟨u, hu, ru⟩ := rv.get ex
  obtain ⟨v, hv, rv2⟩ := rw'.get ey
  have na : ∀ c ∈ [z, TI, TO, i1, i2], a ≠ c := fun c hc => I.seqB_ne sx (hf c hc)
  have nb : ∀ c ∈ [z, TI, TO, i1, i2], b ≠ c := fun c hc => I.seqB_ne sy (hf c hc)
  have D : ZipApart z TI TO i1 i2 a b := ⟨d1, d2, d3, d4, d5, d6, d7, d8, d9, d10, na z (by simp), na TO (by simp), na i1 (by simp), na i2 (by simp), nb z (by simp), nb TO (by simp), nb i1 (by simp), nb i2 (by simp)⟩
  obtain ⟨a1, a2, a3, a4, a5⟩ := id st
  have W := walkZ (prog := X.prog) (w := X.w) (A := X.A) (I.ok.hd hc) D (srcB p i1 a D.l1i1 its.toArray) (srcB q i2 b D.l2i2 jts.toArray)
  refine W.item i s _ _ ?_ ⟨a1, a2, a3, ⟨a4, px⟩, ⟨a5, py⟩⟩ fun T vals h' tk hvl hT ht hm kk => ?_
  ·have n1 := (List.getElem?_eq_some_iff.mp hu).1
   have n2 := (List.getElem?_eq_some_iff.mp hv).1
   simp only [List.size_toArray]; omega
  have apart := W.apart i T h' hm
  have hf' : ∀ c ∈ [z, TO, i1, i2], FpOk X pins H c := fun c hc => hf c (by simp only [List.mem_cons, List.not_mem_nil, or_false] at hc ⊢; rcases hc with rfl | rfl | rfl | rfl <;> simp)
  refine ⟨_, rfl, W.go elts k pos i T _ _ _ hm fun h'' st'' kk'' => ?_⟩
  obtain ⟨x', y', hx', hy', rfl⟩ := hvl
  have hxu : x' = u := by
   have : its[i]? = some x' := by simpa using hx'
   rw [hu] at this; exact (Option.some.inj this).symm
  have hyv : y' = v := by
   have : jts[i]? = some y' := by simpa using hy'
   rw [hv] at this; exact (Option.some.inj this).symm
  subst hxu hyv
  have I1 : Inv X pins σ H { s with heap := h', toks := tk } := I.turnedL kk hf'
  have I2 : Inv X pins σ H { s with heap := h'', toks := tk } := I1.turnedL (s := { s with heap := h', toks := tk }) (t' := tk) kk'' hf'
  have fT : FpOk X pins H T := I.fpOk hT (I.hok.fresh hT)
  have ht'' : IsTup h'' T #[x', y'] := let ⟨o, ho, r⟩ := ht; ⟨o, kk'' T o apart ho, r⟩
  refine ⟨.ref T, upd H T (.tup [x, y]), I2.track fT ⟨by show 2 <= sizeLine; decide, [x', y'], .cons ru (.cons rv2 .nil), ht''⟩, rfl, ⟨T, x, y, fT.1, rfl, rfl, fun zs hz => by rw [I.seqB_inj hz sx]; exact ex, fun zs hz => by rw [I.seqB_inj hz sy]; exact ey⟩, ⟨st''.1, st''.2.1, st''.2.2.1, st''.2.2.2.1.1, st''.2.2.2.2.1⟩, fun c hc => ?_⟩
  have hlt : ∀ {e : Addr} {o : Obj}, s.heap.get? e = some o -> e ≠ T := fun q => Nat.ne_of_lt (Nat.lt_of_lt_of_le (Heap.lt_size q) hT)
  have hcT : c ≠ T := by
   obtain ⟨u3, v3, a3⟩ := a3
   have S1 := srcB (prog := X.prog) (w := X.w) p i1 a D.l1i1 its.toArray
   have S2 := srcB (prog := X.prog) (w := X.w) q i2 b D.l2i2 jts.toArray
   simp only [List.mem_cons, List.not_mem_nil, or_false] at hc
   rcases hc with rfl | rfl | rfl | rfl | rfl
   ·exact hlt a1
   ·exact hlt a2
   ·exact hlt a3
   ·obtain ⟨o, e⟩ := S1.live (k := i) ⟨a4, px⟩; exact hlt e
   ·obtain ⟨o, e⟩ := S2.live (k := i) ⟨a5, py⟩; exact hlt e
  rw [upd_ne hcT]
  exact (hf c hc).1
 done := by
  intro X hP hw hK hc i pins s σ H E I hf st hg
  subst hP hw hK
  obtain ⟨xs, ys, sx, sy, hn⟩ := hg
  obtain ⟨its, rv, px⟩ := I.seqB sx
  obtain ⟨jts, rw', py⟩ := I.seqB sy
  have na : ∀ c ∈ [z, TI, TO, i1, i2], a ≠ c := fun c hc => I.seqB_ne sx (hf c hc)
  have nb : ∀ c ∈ [z, TI, TO, i1, i2], b ≠ c := fun c hc => I.seqB_ne sy (hf c hc)
  have D : ZipApart z TI TO i1 i2 a b := ⟨d1, d2, d3, d4, d5, d6, d7, d8, d9, d10, na z (by simp), na TO (by simp), na i1 (by simp), na i2 (by simp), nb z (by simp), nb TO (by simp), nb i1 (by simp), nb i2 (by simp)⟩
  obtain ⟨a1, a2, a3, a4, a5⟩ := id st
  have W := walkZ (prog := X.prog) (w := X.w) (A := X.A) (I.ok.hd hc) D (srcB p i1 a D.l1i1 its.toArray) (srcB q i2 b D.l2i2 jts.toArray)
  have hf' : ∀ c ∈ [z, TO, i1, i2], FpOk X pins H c := fun c hc => hf c (by simp only [List.mem_cons, List.not_mem_nil, or_false] at hc ⊢; rcases hc with rfl | rfl | rfl | rfl <;> simp)
  have hi : min its.toArray.size jts.toArray.size = i := by rw [List.size_toArray, List.size_toArray, <- rv.length, <- rw'.length]; exact hn.symm
  subst hi
  exact W.done s _ _ ⟨a1, a2, a3, ⟨a4, px⟩, ⟨a5, py⟩⟩ fun h' tk kk => ⟨rfl, I.turnedL kk hf'⟩
 self := fun A i s Q E st h => wpAny_pyIter_zip st.1 h
def zipA (ds es : List PyData) : List AV := List.zipWith (fun d e => AV.D (.tuple [d, e])) ds es
theorem zipA_length (ds es : List PyData) : (zipA ds es).length = min ds.length es.length := List.length_zipWith
theorem zipA_get {ds es : List PyData} {i : Nat} {x : AV} (h : (zipA ds es)[i]? = some x) : ∃ d e, ds[i]? = some d /\ es[i]? = some e /\ x = .D (.tuple [d, e]) := by
 unfold zipA at h
 rw [List.getElem?_zipWith] at h
 split at h
 ·rename_i d e hd he
  cases h
  exact ⟨d, e, hd, he, rfl⟩
 ·cases h
theorem itOk_zip {K : PySem.W.Frag} {H0 : Hp} {p q : Bool} {a b : Addr} {us vs : List AV} {ds es : List PyData} {kp : M -> Prop} (hd : dats us = some ds) (he : dats vs = some es)
  (h : ∀ H μ, Kp H0 H -> Cn K μ H -> kp μ -> ∃ xs ys, SqB K p H a xs /\ RelAs K H us xs /\ SqB K q H b ys /\ RelAs K H vs ys) : ItOk K H0 (Izp K p q a b) (zipA ds es) kp := by
 have hn : ds.length = us.length := by rw [dats_eq hd, List.length_map]
 have hm : es.length = vs.length := by rw [dats_eq he, List.length_map]
 refine ⟨fun i H μ S c k hi => ?_, fun i H μ v H' x S c k e y => ?_, fun H μ S c k => ?_⟩
 ·obtain ⟨xs, ys, s1, r1, s2, r2⟩ := h H μ S c k
  rw [zipA_length, hn, hm, r1.length, r2.length] at hi
  exact ⟨xs, ys, xs[i]'(by omega), ys[i]'(by omega), s1, s2, List.getElem?_eq_getElem _, List.getElem?_eq_getElem _⟩
 ·obtain ⟨xs, ys, s1, r1, s2, r2⟩ := h H μ S c k
  obtain ⟨T, x', y', hT, rfl, rfl, q1, q2⟩ := y
  obtain ⟨d, e', e1, e2, rfl⟩ := zipA_get e
  obtain ⟨u, eu, ru⟩ := (r1.dats hd).get e1
  obtain ⟨v, ev, rv⟩ := (r2.dats he).get e2
  rw [q1 xs s1] at eu
  rw [q2 ys s2] at ev
  cases eu
  cases ev
  exact ⟨Kp.new hT _, c.over hT, ra_tup upd_same (dks_cons (Dk.kp (Kp.new hT _) _ _ ru) (dks_cons (Dk.kp (Kp.new hT _) _ _ rv) dks_nil))⟩
 ·obtain ⟨xs, ys, s1, r1, s2, r2⟩ := h H μ S c k
  exact ⟨xs, ys, s1, s2, by rw [zipA_length, hn, hm, r1.length, r2.length]⟩
def jZip (ta tb : AE) : AI := fun τ μ R => ta τ μ fun x μ1 => tb τ μ1 fun y μ2 => opt (items μ2 x) fun us => opt (items μ2 y) fun vs => opt (dats us) fun ds => opt (dats vs) fun es => R (zipA ds es) (fun μ => items μ x = some us /\ items μ y = some vs) μ2
section
variable {X : Cx} {e1 e2 : Expr} {ta tb : AE} {pos p : Pos}
theorem vi_zip {elts : List Expr} {k : Nat} {tpos : Pos} (hg : Gl X "zip") (hm : X.mg "zip" = none) (h1 : VE X e1 ta) (h2 : VE X e2 tb) (hs : starEach [e1, e2] X.env = (false, eval e1 X.env) :: starEach [e2] X.env := by rfl) (hs2 : starEach [e2] X.env = [(false, eval e2 X.env)] := by rfl) (hpl : (backTo pos (starEach [e2] X.env)).any (·.1) = false := by rfl) :
  VI X (.Tuple elts k tpos) (.Call (.Name "zip" p) [e1, e2] [] pos) (jZip ta tb) := by
 intro pins s σ H R I zz119
 refine ex34 zz119 fun τ μ R' hst hc h hq => ?_
 refine wpAny_Call_Name_kw (ld_blt I hg hm boot_zip (PyProof.Rows.callWith_type1 ?_ hs hpl))
 rw [hs]
 refine Calls.spliced_cons (wpAny_mono (h1.run I hst hc h) (fun u1 s1 zz120 => ex46 zz120 fun x v μ1 H1 I1 rv S1 c1 rx q1 => ?_) fun _ _ e => e)
 rw [hs2]
 refine Calls.spliced_cons (wpAny_mono (h2.run I1 (hst.kp S1) c1 q1) (fun u2 s2 zz121 => ex46 zz121 fun y v2 μ2 H2 I2 rv2 S2 c2 ry q2 => Calls.spliced_nil ?_) fun _ _ e => e)
 obtain ⟨us, eu, q2⟩ := opt_e q2
 obtain ⟨vs, ev, q2⟩ := opt_e q2
 obtain ⟨ds, ed, q2⟩ := opt_e q2
 obtain ⟨es, ee, q2⟩ := opt_e q2
 have rx2 := rx.kp S2
 obtain ⟨a, xs, rfl, ka, ra⟩ := items_kind c2 rx2 eu
 obtain ⟨b, ys, rfl, kb, rb⟩ := items_kind c2 ry ev
 have sqOf : ∀ {H : Hp} {z : AV} {c : Addr} {ws : List V}, (isT z = false /\ SqL X.K H c ws) \/ (isT z = true /\ SqT X.K H c ws) -> SqB X.K (isT z) H c ws := fun {H z c ws} h => by
  rcases h with ⟨t, h⟩ | ⟨t, h⟩
  ·rw [t]; exact h
  ·rw [t]; exact h
 cases rv
 cases rv2
 obtain ⟨its, r1, p1⟩ := I2.seqB (sqOf ka)
 obtain ⟨jts, r2, p2⟩ := I2.seqB (sqOf kb)
 refine callZipB p1 p2 fun h' z1 z2 z3 z4 z5 z6 kz => wpAny_pyIter_zip z1 ?_
 generalize hB : s2.heap.objs.size = B at z1 z2 z3 z4 z5 z6
 have f : ∀ (i j : Nat), i ≠ j -> (B + i : Nat) ≠ B + j := fun i j h => by omega
 refine ⟨B + 4, [B + 4, B + 2, B + 3, B, B + 1], _, _, H2, rfl, I2.kept (t' := s2.toks) kz, turn_zip (isT x) (isT y) a b (B + 4) (B + 2) (B + 3) B (B + 1) (f 2 4 (by decide)) (f 3 4 (by decide)) (f 0 4 (by decide)) (f 1 4 (by decide)) (f 2 3 (by decide)) (f 2 0 (by decide)) (f 2 1 (by decide)) (f 3 0 (by decide)) (f 3 1 (by decide)) (f 0 1 (by decide)), ⟨z1, z2, ⟨_, _, z3⟩, z4, z5⟩, fun c hc' => ?_, hq _ _ _ _ _ (S1.trans S2) c2 (itOk_zip (p := isT x) (q := isT y) (a := a) (b := b) ed ee fun H3 μ3 S3 c3 k3 => ?_) q2⟩
 ·have hge : s2.heap.objs.size <= c := by
   rw [hB]
   simp only [List.mem_cons, List.not_mem_nil, or_false] at hc'
   rcases hc' with rfl | rfl | rfl | rfl | rfl
   ·exact Nat.le_add_right _ _
   ·exact Nat.le_add_right _ _
   ·exact Nat.le_add_right _ _
   ·exact Nat.le_refl _
   ·exact Nat.le_add_right _ _
  exact I2.fpOk hge (I2.hok.fresh hge)
 ·obtain ⟨a', xs', ea, ka', ra'⟩ := items_kind c3 (rx2.kp S3) k3.1
  obtain ⟨b', ys', eb, kb', rb'⟩ := items_kind c3 (ry.kp S3) k3.2
  cases ea
  cases eb
  exact ⟨xs', ys', sqOf ka', ra', sqOf kb', rb'⟩
end
end L2
namespace L2
open PySem PySem.Spec PyProof.Rows
section
variable {prog : Program} {w : World} {A : Around} {E : Value -> Shared -> Prop} {s : Shared} {z TI TO i1 i2 l1 l2 : Addr} {xs ys : Array Value} {St1 St2 : Nat -> Heap -> Prop}
theorem zg_over {T : Addr} {b1 : Bool} {Q : PySem.Fin -> Shared -> Prop} (hh : A.handled = none) (D : ZipApart z TI TO i1 i2 l1 l2) (S1 : Src prog w i1 l1 xs St1)
  (hz : ZObj s.heap z TI TO (rawInt T) b1) (hT : ∃ o, s.heap.get? T = some o) (hTI : IsPair s.heap TI (.ref i1) (.ref i2)) (h1 : St1 xs.size s.heap)
  (hE : ∀ h' tk e, (∀ c o, c ≠ z -> c ≠ i1 -> c ≠ i2 -> s.heap.get? c = some o -> h'.get? c = some o) -> (∃ o, h'.get? e = some o /\ o.cls = .type "StopIteration") -> E (.ref e) { s with heap := h', toks := tk }) :
  wpAny (model prog w) A (Builtin.«zip.__next__» ⟨[.ref z], []⟩) Q E s := by
 refine (show wpAny _ _ (field (.ref z) 2 >>= _) _ _ _ from wpAny_bind (wpAny_field hz rfl (x := .bool false) rfl (show wpAny _ _ (field (.ref z) 3 >>= _) _ _ _ from wpAny_bind (wpAny_field hz rfl (x := .ref TI) rfl (wpAny_bind (wpAny_seqItems hTI rfl (show wpAny _ _ (Builtin.SmallTypes.ownedTupleIsFree (.ref z) >>= _) _ _ _ from wpAny_bind (owned_busy hz hT fun g1 hz1 hs1 => ?_))))))))
 simp only [Bool.false_eq_true, if_false]
 refine wpAny_bind ?_
 rw [<- Array.forIn_toList]
 simp only [List.forIn_cons, List.forIn_nil]
 have a1 : St1 xs.size g1 := S1.keep h1 (fun o e => hs1.extBut _ _ D.i1z e) (fun o e => hs1.extBut _ _ D.l1z e)
 refine wpAny_bind (wpAny_bind (wpAny_holding (show wpAny _ _ (Builtin.SmallTypes.nextOf (.ref i1) >>= _) _ _ _ from wpAny_bind ((S1 A hh).done _ _ _ a1 fun g2 e k2 hS => ?_))))
 exact hE g2 _ e (fun c o c1 c2 c3 q => k2 c o c2 (hs1.extBut _ _ c1 q)) hS
def ZSg (St1 St2 : Nat -> Heap -> Prop) (h : Heap) (z TI TO i1 i2 : Addr) (i : Nat) : Prop :=
 IsPair h TI (.ref i1) (.ref i2) /\ St1 i h /\ St2 i h /\ ((ZObj h z TI TO .none false /\ ∃ a b, IsPair h TO a b) \/ ∃ (T : Addr) (b1 : Bool), ZObj h z TI TO (rawInt T) b1 /\ (∃ o, h.get? T = some o) /\ (∃ o, h.get? TO = some o) /\ T ≠ z /\ T ≠ TO /\ T ≠ i1 /\ T ≠ i2)
theorem zg_step {i : Nat} {Q : Option Value -> Shared -> Prop} (hh : A.handled = none) (D : ZipApart z TI TO i1 i2 l1 l2) (S1 : Src prog w i1 l1 xs St1) (S2 : Src prog w i2 l2 ys St2) (st : ZSg St1 St2 s.heap z TI TO i1 i2 i) (hx : i < xs.size) (hy : i < ys.size)
  (hQ : ∀ h' tk T x y, xs[i]? = some x -> ys[i]? = some y -> ZSg St1 St2 h' z TI TO i1 i2 (i + 1) -> IsPair h' T x y -> s.heap.objs.size <= T -> (∀ c o, c ≠ z -> c ≠ TO -> c ≠ i1 -> c ≠ i2 -> s.heap.get? c = some o -> h'.get? c = some o) -> Q (some (.ref T)) { s with heap := h', toks := tk }) :
  wpAny (model prog w) A (pyNext (.ref z)) Q E s := by
 obtain ⟨a1, a2, a3, a6⟩ := st
 have lz : ∀ {c o}, s.heap.get? c = some o -> s.heap.objs.size ≠ c := fun e => Nat.ne_of_gt (Heap.lt_size e)
 have li1 : s.heap.objs.size ≠ i1 := by obtain ⟨o, e⟩ := S1.live a2; exact lz e
 have li2 : s.heap.objs.size ≠ i2 := by obtain ⟨o, e⟩ := S2.live a3; exact lz e
 rcases a6 with ⟨hz, a, b, hTO⟩ | ⟨T, b1, hz, hT, ⟨oO, hoO⟩, t1, t2, t3, t4⟩
 ·have hTy : s.TypeIs (.ref z) "zip" := ⟨_, hz, rfl⟩
  unfold pyNext
  refine wpAny_bind (wpAny_attempt (wpAny_callSpecial?_slot (name := Str.ofString "__next__") hTy F.slot_zip_next (wpAny_call_entry F.slot_zip_next hTy F.entry_zip_next (zg_first (show A.in1.handled = none from hh) D S1 S2 hz a1 hTO a2 a3 hx hy fun h' tk x y ex ey z1 z2 z3 z4 z5 hk => ?_) (F.args_zip_next_1 _))))
  exact wpAny_pure (hQ h' tk _ x y ex ey ⟨hk _ _ D.TIz D.TITO D.TIi1 D.TIi2 a1, z3, z4, .inr ⟨_, false, z1, ⟨_, z5⟩, ⟨_, z2⟩, lz hz, lz hTO, li1, li2⟩⟩ z5 (Nat.le_refl _) hk)
 ·have hTy : s.TypeIs (.ref z) "zip" := ⟨_, hz, rfl⟩
  unfold pyNext
  refine wpAny_bind (wpAny_attempt (wpAny_callSpecial?_slot (name := Str.ofString "__next__") hTy F.slot_zip_next (wpAny_call_entry F.slot_zip_next hTy F.entry_zip_next (zg_more (show A.in1.handled = none from hh) D S1 S2 hz hT a1 a2 a3 hx hy fun h' tk x y ex ey z1 z3 z4 z5 hk => ?_) (F.args_zip_next_1 _))))
  have hk2 : ∀ c o, c ≠ z -> c ≠ TO -> c ≠ i1 -> c ≠ i2 -> s.heap.get? c = some o -> h'.get? c = some o := fun c o c1 _ c3 c4 e => hk c o c1 c3 c4 e
  obtain ⟨oT, hoT⟩ := hT
  exact wpAny_pure (hQ h' tk _ x y ex ey ⟨hk _ _ D.TIz D.TIi1 D.TIi2 a1, z3, z4, .inr ⟨T, true, z1, ⟨oT, hk _ _ t1 t3 t4 hoT⟩, ⟨oO, hk _ _ D.TOz D.TOi1 D.TOi2 hoO⟩, t1, t2, t3, t4⟩⟩ z5 (Nat.le_refl _) hk2)
theorem zg_stop {Q : Option Value -> Shared -> Prop} (hh : A.handled = none) (D : ZipApart z TI TO i1 i2 l1 l2) (S1 : Src prog w i1 l1 xs St1) (S2 : Src prog w i2 l2 ys St2) (st : ZSg St1 St2 s.heap z TI TO i1 i2 xs.size)
  (hQ : ∀ h' tk, (∀ c o, c ≠ z -> c ≠ TO -> c ≠ i1 -> c ≠ i2 -> s.heap.get? c = some o -> h'.get? c = some o) -> Q none { s with heap := h', toks := tk }) : wpAny (model prog w) A (pyNext (.ref z)) Q E s := by
 obtain ⟨a1, a2, a3, a6⟩ := st
 rcases a6 with ⟨hz, a, b, hTO⟩ | ⟨T, b1, hz, hT, ⟨oO, hoO⟩, t1, t2, t3, t4⟩
 ·have hTy : s.TypeIs (.ref z) "zip" := ⟨_, hz, rfl⟩
  unfold pyNext
  refine wpAny_bind (wpAny_attempt (wpAny_callSpecial?_slot (name := Str.ofString "__next__") hTy F.slot_zip_next (wpAny_call_entry F.slot_zip_next hTy F.entry_zip_next (zg_end (show A.in1.handled = none from hh) D S1 S2 hz a1 hTO a2 a3 (.inl rfl) fun h' tk e hk he => ?_) (F.args_zip_next_1 _))))
  obtain ⟨o, ho, hc⟩ := he
  refine wpAny_bind (wpAny_isInstance (T := "StopIteration") (b := true) ⟨o, ho, hc⟩ isSubtype_stop ?_)
  exact wpAny_pure (hQ _ _ hk)
 ·have hTy : s.TypeIs (.ref z) "zip" := ⟨_, hz, rfl⟩
  unfold pyNext
  refine wpAny_bind (wpAny_attempt (wpAny_callSpecial?_slot (name := Str.ofString "__next__") hTy F.slot_zip_next (wpAny_call_entry F.slot_zip_next hTy F.entry_zip_next (zg_over (show A.in1.handled = none from hh) D S1 hz hT a1 a2 fun h' tk e hk he => ?_) (F.args_zip_next_1 _))))
  obtain ⟨o, ho, hc⟩ := he
  refine wpAny_bind (wpAny_isInstance (T := "StopIteration") (b := true) ⟨o, ho, hc⟩ isSubtype_stop ?_)
  exact wpAny_pure (hQ _ _ fun c o c1 _ c3 c4 e => hk c o c1 c3 c4 e)
theorem zg_loop {R : Result -> Shared -> Prop} {base : Nat} {S : Addr} {res : Value} (hh : A.handled = none) (D : ZipApart z TI TO i1 i2 l1 l2) (S1 : Src prog w i1 l1 xs St1) (S2 : Src prog w i2 l2 ys St2) (hSn : S ∉ [z, TI, TO, i1, i2, l1, l2]) (hz : xs.size = ys.size) (hn : xs.size <= 1000) :
  ∀ (m i : Nat) (s : Shared) (acc : Array Value) (c : Nat) (as : List Addr), m + i = xs.size -> ZSg St1 St2 s.heap z TI TO i1 i2 i -> s.heap.get? S = some { cls := .type "list", dict := none, data := .seq acc c, slots := #[] } -> acc.toList = as.map Value.ref -> PairsAt s.heap [S, z, TO, i1, i2] base as ((xs.toList.zip ys.toList).take i) -> base <= s.heap.objs.size ->
   (∀ h' tk acc' c' as', (∀ b o, b ∉ [S, z, TO, i1, i2] -> s.heap.get? b = some o -> h'.get? b = some o) -> h'.get? S = some { cls := .type "list", dict := none, data := .seq acc' c', slots := #[] } -> acc'.toList = as'.map Value.ref -> PairsAt h' [S, z, TO, i1, i2] base as' (xs.toList.zip ys.toList) -> R (.ok (.ret res)) { s with heap := h', toks := tk }) ->
   codeAny (model prog w) A (.builtin "list.extend.loop" ⟨[.ref S, .ref z, res], []⟩) R s := by
 simp only [List.mem_cons, List.not_mem_nil, or_false, not_or] at hSn
 obtain ⟨n1, n2, n3, n4, n5, n6, n7⟩ := hSn
 intro m
 induction m with
 | zero =>
  intro i s acc c as hm st hS eA hP hB hR
  have hi : i = xs.size := by omega
  subst hi
  refine codeAny_builtin F.entry_extend_loop ?_
  rw [Around.under_plainId F.plain_extend_loop _]
  refine (show wpAny _ A.in1 (pyNext (.ref z) >>= _) _ _ s from wpAny_bind (zg_stop (show A.in1.handled = none from hh) D S1 S2 st fun h' tk hk => ?_))
  have hk2 : ∀ b o, b ∉ [S, z, TO, i1, i2] -> s.heap.get? b = some o -> h'.get? b = some o := fun b o hb e => by
   simp only [List.mem_cons, List.not_mem_nil, or_false, not_or] at hb
   exact hk b o hb.2.1 hb.2.2.1 hb.2.2.2.1 hb.2.2.2.2 e
  refine wpAny_pure (hR h' tk acc c as hk2 (hk S _ n1 n3 n4 n5 hS) eA ?_)
  have := hP.kp hk2
  rwa [List.take_of_length_le (by simp; omega)] at this
 | succ m ih =>
  intro i s acc c as hm st hS eA hP hB hR
  have hlt : i < xs.size := by omega
  have hlt2 : i < ys.size := by omega
  have hacc : acc.size = i := by
   have h1 := Paired.length hP.at_
   have h2 := congrArg List.length eA
   simp at h1 h2; omega
  refine codeAny_builtin F.entry_extend_loop ?_
  rw [Around.under_plainId F.plain_extend_loop _]
  refine (show wpAny _ A.in1 (pyNext (.ref z) >>= _) _ _ s from wpAny_bind (zg_step (show A.in1.handled = none from hh) D S1 S2 st hlt hlt2 fun h' tk T x y hx hy st' hp hT hk => ?_))
  have hS' := hk S _ n1 n3 n4 n5 hS
  have up : ∀ b o, b ≠ S -> h'.get? b = some o -> (h'.update S (Obj.mapSeq (·.push (Value.ref T)))).get? b = some o := fun b o hb e => (Heap.get?_update_other _ _ (Ne.symm hb)).trans e
  have kk : ∀ b o, b ∉ [S, z, TO, i1, i2] -> s.heap.get? b = some o -> (h'.update S (Obj.mapSeq (·.push (Value.ref T)))).get? b = some o := fun b o hb e => by
   simp only [List.mem_cons, List.not_mem_nil, or_false, not_or] at hb
   exact up b o hb.1 (hk b o hb.2.1 hb.2.2.1 hb.2.2.2.1 hb.2.2.2.2 e)
  refine (show wpAny _ A.in1 (updateSeq S (·.push (.ref T)) >>= _) _ _ _ from wpAny_bind (wpAny_updateSeq hS' rfl (wpAny_pure ⟨plainId_quiet F.plain_extend_loop _, ih (i + 1) _ (acc.push (.ref T)) _ (as ++ [T]) (by omega) ?_ (Heap.get?_update_self _ hS' rfl) (by rw [Array.toList_push, eA, List.map_append]; rfl) ?_ ?_ fun h2 tk2 acc' c' as' hk2 hS2 eA2 hP2 => ?_⟩) (by rw [hacc]; exact Nat.le_trans (by omega) (show 1000 <= sizeLine by decide)) (by show (acc.push _).size <= sizeLine + 1; rw [Array.size_push, hacc]; exact Nat.le_trans (by omega) (show 1001 <= sizeLine + 1 by decide))))
  ·obtain ⟨a1, a2, a3, a6⟩ := st'
   refine ⟨up _ _ (Ne.symm n2) a1, S1.keep a2 (fun o e => up _ o (Ne.symm n4) e) (fun o e => up _ o (Ne.symm n6) e), S2.keep a3 (fun o e => up _ o (Ne.symm n5) e) (fun o e => up _ o (Ne.symm n7) e), ?_⟩
   rcases a6 with ⟨hz, a, b, hTO⟩ | ⟨T, b1, hz, ⟨oT, hoT⟩, ⟨oO, hoO⟩, t1⟩
   ·exact .inl ⟨up _ _ (Ne.symm n1) hz, a, b, up _ _ (Ne.symm n3) hTO⟩
   ·refine .inr ⟨T, b1, up _ _ (Ne.symm n1) hz, ?_, ⟨oO, up _ _ (Ne.symm n3) hoO⟩, t1⟩
    by_cases hTS : T = S
    ·subst hTS; exact ⟨_, Heap.get?_update_self _ hS' rfl⟩
    ·exact ⟨oT, up _ _ hTS hoT⟩
  ·have lt : ∀ {c o}, s.heap.get? c = some o -> T ≠ c := fun e => Nat.ne_of_gt (Nat.lt_of_lt_of_le (Heap.lt_size e) hT)
   have t0 : T ≠ S := lt hS
   have e1 : (xs.toList.zip ys.toList).take (i + 1) = (xs.toList.zip ys.toList).take i ++ [(x, y)] := by
    rw [List.take_succ]
    have : (xs.toList.zip ys.toList)[i]? = some (x, y) := by
     rw [List.getElem?_zip_eq_some, Array.getElem?_toList, Array.getElem?_toList]
     exact ⟨hx, hy⟩
    rw [this]; rfl
   obtain ⟨_, b2, b3, b6⟩ := st
   have tz : T ≠ z /\ T ≠ TO := by
    rcases b6 with ⟨hz, a, b, hTO⟩ | ⟨T, b1, hz, _, ⟨oO, hoO⟩, _⟩
    ·exact ⟨lt hz, lt hTO⟩
    ·exact ⟨lt hz, lt hoO⟩
   have hP' := hP.kp kk
   rw [e1]
   refine ⟨?_, fun U hU => ?_, Paired.snoc hP'.at_ (up _ _ t0 hp)⟩
   ·rw [List.pairwise_append]
    refine ⟨hP.rise, List.pairwise_singleton _ _, fun U hU V hV => ?_⟩
    rw [List.mem_singleton.mp hV]
    obtain ⟨_, q⟩ := paired_mem hP.at_ U hU
    exact Nat.lt_of_lt_of_le (Heap.lt_size q) hT
   ·rcases List.mem_append.mp hU with hU | hU
    ·exact hP.new U hU
    ·rw [List.mem_singleton.mp hU]
     refine ⟨Nat.le_trans hB hT, ?_⟩
     obtain ⟨_, c2⟩ := S1.live b2
     obtain ⟨_, c3⟩ := S2.live b3
     simp only [List.mem_cons, List.not_mem_nil, or_false, not_or]
     exact ⟨t0, tz.1, tz.2, lt c2, lt c3⟩
  ·have := Heap.lt_size hp
   rw [Heap.size_update]
   exact Nat.le_trans hB (Nat.le_trans hT (Nat.le_of_lt this))
  ·exact hR h2 tk2 acc' c' as' (fun b o hb e => hk2 b o hb (kk b o hb e)) hS2 eA2 hP2
theorem collect_zipG {Q : List Value -> Shared -> Prop} (hh : A.handled = none) (D : ZipApart z TI TO i1 i2 l1 l2) (S1 : Src prog w i1 l1 xs St1) (S2 : Src prog w i2 l2 ys St2) (nl1 : s.heap.objs.size ≠ l1) (nl2 : s.heap.objs.size ≠ l2) (st : ZSg St1 St2 s.heap z TI TO i1 i2 0) (hz : xs.size = ys.size) (hn : xs.size <= 1000) (hzT : s.TypeIs (.ref z) "zip")
  (h : ∀ h' tk as, (∀ b o, b ∉ [s.heap.objs.size, z, TO, i1, i2] -> s.heap.get? b = some o -> h'.get? b = some o) -> PairsAt h' [s.heap.objs.size, z, TO, i1, i2] s.heap.objs.size as (xs.toList.zip ys.toList) -> Q (as.map Value.ref) { s with heap := h', toks := tk }) :
  wpAny (model prog w) A (collect (.ref z)) Q E s := by
 have lz : ∀ {c o}, s.heap.get? c = some o -> s.heap.objs.size ≠ c := fun e => Nat.ne_of_gt (Heap.lt_size e)
 unfold collect
 refine wpAny_bind (wpAny_runValue (codeAny_builtin F.entry_proto_collect ?_))
 rw [Around.under_plainId F.plain_proto_collect _]
 refine (show wpAny _ A.in1 (newList [] >>= fun l => again (.builtin "list.__iadd__" ⟨[l, .ref z], []⟩)) _ _ s from wpAny_bind (wpAny_newObj_type (wpAny_pure ⟨plainId_quiet F.plain_list_iadd _, codeAny_builtin F.entry_list_iadd ?_⟩)))
 rw [Around.under_plainId F.plain_list_iadd _]
 obtain ⟨a1, a2, a3, a6⟩ := st
 have nz : s.heap.objs.size ≠ z := by
  obtain ⟨o, e, _⟩ := (show ∃ o, s.heap.get? z = some o /\ _ from hzT)
  exact lz e
 have ni1 : s.heap.objs.size ≠ i1 := by obtain ⟨_, e⟩ := S1.live a2; exact lz e
 have ni2 : s.heap.objs.size ≠ i2 := by obtain ⟨_, e⟩ := S2.live a3; exact lz e
 have nTI : s.heap.objs.size ≠ TI := lz a1
 have nTO : s.heap.objs.size ≠ TO := by
  rcases a6 with ⟨_, a, b, e⟩ | ⟨T, b1, _, _, ⟨oO, e⟩, _⟩
  ·exact lz e
  ·exact lz e
 generalize hS : s.heap.objs.size = S at nz ni1 ni2 nl1 nl2 nTI nTO h ⊢
 generalize h1e : s.heap.push { cls := .type "list", data := .seq ([] : List Value).toArray } = h1
 have k1 : ∀ b o, s.heap.get? b = some o -> h1.get? b = some o := fun b o e => by subst h1e; exact Heap.get?_push_of_some _ e
 have eS : h1.get? S = some { cls := .type "list", data := .seq ([] : List Value).toArray } := by subst h1e; subst hS; exact Heap.get?_push_size _ rfl
 have T1 : Shared.TypeIs { s with heap := h1 } (.ref z) "zip" := by
  obtain ⟨o, e, c⟩ := (show ∃ o, s.heap.get? z = some o /\ _ from hzT)
  exact ⟨o, k1 z o e, c⟩
 have hsame : Builtin.List.listSameRef (.ref S) (.ref z) = false := by simp [Builtin.List.listSameRef, nz]
 refine (show wpAny _ A.in1 (Builtin.List.listExtendWith (.ref S) (.ref z) (.ref S)) _ _ { s with heap := h1 } from ?_)
 unfold Builtin.List.listExtendWith
 refine wpAny_bind (wpAny_typeOf T1 (wpAny_ite_split (fun hab => absurd hab (by rw [hsame]; decide)) fun _ => wpAny_bind ?_))
 refine wpAny_pyIter_slot T1 F.slot_zip_iter (wpAny_call_entry F.slot_zip_iter T1 F.entry_zip_iter (show wpAny _ _ (ret (.ref z)) _ _ _ from wpAny_pure ⟨_, rfl, "zip", _, T1, F.slot_zip_next.lookup, ?_⟩) (F.args_zip_iter_1 _))
 refine wpAny_bind (wpAny_holding ?_)
 unfold Builtin.List.listLengthHint
 refine wpAny_bind (wpAny_specialOf T1 zt_len (show wpAny _ A.in1 (specialOf (Value.ref z) (Str.ofString "__length_hint__") >>= _) _ _ _ from wpAny_bind (wpAny_specialOf T1 zt_hint (wpAny_pure ?_))))
 refine (show wpAny _ A.in1 (rule "list.extend.makes-room" >>= fun _ => Builtin.List.listTouch (.ref S) >>= fun _ => again (.builtin "list.extend.loop" ⟨[.ref S, .ref z, .ref S], []⟩)) _ _ _ from wpAny_bind (wpAny_rule (wpAny_bind (show wpAny _ _ (updateSeq S (·.push .none) >>= fun _ => updateSeq S (·.pop)) _ _ _ from wpAny_bind (wpAny_updateSeq eS rfl (wpAny_updateSeq (Heap.get?_update_self (Obj.mapSeq (·.push Value.none)) eS rfl) rfl ?_))))))
 have e4 := Heap.get?_update_self (Obj.mapSeq (·.pop)) (Heap.get?_update_self (Obj.mapSeq (·.push Value.none)) eS rfl) rfl
 have k4 : ∀ b o, b ≠ S -> h1.get? b = some o -> ((h1.update S (Obj.mapSeq (·.push Value.none))).update S (Obj.mapSeq (·.pop))).get? b = some o := fun b o hb e => (Heap.get?_update_other _ _ (Ne.symm hb)).trans ((Heap.get?_update_other _ _ (Ne.symm hb)).trans e)
 have z4 : S <= ((h1.update S (Obj.mapSeq (·.push Value.none))).update S (Obj.mapSeq (·.pop))).objs.size := by
  rw [Heap.size_update, Heap.size_update]; exact Nat.le_of_lt (Heap.lt_size eS)
 generalize ((h1.update S (Obj.mapSeq (·.push Value.none))).update S (Obj.mapSeq (·.pop))) = h4 at e4 k4 z4 ⊢
 have kk : ∀ b o, b ≠ S -> s.heap.get? b = some o -> h4.get? b = some o := fun b o hb e => k4 b o hb (k1 b o e)
 refine wpAny_pure ⟨plainId_quiet F.plain_extend_loop _, zg_loop (base := S) hh D S1 S2 ?_ hz hn xs.size 0 { s with heap := h4 } #[] _ [] (by omega) ⟨kk _ _ (Ne.symm nTI) a1, S1.keep a2 (fun o e => kk _ o (Ne.symm ni1) e) (fun o e => kk _ o (Ne.symm nl1) e), S2.keep a3 (fun o e => kk _ o (Ne.symm ni2) e) (fun o e => kk _ o (Ne.symm nl2) e), ?_⟩ e4 rfl ⟨List.Pairwise.nil, (fun _ h => nomatch h), .nil⟩ z4 fun h' tk acc' c' as' hk' hS' eA hP => ?_⟩
 ·simp only [List.mem_cons, List.not_mem_nil, or_false, not_or]
  exact ⟨nz, nTI, nTO, ni1, ni2, nl1, nl2⟩
 ·rcases a6 with ⟨q1, a, b, q2⟩ | ⟨T, b1, q1, ⟨oT, q2⟩, ⟨oO, q3⟩, q4⟩
  ·exact .inl ⟨kk _ _ (Ne.symm nz) q1, a, b, kk _ _ (Ne.symm nTO) q2⟩
  ·exact .inr ⟨T, b1, kk _ _ (Ne.symm nz) q1, ⟨oT, kk _ _ (fun z => by subst z; exact absurd (Heap.lt_size q2) (by rw [hS]; exact Nat.lt_irrefl _)) q2⟩, ⟨oO, kk _ _ (Ne.symm nTO) q3⟩, q4⟩
 ·refine wpAny_bind (wpAny_load hS' (wpAny_pure ?_))
  rw [eA]
  refine h h' tk as' (fun b o hb e => hk' b o hb (kk b o ?_ e)) hP
  exact fun z => hb (by simp [z])
theorem tuple_zipG (z TI TO i1 i2 l1 l2 : Addr) (xs ys : Array Value) (St1 St2 : Nat -> Heap -> Prop) (D : ZipApart z TI TO i1 i2 l1 l2) (S1 : Src prog w i1 l1 xs St1) (S2 : Src prog w i2 l2 ys St2) (hz : xs.size = ys.size) (hn : xs.size <= 1000) :
  MeetsIn prog w (Builtin.«tuple.__new__» ⟨[.type "tuple", .ref z], []⟩) (fun A R s => A.handled = none /\ ZSg St1 St2 s.heap z TI TO i1 i2 0 /\ s.heap.objs.size ≠ l1 /\ s.heap.objs.size ≠ l2 /\ (∃ f0 b1, ZObj s.heap z TI TO f0 b1) /\
   ∀ (h' : Heap) (tk : Tok) (as : List Addr), (∀ b o, b ∉ [s.heap.objs.size, z, TO, i1, i2] -> s.heap.get? b = some o -> h'.get? b = some o) -> PairsAt h' [s.heap.objs.size, z, TO, i1, i2] s.heap.objs.size as (xs.toList.zip ys.toList) ->
    R (.ok (.ret (.ref h'.objs.size))) { s with heap := h'.push { cls := .type "tuple", data := .seq (as.map Value.ref).toArray }, toks := tk }) :=
 .of_wp fun A R s h => by
  obtain ⟨hp, g, dr, tk, os⟩ := s
  obtain ⟨hh, st, nl1, nl2, ⟨f0, b1, ho⟩, h⟩ := h
  have q1 := sub_tuple_self
  have q2 := init_tuple_lookup
  have q3 := madeHere_tuple
  have hT : Shared.TypeIs ⟨hp, g, dr, tk, os⟩ (.ref z) "zip" := ⟨_, ho, rfl⟩
  wp_walk using wpAny_loadPart' ho, wpAny_typeOf hT, collect_zipG (A := A.in1) (s := ⟨hp, g, dr, tk, os⟩) hh D S1 S2 nl1 nl2 st hz hn hT
  intro h' tk' as hk hP
  have hlen : (as.map Value.ref).toArray.size <= sizeLine := by
   have := Paired.length hP.at_
   simp at this ⊢
   exact Nat.le_trans (by omega) (show 1000 <= sizeLine by decide)
  refine (show wpAny _ _ (Builtin.Tuple.tupleExact (as.map Value.ref).toArray >>= fun v => ret v) _ _ _ from ?_)
  unfold Builtin.Tuple.tupleExact
  exact wpAny_bind (wpAny_newObj_type (wpAny_pure ⟨_, rfl, h h' tk' as hk hP⟩) hlen)
end
end L2
namespace L2
open PySem PySem.Spec PyProof.Rows
def vTZipB (ta tb : AE) : AE := fun τ μ R => ta τ μ fun x μ1 => tb τ μ1 fun y μ2 => opt (items μ2 x) fun us => opt (items μ2 y) fun vs => opt (dats us) fun ds => opt (dats vs) fun es => (ds.length = es.length /\ ds.length <= 1000) /\ R (.D (.tuple (List.zipWith (fun d e => PyData.tuple [d, e]) ds es))) μ2
section
variable {X : Cx}
theorem refsV : ∀ (as : List Addr), Vals (as.map V.ref) (as.map Value.ref)
 | [] => .nil
 | a :: as => .cons rfl (refsV as)
theorem ve_tzipB {e1 e2 : Expr} {ta tb : AE} {p p2 pos pos2 : Pos} (hc : X.calm = true) (hg : Gl X "tuple") (hm : X.mg "tuple" = none) (hg2 : Gl X "zip") (hm2 : X.mg "zip" = none) (h1 : VE X e1 ta) (h2 : VE X e2 tb)
  (hs : starEach [.Call (.Name "zip" p2) [e1, e2] [] pos2] X.env = [(false, eval (.Call (.Name "zip" p2) [e1, e2] [] pos2) X.env)] := by rfl) (hs2 : starEach [e1, e2] X.env = (false, eval e1 X.env) :: starEach [e2] X.env := by rfl) (hs3 : starEach [e2] X.env = [(false, eval e2 X.env)] := by rfl) (hpl : (backTo pos2 (starEach [e2] X.env)).any (·.1) = false := by rfl) :
  VE X (.Call (.Name "tuple" p) [.Call (.Name "zip" p2) [e1, e2] [] pos2] [] pos) (vTZipB ta tb) := by
 intro pins s σ H Q I zz201
 refine ex34 zz201 fun τ μ R hst hcn h hq => ?_
 refine wpAny_Call_Name_kw (ld_blt I hg hm boot_tuple (PyProof.Rows.callWith_type1 ?_ hs rfl))
 rw [hs]
 refine Calls.spliced_cons (wpAny_Call_Name_kw (ld_blt I hg2 hm2 boot_zip (PyProof.Rows.callWith_type1 ?_ hs2 hpl)))
 rw [hs2]
 refine Calls.spliced_cons (wpAny_mono (h1.run I hst hcn h) (fun u1 s1 zu => ?_) fun _ _ e => e)
 obtain ⟨x, v, μ1, H1, I1, rv, S1, c1, rx, q1⟩ := zu
 rw [hs3]
 refine Calls.spliced_cons (wpAny_mono (h2.run I1 (hst.kp S1) c1 q1) (fun u2 s2 zu => Calls.spliced_nil ?_) fun _ _ e => e)
 obtain ⟨y, v2, μ2, H2, I2, rv2, S2, c2, ry, q2⟩ := zu
 obtain ⟨us, eu, q2⟩ := opt_e q2
 obtain ⟨vs, ev, q2⟩ := opt_e q2
 obtain ⟨ds, ed, q2⟩ := opt_e q2
 obtain ⟨es, ee, q2⟩ := opt_e q2
 obtain ⟨⟨hlen, hmax⟩, q2⟩ := q2
 have rx2 := rx.kp S2
 obtain ⟨a, xs, rfl, ka, ra⟩ := items_kind c2 rx2 eu
 obtain ⟨b, ys, rfl, kb, rb⟩ := items_kind c2 ry ev
 have sqOf : ∀ {H : Hp} {z : AV} {c : Addr} {ws : List V}, (isT z = false /\ SqL X.K H c ws) \/ (isT z = true /\ SqT X.K H c ws) -> SqB X.K (isT z) H c ws := fun {H z c ws} h => by
  rcases h with ⟨t, h⟩ | ⟨t, h⟩
  ·rw [t]; exact h
  ·rw [t]; exact h
 cases rv
 cases rv2
 obtain ⟨its1, r1, p1⟩ := I2.seqB (sqOf ka)
 obtain ⟨its2, r2, p2'⟩ := I2.seqB (sqOf kb)
 have da := ra.dats ed
 have db := rb.dats ee
 have l1 := r1.length
 have l2 := r2.length
 have l3 := da.length
 have l4 := db.length
 have isLt : ∀ {t : Bool} {c : Addr} {zs : Array Value}, IsB t s2.heap c zs -> c < s2.heap.objs.size := fun {t c zs} h => by
  cases t with
  | false => obtain ⟨o, e, _⟩ := (show s2.heap.IsList c zs from h); exact Heap.lt_size e
  | true => obtain ⟨o, e, _⟩ := (show s2.heap.IsTuple c zs from h); exact Heap.lt_size e
 have la := isLt p1
 have lb := isLt p2'
 refine callZipB p1 p2' fun h' z1 z2 z3 z4 z5 z6 kz => Calls.spliced_nil ?_
 generalize hB : s2.heap.objs.size = B at la lb z1 z2 z3 z4 z5 z6
 have D : ZipApart (B + 4) (B + 2) (B + 3) B (B + 1) a b := by
  have f : ∀ {c : Addr} (k : Nat), c < B -> c ≠ B + k := fun k h => Nat.ne_of_lt (Nat.lt_of_lt_of_le h (Nat.le_add_right B k))
  exact ⟨(show (B + 2 : Nat) ≠ B + 4 by omega), (show (B + 3 : Nat) ≠ B + 4 by omega), (show (B : Nat) ≠ B + 4 by omega), (show (B + 1 : Nat) ≠ B + 4 by omega), (show (B + 2 : Nat) ≠ B + 3 by omega), (show (B + 2 : Nat) ≠ B by omega), (show (B + 2 : Nat) ≠ B + 1 by omega), (show (B + 3 : Nat) ≠ B by omega), (show (B + 3 : Nat) ≠ B + 1 by omega), (show (B : Nat) ≠ B + 1 by omega), f 4 la, f 3 la, f 0 la, f 1 la, f 4 lb, f 3 lb, f 0 lb, f 1 lb⟩
 have hz1 : its1.toArray.size = its2.toArray.size := by simp; omega
 have hz2 : its1.toArray.size <= 1000 := by simp; omega
 have z6' : h'.objs.size = B + 5 := z6
 refine callType_newIn F.called_tuple (by decide) (F.typeCall_tuple_1 _) (F.newCall_tuple_1 _) (fun obj => F.args_object_init_2 obj _) F.entry_tuple_new
  (tuple_zipG (prog := X.prog) (w := X.w) (B + 4) (B + 2) (B + 3) B (B + 1) a b its1.toArray its2.toArray _ _ D (srcB (isT x) B a D.l1i1 its1.toArray) (srcB (isT y) (B + 1) b D.l2i2 its2.toArray) hz1 hz2) ⟨I.ok.hd hc, ⟨z2, ⟨z4, p1.at fun o e => kz _ o e⟩, ⟨z5, p2'.at fun o e => kz _ o e⟩, .inl ⟨z1, _, _, z3⟩⟩, ?_, ?_, ⟨_, _, z1⟩, fun h3 tk as hk hP => ⟨⟨_, Heap.get?_push_size _ rfl, rfl⟩, ?_⟩⟩
 ·show h'.objs.size ≠ a
  rw [z6']; exact Nat.ne_of_gt (Nat.lt_of_lt_of_le la (Nat.le_add_right _ _))
 ·show h'.objs.size ≠ b
  rw [z6']; exact Nat.ne_of_gt (Nat.lt_of_lt_of_le lb (Nat.le_add_right _ _))
 have kk : ∀ c o, s2.heap.get? c = some o -> h3.get? c = some o := fun c o e => by
  have lc := Heap.lt_size e
  rw [hB] at lc
  refine hk c o ?_ (kz c o e)
  simp only [List.mem_cons, List.not_mem_nil, or_false, not_or]
  refine ⟨?_, ?_, ?_, ?_, ?_⟩
  ·show ¬ c = h'.objs.size
   rw [z6']; exact Nat.ne_of_lt (Nat.lt_of_lt_of_le lc (by omega))
  all_goals exact Nat.ne_of_lt (Nat.lt_of_lt_of_le lc (by omega))
 have I3 : Inv X pins σ H2 { s2 with heap := h3 } := I2.kept kk
 have hfp : ∀ T ∈ as, FpOk X pins H2 T := fun T hT => by
  have hge : s2.heap.objs.size <= T := by
   have := (hP.new T hT).1
   have : h'.objs.size <= T := this
   rw [hB]; omega
  exact I2.fpOk hge (I2.hok.fresh hge)
 have hpv := pair_vals r1 r2
 obtain ⟨H4, I4, k4, p4, _⟩ := Inv.trackP (s := { s2 with heap := h3 }) I3 hP.rise hfp hP.at_ (by simpa using hpv)
 have S4 := Kp.all k4
 have hn4 := I4.hok.fresh (Nat.le_refl h3.objs.size)
 have dk := dk_pairs p4 (DkAll.kp S4 _ _ da) (DkAll.kp S4 _ _ db)
 have hal : (as.map V.ref).length <= sizeLine := by
  have := Paired.length hP.at_
  simp at this ⊢
  exact Nat.le_trans (by omega) (show 1000 <= sizeLine by decide)
 refine ⟨.ref h3.objs.size, _, I4.laid (a := h3.objs.size) (o := .tup (as.map V.ref)) (t' := tk) (fun b o e => Heap.get?_push_of_some _ e) (Nat.le_refl _) ⟨hal, as.map Value.ref, refsV as, IsTup.new _ _⟩, rfl, ?_⟩
 have S5 : Kp H4 (upd H4 h3.objs.size (.tup (as.map V.ref))) := Kp.new hn4 _
 exact hq (.D (.tuple (List.zipWith (fun d e => PyData.tuple [d, e]) ds es))) _ _ _ (((S1.trans S2).trans S4).trans S5) ((c2.allK k4).over hn4) (dk_tup (K := X.K) upd_same (DkAll.kp S5 _ _ dk)) q2
end
end L2
namespace K46
open PySem L2
def top (i : Nat) : Stmt := PySem.Challenge.pw_pileduel_k46_turned_and_renamed.main.body.getD i (.Pass ⟨0, 0, 0, 0⟩)
abbrev sIt : Stmt := top 17
abbrev sLk : Stmt := top 18
abbrev sLs : Stmt := top 19
abbrev sLu : Stmt := top 20
abbrev sLr : Stmt := top 21
abbrev sHp : Stmt := top 22
abbrev sIp : Stmt := top 23
abbrev sTu : Stmt := top 25
abbrev sRn : Stmt := top 26
abbrev sFt : Stmt := top 27
abbrev sDe : Stmt := top 29
abbrev sDr : Stmt := top 30
abbrev sNa : Stmt := top 31
abbrev sRu : Stmt := top 32
abbrev sRs : Stmt := top 33
abbrev sGa : Stmt := top 34
abbrev sRf : Stmt := top 38
abbrev sFi : Stmt := top 39
abbrev sTt : Stmt := top 40
abbrev sTr : Stmt := top 41
abbrev sYt : Stmt := top 42
abbrev sYr : Stmt := top 43
abbrev sCa : Stmt := top 44
abbrev sLaw : Stmt := top 45
section
variable {P : Program} {w : World} {K : PySem.W.Frag} {mg : Str -> Option Value} {base : Heap} {f : Addr} {fd : FuncData}
abbrev sic1 : Stmt := cdef (top 3)
abbrev nic1 : List Str := ["self", "word", "at"]
theorem scic1 : FnScope nic1 ["self", "word", "at"] (defScope sic1) := ⟨rfl, rfl, rfl, by decide +kernel, rfl, by decide +kernel, by decide +kernel⟩
theorem ok_ic1 {n : Nat} {C : Addr} (F : Fun K "__init__" "NoGame.__init__" sic1 f fd) (c : XCls K C) (na0 : NoAttr K C "word") (na1 : NoAttr K C "at") : FnOk P w K mg base CX0 (n + 1) f fd ["self", "word", "at"] (spI C ["word", "at"]) := by
 refine F.ok scic1 (fun vs H Q E h => ?_) (fun cdv A outer s H vs Q E hr h => ?_)
 ·obtain ⟨e, t, ys, rfl, hl, _⟩ := h
  rw [List.length_cons, hl]; rfl
 obtain ⟨e, t, ys, rfl, hl, he, q⟩ := h
 obtain ⟨y0, y1, rfl⟩ := len_two hl
 refine ⟨_, pss_cons (ps_x1 (pv 0) (pv 1) rfl) (pss_one (ps_x2 (pv 0) (pv 2) rfl)), ?_⟩
 refine ⟨_, rfl, _, rfl, e, C, t, rfl, he, c, na0, fun dx hdx hne => ?_⟩
 refine ⟨_, rfl, _, rfl, e, C, t, dx, _, rfl, by rw [upd_ne (Ne.symm hne), upd_same], upd_same, (show 1 < 1000 by decide), c, na1, ?_⟩
 refine q _ t dx (fun b o hb e' => ?_) (by rw [upd_ne (Ne.symm hne), upd_ne (Ne.symm hne), upd_same]) (by rw [upd_same]; rfl) hne
 rw [upd_ne (ne_of_none e' hdx), upd_ne (ne_of_none e' hdx), upd_ne hb]
 exact e'
end
section
variable {P : Program} {w : World} {K : PySem.W.Frag} {mg : Str -> Option Value} {base : Heap} {f : Addr} {fd : FuncData}
def intA (i : Int) : AV := .D (.int i)
def dealM (sd nm : Int) (l : Addr) : MO := .dk [(.inr "seed", .D (.int sd)), (.inr "number", .D (.int nm)), (.inr "left", .R l)]
structure PotAt (μ : M) (a l : Addr) (sd nm : Int) (ns : List Int) : Prop where
 ha : μ a = some (dealM sd nm l)
 hl : μ l = some (.lst (ns.map intA))
 s0 : 0 <= sd
 s1 : sd < 2147483648
 n0 : 0 <= nm
 p0 : ∀ n ∈ ns, 0 <= n
 ne : a ≠ l
def Pot (μ : M) (a l : Addr) : Prop := ∃ sd nm ns, PotAt μ a l sd nm ns
theorem k_sn : (.inr "seed" : Key) ≠ .inr "number" := by decide +kernel
theorem k_sl : (.inr "seed" : Key) ≠ .inr "left" := by decide +kernel
theorem k_nl : (.inr "number" : Key) ≠ .inr "left" := by decide +kernel
theorem t_sn : ("seed" : Str) ≠ "number" := by decide +kernel
theorem t_sl : ("seed" : Str) ≠ "left" := by decide +kernel
theorem t_nl : ("number" : Str) ≠ "left" := by decide +kernel
theorem g_seed {sd nm : Int} {l : Addr} : dget (dealM sd nm l) (.str "seed") = some (some (.D (.int sd))) := congrArg some valA_hd
theorem g_num {sd nm : Int} {l : Addr} : dget (dealM sd nm l) (.str "number") = some (some (.D (.int nm))) := congrArg some ((valA_tl k_sn).trans valA_hd)
theorem g_left {sd nm : Int} {l : Addr} : dget (dealM sd nm l) (.str "left") = some (some (.R l)) := congrArg some ((valA_tl k_sl).trans ((valA_tl k_nl).trans valA_hd))
theorem p_seed {sd nm v : Int} {l : Addr} : dput (dealM sd nm l) (.str "seed") (.D (.int v)) = some (dealM v nm l) := by
 refine congrArg some (congrArg MO.dk ?_)
 simp [putA, t_sn.symm, t_sl.symm]
theorem p_num {sd nm v : Int} {l : Addr} : dput (dealM sd nm l) (.str "number") (.D (.int v)) = some (dealM sd v l) := by
 refine congrArg some (congrArg MO.dk ?_)
 simp [putA, t_sn, t_nl.symm]
theorem d_small {sd nm : Int} {l : Addr} : dsize (dealM sd nm l) < sizeLine := small1000 (n := 3) (by decide)
def Ext2 (a l : Addr) (μ μ' : M) : Prop := ∀ b m, b ≠ a -> b ≠ l -> μ b = some m -> μ' b = some m
theorem Ext2.refl {a l : Addr} {μ : M} : Ext2 a l μ μ := fun _ _ _ _ h => h
theorem Ext2.trans {a l : Addr} {μ ν ρ : M} (h : Ext2 a l μ ν) (k : Ext2 a l ν ρ) : Ext2 a l μ ρ := fun b m h1 h2 e => k b m h1 h2 (h b m h1 h2 e)
theorem Ext2.new {a l p : Addr} {μ ν : M} {o : MO} (h : Ext2 a l μ ν) (e : ν p = none) : Ext2 a l μ (updM ν p o) := fun b m h1 h2 q => by
 have := h b m h1 h2 q
 rw [updM_ne (by intro z; subst z; rw [e] at this; cases this)]; exact this
theorem Ext2.put {a l p : Addr} {μ ν : M} {o : MO} (h : Ext2 a l μ ν) (e : μ p = none) : Ext2 a l μ (updM ν p o) := fun b m h1 h2 q => by
 rw [updM_ne (by intro z; subst z; rw [e] at q; cases q)]; exact h b m h1 h2 q
theorem Ext2.a {a l : Addr} {μ ν : M} {o : MO} (h : Ext2 a l μ ν) : Ext2 a l μ (updM ν a o) := fun b m h1 h2 q => by rw [updM_ne h1]; exact h b m h1 h2 q
theorem Ext2.l {a l : Addr} {μ ν : M} {o : MO} (h : Ext2 a l μ ν) : Ext2 a l μ (updM ν l o) := fun b m h1 h2 q => by rw [updM_ne h2]; exact h b m h1 h2 q
theorem Ext2.none {a l p : Addr} {μ ν : M} (h : Ext2 a l μ ν) (h1 : a ≠ p) (h2 : l ≠ p) (e : ν p = none) : μ p = none := by
 cases q : μ p with
 | none => rfl
 | some m => rw [h p m h1.symm h2.symm q] at e; cases e
theorem PotAt.other {μ : M} {a l p : Addr} {sd nm : Int} {ns : List Int} {o : MO} (h : PotAt μ a l sd nm ns) (h1 : a ≠ p) (h2 : l ≠ p) : PotAt (updM μ p o) a l sd nm ns :=
 ⟨by rw [updM_ne h1]; exact h.ha, by rw [updM_ne h2]; exact h.hl, h.s0, h.s1, h.n0, h.p0, h.ne⟩
theorem Pot.other {μ : M} {a l p : Addr} {o : MO} (h : Pot μ a l) (h1 : a ≠ p) (h2 : l ≠ p) : Pot (updM μ p o) a l := let ⟨sd, nm, ns, h⟩ := h; ⟨sd, nm, ns, h.other h1 h2⟩
theorem Pot.ne {μ : M} {a l p : Addr} (h : Pot μ a l) (e : μ p = none) : a ≠ p /\ l ≠ p := by
 obtain ⟨sd, nm, ns, h⟩ := h
 exact ⟨fun z => by (subst z; rw [h.ha] at e; cases e), fun z => by (subst z; rw [h.hl] at e; cases e)⟩
theorem Pot.new {μ : M} {a l p : Addr} {o : MO} (h : Pot μ a l) (e : μ p = none) : Pot (updM μ p o) a l := h.other (h.ne e).1 (h.ne e).2
abbrev nDr : List Str := ["_law_deal_here", "_law_many", "_law_number", "_law_one", "_law_other"]
theorem scDr : FnScope nDr ["_law_deal_here", "_law_many"] (defScope sDr) := ⟨rfl, rfl, rfl, by decide +kernel, rfl, by decide +kernel, by decide +kernel⟩
def spDr : ASp := fun xs μ R => ∃ (a l : Addr) (many : Nat), xs = [.R a, .D (.int many)] /\ Pot μ a l /\ 0 < many /\ many <= 1000000 /\ ∀ (v : Nat) (μ' : M), v < many -> Pot μ' a l -> Ext2 a l μ μ' -> R (.D (.int v)) μ'
theorem nat_of {v : Int} {many : Nat} (h0 : 0 <= v) (h1 : v < many) : ∃ n : Nat, v = n /\ n < many := ⟨v.toNat, by omega, by omega⟩
theorem mod_0 (x : Int) {m : Int} (h : 0 < m) : 0 <= x % m := Int.emod_nonneg x (by omega)
theorem mod_1 (x : Int) {m : Int} (h : 0 < m) (h2 : m <= 2147483648) : x % m < 2147483648 := Int.lt_of_lt_of_le (Int.emod_lt_of_pos x h) h2
theorem mod_q {x : Int} {many : Nat} {Q : Int -> Prop} (h0 : 0 < many) (h : ∀ v : Nat, v < many -> Q v) : Q (x % many) := by
 obtain ⟨v, ev, hv⟩ := nat_of (Int.emod_nonneg x (show (many : Int) ≠ 0 by omega)) (Int.emod_lt_of_pos x (show 0 < (many : Int) by omega))
 rw [ev]; exact h v hv
theorem ok_dr {n : Nat} (F : Fun K "_law_draw" "_law_draw" sDr f fd) (m_len : mg "len" = none) : FnOk P w K mg base CX0 (n + 1) f fd ["_law_deal_here", "_law_many"] (cSp K 2 spDr) := by
 refine F.vok scDr fun cdv A outer s H E hr => ⟨_, (vss_cons (vs_while PassesOwn.never (VW.pt (vw_and (vt_cmp (o_eq hr) (ve_dget (hu_of hr) (vv 0) ve_str) ve_int (nomark _)) (vw_and1 (vt_cmp o_gt (ve_callB c_len rfl m_len PySem.boot_len (va_cons (ve_dget (hu_of hr) (vv 0) ve_str) va_nil)) ve_int (nomark _))))) (vss_one (vs_dput (hu_of hr) (vv 0) ve_str (ve_ml0 PySem.F.slot_list_pop PySem.F.type_list_pop m_pop (ve_dget (hu_of hr) (vv 0) ve_str)))))
   (vss_cons (vs_set (i := 2) scDr.nd rfl (Or.inl rfl) (ve_dget (hu_of hr) (vv 0) ve_str))
   (vss_cons (vs_if (vt_cmp o_gt (vv 2) ve_int (nomark _)) (vss_cons (vs_dput (hu_of hr) (vv 0) ve_str (ve_op o_fdiv (vv 2) (vv 1)))
   (vss_one (vs_ret (ve_op o_mod (vv 2) (vv 1))))) vss_nil)
   (vss_cons (vs_set (i := 3) scDr.nd rfl (Or.inl rfl) (ve_op o_mod (ve_op o_add (ve_op o_mul (ve_dget (hu_of hr) (vv 0) ve_str) ve_int) ve_int) ve_int))
   (vss_cons (vs_dput (hu_of hr) (vv 0) ve_str (ve_op o_mod (ve_op o_add (ve_op o_mul (vv 3) ve_int) ve_int) ve_int))
   (vss_cons (vs_set (i := 4) scDr.nd rfl (Or.inl rfl) (ve_op o_mod (ve_op o_mul (ve_dget (hu_of hr) (vv 0) ve_str) (ve_dget (hu_of hr) (vv 0) ve_str)) ve_int))
   (vss_one (vs_ret (ve_op o_mod (ve_op o_add (ve_op o_mul (ve_op o_mod (ve_op o_mul (vv 3) (vv 3)) ve_int) ve_int) (vv 4)) (vv 1)))))))))), ?_⟩
 rintro xs μ R _ ⟨a, l, many, rfl, ⟨sd, nm, ns, D0⟩, h0, h1, q⟩
 refine seq_i (fun τ μ' => ∃ sd nm ns, τ = [some (.R a), some (.D (.int many)), none, none, none] /\ PotAt μ' a l sd nm ns /\ Ext2 a l μ μ') (fun W' hW' => ?_) ?_
 ·refine while_i (fun m τ μ' => ∃ sd nm ns, τ = [some (.R a), some (.D (.int many)), none, none, none] /\ m = ns.length /\ PotAt μ' a l sd nm ns /\ Ext2 a l μ μ') ns.length ⟨sd, nm, ns, rfl, rfl, D0, Ext2.refl⟩ ?_
  rintro m τ μ' W ⟨sd, nm, ns, rfl, rfl, D, S⟩ hW
  refine opt_i D.ha (opt_i g_num (opt_i rfl (ieq (fun c => ?_) (fun c => brF rfl (hW' _ _ ⟨sd, nm, ns, rfl, D, S⟩)))))
  refine opt_i D.ha (opt_i g_left (opt_i rfl (opt_i D.hl (dif (fun c2 => ?_) (fun c2 => hW' _ _ ⟨sd, nm, ns, rfl, D, S⟩)))))
  have hne : ns ≠ [] := by rintro rfl; exact absurd c2 (by decide)
  have hgl : (ns.map intA)[(ns.map intA).length - 1]? = some (intA (ns.getLast hne)) := by rw [<- List.getLast?_eq_getElem?, List.getLast?_map, List.getLast?_eq_some_getLast hne]; rfl
  have hdl : (ns.map intA).dropLast = ns.dropLast.map intA := by rw [List.map_dropLast]
  have ha2 : updM μ' l (.lst (ns.map intA).dropLast) a = some (dealM sd nm l) := by rw [updM_ne D.ne]; exact D.ha
  have hpos : 0 < ns.length := List.length_pos_iff.mpr hne
  refine opt_i D.ha (opt_i g_left (opt_i rfl ⟨opt_i D.hl trivial, opt_i D.hl (opt_i hgl (opt_i ha2 (opt_i p_num ⟨d_small, hW ns.dropLast.length _ _ (by rw [List.length_dropLast]; omega) ⟨sd, ns.getLast hne, ns.dropLast, rfl, rfl, ?_, S.l.a⟩⟩)))⟩))
  exact ⟨updM_same, by rw [updM_ne D.ne.symm, updM_same, hdl], D.s0, D.s1, D.p0 _ (List.getLast_mem hne), fun z hz => D.p0 z ((List.dropLast_sublist ns).subset hz), D.ne⟩
 ·rintro τ μ' ⟨sd, nm, ns, rfl, D, S⟩
  refine seq_d (opt_i D.ha (opt_i g_num (opt_i rfl (seq_d (dif (fun c => ?_) (fun c => ?_))))))
  ·refine seq_d ⟨⟨by omega, by omega⟩, opt_i D.ha (opt_i p_num ⟨d_small, (by show (0 : Int) < _; omega), _, Sub.refl, ?_⟩)⟩
   refine mod_q (Q := fun i => R (.D (.int i)) _) h0 fun v hv => ?_
   exact q v _ hv ⟨sd, nm / many, ns, updM_same, by rw [updM_ne D.ne.symm]; exact D.hl, D.s0, D.s1, Int.ediv_nonneg D.n0 (by omega), D.p0, D.ne⟩ S.a
  ·refine seq_i (fun τ μ1 => ∃ one : Int, τ = [some (.R a), some (.D (.int many)), some (.D (.int nm)), some (.D (.int one)), none] /\ μ' = μ1 /\ 0 <= one /\ one < 2147483648) (fun W hW => ?_) ?_
   ·exact opt_i D.ha (opt_i g_seed (opt_i rfl ⟨.inr ⟨by decide, by decide⟩, (by show (0 : Int) < _; decide), hW _ _ ⟨_, rfl, rfl, mod_0 _ (by decide), mod_1 _ (by decide) (by decide)⟩⟩))
   rintro τ μ1 ⟨one, rfl, rfl, o0, o1⟩
   refine seq_i (fun τ μ1 => ∃ two : Int, τ = [some (.R a), some (.D (.int many)), some (.D (.int nm)), some (.D (.int one)), none] /\ PotAt μ1 a l two nm ns /\ Ext2 a l μ μ1) (fun W hW => ?_) ?_
   ·exact ⟨.inr ⟨by decide, by decide⟩, (by show (0 : Int) < _; decide), opt_i D.ha (opt_i p_seed ⟨d_small, hW _ _ ⟨_, rfl, ⟨updM_same, by rw [updM_ne D.ne.symm]; exact D.hl, mod_0 _ (by decide), mod_1 _ (by decide) (by decide), D.n0, D.p0, D.ne⟩, S.a⟩⟩)⟩
   rintro τ μ2 ⟨two, rfl, D2, S2⟩
   have w0 := D2.s0
   have w1 := D2.s1
   refine seq_d (opt_i D2.ha (opt_i g_seed (opt_i rfl (opt_i D2.ha (opt_i g_seed (opt_i rfl ⟨.inl ⟨by omega, by omega⟩, (by show (0 : Int) < _; decide), ?_⟩))))))
   refine ⟨.inl ⟨by omega, by omega⟩, (by show (0 : Int) < _; decide), .inr ⟨by decide, by decide⟩, (by show (0 : Int) < _; omega), _, Sub.refl, ?_⟩
   exact mod_q (Q := fun i => R (.D (.int i)) _) h0 fun v hv => q v _ hv ⟨two, nm, ns, D2⟩ S2
abbrev nDe : List Str := ["_law_script", "_law_base", "_law_cell", "_law_cells", "_law_number"]
theorem scDe : FnScope nDe ["_law_script", "_law_base"] (defScope sDe) := ⟨rfl, rfl, rfl, by decide +kernel, rfl, by decide +kernel, by decide +kernel⟩
theorem ndDe1 : (["_law_cell"] : List Str).Nodup := by decide +kernel
theorem ndDe2 : (["_law_cell"] : List Str).Nodup := by decide +kernel
def scrD (ns : List Int) : PyData := .list (ns.map .int)
theorem scr_items (μ : M) (ns : List Int) : items μ (.D (scrD ns)) = some (ns.map intA) := by
 show some ((ns.map PyData.int).map AV.D) = _
 rw [List.map_map]; rfl
theorem cutA_map {α : Type} (g : α -> AV) (xs : List α) (lo hi : Option Int) : ∃ ys : List α, cutA (xs.map g) lo hi = ys.map g /\ ys.length <= xs.length := by
 refine ⟨(xs.drop (HT.sIx (xs.map g).length 0 lo)).take (HT.sIx (xs.map g).length (xs.map g).length hi - HT.sIx (xs.map g).length 0 lo), ?_, ?_⟩
 ·unfold cutA
  rw [<- List.map_drop, <- List.map_take]
 ·rw [List.length_take, List.length_drop]; omega
def spDe : ASp := fun xs μ R => ∃ (ns : List Int) (b : Nat), xs = [.D (scrD ns), .D (.int b)] /\ b < 1000 /\ ns.length <= 63 /\ ∀ (a l : Addr) (μ' : M), μ a = none -> μ l = none -> Pot μ' a l -> Sub μ μ' -> R (.R a) μ'
def absI (i : Int) : Int := if 0 - i > i then 0 - i else i
theorem absI_0 (i : Int) : 0 <= absI i := by unfold absI; split <;> omega
theorem and_m {c : Int} {Q : Prop} (h : Q) {x : Int} (hc : -(2 ^ 64) < c /\ c < 2 ^ 64 := by decide) : CMul c x /\ Q := ⟨.inl hc, h⟩
theorem ok_de {n : Nat} (F : Fun K "_law_deal" "_law_deal" sDe f fd) (m_max : mg "max" = none) (m_list : mg "list" = none) (m_reversed : mg "reversed" = none) : FnOk P w K mg base CX0 (n + 1) f fd ["_law_script", "_law_base"] (cSp K 2 spDe) := by
 refine F.vok scDe fun cdv A outer s H E hr => ⟨_, (vss_cons (vs_setC (i := 3) (N' := ["_law_cell"]) (mp := [none]) rfl scDe.nd rfl rfl (vi_seq (ve_slice (vv 0) (vo_some (vv 1)) (vo_some ve_int))) (fun _ _ _ _ => (vg_name (i := 0) ndDe1 rfl (Or.inl rfl) (Or.inr rfl))) (fun _ _ _ _ => vifs_nil) (fun _ _ _ _ => (ve_callB (c_max2 rfl) rfl m_max PyProof.Rows.boot_max (va_cons (vv 0) (va_cons (ve_op o_sub ve_int (vv 0)) va_nil)))) (compOk_of (N := nDe) (pn := (defScope sDe).names) (by decide +kernel)))
   (vss_cons (vs_set (i := 4) scDe.nd rfl (Or.inl rfl) (ve_op o_add ve_int (ve_op o_mul ve_int (vv 1))))
   (vss_cons (vs_for PassesOwn.never rfl (vi_seq (vv 3)) (vg_name (i := 2) scDe.nd rfl (Or.inl rfl)) (vss_one (vs_set (i := 4) scDe.nd rfl (Or.inl rfl) (ve_op o_mod (ve_op o_add (ve_op o_add (ve_op o_mul (vv 4) ve_int) (ve_op o_mod (vv 2) ve_int)) ve_int) ve_int))))
   (vss_one (vs_ret (ve_disp (vps_str (vv 4) (vps_str ve_int (vps_str (ve_revL rfl rfl m_list rfl m_reversed (ve_comp (N' := ["_law_cell"]) (mp := [none]) rfl (vi_seq (vv 3)) (fun _ _ _ _ => (vg_name (i := 0) ndDe2 rfl (Or.inl rfl) (Or.inr rfl))) (fun _ _ _ _ => (vifs_one (vt_cmp o_ge (vv 0) (ve_op o_pow ve_int ve_int) (nomark _)))) (fun _ _ _ _ => (vv 0)) (compOk_of (N := nDe) (pn := (defScope sDe).names) (by decide +kernel)))) vps_nil))) (by decide +kernel))))))), ?_⟩
 rintro xs μ R _ ⟨ns, b, rfl, hb, hn, q⟩
 obtain ⟨cs, ecs, hcl⟩ := cutA_map intA ns (some (b : Int)) (some 63)
 refine seq_i (fun τ μ' => ∃ pc, τ = [some (.D (scrD ns)), some (.D (.int b)), none, some (.R pc), none] /\ μ pc = none /\ μ' pc = some (.lst ((cs.map absI).map intA)) /\ Sub μ μ') (fun W hW => ?_) ?_
 ·refine opt_i (scr_items _ ns) fun p hp => ?_
  rw [ecs]
  refine opt_i (items_R updM_same) fun pc hpc => ?_
  have hne : p ≠ pc := by intro z; subst z; rw [updM_same] at hpc; cases hpc
  have hpm : μ pc = none := by rw [updM_ne hne.symm] at hpc; exact hpc
  refine cmap cs intA (fun i => intA (absI i)) (fun τ => ∃ o, τ = [o]) ⟨_, rfl⟩ updM_same (seven (by omega)) (fun acc => items_R (by rw [updM_ne hne, updM_ne hne, updM_same])) ?_ ?_
  ·rintro i x τ' acc W2 hi ⟨o, rfl⟩ hW2
   exact hW2 _ ⟨_, rfl⟩
  ·refine hW _ _ ⟨pc, rfl, hpm, ?_, ((Sub.refl.new hp).new hpm).new hpm⟩
   rw [updM_same, List.map_map]; rfl
 rintro τ μ1 ⟨pc, rfl, hpn, hpc, S1⟩
 refine seq_i (fun τ μ2 => ∃ sd : Int, τ = [some (.D (scrD ns)), some (.D (.int b)), none, some (.R pc), some (.D (.int sd))] /\ μ1 = μ2 /\ 0 <= sd /\ sd < 2147483648) (fun W hW => and_m (hW _ _ ⟨_, rfl, rfl, by omega, by omega⟩)) ?_
 rintro τ μ2 ⟨sd0, rfl, rfl, z0, z1⟩
 refine seq_i (fun τ μ2 => ∃ (o2 : Option AV) (sd : Int), τ = [some (.D (scrD ns)), some (.D (.int b)), o2, some (.R pc), some (.D (.int sd))] /\ μ1 = μ2 /\ 0 <= sd /\ sd < 2147483648) (fun W hW => ?_) ?_
 ·refine opt_i (items_R hpc) ?_
  refine for_i (fun i τ μ2 => ∃ (o2 : Option AV) (sd : Int), τ = [some (.D (scrD ns)), some (.D (.int b)), o2, some (.R pc), some (.D (.int sd))] /\ μ1 = μ2 /\ 0 <= sd /\ sd < 2147483648) ⟨none, sd0, rfl, rfl, z0, z1⟩ ?_ ?_ ?_
  ·rintro i τ μ2 ⟨o2, sd, rfl, rfl, _⟩
   exact items_R hpc
  ·rintro i y τ μ2 W2 hy ⟨o2, sd, rfl, rfl, h0, h1⟩ hW2
   rw [List.getElem?_map] at hy
   obtain ⟨c, hc, rfl⟩ := Option.map_eq_some_iff.mp hy
   exact ⟨.inr ⟨by decide, by decide⟩, (by show (0 : Int) < _; decide), (by show (0 : Int) < _; decide), hW2 _ _ ⟨_, _, rfl, rfl, mod_0 _ (by decide), mod_1 _ (by decide) (by decide)⟩⟩
  ·rintro τ μ2 ⟨o2, sd, rfl, rfl, h0, h1⟩
   exact hW _ _ ⟨_, _, rfl, rfl, h0, h1⟩
 rintro τ μ2 ⟨o2, sd, rfl, rfl, h0, h1⟩
 intro a ha
 have hac : a ≠ pc := by intro z; subst z; rw [hpc] at ha; cases ha
 have hpc2 : updM μ1 a (.dk []) pc = some (.lst ((cs.map absI).map intA)) := by rw [updM_ne hac.symm]; exact hpc
 refine opt_i (items_R hpc2) fun pl hpl => ?_
 have hal : a ≠ pl := by intro z; subst z; rw [updM_same] at hpl; cases hpl
 have hcl2 : pc ≠ pl := by intro z; subst z; rw [hpc2] at hpl; cases hpl
 have hpl1 : μ1 pl = none := by rw [updM_ne hal.symm] at hpl; exact hpl
 refine cmapf (cs.map absI) intA (fun x => decide ((10 : Int) ^ (18 : Int).toNat <= x)) intA (fun τ => ∃ o, τ = [o]) ⟨none, rfl⟩ updM_same (seven (by rw [List.length_map]; omega)) (fun acc => items_R (by rw [updM_ne hcl2, updM_ne hcl2]; exact hpc2)) ?_ ?_
 ·rintro i x τ' acc W2 W3 hi ⟨o, rfl⟩ h2 h3
  exact ⟨⟨by decide, by decide, by decide⟩, br (fun c => h2 c _ ⟨_, rfl⟩) (fun c => h3 c _ ⟨_, rfl⟩)⟩
 generalize hxs : (cs.map absI).filter (fun x => decide ((10 : Int) ^ (18 : Int).toNat <= x)) = xs
 have hx0 : ∀ x ∈ xs, 0 <= x := fun x hx => by
  rw [<- hxs] at hx
  obtain ⟨z, _, rfl⟩ := List.mem_map.mp (List.mem_filter.mp hx).1
  exact absI_0 z
 refine opt_i updM_same fun l hl => ?_
 have hl2 : pl ≠ l := by intro z; subst z; rw [updM_same] at hl; cases hl
 have hl3 : a ≠ l := by
  intro z; subst z
  rw [updM_ne hal, updM_ne hal, updM_same] at hl; cases hl
 have hl4 : μ1 l = none := by rw [updM_ne hl2.symm, updM_ne hl2.symm, updM_ne hl3.symm] at hl; exact hl
 refine ⟨by rw [updM_ne hl3, updM_ne hal, updM_ne hal, updM_same], _, Sub.refl, q a l _ (S1.none ha) (S1.none hl4) ⟨sd, 0, xs.reverse, updM_same, ?_, h0, h1, Int.le_refl 0, fun z hz => hx0 z (List.mem_reverse.mp hz), hl3⟩ ?_⟩
 ·rw [updM_ne hl3.symm, updM_same, List.map_reverse]
 ·exact ((((S1.new (S1.none ha)).new (S1.none hpl1)).new (S1.none hpl1)).new (S1.none hl4)).new (S1.none ha)
end
section
variable {P : Program} {w : World} {K : PySem.W.Frag} {mg : Str -> Option Value} {base : Heap} {f : Addr} {fd : FuncData}
def natsD (ns : List Nat) : PyData := .tuple (ns.map fun (n : Nat) => .int n)
theorem sub_len {α : Type} [DecidableEq α] : ∀ {xs ys : List α}, xs.Nodup -> (∀ x ∈ xs, x ∈ ys) -> xs.length <= ys.length
 | [], _, _, _ => Nat.zero_le _
 | x :: xs, ys, hn, h => by
  have hx := h x List.mem_cons_self
  obtain ⟨hx1, hn2⟩ := List.nodup_cons.mp hn
  have := sub_len (xs := xs) (ys := ys.erase x) hn2 fun z hz => (List.mem_erase_of_ne (by rintro rfl; exact hx1 hz)).mpr (h z (List.mem_cons_of_mem _ hz))
  rw [List.length_erase_of_mem hx] at this
  have hp : 0 < ys.length := List.length_pos_of_mem hx
  simp only [List.length_cons]; omega
theorem nats_ok {ns : List Nat} : PyData.canLayAll0 (ns.map fun (n : Nat) => .int n) = true /\ PyData.depthAll (ns.map fun (n : Nat) => .int n) <= 1 := by
 induction ns with
 | nil => exact ⟨rfl, by simp [PyData.depthAll]⟩
 | cons n ns ih =>
  simp only [List.map_cons, PyData.canLayAll0, PyData.depthAll, ih.1, Bool.and_true]
  refine ⟨rfl, ?_⟩
  have := ih.2
  simp only [PyData.depth]; omega
theorem nats_eqOk {ns : List Nat} : EqOk (natsD ns) := ⟨by simp only [natsD, PyData.canLay0]; exact nats_ok.1, by have := (nats_ok (ns := ns)).2; simp only [natsD, PyData.depth]; omega⟩
def natA (n : Nat) : AV := .D (.int n)
theorem dats_nat (ns : List Nat) : dats (ns.map natA) = some (ns.map fun (n : Nat) => .int n) := by
 rw [show ns.map natA = (ns.map fun (n : Nat) => PyData.int n).map .D by rw [List.map_map]; rfl]; exact dats_map _
theorem nats_cano : ∀ (ns : List Nat), CanoAll (ns.map fun (n : Nat) => .int n) = true
 | [] => rfl
 | n :: ns => by simp only [List.map_cons, CanoAll, Cano, nats_cano ns, Bool.and_self]
end
section
variable {P : Program} {w : World} {K : PySem.W.Frag} {mg : Str -> Option Value} {base : Heap} {f : Addr} {fd : FuncData}
def strA (z : Str) : AV := .D (.str z)
theorem lets_ok {z : Str} (h : lets z) : PyData.canLay0 (.str z) = true := by
 show PyData.strOk z = true
 unfold PyData.strOk
 rw [Array.all_eq_true]
 intro i hi
 have := h z.cps[i] (by simp)
 simp
 omega
theorem lets_eqOk {z : Str} (h : lets z) : EqOk (.str z) := eqOk_str (lets_ok h)
theorem dats_str (zs : List Str) : dats (zs.map strA) = some (zs.map PyData.str) := by
 rw [show zs.map strA = (zs.map PyData.str).map .D by rw [List.map_map]; rfl]; exact dats_map _
theorem txts_str : ∀ (zs : List Str), txts (zs.map strA) = some zs
 | [] => rfl
 | z :: zs => by simp only [List.map_cons, strA, txts, Option.map_eq_some_iff]; exact ⟨zs, txts_str zs, rfl⟩
theorem abc_all : ∀ i : Fin 26, ∃ c, ("abcdefghijklmnopqrstuvwxyz" : Str).cps.toList[i.val]? = some c /\ 97 <= c /\ c <= 122 := by decide +kernel
theorem abc_at {v : Nat} (h : v < 26) : ∃ c, atI ("abcdefghijklmnopqrstuvwxyz" : Str).cps.toList (v : Int) = some c /\ 97 <= c /\ c <= 122 := by
 obtain ⟨c, e, h1⟩ := abc_all ⟨v, h⟩
 exact ⟨c, atI_nat e, h1⟩
theorem lets_one {c : Nat} (h : 97 <= c /\ c <= 122) : lets ⟨#[c]⟩ := fun d hd => by
 have : d = c := by simpa using hd
 rw [this]; exact h
theorem abc_le : ("abcdefghijklmnopqrstuvwxyz" : Str).length <= sizeLine := by decide +kernel
theorem e0_len : ("" : Str).length = 0 := by decide +kernel
theorem app_len (x y : Str) : (x ++ y).length = x.length + y.length := by rw [len_cps, len_cps, len_cps, cps_app, List.length_append]
theorem sum_ones : ∀ {zs : List Str}, (∀ z ∈ zs, z.length = 1) -> (zs.map (·.length)).sum = zs.length
 | [], _ => rfl
 | z :: zs, h => by
  simp only [List.map_cons, List.sum_cons, List.length_cons]
  rw [h z List.mem_cons_self, sum_ones fun y hy => h y (List.mem_cons_of_mem _ hy)]; omega
theorem join0_len (zs : List Str) : (Txt.join "" zs).length = (zs.map (·.length)).sum := by
 show (PySem.Builtin.Str.glued "" zs).length = _
 rw [StrLaws.glued_eq_join]
 induction zs with
 | nil => rfl
 | cons x zs ih =>
  cases zs with
  | nil => simp [Str.join]
  | cons y zs =>
   have e : Str.join "" (x :: y :: zs) = x ++ "" ++ Str.join "" (y :: zs) := rfl
   rw [e, app_len, app_len, e0_len, ih]
   simp
theorem lets_to {x : Str} {j : Nat} (h : lets x) (hj : j <= x.length) : lets (Txt.slice x none (some (j : Int))) := fun c hc => by
 rw [slice_to (by omega) (by omega)] at hc
 exact h c (List.mem_of_mem_take hc)
theorem lets_from {x : Str} {j : Nat} (h : lets x) (hj : j <= x.length) : lets (Txt.slice x (some (j : Int)) none) := fun c hc => by
 rw [slice_from (by omega) (by omega)] at hc
 exact h c (List.mem_of_mem_drop hc)
theorem len_to {x : Str} {j : Nat} (hj : j <= x.length) : (Txt.slice x none (some (j : Int))).length = j := by
 rw [len_cps, slice_to (by omega) (by omega), List.length_take, <- len_cps]; omega
theorem len_from {x : Str} {j : Nat} (hj : j <= x.length) : (Txt.slice x (some (j : Int)) none).length = x.length - j := by
 rw [len_cps, slice_from (by omega) (by omega), List.length_drop, <- len_cps]; omega
theorem lets_q : lets "q" := fun c h => by rw [q_cps, List.mem_singleton] at h; omega
abbrev kept8 : List Str := ["place", "letter", "rule", "own", "arrow", "ends", "one", "other"]
theorem kept_eqOk : EqOk (.tuple (kept8.map PyData.str)) := ⟨by decide +kernel, by decide +kernel⟩
theorem setD {x : AV} {i : Nat} {u : AS} {k : ASt -> M -> Prop} {r : AV -> M -> Prop} {b c : ASt -> M -> Prop} {τ : ASt} {μ : M} (h : u k r b c (τ.set i (some x)) μ) : vSeq (vAsg (vC x) (wName i)) u k r b c τ μ := h
abbrev nNa : List Str := ["_law_deal_here", "_law_many", "_law_letters", "_law_kept", "_law_k", "_law_core", "_law_at", "_law_turn", "_law_found", "_law_name"]
theorem scNa : FnScope nNa ["_law_deal_here", "_law_many"] (defScope sNa) := ⟨rfl, rfl, rfl, by decide +kernel, rfl, by decide +kernel, by decide +kernel⟩
theorem ndNa1 : (["_law_k", "_law_letters", "_law_deal_here"] : List Str).Nodup := by decide +kernel
structure Nms (zs : List Str) : Prop where
 l : ∀ z ∈ zs, lets z
 n : ∀ z ∈ zs, z.length <= 7
 d : zs.Nodup
theorem abc_is : ∀ i : Fin 26, ("abcdefghijklmnopqrstuvwxyz" : Str).cps.toList[i.val]? = some (97 + i.val) := by decide +kernel
def nmB (core : Str) (at' tn k : Nat) : Str := Txt.slice core none (some (at' : Int)) ++ (⟨#[97 + (((tn : Int) + 7 * (0 + (k : Int))) % 26).toNat]⟩ : Str) ++ Txt.slice core (some (at' : Int)) none
theorem nmB_cps {core : Str} {at' tn : Nat} (h : at' <= core.length) (k : Nat) : (nmB core at' tn k).cps.toList = core.cps.toList.take at' ++ [97 + (((tn : Int) + 7 * (0 + (k : Int))) % 26).toNat] ++ core.cps.toList.drop at' := by
 unfold nmB
 rw [cps_app, cps_app, slice_to (by omega) (by omega), slice_from (by omega) (by omega), Int.toNat_natCast]
theorem nmB_len {core : Str} {at' tn : Nat} (h : at' <= core.length) (k : Nat) : (nmB core at' tn k).length = core.length + 1 := by
 rw [len_cps, nmB_cps h, len_cps core]
 rw [len_cps] at h
 simp only [List.length_append, List.length_take, List.length_drop, List.length_singleton]
 omega
theorem n26 {t i j : Int} (i0 : 0 <= i) (hi : i < 26) (j0 : 0 <= j) (hj : j < 26) (e : (t + 7 * (0 + i)) % 26 = (t + 7 * (0 + j)) % 26) : i = j := by
 have d := Int.dvd_of_emod_eq_zero (Int.emod_eq_emod_iff_emod_sub_eq_zero.mp e)
 rw [Int.add_sub_add_left, <- Int.mul_sub, Int.zero_add, Int.zero_add] at d
 have d := Int.dvd_sub (Int.dvd_trans d (Int.dvd_mul_left 15 _)) (Int.dvd_mul_right 26 (4 * (i - j)))
 rw [<- Int.mul_assoc, <- Int.mul_assoc, <- Int.sub_mul, show (15 * 7 - 26 * 4 : Int) = 1 from rfl, Int.one_mul] at d
 have d := Int.emod_eq_emod_iff_emod_sub_eq_zero.mpr (Int.emod_eq_zero_of_dvd d)
 rwa [Int.emod_eq_of_lt i0 hi, Int.emod_eq_of_lt j0 hj] at d
theorem nmB_inj {core : Str} {at' tn i j : Nat} (h : at' <= core.length) (hi : i < 26) (hj : j < 26) (e : nmB core at' tn i = nmB core at' tn j) : i = j := by
 have e := congrArg (fun s : Str => s.cps.toList) e
 simp only [nmB_cps h] at e
 have e := List.append_cancel_left (List.append_cancel_right e)
 injection e with e
 have e := congrArg Int.ofNat (Nat.add_left_cancel e)
 rw [Int.ofNat_eq_natCast, Int.ofNat_eq_natCast, Int.toNat_of_nonneg (Int.emod_nonneg _ (by decide)), Int.toNat_of_nonneg (Int.emod_nonneg _ (by decide))] at e
 exact Int.ofNat.inj (n26 (Int.natCast_nonneg _) (Int.ofNat_lt.mpr hi) (Int.natCast_nonneg _) (Int.ofNat_lt.mpr hj) e)
def NmD (core : Str) (at' tn n : Nat) (zs : List Str) : Prop := ∀ x ∈ zs, ∃ j, j < n /\ ∃ z : Str, (z = "q" \/ z = Str.empty) /\ x = nmB core at' tn j ++ z
theorem qe_len {z : Str} (h : z = "q" \/ z = Str.empty) : (z = "q" /\ z.length = 1) \/ (z = Str.empty /\ z.length = 0) := by
 rcases h with rfl | rfl
 ·exact .inl ⟨rfl, by decide +kernel⟩
 ·exact .inr ⟨rfl, rfl⟩
theorem NmD.new {core : Str} {at' tn n : Nat} {zs : List Str} (D : NmD core at' tn n zs) (h : at' <= core.length) (hn : n < 26) {z : Str} (hz : z = "q" \/ z = Str.empty) : nmB core at' tn n ++ z ∉ zs := fun hm => by
 obtain ⟨j, hj, z', hz', e⟩ := D _ hm
 have el := congrArg Str.length e
 rw [app_len, app_len, nmB_len h, nmB_len h] at el
 have ez : z = z' := by
  rcases qe_len hz with ⟨a, b⟩ | ⟨a, b⟩ <;> rcases qe_len hz' with ⟨c, d⟩ | ⟨c, d⟩ <;> first | (rw [a, c]; done) | (exfalso; omega)
 subst ez
 have e2 := congrArg (fun s : Str => s.cps.toList) e
 simp only [cps_app] at e2
 have e3 : nmB core at' tn n = nmB core at' tn j := str_ext (List.append_cancel_right e2)
 have := nmB_inj h hn (by omega) e3
 omega
theorem NmD.step {core : Str} {at' tn n : Nat} {zs : List Str} (D : NmD core at' tn n zs) {z : Str} (hz : z = "q" \/ z = Str.empty) : NmD core at' tn (n + 1) (zs ++ [nmB core at' tn n ++ z]) := fun x hx => by
 rcases List.mem_append.mp hx with h | h
 ·obtain ⟨j, hj, r⟩ := D x h
  exact ⟨j, by omega, r⟩
 ·rw [List.mem_singleton.mp h]; exact ⟨n, Nat.lt_succ_self _, z, hz, rfl⟩
theorem nodup_snoc {α : Type} {xs : List α} {x : α} (h : xs.Nodup) (hx : x ∉ xs) : (xs ++ [x]).Nodup := by
 rw [List.nodup_append]
 refine ⟨h, List.nodup_cons.mpr ⟨by simp, List.nodup_nil⟩, fun a ha b hb e => ?_⟩
 rw [List.mem_singleton.mp hb] at e
 exact hx (e ▸ ha)
def spNa : ASp := fun xs μ R => ∃ (a l : Addr) (many : Nat), xs = [.R a, .D (.int many)] /\ many <= 5 /\ Pot μ a l /\ ∀ (zs : List Str) (p : Addr) μ', zs.length = many -> Nms zs -> μ p = none -> μ' p = some (.lst (zs.map strA)) -> Pot μ' a l -> Ext2 a l μ μ' -> R (.R p) μ'
theorem ok_na {n : Nat} (F : Fun K "_law_names" "_law_names" sNa f fd) (cDr : VCal P w K mg base n "_law_draw" ["_law_deal_here", "_law_many"] spDr) (m_range : mg "range" = none) (m_len : mg "len" = none) (m_int : mg "int" = none) : FnOk P w K mg base CX0 (n + 1) f fd ["_law_deal_here", "_law_many"] (cSp K 2 spNa) := by
 refine F.vok scNa fun cdv A outer s H E hr => ⟨_, (vss_cons (vs_set (i := 2) scNa.nd rfl (Or.inr rfl) ve_str)
   (vss_cons (vs_set (i := 3) scNa.nd rfl (Or.inl rfl) (ve_tup (va_cons ve_str (va_cons ve_str (va_cons ve_str (va_cons ve_str (va_cons ve_str (va_cons ve_str (va_cons ve_str (va_cons ve_str va_nil))))))))))
   (vss_cons (vs_set (i := 5) scNa.nd rfl (Or.inl rfl) (ve_ms PySem.F.slot_str_join PySem.F.type_str_join m_join ve_str (va_cons (ve_comp (N' := ["_law_k", "_law_letters", "_law_deal_here"]) (mp := [none, some 2, some 0]) rfl (vi_range1 rfl m_range (va_cons (ve_call cDr hr rfl (va_cons (vv 0) (va_cons ve_int va_nil))) va_nil)) (fun _ _ _ _ => (vg_name (i := 0) ndNa1 rfl (Or.inl rfl) (Or.inr rfl))) (fun _ _ _ _ => vifs_nil) (fun _ _ _ _ => (ve_ix i_ix (vv 1) (ve_call cDr hr rfl (va_cons (vv 2) (va_cons ve_int va_nil))))) (compOk_of (N := nNa) (pn := (defScope sNa).names) (by decide +kernel))) va_nil)))
   (vss_cons (vs_set (i := 6) scNa.nd rfl (Or.inl rfl) (ve_call cDr hr rfl (va_cons (vv 0) (va_cons (ve_op o_add (ve_callB c_len rfl m_len PySem.boot_len (va_cons (vv 5) va_nil)) ve_int) va_nil))))
   (vss_cons (vs_set (i := 7) scNa.nd rfl (Or.inl rfl) (ve_call cDr hr rfl (va_cons (vv 0) (va_cons ve_int va_nil))))
   (vss_cons (vs_set (i := 8) scNa.nd rfl (Or.inl rfl) (ve_lst va_nil))
   (vss_cons (vs_for PassesOwn.never rfl (vi_range1 rfl m_range (va_cons (vv 1) va_nil)) (vg_name (i := 4) scNa.nd rfl (Or.inl rfl)) (vss_cons (vs_set (i := 9) scNa.nd rfl (Or.inl rfl) (ve_op o_add (ve_op o_add (ve_slice (vv 5) vo_none (vo_some (vv 6))) (ve_ix i_ix (vv 2) (ve_op o_mod (ve_op o_add (vv 7) (ve_op o_mul ve_int (vv 4))) ve_int))) (ve_slice (vv 5) (vo_some (vv 6)) vo_none)))
   (vss_one (vs_expr (ve_ml PySem.F.slot_list_append PySem.F.type_list_append m_append (vv 8) (va_cons (ve_op o_add (vv 9) (ve_op o_mul ve_str (ve_callTy c_int rfl m_int PyProof.Rows.boot_int (va_cons (ve_cmp (o_in hr) (vv 9) (vv 3) (by with_unfolding_all rfl)) va_nil)))) va_nil))))))
   (vss_one (vs_ret (vv 8)))))))))), ?_⟩
 rintro xs μ R _ ⟨a, l, many, rfl, hm, hP, q⟩
 refine setD (seq_i (fun τ μ' => τ = [some (.R a), some (.D (.int many)), some (strA "abcdefghijklmnopqrstuvwxyz"), some (.D (.tuple (kept8.map PyData.str))), none, none, none, none, none, none] /\ μ = μ') (fun Z hZ => hZ _ _ ⟨rfl, rfl⟩) ?_)
 rintro τ _ ⟨rfl, rfl⟩
 refine seq_i (fun τ μ' => ∃ core : Str, τ = [some (.R a), some (.D (.int many)), some (strA "abcdefghijklmnopqrstuvwxyz"), some (.D (.tuple (kept8.map PyData.str))), none, some (strA core), none, none, none, none] /\ lets core /\ core.length <= 4 /\ Pot μ' a l /\ Ext2 a l μ μ') (fun Z hZ => ?_) ?_
 ·refine ⟨trivial, a, l, 5, rfl, hP, by decide, by decide, fun c μ1 hc P1 S1 => ⟨by omega, by omega, fun pl hpl => ?_⟩⟩
  have hne := P1.ne hpl
  have hlen : (rngA 0 (c : Int).toNat).length = c := by rw [rngA_length]; omega
  refine comp_i (fun j acc τ μ' => ∃ (o : Option AV) (zs : List Str), τ = [o, some (strA "abcdefghijklmnopqrstuvwxyz"), some (.R a)] /\ acc = zs.map strA /\ zs.length = j /\ (∀ z ∈ zs, lets z /\ z.length = 1) /\ μ' pl = some (.lst acc) /\ Pot μ' a l /\ Ext2 a l μ1 μ') ⟨none, [], rfl, rfl, rfl, (fun _ z => nomatch z), updM_same, P1.new hpl, Ext2.refl.new hpl⟩ (fun _ _ _ _ _ => trivial) ?_ ?_
  ·rintro j x acc τ μ2 Z2 hx ⟨o, zs, rfl, rfl, hn, hb, e2, P2, S2⟩ hZ2
   refine brT rfl ⟨a, l, 26, rfl, P2, by decide, by decide, fun v μ3 hv P3 S3 => ?_⟩
   have e3 := S3 pl _ hne.1.symm hne.2.symm e2
   obtain ⟨ch, ec, hch⟩ := abc_at hv
   have hj : j < c := by rw [<- hlen]; exact (List.getElem?_eq_some_iff.mp hx).1
   refine ⟨abc_le, opt_i ec ⟨e3, small1000 (by rw [List.length_map]; omega), hZ2 _ _ _ ⟨_, zs ++ [⟨#[ch]⟩], rfl, by rw [List.map_append]; rfl, by rw [List.length_append, hn]; rfl, fun z hz => ?_, updM_same, P3.other hne.1 hne.2, (S2.trans S3).put hpl⟩⟩⟩
   rcases List.mem_append.mp hz with h | h
   ·exact hb z h
   ·rw [List.mem_singleton.mp h]; exact ⟨lets_one hch, rfl⟩
  ·rintro acc τ μ2 ⟨o, zs, rfl, rfl, hn, hb, e2, P2, S2⟩
   rw [hlen] at hn
   have hsum := sum_ones fun z hz => (hb z hz).2
   refine opt_i e2 (opt_i (txts_str zs) ⟨?_, hZ _ _ ⟨Txt.join "" zs, rfl, lets_join fun z hz => (hb z hz).1, ?_, P2, S1.trans S2⟩⟩)
   ·rw [hsum, e0_len]; omega
   ·rw [join0_len, hsum]; omega
 rintro τ μ1 ⟨core, rfl, lc, hc4, P1, S1⟩
 have hcs : core.length <= sizeLine := Nat.le_trans hc4 (by decide)
 refine seq_i (fun τ μ' => ∃ at' : Nat, τ = [some (.R a), some (.D (.int many)), some (strA "abcdefghijklmnopqrstuvwxyz"), some (.D (.tuple (kept8.map PyData.str))), none, some (strA core), some (.D (.int at')), none, none, none] /\ at' <= core.length /\ Pot μ' a l /\ Ext2 a l μ μ') (fun Z hZ => ?_) ?_
 ·exact ⟨hcs, a, l, core.length + 1, rfl, P1, by omega, by omega, fun v μ2 hv P2 S2 => hZ _ _ ⟨v, rfl, by omega, P2, S1.trans S2⟩⟩
 rintro τ μ2 ⟨at', rfl, hat, P2, S2⟩
 refine seq_i (fun τ μ' => ∃ tn : Nat, τ = [some (.R a), some (.D (.int many)), some (strA "abcdefghijklmnopqrstuvwxyz"), some (.D (.tuple (kept8.map PyData.str))), none, some (strA core), some (.D (.int at')), some (.D (.int tn)), none, none] /\ Pot μ' a l /\ Ext2 a l μ μ') (fun Z hZ => ?_) ?_
 ·exact ⟨a, l, 26, rfl, P2, by decide, by decide, fun v μ3 hv P3 S3 => hZ _ _ ⟨v, rfl, P3, S2.trans S3⟩⟩
 rintro τ μ3 ⟨tn, rfl, P3, S3⟩
 intro pf hpf
 have hne := P3.ne hpf
 have hpf0 : μ pf = none := S3.none hne.1 hne.2 hpf
 refine seq_i (fun τ μ' => ∃ o4 o9 zs, τ = [some (.R a), some (.D (.int many)), some (strA "abcdefghijklmnopqrstuvwxyz"), some (.D (.tuple (kept8.map PyData.str))), o4, some (strA core), some (.D (.int at')), some (.D (.int tn)), some (.R pf), o9] /\ zs.length = many /\ Nms zs /\ μ' pf = some (.lst (zs.map strA)) /\ Pot μ' a l /\ Ext2 a l μ μ') (fun Z hZ => ?_) ?_
 ·refine ⟨by omega, by omega, ?_⟩
  have hlen : (rngA 0 (many : Int).toNat).length = many := by rw [rngA_length]; omega
  refine for_i (fun i τ μ' => ∃ o4 o9 zs, τ = [some (.R a), some (.D (.int many)), some (strA "abcdefghijklmnopqrstuvwxyz"), some (.D (.tuple (kept8.map PyData.str))), o4, some (strA core), some (.D (.int at')), some (.D (.int tn)), some (.R pf), o9] /\ zs.length = i /\ Nms zs /\ NmD core at' tn i zs /\ μ' pf = some (.lst (zs.map strA)) /\ Pot μ' a l /\ Ext2 a l μ μ') ⟨none, none, [], rfl, rfl, ⟨(fun _ z => nomatch z), (fun _ z => nomatch z), List.nodup_nil⟩, (fun _ z => nomatch z), updM_same, P3.new hpf, S3.new hpf⟩ (fun _ _ _ _ => trivial) ?_ ?_
  ·rintro i y τ μ4 Z2 hy ⟨o4, o9, zs, rfl, hn, hz, hD, e4, P4, S4⟩ hZ2
   have hi : i < many := by rw [<- hlen]; exact (List.getElem?_eq_some_iff.mp hy).1
   have ey := rngA_get _ _ _ hy
   subst ey
   obtain ⟨v, ev, hv⟩ := nat_of (many := 26) (v := ((tn : Int) + 7 * (0 + (i : Int))) % 26) (Int.emod_nonneg _ (by decide)) (Int.emod_lt_of_pos _ (by decide))
   obtain ⟨ch, ec, hch⟩ := abc_at hv
   have hcv : ch = 97 + v := by
    have := atI_nat (abc_is ⟨v, hv⟩)
    exact (Option.some.inj (ec.symm.trans this))
   rw [<- ev] at ec
   have hnb : Txt.slice core none (some (at' : Int)) ++ (⟨#[ch]⟩ : Str) ++ Txt.slice core (some (at' : Int)) none = nmB core at' tn i := by
    unfold nmB; rw [ev, Int.toNat_natCast, hcv]
   have ls1 := lets_to lc hat
   have ls2 := lets_from lc hat
   have ln1 := len_to hat
   have ln2 := len_from hat
   generalize hs1 : Txt.slice core none (some (at' : Int)) = s1 at ls1 ln1 hnb
   generalize hs2 : Txt.slice core (some (at' : Int)) none = s2 at ls2 ln2 hnb
   have l1 : (s1 ++ (⟨#[ch]⟩ : Str)).length = s1.length + 1 := by rw [app_len]; rfl
   have l2 : (s1 ++ (⟨#[ch]⟩ : Str) ++ s2).length = s1.length + 1 + s2.length := by rw [app_len, l1]
   have lnm : lets (s1 ++ (⟨#[ch]⟩ : Str) ++ s2) := lets_app (lets_app ls1 (lets_one hch)) ls2
   refine seq_i (fun τ μ' => τ = [some (.R a), some (.D (.int many)), some (strA "abcdefghijklmnopqrstuvwxyz"), some (.D (.tuple (kept8.map PyData.str))), some (.D (.int (0 + (i : Int)))), some (strA core), some (.D (.int at')), some (.D (.int tn)), some (.R pf), some (strA (s1 ++ (⟨#[ch]⟩ : Str) ++ s2))] /\ μ4 = μ') (fun Z3 hZ3 => ?_) ?_
   ·subst hs1 hs2
    refine ⟨hcs, .inl (by decide), (show (0 : Int) < 26 by decide), abc_le, opt_i ec ⟨?_, hcs, ?_, hZ3 _ _ ⟨rfl, rfl⟩⟩⟩
    ·show _ + 1 <= sizeLine
     exact Nat.le_trans (show _ <= 10 by omega) (by decide)
    ·rw [l1]; exact Nat.le_trans (show _ <= 10 by omega) (by decide)
   rintro τ _ ⟨rfl, rfl⟩
   generalize (s1 ++ (⟨#[ch]⟩ : Str) ++ s2) = nm at l2 lnm hnb
   refine ⟨opt_i e4 trivial, opt_i rfl ⟨lets_eqOk lnm, kept_eqOk, ?_⟩⟩
   have fin : ∀ z : Str, lets z -> z.length <= 1 -> (z = "q" \/ z = Str.empty) -> nm.length + z.length <= sizeLine /\ opt (μ4 pf) fun m => match m with
     | .lst ys => ys.length < sizeLine /\ Z2 [some (.R a), some (.D (.int many)), some (strA "abcdefghijklmnopqrstuvwxyz"), some (.D (.tuple (kept8.map PyData.str))), some (.D (.int (0 + (i : Int)))), some (strA core), some (.D (.int at')), some (.D (.int tn)), some (.R pf), some (strA nm)] (updM μ4 pf (.lst (ys ++ [strA (nm ++ z)])))
     | _ => False := fun z lz hz1 hqe => by
    refine ⟨Nat.le_trans (show _ <= 10 by omega) (by decide), opt_i e4 ⟨small1000 (by rw [List.length_map]; omega), hZ2 _ _ ⟨_, _, zs ++ [nm ++ z], rfl, by rw [List.length_append, hn]; rfl, ⟨fun x hx => ?_, fun x hx => ?_, nodup_snoc hz.d (by rw [hnb]; exact hD.new hat (by omega) hqe)⟩, by rw [hnb]; exact hD.step hqe, by rw [updM_same, List.map_append]; rfl, P4.other hne.1 hne.2, S4.put hpf0⟩⟩⟩
    ·rcases List.mem_append.mp hx with h | h
     ·exact hz.l x h
     ·rw [List.mem_singleton.mp h]; exact lets_app lnm lz
    ·rcases List.mem_append.mp hx with h | h
     ·exact hz.n x h
     ·rw [List.mem_singleton.mp h, app_len]; omega
   cases hb : (kept8.map PyData.str).any fun e => PyData.eqv e (.str nm) with
   | true => exact ⟨.inr rfl, fin "q" lets_q (by decide +kernel) (.inl rfl)⟩
   | false => exact ⟨.inl rfl, fin Str.empty (fun c h => by simp [Str.empty] at h) (by decide +kernel) (.inr rfl)⟩
  ·rintro τ μ4 ⟨o4, o9, zs, rfl, hn, hz, _, e4, P4, S4⟩
   rw [hlen] at hn
   exact hZ _ _ ⟨_, _, zs, rfl, hn, hz, e4, P4, S4⟩
 ·rintro τ μ4 ⟨o4, o9, zs, rfl, hn, hz, e4, P4, S4⟩
  exact ⟨_, Sub.refl, q zs pf _ hn hz hpf0 e4 P4 S4⟩
end
section
variable {P : Program} {w : World} {K : PySem.W.Frag} {mg : Str -> Option Value} {base : Heap} {f : Addr} {fd : FuncData}
structure Rul where
 p : Nat
 x : Nat
 q : Nat
 w : List Nat
def rulD (r : Rul) : PyData := .tuple [.int r.p, .int r.x, .int r.q, natsD r.w]
def rulA (r : Rul) : AV := .D (rulD r)
structure RulOk (pl le : Nat) (r : Rul) : Prop where
 p : r.p < pl
 x : r.x < le
 q : r.q < pl
 w : ∀ z ∈ r.w, z < le
 n : r.w.length <= 2
theorem nats_dep : ∀ (ns : List Nat), PyData.depthAll (ns.map fun (n : Nat) => .int n) <= 0
 | [] => Nat.le_refl _
 | n :: ns => by
  have := nats_dep ns
  simp only [List.map_cons, PyData.depthAll, PyData.depth]; omega
theorem rul_ok (r : Rul) : (rulD r).canLay0 = true /\ (rulD r).depth <= 2 /\ Cano (rulD r) = true := by
 have h1 := nats_ok (ns := r.w)
 have h2 := nats_cano r.w
 refine ⟨?_, ?_, ?_⟩
 ·simp only [rulD, natsD, PyData.canLay0, PyData.canLayAll0, h1.1, Bool.and_true]
 ·have := h1.2
  simp only [rulD, natsD, PyData.depth, PyData.depthAll]
  have e : PyData.depthAll (r.w.map fun (n : Nat) => .int n) <= 0 := nats_dep r.w
  omega
 ·simp only [rulD, natsD, Cano, CanoAll, h2, Bool.and_true, Bool.true_and]
theorem ruls_ok : ∀ (B : List Rul), PyData.canLayAll0 (B.map rulD) = true /\ PyData.depthAll (B.map rulD) <= 2 /\ CanoAll (B.map rulD) = true
 | [] => ⟨rfl, by simp [PyData.depthAll], rfl⟩
 | a :: B => by
  obtain ⟨h1, h2, h3⟩ := rul_ok a
  obtain ⟨k1, k2, k3⟩ := ruls_ok B
  simp only [List.map_cons, PyData.canLayAll0, PyData.depthAll, CanoAll, h1, h3, k1, k3, Bool.and_self, true_and, and_true]
  omega
theorem rul_eqOk (a : Rul) : EqOk (rulD a) := ⟨(rul_ok a).1, Nat.le_trans (rul_ok a).2.1 (by decide)⟩
theorem ruls_eqOk (B : List Rul) : EqOk (.tuple (B.map rulD)) := ⟨by simp only [PyData.canLay0]; exact (ruls_ok B).1, by have := (ruls_ok B).2.1; simp only [PyData.depth]; omega⟩
theorem dats_rul (B : List Rul) : dats (B.map rulA) = some (B.map rulD) := by
 rw [show (B.map rulA) = (B.map rulD).map .D by rw [List.map_map]; rfl]; exact dats_map _
def pushes (B : List Rul) : Nat := (B.filter fun r => decide (r.w.length = 2)).length
theorem eights : ∀ v : Fin 8, ∃ w, ([0, 0, 1, 1, 1, 2, 2, 2] : List Nat)[v.val]? = some w /\ w <= 2 := by decide +kernel
abbrev nRu : List Str := ["_law_deal_here", "_law_sizes", "_law_found", "_law_places", "_law_letters", "_law_most", "_law_word", "_law_p", "_law_x", "_law_q"]
theorem scRu : FnScope nRu ["_law_deal_here", "_law_sizes", "_law_found"] (defScope sRu) := ⟨rfl, rfl, rfl, by decide +kernel, rfl, by decide +kernel, by decide +kernel⟩
theorem ndRu1 : (["_law_rule_here"] : List Str).Nodup := by decide +kernel
theorem ndRu2 : (["_law_k", "_law_deal_here", "_law_letters"] : List Str).Nodup := by decide +kernel
def sizD (pl le mo : Nat) : PyData := .tuple [.int pl, .int le, .int mo]
def spRu : ASp := fun xs μ R => ∃ (a l : Addr) (xf : AV) (pl le mo : Nat) (B : List Rul), xs = [.R a, .D (sizD pl le mo), xf] /\ 0 < pl /\ pl <= 5 /\ 0 < le /\ le <= 5 /\ B.length <= 20 /\ Pot μ a l /\ (∀ μ', Ext2 a l μ μ' -> items μ' xf = some (B.map rulA)) /\ ∀ (r : Rul) μ', RulOk pl le r -> (r.w.length = 2 -> pushes B < mo) -> Pot μ' a l -> Ext2 a l μ μ' -> R (rulA r) μ'
theorem ok_ru {n : Nat} (F : Fun K "_law_rule" "_law_rule" sRu f fd) (cDr : VCal P w K mg base n "_law_draw" ["_law_deal_here", "_law_many"] spDr) (m_len : mg "len" = none) (m_tuple : mg "tuple" = none) (m_range : mg "range" = none) : FnOk P w K mg base CX0 (n + 1) f fd ["_law_deal_here", "_law_sizes", "_law_found"] (cSp K 3 spRu) := by
 refine F.vok scRu fun cdv A outer s H E hr => ⟨_, (vss_cons (vs_asg (vv 1) (vg_tup (n := 3) rfl (vgs_cons (vg_name (i := 3) scRu.nd rfl (Or.inl rfl)) (vgs_cons (vg_name (i := 4) scRu.nd rfl (Or.inr rfl)) (vgs_cons (vg_name (i := 5) scRu.nd rfl (Or.inl rfl)) vgs_nil)))))
   (vss_cons (vs_set (i := 6) scRu.nd rfl (Or.inl rfl) (ve_ix i_ix (ve_lst (va_cons ve_int (va_cons ve_int (va_cons ve_int (va_cons ve_int (va_cons ve_int (va_cons ve_int (va_cons ve_int (va_cons ve_int va_nil))))))))) (ve_call cDr hr rfl (va_cons (vv 0) (va_cons ve_int va_nil)))))
   (vss_cons (vs_if (VW.pt (vw_and (vt_cmp (o_eq hr) (vv 6) ve_int (nomark _)) (vw_and1 (vt_cmp o_ge (ve_callB c_len rfl m_len PySem.boot_len (va_cons (ve_comp (N' := ["_law_rule_here"]) (mp := [none]) rfl (vi_seq (vv 2)) (fun _ _ _ _ => (vg_name (i := 0) ndRu1 rfl (Or.inl rfl) (Or.inr rfl))) (fun _ _ _ _ => (vifs_one (vt_cmp (o_eq hr) (ve_callB c_len rfl m_len PySem.boot_len (va_cons (ve_ix i_ix (vv 0) ve_int) va_nil)) ve_int (nomark _)))) (fun _ _ _ _ => (vv 0)) (compOk_of (N := nRu) (pn := (defScope sRu).names) (by decide +kernel))) va_nil)) (vv 5) (nomark _))))) (vss_one (vs_set (i := 6) scRu.nd rfl (Or.inl rfl) ve_int)) vss_nil)
   (vss_cons (vs_par3 (i := 7) (j := 8) (l := 9) rfl scRu.nd rfl rfl rfl (by decide) (by decide) (by decide) rfl rfl rfl (va_cons (ve_call cDr hr rfl (va_cons (vv 0) (va_cons (vv 3) va_nil))) (va_cons (ve_call cDr hr rfl (va_cons (vv 0) (va_cons (vv 4) va_nil))) (va_cons (ve_call cDr hr rfl (va_cons (vv 0) (va_cons (vv 3) va_nil))) va_nil))) rfl)
   (vss_one (vs_ret (ve_tup (va_cons (vv 7) (va_cons (vv 8) (va_cons (vv 9) (va_cons (ve_callTy c_tuple rfl m_tuple PyProof.Rows.boot_tuple (va_cons (ve_comp (N' := ["_law_k", "_law_deal_here", "_law_letters"]) (mp := [none, some 0, some 4]) rfl (vi_range1 rfl m_range (va_cons (vv 6) va_nil)) (fun _ _ _ _ => (vg_name (i := 0) ndRu2 rfl (Or.inl rfl) (Or.inr rfl))) (fun _ _ _ _ => vifs_nil) (fun _ _ _ _ => (ve_call cDr hr rfl (va_cons (vv 1) (va_cons (vv 2) va_nil)))) (compOk_of (N := nRu) (pn := (defScope sRu).names) (by decide +kernel))) va_nil)) va_nil))))))))))), ?_⟩
 rintro xs μ R _ ⟨a, l, xf, pl, le, mo, B, rfl, hp0, hp5, hl0, hl5, hB, hP, hxf, q⟩
 refine seq_i (fun τ μ' => τ = [some (.R a), some (.D (sizD pl le mo)), some xf, some (.D (.int pl)), some (.D (.int le)), some (.D (.int mo)), none, none, none, none] /\ μ = μ') (fun Z hZ => ⟨rfl, hZ _ _ ⟨rfl, rfl⟩⟩) ?_
 rintro τ _ ⟨rfl, rfl⟩
 refine seq_i (fun τ μ' => ∃ wd : Nat, τ = [some (.R a), some (.D (sizD pl le mo)), some xf, some (.D (.int pl)), some (.D (.int le)), some (.D (.int mo)), some (.D (.int wd)), none, none, none] /\ wd <= 2 /\ Pot μ' a l /\ Ext2 a l μ μ') (fun Z hZ => ?_) ?_
 ·intro p8 hp8
  have hne := hP.ne hp8
  refine ⟨a, l, 8, rfl, hP.new hp8, by decide, by decide, fun v μ1 hv P1 S1 => ?_⟩
  obtain ⟨wd, ew, hw⟩ := eights ⟨v, hv⟩
  have e8 := S1 p8 _ hne.1.symm hne.2.symm updM_same
  refine opt_i e8 (opt_i (atI_nat (j := v) (xs := [0, 0, 1, 1, 1, 2, 2, 2].map natA) (by rw [List.getElem?_map, ew]; rfl)) (hZ _ _ ⟨wd, rfl, hw, P1, (Ext2.refl.new hp8).trans S1⟩))
 rintro τ μ1 ⟨wd, rfl, hwd, P1, S1⟩
 refine seq_i (fun τ μ' => ∃ wd : Nat, τ = [some (.R a), some (.D (sizD pl le mo)), some xf, some (.D (.int pl)), some (.D (.int le)), some (.D (.int mo)), some (.D (.int wd)), none, none, none] /\ wd <= 2 /\ (wd = 2 -> pushes B < mo) /\ Pot μ' a l /\ Ext2 a l μ μ') (fun Z hZ => ?_) ?_
 ·refine ieq (fun c => ?_) (fun c => brF rfl (hZ _ _ ⟨wd, rfl, hwd, fun z => absurd (by rw [z]; rfl) c, P1, S1⟩))
  refine opt_i (hxf _ S1) fun pc hpc => ?_
  have hne := P1.ne hpc
  refine cmapf B rulA (fun r => decide (r.w.length = 2)) rulA (fun τ => ∃ o, τ = [o]) ⟨none, rfl⟩ updM_same (seven (by omega)) (fun acc => ?_) ?_ ?_
  ·exact hxf _ ((S1.new hpc).put (S1.none hne.1 hne.2 hpc))
  ·rintro i r τ' acc W W2 hi ⟨o, rfl⟩ h1 h2
   refine opt_i (atI_nat (j := 3) rfl) (ieq (fun c1 => h1 (decide_eq_true (by rw [List.length_map] at c1; omega)) _ ⟨_, rfl⟩) (fun c1 => h2 (decide_eq_false fun z => c1 (by rw [List.length_map, z]; rfl)) _ ⟨_, rfl⟩))
  ·refine opt_i updM_same (dif (fun _ => ?_) (fun c3 => ?_))
   ·exact hZ _ _ ⟨1, rfl, by decide, (fun z => nomatch z), (P1.new hpc).other hne.1 hne.2, (S1.new hpc).put (S1.none hne.1 hne.2 hpc)⟩
   ·exact hZ _ _ ⟨wd, rfl, hwd, fun _ => by rw [List.length_map] at c3; unfold pushes; omega, (P1.new hpc).other hne.1 hne.2, (S1.new hpc).put (S1.none hne.1 hne.2 hpc)⟩
 rintro τ μ2 ⟨wd2, rfl, hwd2, hpu, P2, S2⟩
 refine seq_i (fun τ μ' => ∃ p x t : Nat, τ = [some (.R a), some (.D (sizD pl le mo)), some xf, some (.D (.int pl)), some (.D (.int le)), some (.D (.int mo)), some (.D (.int wd2)), some (.D (.int p)), some (.D (.int x)), some (.D (.int t))] /\ p < pl /\ x < le /\ t < pl /\ Pot μ' a l /\ Ext2 a l μ μ') (fun Z hZ => ?_) ?_
 ·exact ⟨a, l, pl, rfl, P2, hp0, by omega, fun p μ3 hp P3 S3 => ⟨a, l, le, rfl, P3, hl0, by omega, fun x μ4 hx P4 S4 => ⟨a, l, pl, rfl, P4, hp0, by omega, fun t μ5 ht P5 S5 => hZ _ _ ⟨p, x, t, rfl, hp, hx, ht, P5, ((S2.trans S3).trans S4).trans S5⟩⟩⟩⟩
 rintro τ μ3 ⟨p, x, t, rfl, hp, hx, ht, P3, S3⟩
 refine ⟨by omega, by omega, fun pc hpc => ?_⟩
 have hne := P3.ne hpc
 have hlen : (rngA 0 (wd2 : Int).toNat).length = wd2 := by rw [rngA_length]; omega
 refine comp_i (fun j acc τ μ' => ∃ (o : Option AV) (ns : List Nat), τ = [o, some (.R a), some (.D (.int le))] /\ acc = ns.map natA /\ ns.length = j /\ (∀ n ∈ ns, n < le) /\ μ' pc = some (.lst acc) /\ Pot μ' a l /\ Ext2 a l μ3 μ') ⟨none, [], rfl, rfl, rfl, (fun _ z => nomatch z), updM_same, P3.new hpc, Ext2.refl.new hpc⟩ (fun _ _ _ _ _ => trivial) ?_ ?_
 ·rintro j y acc τ μ4 Z2 hy ⟨o, ns, rfl, rfl, hn, hb, e4, P4, S4⟩ hZ2
  have hj : j < wd2 := by rw [<- hlen]; exact (List.getElem?_eq_some_iff.mp hy).1
  refine brT rfl ⟨a, l, le, rfl, P4, hl0, by omega, fun v μ5 hv P5 S5 => ?_⟩
  have e5 := S5 pc _ hne.1.symm hne.2.symm e4
  refine ⟨e5, small1000 (by rw [List.length_map]; omega), hZ2 _ _ _ ⟨_, ns ++ [v], rfl, by rw [List.map_append]; rfl, by rw [List.length_append, hn]; rfl, fun n hn' => ?_, updM_same, P5.other hne.1 hne.2, (S4.trans S5).put hpc⟩⟩
  rcases List.mem_append.mp hn' with h | h
  ·exact hb n h
  ·rw [List.mem_singleton.mp h]; exact hv
 ·rintro acc τ μ4 ⟨o, ns, rfl, rfl, hn, hb, e4, P4, S4⟩
  rw [hlen] at hn
  exact opt_i (items_R e4) (opt_i (dats_nat ns) ⟨_, Sub.refl, q ⟨p, x, t, ns⟩ _ ⟨hp, hx, ht, hb, (show ns.length <= 2 by omega)⟩ (fun z => hpu (by have z : ns.length = 2 := z; omega)) P4 (S3.trans S4)⟩)
end
section
variable {P : Program} {w : World} {K : PySem.W.Frag} {mg : Str -> Option Value} {base : Heap} {f : Addr} {fd : FuncData}
abbrev nRs : List Str := ["_law_deal_here", "_law_hands", "_law_letters", "_law_many", "_law_most", "_law_found", "_law_k", "_law_rule_here", "_law_there"]
theorem scRs : FnScope nRs ["_law_deal_here", "_law_hands", "_law_letters", "_law_many", "_law_most"] (defScope sRs) := ⟨rfl, rfl, rfl, by decide +kernel, rfl, by decide +kernel, by decide +kernel⟩
theorem ndRs1 : (["_law_one", "_law_rule_here"] : List Str).Nodup := by decide +kernel
def sameR (E : List Rul) (v : Rul) : Nat := (E.filter fun r => decide (r.p = v.p /\ r.x = v.x)).length
theorem eq2 (r v : Rul) : PyData.eqv (natsD [r.p, r.x]) (natsD [v.p, v.x]) = decide (r.p = v.p /\ r.x = v.x) := by
 show (decide ((r.p : Int) = v.p) && (decide ((r.x : Int) = v.x) && true)) = _
 rw [Bool.and_true, <- Bool.decide_and]
 exact decide_eq_decide.mpr ⟨fun h => ⟨by omega, by omega⟩, fun h => ⟨by omega, by omega⟩⟩
structure RsOk (hs : List Nat) (mo : Nat) (B : List Rul) : Prop where
 nd : B.Nodup
 ps : pushes B <= mo
 an : ∀ i r, B[i]? = some r -> hs.getD r.p 0 ≠ 0 -> sameR (B.take i) r < 2
theorem RsOk.nil {hs : List Nat} {mo : Nat} : RsOk hs mo [] := ⟨List.nodup_nil, Nat.zero_le _, fun i r h => by simp at h⟩
theorem RsOk.snoc {hs : List Nat} {mo : Nat} {B : List Rul} {v : Rul} (h : RsOk hs mo B) (h1 : v ∉ B) (h2 : v.w.length = 2 -> pushes B < mo) (h3 : hs.getD v.p 0 ≠ 0 -> sameR B v < 2) : RsOk hs mo (B ++ [v]) := by
 refine ⟨nodup_snoc h.nd h1, ?_, fun i r e hr => ?_⟩
 ·unfold pushes
  rw [List.filter_append, List.length_append]
  by_cases c : v.w.length = 2
  ·have := h2 c
   unfold pushes at this
   rw [List.filter_cons_of_pos (by simpa using c)]
   show _ + 1 <= mo; omega
  ·rw [List.filter_cons_of_neg (by simpa using c)]
   exact h.ps
 ·rcases Nat.lt_or_ge i B.length with hi | hi
  ·rw [List.getElem?_append_left hi] at e
   rw [List.take_append_of_le_length (by omega)]
   exact h.an i r e hr
  ·have : i = B.length := by
    have := (List.getElem?_eq_some_iff.mp e).1
    rw [List.length_append] at this
    simp at this; omega
   subst this
   rw [List.getElem?_append_right (Nat.le_refl _)] at e
   simp at e
   subst e
   rw [List.take_left]
   exact h3 hr
def spRs : ASp := fun xs μ R => ∃ (a l ph : Addr) (hs : List Nat) (le many mo : Nat), xs = [.R a, .R ph, .D (.int le), .D (.int many), .D (.int mo)] /\ 0 < hs.length /\ hs.length <= 5 /\ 0 < le /\ le <= 5 /\ many <= 20 /\ Pot μ a l /\ ph ≠ a /\ ph ≠ l /\ μ ph = some (.lst (hs.map natA)) /\ ∀ (B : List Rul) μ', (∀ r ∈ B, RulOk hs.length le r) -> B.length <= many -> (many = 0 \/ 0 < B.length) -> RsOk hs mo B -> Pot μ' a l -> Ext2 a l μ μ' -> R (.D (.tuple (B.map rulD))) μ'
theorem not_anyR {B : List Rul} {a : Rul} (h : ((B.map rulD).any fun e => PyData.eqv e (rulD a)) = false) : rulD a ∉ B.map rulD := fun hm => by
 have : ((B.map rulD).any fun e => PyData.eqv e (rulD a)) = true := List.any_eq_true.mpr ⟨_, hm, eqv_self (rulD a) (rul_ok a).2.2⟩
 rw [this] at h; cases h
theorem ok_rs {n : Nat} (F : Fun K "_law_rules" "_law_rules" sRs f fd) (cRu : VCal P w K mg base n "_law_rule" ["_law_deal_here", "_law_sizes", "_law_found"] spRu) (m_range : mg "range" = none) (m_len : mg "len" = none) (m_tuple : mg "tuple" = none) : FnOk P w K mg base CX0 (n + 1) f fd ["_law_deal_here", "_law_hands", "_law_letters", "_law_many", "_law_most"] (cSp K 5 spRs) := by
 refine F.vok scRs fun cdv A outer s H E hr => ⟨_, (vss_cons (vs_set (i := 5) scRs.nd rfl (Or.inl rfl) (ve_lst va_nil))
   (vss_cons (vs_for PassesOwn.never rfl (vi_range1 rfl m_range (va_cons (vv 3) va_nil)) (vg_name (i := 6) scRs.nd rfl (Or.inl rfl)) (vss_cons (vs_set (i := 7) scRs.nd rfl (Or.inr rfl) (ve_call cRu hr rfl (va_cons (vv 0) (va_cons (ve_tup (va_cons (ve_callB c_len rfl m_len PySem.boot_len (va_cons (vv 1) va_nil)) (va_cons (vv 2) (va_cons (vv 4) va_nil)))) (va_cons (vv 5) va_nil)))))
   (vss_cons (vs_set (i := 8) scRs.nd rfl (Or.inl rfl) (ve_callB c_len rfl m_len PySem.boot_len (va_cons (ve_comp (N' := ["_law_one", "_law_rule_here"]) (mp := [none, some 7]) rfl (vi_seq (vv 5)) (fun _ _ _ _ => (vg_name (i := 0) ndRs1 rfl (Or.inl rfl) (Or.inr rfl))) (fun _ _ _ _ => (vifs_one (vt_cmp (o_eq hr) (ve_slice (vv 0) vo_none (vo_some ve_int)) (ve_slice (vv 1) vo_none (vo_some ve_int)) (nomark _)))) (fun _ _ _ _ => (vv 0)) (compOk_of (N := nRs) (pn := (defScope sRs).names) (by decide +kernel))) va_nil)))
   (vss_one (vs_if (VW.pt (vw_and (vt_cmp (o_notIn hr) (vv 7) (vv 5) (by with_unfolding_all rfl)) (vw_and1 (VW.pt (vw_or (vt_cmp (o_eq hr) (ve_ix i_ix (vv 1) (ve_ix i_ix (vv 7) ve_int)) ve_int (nomark _)) (vw_or1 (vt_cmp o_lt (vv 8) ve_int (nomark _)))))))) (vss_one (vs_expr (ve_ml PySem.F.slot_list_append PySem.F.type_list_append m_append (vv 5) (va_cons (vv 7) va_nil)))) vss_nil)))))
   (vss_one (vs_ret (ve_callTy c_tuple rfl m_tuple PyProof.Rows.boot_tuple (va_cons (vv 5) va_nil)))))), ?_⟩
 rintro xs μ R _ ⟨a, l, ph, hs, le, many, mo, rfl, hh0, hh5, hl0, hl5, hm, hP, na, nl, eH, q⟩
 intro pf hpf
 have hne := hP.ne hpf
 have hph : ph ≠ pf := by rintro rfl; rw [eH] at hpf; cases hpf
 refine seq_i (fun τ μ' => ∃ o6 o7 o8, ∃ B : List Rul, τ = [some (.R a), some (.R ph), some (.D (.int le)), some (.D (.int many)), some (.D (.int mo)), some (.R pf), o6, o7, o8] /\ μ' pf = some (.lst (B.map rulA)) /\ B.length <= many /\ (many = 0 \/ 0 < B.length) /\ (∀ r ∈ B, RulOk hs.length le r) /\ RsOk hs mo B /\ Pot μ' a l /\ Ext2 a l μ μ') (fun Z hZ => ?_) ?_
 ·refine ⟨by omega, by omega, ?_⟩
  have hlen : (rngA 0 (many : Int).toNat).length = many := by rw [rngA_length]; omega
  refine for_i (fun i τ μ' => ∃ o6 o7 o8, ∃ B : List Rul, τ = [some (.R a), some (.R ph), some (.D (.int le)), some (.D (.int many)), some (.D (.int mo)), some (.R pf), o6, o7, o8] /\ μ' pf = some (.lst (B.map rulA)) /\ μ' ph = some (.lst (hs.map natA)) /\ B.length <= i /\ (i = 0 \/ 0 < B.length) /\ (∀ r ∈ B, RulOk hs.length le r) /\ RsOk hs mo B /\ Pot μ' a l /\ Ext2 a l μ μ') ⟨none, none, none, [], rfl, updM_same, by rw [updM_ne hph]; exact eH, Nat.le_refl _, .inl rfl, (fun _ z => nomatch z), RsOk.nil, hP.new hpf, Ext2.refl.new hpf⟩ (fun _ _ _ _ => trivial) ?_ ?_
  ·rintro i y τ μ3 Z2 hy ⟨o6, o7, o8, B, rfl, e3, h3, hB, hB0, kB, kR, P3, S3⟩ hZ2
   have hi : i < many := by rw [<- hlen]; exact (List.getElem?_eq_some_iff.mp hy).1
   refine seq_i (fun τ μ' => ∃ v : Rul, τ = [some (.R a), some (.R ph), some (.D (.int le)), some (.D (.int many)), some (.D (.int mo)), some (.R pf), some y, some (rulA v), o8] /\ RulOk hs.length le v /\ (v.w.length = 2 -> pushes B < mo) /\ μ' pf = some (.lst (B.map rulA)) /\ μ' ph = some (.lst (hs.map natA)) /\ Pot μ' a l /\ Ext2 a l μ μ') (fun Z3 hZ3 => ?_) ?_
   ·refine opt_i h3 ⟨a, l, .R pf, hs.length, le, mo, B, by rw [List.length_map]; rfl, hh0, hh5, hl0, hl5, by omega, P3, fun μ' S => items_R (S pf _ hne.1.symm hne.2.symm e3), fun v μ4 hv hv2 P4 S4 => hZ3 _ _ ⟨v, rfl, hv, hv2, S4 pf _ hne.1.symm hne.2.symm e3, S4 ph _ na nl h3, P4, S3.trans S4⟩⟩
   rintro τ μ4 ⟨v, rfl, hv, hv2, e4, h4, P4, S4⟩
   refine seq_i (fun τ μ' => ∃ th : Nat, τ = [some (.R a), some (.R ph), some (.D (.int le)), some (.D (.int many)), some (.D (.int mo)), some (.R pf), some y, some (rulA v), some (.D (.int th))] /\ th = sameR B v /\ μ' pf = some (.lst (B.map rulA)) /\ μ' ph = some (.lst (hs.map natA)) /\ Pot μ' a l /\ Ext2 a l μ μ') (fun Z3 hZ3 => ?_) ?_
   ·refine opt_i (items_R e4) fun pc hpc => ?_
    have hnc := P4.ne hpc
    have hcf : pf ≠ pc := by rintro rfl; rw [e4] at hpc; cases hpc
    have hch : ph ≠ pc := by rintro rfl; rw [h4] at hpc; cases hpc
    refine cmapf B rulA (fun r => decide (r.p = v.p /\ r.x = v.x)) rulA (fun τ => ∃ o, τ = [o, some (rulA v)]) ⟨none, rfl⟩ updM_same (seven (by omega)) (fun acc => items_R (by rw [updM_ne hcf, updM_ne hcf]; exact e4)) ?_ ?_
    ·rintro j r τ' acc W W2 hj ⟨o, rfl⟩ h1 h2
     exact ⟨nats_eqOk (ns := [r.p, r.x]), nats_eqOk (ns := [v.p, v.x]), br (fun c => h1 ((eq2 r v).symm.trans c) _ ⟨_, rfl⟩) (fun c => h2 ((eq2 r v).symm.trans c) _ ⟨_, rfl⟩)⟩
    ·refine opt_i updM_same (hZ3 _ _ ⟨_, rfl, by rw [List.length_map]; rfl, by rw [updM_ne hcf, updM_ne hcf]; exact e4, by rw [updM_ne hch, updM_ne hch]; exact h4, (P4.new hpc).other hnc.1 hnc.2, (S4.new hpc).put (S4.none hnc.1 hnc.2 hpc)⟩)
   rintro τ μ5 ⟨th, rfl, hth, e5, h5, P5, S5⟩
   have yes : v ∉ B -> (hs.getD v.p 0 ≠ 0 -> sameR B v < 2) -> Z2 [some (.R a), some (.R ph), some (.D (.int le)), some (.D (.int many)), some (.D (.int mo)), some (.R pf), some y, some (rulA v), some (.D (.int th))] (updM μ5 pf (.lst (B.map rulA ++ [rulA v]))) := fun n1 n2 => by
    refine hZ2 _ _ ⟨_, _, _, B ++ [v], rfl, by rw [updM_same, List.map_append]; rfl, by rw [updM_ne hph]; exact h5, by rw [List.length_append]; show B.length + 1 <= _; omega, .inr (by simp), fun r hr' => ?_, kR.snoc n1 hv2 n2, P5.other hne.1 hne.2, S5.put hpf⟩
    rcases List.mem_append.mp hr' with h | h
    ·exact kB r h
    ·rw [List.mem_singleton.mp h]; exact hv
   have no : 0 < B.length -> Z2 [some (.R a), some (.R ph), some (.D (.int le)), some (.D (.int many)), some (.D (.int mo)), some (.R pf), some y, some (rulA v), some (.D (.int th))] μ5 := fun h0 =>
    hZ2 _ _ ⟨_, _, _, B, rfl, e5, h5, by omega, .inr h0, kB, kR, P5, S5⟩
   have put : v ∉ B -> (hs.getD v.p 0 ≠ 0 -> sameR B v < 2) -> isLst μ5 (.R pf) /\ mAppend (.R pf) [rulA v] μ5 fun _ μ1 => Z2 [some (.R a), some (.R ph), some (.D (.int le)), some (.D (.int many)), some (.D (.int mo)), some (.R pf), some y, some (rulA v), some (.D (.int th))] μ1 := fun n1 n2 => ⟨opt_i e5 trivial, opt_i e5 ⟨small1000 (by rw [List.length_map]; omega), yes n1 n2⟩⟩
   have hgt : (hs.map natA)[v.p]? = some (natA (hs.getD v.p 0)) := by rw [List.getElem?_map, List.getElem?_eq_getElem hv.p]; simp [hv.p]
   refine opt_i rfl (opt_i (items_R e5) (opt_i (dats_rul B) ⟨rul_eqOk v, ruls_eqOk B, br (fun c1 => ?_) (fun c1 => ?_)⟩))
   ·have nv : v ∉ B := fun hm => by
     rw [Bool.not_eq_true'] at c1
     exact not_anyR c1 (List.mem_map.mpr ⟨v, hm, rfl⟩)
    refine opt_i (atI_nat (j := 0) rfl) (opt_i h5 (opt_i (atI_nat hgt) (ieq (fun c2 => brT rfl (put nv fun z => absurd (by omega) z)) (fun c2 => dif (fun c3 => put nv fun _ => by omega) (fun c3 => no ?_)))))
    rcases Nat.eq_zero_or_pos B.length with h0 | h0
    ·exact absurd (show (th : Int) < 2 by rw [hth, List.eq_nil_of_length_eq_zero h0]; show (0 : Int) < 2; decide) c3
    ·exact h0
   ·refine brF rfl (no ?_)
    rcases Nat.eq_zero_or_pos B.length with h0 | h0
    ·rw [List.eq_nil_of_length_eq_zero h0] at c1; cases c1
    ·exact h0
  ·rintro τ μ3 ⟨o6, o7, o8, B, rfl, e3, h3, hB, hB0, kB, kR, P3, S3⟩
   rw [hlen] at hB hB0
   exact hZ _ _ ⟨_, _, _, B, rfl, e3, hB, hB0, kB, kR, P3, S3⟩
 ·rintro τ μ3 ⟨o6, o7, o8, B, rfl, e3, hB, hB0, kB, kR, P3, S3⟩
  exact opt_i (items_R e3) (opt_i (dats_rul B) ⟨_, Sub.refl, q B _ kB hB hB0 kR P3 S3⟩)
end
section
variable {P : Program} {w : World} {K : PySem.W.Frag} {mg : Str -> Option Value} {base : Heap} {f : Addr} {fd : FuncData}
abbrev nGa : List Str := ["_law_deal_here", "_law_sizes", "_law_hand", "_law_hands", "_law_letters", "_law_rules_here"]
theorem scGa : FnScope nGa ["_law_deal_here", "_law_sizes", "_law_hand"] (defScope sGa) := ⟨rfl, rfl, rfl, by decide +kernel, rfl, by decide +kernel, by decide +kernel⟩
theorem ndGa1 : (["_law_k", "_law_hand", "_law_deal_here"] : List Str).Nodup := by decide +kernel
structure Gam where
 pl : List (Str × Nat)
 le : List Str
 rs : List Rul
def plD (p : Str × Nat) : PyData := .tuple [.str p.1, .int p.2]
def gamD (g : Gam) : PyData := .tuple [.tuple (g.pl.map plD), .tuple (g.le.map PyData.str), .tuple (g.rs.map rulD)]
structure GamOk (g : Gam) (np nl nr : Nat) (mo : Nat) : Prop where
 p0 : 0 < g.pl.length
 p1 : g.pl.length <= np
 l0 : 0 < g.le.length
 l1 : g.le.length <= nl
 r0 : 0 < g.rs.length
 r1 : g.rs.length <= nr
 hd : ∀ p ∈ g.pl, p.2 < 2
 pn : Nms (g.pl.map (·.1))
 ln : Nms g.le
 ru : ∀ r ∈ g.rs, RulOk g.pl.length g.le.length r
 ro : RsOk (g.pl.map (·.2)) mo g.rs
def spGa : ASp := fun xs μ R => ∃ (a l : Addr) (np nl nr mo : Nat), xs = [.R a, .D (.tuple [.int np, .int nl, .int nr, .int mo]), .D (.int 2)] /\ 0 < np /\ np <= 3 /\ 0 < nl /\ nl <= 3 /\ 0 < nr /\ nr <= 8 /\ Pot μ a l /\ ∀ (g : Gam) μ', GamOk g np nl nr mo -> Pot μ' a l -> Ext2 a l μ μ' -> R (.D (gamD g)) μ'
theorem zip_pl : ∀ (ys : List Str) (hs : List Nat), List.zipWith (fun d e => PyData.tuple [d, e]) (ys.map PyData.str) (hs.map fun (n : Nat) => PyData.int n) = (ys.zip hs).map plD
 | [], _ => rfl
 | _ :: _, [] => rfl
 | y :: ys, h :: hs => by simp only [List.map_cons, List.zipWith_cons_cons, List.zip_cons_cons, zip_pl ys hs]; rfl
theorem ok_ga {n : Nat} (F : Fun K "_law_game" "_law_game" sGa f fd) (cDr : VCal P w K mg base n "_law_draw" ["_law_deal_here", "_law_many"] spDr) (cNa : VCal P w K mg base n "_law_names" ["_law_deal_here", "_law_many"] spNa) (cRs : VCal P w K mg base n "_law_rules" ["_law_deal_here", "_law_hands", "_law_letters", "_law_many", "_law_most"] spRs) (m_range : mg "range" = none) (m_int : mg "int" = none) (m_len : mg "len" = none) (m_tuple : mg "tuple" = none) (m_zip : mg "zip" = none) : FnOk P w K mg base CX0 (n + 1) f fd ["_law_deal_here", "_law_sizes", "_law_hand"] (cSp K 3 spGa) := by
 refine F.vok scGa fun cdv A outer s H E hr => ⟨_, (vss_cons (vs_setC (i := 3) (N' := ["_law_k", "_law_hand", "_law_deal_here"]) (mp := [none, some 2, some 0]) rfl scGa.nd rfl rfl (vi_range1 rfl m_range (va_cons (ve_op o_add ve_int (ve_call cDr hr rfl (va_cons (vv 0) (va_cons (ve_ix i_ix (vv 1) ve_int) va_nil)))) va_nil)) (fun _ _ _ _ => (vg_name (i := 0) ndGa1 rfl (Or.inl rfl) (Or.inr rfl))) (fun _ _ _ _ => vifs_nil) (fun _ _ _ _ => (ve_ix i_ix (ve_lst (va_cons (ve_call cDr hr rfl (va_cons (vv 2) (va_cons ve_int va_nil))) (va_cons (vv 1) va_nil))) (ve_callTy c_int rfl m_int PyProof.Rows.boot_int (va_cons (ve_cmp o_lt (vv 1) ve_int (nomark _)) va_nil)))) (compOk_of (N := nGa) (pn := (defScope sGa).names) (by decide +kernel)))
   (vss_cons (vs_set (i := 4) scGa.nd rfl (Or.inl rfl) (ve_call cNa hr rfl (va_cons (vv 0) (va_cons (ve_op o_add ve_int (ve_call cDr hr rfl (va_cons (vv 0) (va_cons (ve_ix i_ix (vv 1) ve_int) va_nil)))) va_nil))))
   (vss_cons (vs_set (i := 5) scGa.nd rfl (Or.inl rfl) (ve_call cRs hr rfl (va_cons (vv 0) (va_cons (vv 3) (va_cons (ve_callB c_len rfl m_len PySem.boot_len (va_cons (vv 4) va_nil)) (va_cons (ve_op o_add ve_int (ve_call cDr hr rfl (va_cons (vv 0) (va_cons (ve_ix i_ix (vv 1) ve_int) va_nil)))) (va_cons (ve_ix i_ix (vv 1) ve_int) va_nil)))))))
   (vss_one (vs_ret (ve_tup (va_cons (ve_tzipB rfl rfl m_tuple rfl m_zip (ve_call cNa hr rfl (va_cons (vv 0) (va_cons (ve_callB c_len rfl m_len PySem.boot_len (va_cons (vv 3) va_nil)) va_nil))) (vv 3)) (va_cons (ve_callTy c_tuple rfl m_tuple PyProof.Rows.boot_tuple (va_cons (vv 4) va_nil)) (va_cons (vv 5) va_nil))))))))), ?_⟩
 rintro xs μ R _ ⟨a, l, np, nl, nr, mo, rfl, hp0, hp3, hl0, hl3, hr0, hr8, hP, q⟩
 refine seq_i (fun τ μ' => ∃ (hs : List Nat) (ph : Addr), τ = [some (.R a), some (.D (.tuple [.int np, .int nl, .int nr, .int mo])), some (.D (.int 2)), some (.R ph), none, none] /\ 0 < hs.length /\ hs.length <= np /\ (∀ h ∈ hs, h < 2) /\ ph ≠ a /\ ph ≠ l /\ μ' ph = some (.lst (hs.map natA)) /\ Pot μ' a l /\ Ext2 a l μ μ') (fun Z hZ => ?_) ?_
 ·refine opt_i (atI_nat (j := 0) rfl) ⟨a, l, np, rfl, hP, hp0, by omega, fun v μ1 hv P1 S1 => ⟨by omega, by omega, fun pc hpc => ?_⟩⟩
  have hne := P1.ne hpc
  have hlen : (rngA 0 (1 + (v : Int)).toNat).length = 1 + v := by rw [rngA_length]; omega
  refine comp_i (fun j acc τ μ' => ∃ (o : Option AV) (hs : List Nat), τ = [o, some (.D (.int 2)), some (.R a)] /\ acc = hs.map natA /\ hs.length = j /\ (∀ h ∈ hs, h < 2) /\ μ' pc = some (.lst acc) /\ Pot μ' a l /\ Ext2 a l μ1 μ') ⟨none, [], rfl, rfl, rfl, (fun _ z => nomatch z), updM_same, P1.new hpc, Ext2.refl.new hpc⟩ (fun _ _ _ _ _ => trivial) ?_ ?_
  ·rintro j y acc τ μ2 Z2 hy ⟨o, hs, rfl, rfl, hn, hb, e2, P2, S2⟩ hZ2
   have hj : j < 1 + v := by rw [<- hlen]; exact (List.getElem?_eq_some_iff.mp hy).1
   refine brT rfl ⟨a, l, 2, rfl, P2, by decide, by decide, fun d μ3 hd P3 S3 => fun p8 hp8 => ?_⟩
   have e3 := S3 pc _ hne.1.symm hne.2.symm e2
   have hn8 := P3.ne hp8
   have hc8 : pc ≠ p8 := by rintro rfl; rw [e3] at hp8; cases hp8
   have e8 : updM μ3 p8 (.lst [natA d, .D (.int 2)]) pc = some (.lst (hs.map natA)) := by rw [updM_ne hc8]; exact e3
   refine opt_i updM_same (opt_i (atI_nat (j := 0) (v := natA d) rfl) ⟨e8, small1000 (by rw [List.length_map]; omega), hZ2 _ _ _ ⟨_, hs ++ [d], rfl, by rw [List.map_append]; rfl, by rw [List.length_append, hn]; rfl, fun h hh => ?_, updM_same, (P3.new hp8).other hne.1 hne.2, ((S2.trans S3).new hp8).put hpc⟩⟩)
   rcases List.mem_append.mp hh with h1 | h1
   ·exact hb h h1
   ·rw [List.mem_singleton.mp h1]; exact hd
  ·rintro acc τ μ2 ⟨o, hs, rfl, rfl, hn, hb, e2, P2, S2⟩
   rw [hlen] at hn
   exact hZ _ _ ⟨hs, pc, rfl, by omega, by omega, hb, hne.1.symm, hne.2.symm, e2, P2, S1.trans S2⟩
 rintro τ μ1 ⟨hs, ph, rfl, hh0, hhn, hh2, na, nl', e1, P1, S1⟩
 refine seq_i (fun τ μ' => ∃ (zs : List Str) (pz : Addr), τ = [some (.R a), some (.D (.tuple [.int np, .int nl, .int nr, .int mo])), some (.D (.int 2)), some (.R ph), some (.R pz), none] /\ 0 < zs.length /\ zs.length <= nl /\ Nms zs /\ pz ≠ a /\ pz ≠ l /\ μ' pz = some (.lst (zs.map strA)) /\ μ' ph = some (.lst (hs.map natA)) /\ Pot μ' a l /\ Ext2 a l μ μ') (fun Z hZ => ?_) ?_
 ·refine opt_i (atI_nat (j := 1) rfl) ⟨a, l, nl, rfl, P1, hl0, by omega, fun v μ2 hv P2 S2 => ⟨a, l, 1 + v, rfl, by omega, P2, fun zs pz μ3 hz hN hf ez P3 S3 => ?_⟩⟩
  have hne := P2.ne hf
  exact hZ _ _ ⟨zs, pz, rfl, by omega, by omega, hN, hne.1.symm, hne.2.symm, ez, S3 ph _ na nl' (S2 ph _ na nl' e1), P3, (S1.trans S2).trans S3⟩
 rintro τ μ2 ⟨zs, pz, rfl, hz0, hzn, hN, za, zl, ez, e2, P2, S2⟩
 refine seq_i (fun τ μ' => ∃ B : List Rul, τ = [some (.R a), some (.D (.tuple [.int np, .int nl, .int nr, .int mo])), some (.D (.int 2)), some (.R ph), some (.R pz), some (.D (.tuple (B.map rulD)))] /\ 0 < B.length /\ B.length <= nr /\ (∀ r ∈ B, RulOk hs.length zs.length r) /\ RsOk hs mo B /\ μ' pz = some (.lst (zs.map strA)) /\ μ' ph = some (.lst (hs.map natA)) /\ Pot μ' a l /\ Ext2 a l μ μ') (fun Z hZ => ?_) ?_
 ·refine opt_i ez (opt_i (atI_nat (j := 2) rfl) ⟨a, l, nr, rfl, P2, hr0, by omega, fun v μ3 hv P3 S3 => opt_i (atI_nat (j := 3) rfl) ⟨a, l, ph, hs, zs.length, 1 + v, mo, by rw [List.length_map]; rfl, hh0, by omega, hz0, by omega, by omega, P3, na, nl', S3 ph _ na nl' e2, fun B μ4 kB hB hB0 kR P4 S4 => ?_⟩⟩)
  exact hZ _ _ ⟨B, rfl, by omega, by omega, kB, kR, S4 pz _ za zl (S3 pz _ za zl ez), S4 ph _ na nl' (S3 ph _ na nl' e2), P4, (S2.trans S3).trans S4⟩
 rintro τ μ3 ⟨B, rfl, hB0, hBn, kB, kR, ez3, e3, P3, S3⟩
 refine opt_i e3 ⟨a, l, hs.length, by rw [List.length_map], by omega, P3, fun ys py μ4 hy hNy hf ey P4 S4 => ?_⟩
 have e4 := S4 ph _ na nl' e3
 have ez4 := S4 pz _ za zl ez3
 refine opt_i (items_R ey) (opt_i (items_R e4) (opt_i (dats_str ys) (opt_i (dats_nat hs) ⟨⟨by simp [hy], by simp; omega⟩, opt_i (items_R ez4) (opt_i (dats_str zs) ⟨_, Sub.refl, ?_⟩)⟩)))
 rw [zip_pl]
 have hl1 : (ys.zip hs).length = hs.length := by rw [List.length_zip]; omega
 refine q ⟨ys.zip hs, zs, B⟩ _ ⟨?_, ?_, hz0, hzn, hB0, hBn, fun p hp => ?_, ?_, hN, ?_, ?_⟩ P4 (S3.trans S4)
 ·show 0 < (ys.zip hs).length; omega
 ·show (ys.zip hs).length <= np; omega
 ·exact hh2 p.2 (List.of_mem_zip hp).2
 ·show Nms ((ys.zip hs).map (·.1))
  rw [List.map_fst_zip (by omega)]; exact hNy
 ·show ∀ r ∈ B, RulOk (ys.zip hs).length zs.length r
  rw [hl1]; exact kB
 ·show RsOk ((ys.zip hs).map (·.2)) mo B
  rw [List.map_snd_zip (by omega)]; exact kR
end
section
variable {P : Program} {w : World} {K : PySem.W.Frag} {mg : Str -> Option Value} {base : Heap} {f : Addr} {fd : FuncData}
structure Rz where
 p : Int
 x : Int
 q : Int
 w : List Int
deriving DecidableEq
def rzD (r : Rz) : PyData := .tuple [.int r.p, .int r.x, .int r.q, .tuple (r.w.map .int)]
def rzA (r : Rz) : AV := .D (rzD r)
structure Gz where
 pl : List (Str × Nat)
 le : List Str
 rs : List Rz
def gzD (g : Gz) : PyData := .tuple [.tuple (g.pl.map plD), .tuple (g.le.map PyData.str), .tuple (g.rs.map rzD)]
def thr (z n : Int) : Bool := decide (0 <= z /\ z < n)
def parts (np nl : Nat) (r : Rz) : Bool := thr r.p np && thr r.q np && (r.x :: r.w).all fun z => thr z nl
def pushZ (r : Rz) : Bool := decide (r.w.length = 2)
def pushesZ (B : List Rz) : Nat := (B.filter pushZ).length
def atZ (v r : Rz) : Bool := decide (r.p = v.p /\ r.x = v.x)
def sameZ (E : List Rz) (v : Rz) : Nat := (E.filter (atZ v)).length
theorem ints_ok : ∀ (ns : List Int), PyData.canLayAll0 (ns.map .int) = true /\ PyData.depthAll (ns.map .int) <= 0 /\ CanoAll (ns.map .int) = true
 | [] => ⟨rfl, Nat.le_refl _, rfl⟩
 | n :: ns => by
  obtain ⟨h1, h2, h3⟩ := ints_ok ns
  simp only [List.map_cons, PyData.canLayAll0, PyData.depthAll, CanoAll, Cano, PyData.depth, h1, h3, Bool.and_true]
  exact ⟨rfl, by omega, trivial⟩
theorem rz_ok (r : Rz) : (rzD r).canLay0 = true /\ (rzD r).depth <= 2 /\ Cano (rzD r) = true := by
 obtain ⟨h1, h2, h3⟩ := ints_ok r.w
 refine ⟨?_, ?_, ?_⟩
 ·simp only [rzD, PyData.canLay0, PyData.canLayAll0, h1, Bool.and_true]
 ·simp only [rzD, PyData.depth, PyData.depthAll]; omega
 ·simp only [rzD, Cano, CanoAll, h3, Bool.and_true, Bool.true_and]
theorem rzs_ok : ∀ (B : List Rz), PyData.canLayAll0 (B.map rzD) = true /\ PyData.depthAll (B.map rzD) <= 2 /\ CanoAll (B.map rzD) = true
 | [] => ⟨rfl, by simp [PyData.depthAll], rfl⟩
 | a :: B => by
  obtain ⟨h1, h2, h3⟩ := rz_ok a
  obtain ⟨k1, k2, k3⟩ := rzs_ok B
  simp only [List.map_cons, PyData.canLayAll0, PyData.depthAll, CanoAll, h1, h3, k1, k3, Bool.and_self, true_and, and_true]
  omega
theorem rz_eqOk (a : Rz) : EqOk (rzD a) := ⟨(rz_ok a).1, Nat.le_trans (rz_ok a).2.1 (by decide)⟩
theorem rzs_eqOk (B : List Rz) : EqOk (.tuple (B.map rzD)) := ⟨by simp only [PyData.canLay0]; exact (rzs_ok B).1, by have := (rzs_ok B).2.1; simp only [PyData.depth]; omega⟩
theorem ints_inj : ∀ {a b : List Int}, a.map PyData.int = b.map PyData.int -> a = b
 | [], [], _ => rfl
 | [], _ :: _, h => by cases h
 | _ :: _, [], h => by cases h
 | x :: a, y :: b, h => by
  simp only [List.map_cons, List.cons.injEq, PyData.int.injEq] at h
  rw [h.1, ints_inj h.2]
theorem rzD_inj {a b : Rz} (h : rzD a = rzD b) : a = b := by
 obtain ⟨p, x, q, w⟩ := a
 obtain ⟨p', x', q', w'⟩ := b
 simp only [rzD, PyData.tuple.injEq, List.cons.injEq, PyData.int.injEq, and_true] at h
 obtain ⟨rfl, rfl, rfl, h⟩ := h
 rw [ints_inj h]
theorem rz_any (B : List Rz) (v : Rz) : ((B.map rzD).any fun e => PyData.eqv e (rzD v)) = decide (v ∈ B) := by
 rw [Bool.eq_iff_iff, List.any_eq_true, decide_eq_true_iff]
 constructor
 ·rintro ⟨d, hd, e⟩
  obtain ⟨r, hr, rfl⟩ := List.mem_map.mp hd
  rw [<- rzD_inj (eqv_eq _ _ (rz_ok r).2.2 (rz_ok v).2.2 e)]; exact hr
 ·intro h
  exact ⟨_, List.mem_map.mpr ⟨v, h, rfl⟩, eqv_self _ (rz_ok v).2.2⟩
theorem dats_rz (B : List Rz) : dats (B.map rzA) = some (B.map rzD) := by
 rw [show (B.map rzA) = (B.map rzD).map .D by rw [List.map_map]; rfl]; exact dats_map _
theorem items_rz {μ : M} {B : List Rz} : items μ (.D (.tuple (B.map rzD))) = some (B.map rzA) := by
 show some ((B.map rzD).map AV.D) = _
 rw [List.map_map]; rfl
theorem items_int {μ : M} {as : List Int} : items μ (.D (.tuple (as.map .int))) = some (as.map fun a => .D (.int a)) := by
 show some ((as.map PyData.int).map AV.D) = _
 rw [List.map_map]; rfl
theorem cutD_take {α : Type} (g : α -> PyData) (xs : List α) (n : Nat) : cutD (xs.map g) none (some (n : Int)) = (xs.take n).map g := by
 unfold cutD
 rw [HT.sIx_none, HT.sIx_nat, List.drop_zero, Nat.sub_zero, <- List.map_take, List.length_map]
 by_cases h : n <= xs.length
 ·rw [Nat.min_eq_left h]
 ·rw [Nat.min_eq_right (by omega), List.take_length, List.take_of_length_le (by omega)]
theorem cutA_take {α : Type} (g : α -> AV) (xs : List α) (n : Nat) : cutA (xs.map g) none (some (n : Int)) = (xs.take n).map g := by
 unfold cutA
 rw [HT.sIx_none, HT.sIx_nat, List.drop_zero, Nat.sub_zero, <- List.map_take, List.length_map]
 by_cases h : n <= xs.length
 ·rw [Nat.min_eq_left h]
 ·rw [Nat.min_eq_right (by omega), List.take_length, List.take_of_length_le (by omega)]
theorem k_ib : (!kit "int" "bool") = true := by decide
abbrev nIt : List Str := ["number", "many"]
theorem scIt : FnScope nIt ["number", "many"] (defScope sIt) := ⟨rfl, rfl, rfl, by decide +kernel, rfl, by decide +kernel, by decide +kernel⟩
def spIt : ASp := fun xs μ R => ∃ (n m : Int), xs = [.D (.int n), .D (.int m)] /\ R (.D (.bool (thr n m))) μ
theorem ok_it {n : Nat} (F : Fun K "is_there" "is_there" sIt f fd) (m_isinstance : mg "isinstance" = none) (m_bool : mg "bool" = none) : FnOk P w K mg base CX0 (n + 1) f fd ["number", "many"] (cSp K 2 spIt) := by
 refine F.vok scIt fun cdv A outer s H E hr => ⟨_, (vss_one (vs_ret (ve_and (ve_not (ve_isT rfl m_isinstance rfl m_bool PyProof.Rows.boot_bool kits_bool (vv 0))) (ve_one (ve_chain o_le o_lt ve_int (vv 0) (vv 1)))))), ?_⟩
 rintro xs μ R _ ⟨i, m, rfl, q⟩
 unfold thr at q
 refine opt_i rfl (brT k_ib (dif (fun c => ⟨μ, Sub.refl, ?_⟩) (fun c => ⟨μ, Sub.refl, ?_⟩)))
 ·have e : decide (0 <= i /\ i < m) = decide (i < m) := by simp [c]
  rw [e] at q; exact q
 ·have e : decide (0 <= i /\ i < m) = false := by simp [c]
  rw [e] at q; exact q
abbrev nIp : List Str := ["rule"]
theorem scIp : FnScope nIp ["rule"] (defScope sIp) := ⟨rfl, rfl, rfl, by decide +kernel, rfl, by decide +kernel, by decide +kernel⟩
def spIp : ASp := fun xs μ R => ∃ (r : Rz), xs = [rzA r] /\ R (.D (.bool (pushZ r))) μ
theorem ok_ip {n : Nat} (F : Fun K "is_push" "is_push" sIp f fd) (m_len : mg "len" = none) : FnOk P w K mg base CX0 (n + 1) f fd ["rule"] (cSp K 1 spIp) := by
 refine F.vok scIp fun cdv A outer s H E hr => ⟨_, (vss_one (vs_ret (ve_cmp (o_eq hr) (ve_callB c_len rfl m_len PySem.boot_len (va_cons (ve_ix i_ix (vv 0) ve_int) va_nil)) ve_int (nomark _)))), ?_⟩
 rintro xs μ R _ ⟨r, rfl, q⟩
 refine opt_i (atI_nat (j := 3) rfl) ⟨eqOk_int _, eqOk_int _, μ, Sub.refl, ?_⟩
 rw [eqv_int, List.length_map, show decide ((r.w.length : Int) = 2) = pushZ r from decide_eq_decide.mpr ⟨fun h => by omega, fun h => by omega⟩]
 exact q
abbrev nHp : List Str := ["game", "rule", "places", "letters"]
theorem scHp : FnScope nHp ["game", "rule"] (defScope sHp) := ⟨rfl, rfl, rfl, by decide +kernel, rfl, by decide +kernel, by decide +kernel⟩
theorem ndHp1 : (["letter", "letters"] : List Str).Nodup := by decide +kernel
def spHp : ASp := fun xs μ R => ∃ (g : Gz) (r : Rz), xs = [.D (gzD g), rzA r] /\ r.w.length <= 20 /\ R (.D (.bool (parts g.pl.length g.le.length r))) μ
theorem ok_hp {n : Nat} (F : Fun K "has_its_parts" "has_its_parts" sHp f fd) (cIt : VCal P w K mg base n "is_there" ["number", "many"] spIt) (m_len : mg "len" = none) (m_all : mg "all" = none) : FnOk P w K mg base CX0 (n + 1) f fd ["game", "rule"] (cSp K 2 spHp) := by
 refine F.vok scHp fun cdv A outer s H E hr => ⟨_, (vss_cons (vs_set (i := 2) scHp.nd rfl (Or.inl rfl) (ve_callB c_len rfl m_len PySem.boot_len (va_cons (ve_ix i_ix (vv 0) ve_int) va_nil)))
   (vss_cons (vs_set (i := 3) scHp.nd rfl (Or.inr rfl) (ve_callB c_len rfl m_len PySem.boot_len (va_cons (ve_ix i_ix (vv 0) ve_int) va_nil)))
   (vss_cons (vs_if (VW.pt (vw_or (vt_not (vt_val (ve_call cIt hr rfl (va_cons (ve_ix i_ix (vv 1) ve_int) (va_cons (vv 2) va_nil))))) (vw_or1 (vt_not (vt_val (ve_call cIt hr rfl (va_cons (ve_ix i_ix (vv 1) ve_int) (va_cons (vv 2) va_nil)))))))) (vss_one (vs_ret ve_bl)) vss_nil)
   (vss_one (vs_ret (ve_callB (c_all rfl) rfl m_all PyProof.Rows.boot_all (va_cons (ve_comp (N' := ["letter", "letters"]) (mp := [none, some 3]) rfl (vi_seq (ve_op o_add (ve_tup (va_cons (ve_ix i_ix (vv 1) ve_int) va_nil)) (ve_ix i_ix (vv 1) ve_int))) (fun _ _ _ _ => (vg_name (i := 0) ndHp1 rfl (Or.inl rfl) (Or.inr rfl))) (fun _ _ _ _ => vifs_nil) (fun _ _ _ _ => (ve_call cIt hr rfl (va_cons (vv 0) (va_cons (vv 1) va_nil)))) (compOk_of (N := nHp) (pn := (defScope sHp).names) (by decide +kernel))) va_nil))))))), ?_⟩
 rintro xs μ R _ ⟨g, r, rfl, hw, q⟩
 refine seq_i (fun τ μ' => τ = [some (.D (gzD g)), some (rzA r), some (.D (.int g.pl.length)), none] /\ μ = μ') (fun Z hZ => ?_) ?_
 ·refine opt_i (atI_nat (j := 0) rfl) (hZ _ _ ⟨?_, rfl⟩)
  rw [List.length_map]; rfl
 rintro τ _ ⟨rfl, rfl⟩
 refine seq_i (fun τ μ' => τ = [some (.D (gzD g)), some (rzA r), some (.D (.int g.pl.length)), some (.D (.int g.le.length))] /\ μ = μ') (fun Z hZ => ?_) ?_
 ·refine opt_i (atI_nat (j := 1) rfl) (hZ _ _ ⟨?_, rfl⟩)
  rw [List.length_map]; rfl
 rintro τ _ ⟨rfl, rfl⟩
 have q0 : parts g.pl.length g.le.length r = false -> aRt R (.D (.bool false)) μ := fun e => ⟨μ, Sub.refl, by rw [e] at q; exact q⟩
 refine seq_i (fun τ μ' => τ = [some (.D (gzD g)), some (rzA r), some (.D (.int g.pl.length)), some (.D (.int g.le.length))] /\ μ = μ' /\ thr r.p g.pl.length = true /\ thr r.q g.pl.length = true) (fun Z hZ => ?_) ?_
 ·refine opt_i (atI_nat (j := 0) rfl) ⟨r.p, g.pl.length, rfl, br (fun c1 => brT rfl (q0 ?_)) (fun c1 => ?_)⟩
  ·rw [Bool.not_eq_true'] at c1; unfold parts; rw [c1]; rfl
  rw [Bool.not_eq_false'] at c1
  refine opt_i (atI_nat (j := 2) rfl) ⟨r.q, g.pl.length, rfl, br (fun c2 => q0 ?_) (fun c2 => ?_)⟩
  ·rw [Bool.not_eq_true'] at c2; unfold parts; rw [c2, Bool.and_false]; rfl
  rw [Bool.not_eq_false'] at c2
  exact hZ _ _ ⟨rfl, rfl, c1, c2⟩
 rintro τ _ ⟨rfl, rfl, c1, c2⟩
 have e : parts g.pl.length g.le.length r = (r.x :: r.w).all fun z => thr z g.le.length := by unfold parts; rw [c1, c2]; rfl
 refine opt_i (atI_nat (j := 1) rfl) (opt_i (atI_nat (j := 3) rfl) ⟨?_, opt_i (items_int (as := r.x :: r.w)) fun p hp => ?_⟩)
 ·rw [List.length_map]; exact Nat.le_trans (show _ <= 30 by simp only [List.length_cons, List.length_nil]; omega) (by decide)
 refine cmap (r.x :: r.w) _ (fun z => .D (.bool (thr z g.le.length))) (fun τ => ∃ o, τ = [o, some (.D (.int g.le.length))]) ⟨none, rfl⟩ updM_same (seven (by simp only [List.length_cons]; omega)) (fun _ => items_int (as := r.x :: r.w)) ?_ ?_
 ·rintro i z τ' acc W hi ⟨o, rfl⟩ hW
  exact ⟨z, g.le.length, rfl, hW _ ⟨_, rfl⟩⟩
 ·refine all_i updM_same ⟨μ, (Sub.refl.new hp).new hp, ?_⟩
  rw [e] at q; exact q
abbrev nLs : List Str := ["word", "many", "most"]
theorem scLs : FnScope nLs ["word", "many", "most"] (defScope sLs) := ⟨rfl, rfl, rfl, by decide +kernel, rfl, by decide +kernel, by decide +kernel⟩
def spLs : ASpX := fun xs μ R EX => ∃ (z : Str) (n m : Int), xs = [.D (.str z), .D (.int n), .D (.int m)] /\ 1 <= n /\ n <= m /\ R (.D .none) μ
theorem ok_ls {n : Nat} {C : Addr} (F : Fun K "look_size" "look_size" sLs f fd) (xNoGame : XCal P w K mg base n "NoGame" C ["word", "at"]) : FnOk P w K mg base (CX1 P w) (n + 1 + 1) f fd ["word", "many", "most"] (cSpX K 3 spLs) := by
 refine F.vokX scLs fun cdv A outer s H E EX hr hX => ⟨_, (vss_one (vs_if (vt_not (vt_chain o_le o_le ve_int (vv 1) (vv 2))) (vss_one (vs_raise xNoGame hr rfl hX rfl (va_cons (vv 0) (va_cons (vv 1) va_nil)))) vss_nil)), ?_⟩
 rintro xs μ R _ ⟨z, i, m, rfl, h1, h2, q⟩
 refine dif (fun c => br (fun c2 => ?_) (fun c2 => ?_)) (fun c => absurd h1 c)
 ·rw [Bool.not_eq_true'] at c2
  exact absurd h2 (of_decide_eq_false c2)
 ·exact ⟨μ, Sub.refl, q⟩
abbrev nLu : List Str := ["names", "number", "name"]
theorem scLu : FnScope nLu ["names"] (defScope sLu) := ⟨rfl, rfl, rfl, by decide +kernel, rfl, by decide +kernel, by decide +kernel⟩
def spLu (C : Addr) : ASpX := fun xs μ R EX => ∃ (x : AV) (zs : List Str), xs = [x] /\ (x = .D (.tuple (zs.map .str)) \/ ∃ p, x = .R p /\ μ p = some (.lst (zs.map strA))) /\ (∀ z ∈ zs, lets z) /\ zs.length <= 20 /\ (zs.Nodup -> R (.D .none) μ) /\ (¬ zs.Nodup -> ∀ a b, EX C [("word", a), ("at", b)] μ)
theorem strs_ok : ∀ {zs : List Str}, (∀ z ∈ zs, lets z) -> PyData.canLayAll0 (zs.map .str) = true /\ PyData.depthAll (zs.map .str) <= 0
 | [], _ => ⟨rfl, Nat.le_refl _⟩
 | z :: zs, h => by
  obtain ⟨h1, h2⟩ := strs_ok (zs := zs) fun y hy => h y (List.mem_cons_of_mem _ hy)
  simp only [List.map_cons, PyData.canLayAll0, PyData.depthAll, PyData.depth, h1, lets_ok (h z List.mem_cons_self), Bool.and_true]
  exact ⟨trivial, by omega⟩
theorem strs_eqOk {zs : List Str} (h : ∀ z ∈ zs, lets z) : EqOk (.tuple (zs.map .str)) := ⟨by simp only [PyData.canLay0]; exact (strs_ok h).1, by have := (strs_ok h).2; simp only [PyData.depth]; omega⟩
theorem strs_any (zs : List Str) (z : Str) : ((zs.map PyData.str).any fun e => PyData.eqv e (.str z)) = decide (z ∈ zs) := by
 rw [Bool.eq_iff_iff, List.any_eq_true, decide_eq_true_iff]
 constructor
 ·rintro ⟨d, hd, e⟩
  obtain ⟨y, hy, rfl⟩ := List.mem_map.mp hd
  have e2 : y = z := by simpa [PyData.eqv] using e
  rw [<- e2]; exact hy
 ·intro h
  exact ⟨_, List.mem_map.mpr ⟨z, h, rfl⟩, by simp [PyData.eqv]⟩
theorem nodupS {zs : List Str} {z : Str} : (zs ++ [z]).Nodup ↔ zs.Nodup /\ z ∉ zs := by
 rw [List.nodup_append]
 constructor
 ·rintro ⟨h1, _, h3⟩
  exact ⟨h1, fun h => h3 z h z (List.mem_singleton.mpr rfl) rfl⟩
 ·rintro ⟨h1, h2⟩
  refine ⟨h1, by simp, fun a ha b hb e => ?_⟩
  rw [List.mem_singleton.mp hb] at e
  exact h2 (e ▸ ha)
theorem take_get {α : Type} {rs : List α} {i : Nat} {r : α} (h : rs[i]? = some r) : rs.take (i + 1) = rs.take i ++ [r] := by rw [List.take_succ, h]; rfl
theorem en_str {zs : List Str} {i : Nat} {x : AV} (h : (enumA 0 (zs.map PyData.str))[i]? = some x) : ∃ z, zs[i]? = some z /\ x = .D (.tuple [.int i, .str z]) := by
 obtain ⟨d, hd, rfl⟩ := enumA_get h
 rw [List.getElem?_map] at hd
 obtain ⟨p, hp, rfl⟩ := Option.map_eq_some_iff.mp hd
 exact ⟨p, hp, by rw [Nat.zero_add]⟩
theorem items_str {μ : M} {zs : List Str} : items μ (.D (.tuple (zs.map .str))) = some (zs.map strA) := by
 show some ((zs.map PyData.str).map AV.D) = _
 rw [List.map_map]; rfl
theorem ok_lu {n : Nat} {C : Addr} (F : Fun K "look_unlike" "look_unlike" sLu f fd) (m_enumerate : mg "enumerate" = none) (xNoGame : XCal P w K mg base n "NoGame" C ["word", "at"]) : FnOk P w K mg base (CX1 P w) (n + 1 + 1) f fd ["names"] (cSpX K 1 (spLu C)) := by
 refine F.vokX scLu fun cdv A outer s H E EX hr hX => ⟨_, (vss_one (vs_for PassesOwn.leaving rfl (vi_enum rfl m_enumerate (vv 0)) (vg_tup (n := 2) rfl (vgs_cons (vg_name (i := 1) scLu.nd rfl (Or.inl rfl)) (vgs_cons (vg_name (i := 2) scLu.nd rfl (Or.inl rfl)) vgs_nil))) (vss_one (vs_if (vt_cmp (o_in hr) (vv 2) (ve_slice (vv 0) vo_none (vo_some (vv 1))) (by with_unfolding_all rfl)) (vss_one (vs_raise xNoGame hr rfl hX rfl (va_cons ve_str (va_cons (vv 1) va_nil)))) vss_nil)))), ?_⟩
 rintro xs μ R _ ⟨x, zs, rfl, hx, hN, hl, q, q2⟩
 have it : ∀ μ', Sub μ μ' -> items μ' x = some (zs.map strA) := fun μ' S => by
  rcases hx with rfl | ⟨p, rfl, e⟩
  ·exact items_str
  ·exact items_R (S p _ e)
 refine opt_i (it μ Sub.refl) (opt_i (dats_str zs) ?_)
 refine for_i (fun i τ μ1 => ∃ o1 o2, τ = [some x, o1, o2] /\ Sub μ μ1 /\ (zs.take i).Nodup) ⟨none, none, rfl, Sub.refl, by simp⟩ (fun _ _ _ ⟨_, _, _, S, _⟩ => it _ S) ?_ ?_
 ·rintro i y τ μ1 W hy ⟨o1, o2, rfl, S1, hd⟩ hW
  obtain ⟨z, hz, rfl⟩ := en_str hy
  have hzm := List.mem_of_getElem? hz
  have hlt : ∀ y ∈ zs.take i, lets y := fun y hy => hN y (List.mem_of_mem_take hy)
  have yes : z ∈ zs.take i -> ¬ zs.Nodup := fun c hn => by
   have h1 : (zs.take (i + 1)).Nodup := hn.sublist (List.take_sublist ..)
   rw [take_get hz] at h1
   exact (nodupS.mp h1).2 c
  have no : z ∉ zs.take i -> (zs.take (i + 1)).Nodup := fun c => by rw [take_get hz]; exact nodupS.mpr ⟨hd, c⟩
  refine ⟨rfl, ?_⟩
  rcases hx with rfl | ⟨p, rfl, e⟩
  ·refine opt_i rfl ?_
   rw [cutD_take]
   refine ⟨lets_eqOk (hN z hzm), strs_eqOk hlt, ?_⟩
   rw [strs_any]
   exact dif (fun c => opt_i rfl ⟨rfl, μ, S1, q2 (yes c) _ _⟩) (fun c => hW _ _ ⟨_, _, rfl, S1, no c⟩)
  ·refine opt_i (items_R (S1 p _ e)) fun pc hpc => ?_
   rw [cutA_take]
   refine opt_i rfl (opt_i (items_R updM_same) (opt_i (dats_str _) ⟨lets_eqOk (hN z hzm), strs_eqOk hlt, ?_⟩))
   rw [strs_any]
   exact dif (fun c => opt_i rfl ⟨rfl, μ, S1.new (S1.none hpc), q2 (yes c) _ _⟩) (fun c => hW _ _ ⟨_, _, rfl, S1.new (S1.none hpc), no c⟩)
 ·rintro τ μ1 ⟨o1, o2, rfl, S1, hd⟩
  rw [enumA_length, List.length_map, List.take_length] at hd
  exact ⟨μ, S1, q hd⟩
end
section
variable {P : Program} {w : World} {K : PySem.W.Frag} {mg : Str -> Option Value} {base : Heap} {f : Addr} {fd : FuncData}
def okAt (H : List Nat) (nl : Nat) (E : List Rz) (r : Rz) : Bool := parts H.length nl r && !decide (r ∈ E) && !(decide (H.getD r.p.toNat 0 = 1) && decide (1 < sameZ E r))
def OkRs (H : List Nat) (nl : Nat) (rs : List Rz) : Prop := ∀ i r, rs[i]? = some r -> okAt H nl (rs.take i) r = true
def fitsR (H : List Nat) (nl : Nat) (rs : List Rz) : Bool := decide (rs.length <= 8) && (rs.zipIdx.all fun z => okAt H nl (rs.take z.2) z.1) && decide (pushesZ rs < 4)
theorem zip_ok {H : List Nat} {nl : Nat} {rs : List Rz} : (rs.zipIdx.all fun z => okAt H nl (rs.take z.2) z.1) = true ↔ OkRs H nl rs := by
 rw [List.all_eq_true]
 constructor
 ·intro h i r e
  exact h (r, i) (List.mem_zipIdx_iff_getElem?.mpr e)
 ·rintro h ⟨r, i⟩ hm
  exact h i r (List.mem_zipIdx_iff_getElem?.mp hm)
theorem fitsR_iff {H : List Nat} {nl : Nat} {rs : List Rz} : fitsR H nl rs = true ↔ rs.length <= 8 /\ OkRs H nl rs /\ pushesZ rs < 4 := by
 unfold fitsR
 rw [Bool.and_eq_true, Bool.and_eq_true, decide_eq_true_iff, decide_eq_true_iff, zip_ok, and_assoc]
abbrev Gz.H (g : Gz) : List Nat := g.pl.map (·.2)
def fits (g : Gz) : Bool := decide (g.pl.map (·.1)).Nodup && (decide g.le.Nodup && fitsR g.H g.le.length g.rs)
theorem fits_iff {g : Gz} : fits g = true ↔ (g.pl.map (·.1)).Nodup /\ g.le.Nodup /\ g.rs.length <= 8 /\ OkRs g.H g.le.length g.rs /\ pushesZ g.rs < 4 := by
 unfold fits
 rw [Bool.and_eq_true, Bool.and_eq_true, decide_eq_true_iff, decide_eq_true_iff, fitsR_iff]
structure Nam (zs : List Str) : Prop where
 l : ∀ z ∈ zs, lets z
 n : ∀ z ∈ zs, z.length <= 7
structure GzOk (g : Gz) : Prop where
 p0 : 0 < g.pl.length
 p1 : g.pl.length <= 3
 l0 : 0 < g.le.length
 l1 : g.le.length <= 3
 pn : Nam (g.pl.map (·.1))
 ln : Nam g.le
 rn : g.rs.length <= 20
 rw : ∀ r ∈ g.rs, r.w.length <= 20
 hd : ∀ p ∈ g.pl, p.2 < 2
theorem pushes_snoc (B : List Rz) (r : Rz) : pushesZ (B ++ [r]) = pushesZ B + if pushZ r then 1 else 0 := by
 unfold pushesZ
 rw [List.filter_append, List.length_append]
 cases h : pushZ r <;> simp [h]
theorem same_snoc (B : List Rz) (v r : Rz) : sameZ (B ++ [r]) v = sameZ B v + if atZ v r then 1 else 0 := by
 unfold sameZ
 rw [List.filter_append, List.length_append]
 cases h : atZ v r <;> simp [h]
theorem same_at {B : List Rz} {v r : Rz} (h : atZ v r = true) : sameZ B v = sameZ B r := by
 obtain ⟨h1, h2⟩ := of_decide_eq_true h
 unfold sameZ atZ
 rw [h1, h2]
theorem pushes_mono {B : List Rz} (i : Nat) : pushesZ (B.take i) <= pushesZ B := by
 unfold pushesZ
 exact (List.Sublist.filter _ (List.take_sublist i B)).length_le
theorem two_ok (a b : Int) : EqOk (.tuple [.int a, .int b]) := ⟨rfl, by simp [PyData.depth, PyData.depthAll]⟩
abbrev nLr : List Str := ["game", "number", "rule", "ahead"]
theorem scLr : FnScope nLr ["game", "number"] (defScope sLr) := ⟨rfl, rfl, rfl, by decide +kernel, rfl, by decide +kernel, by decide +kernel⟩
theorem ndLr1 : (["one"] : List Str).Nodup := by decide +kernel
theorem ndLr2 : (["one", "rule"] : List Str).Nodup := by decide +kernel
def good (g : Gz) (i : Nat) (r : Rz) : Prop := okAt g.H g.le.length (g.rs.take i) r = true /\ ¬ (pushZ r = true /\ pushesZ (g.rs.take i) = 3)
structure Pre (g : Gz) (i : Nat) : Prop where
 pu : pushesZ (g.rs.take i) <= 3
 sa : ∀ v : Rz, g.H.getD v.p.toNat 0 = 1 -> sameZ (g.rs.take i) v <= 2
def spLr (C : Addr) : ASpX := fun xs μ R EX => ∃ (g : Gz) (i : Nat) (r : Rz), xs = [.D (gzD g), .D (.int i)] /\ GzOk g /\ g.rs[i]? = some r /\ Pre g i /\ (good g i r -> R (.D .none) μ) /\ (¬ good g i r -> ∀ a b, EX C [("word", a), ("at", b)] μ)
theorem ok_lr {n : Nat} {C : Addr} (F : Fun K "look_rule" "look_rule" sLr f fd) (cHp : VCal P w K mg base (n + 1) "has_its_parts" ["game", "rule"] spHp) (cIp : VCal P w K mg base (n + 1) "is_push" ["rule"] spIp) (m_len : mg "len" = none) {t1 t2 t3 : Tok} (mMH : mg "MOST_PUSHES" = some (.int 3 t1)) (mMA : mg "MOST_ANSWERS" = some (.int 2 t2)) (mOH : mg "OTHER_HAND" = some (.int 1 t3)) (xNoGame : XCal P w K mg base n "NoGame" C ["word", "at"]) :
  FnOk P w K mg base (CX1 P w) (n + 1 + 1) f fd ["game", "number"] (cSpX K 2 (spLr C)) := by
 refine F.vokX scLr fun cdv A outer s H E EX hr hX => ⟨_, (vss_cons (vs_set (i := 2) scLr.nd rfl (Or.inr rfl) (ve_ix i_ix (ve_ix i_ix (vv 0) ve_int) (vv 1)))
   (vss_cons (vs_set (i := 3) scLr.nd rfl (Or.inl rfl) (ve_slice (ve_ix i_ix (vv 0) ve_int) vo_none (vo_some (vv 1))))
   (vss_cons (vs_if (VW.pt (vw_or (vt_not (vt_val (ve_call cHp hr rfl (va_cons (vv 0) (va_cons (vv 2) va_nil))))) (vw_or1 (vt_cmp (o_in hr) (vv 2) (vv 3) (by with_unfolding_all rfl))))) (vss_one (vs_raise xNoGame hr rfl hX rfl (va_cons ve_str (va_cons (vv 1) va_nil)))) vss_nil)
   (vss_cons (vs_if (VW.pt (vw_and (vt_val (ve_call cIp hr rfl (va_cons (vv 2) va_nil))) (vw_and1 (vt_cmp (o_eq hr) (ve_callB c_len rfl m_len PySem.boot_len (va_cons (ve_comp (N' := ["one"]) (mp := [none]) rfl (vi_seq (vv 3)) (fun _ _ _ _ => (vg_name (i := 0) ndLr1 rfl (Or.inl rfl) (Or.inr rfl))) (fun _ _ _ _ => (vifs_one (vt_val (ve_call cIp hr rfl (va_cons (vv 0) va_nil))))) (fun _ _ _ _ => (vv 0)) (compOk_of (N := nLr) (pn := (defScope sLr).names) (by decide +kernel))) va_nil)) (ve_glob rfl mMH (v := .int 3) ⟨_, rfl⟩ (fun _ => dk_int)) (nomark _))))) (vss_one (vs_raise xNoGame hr rfl hX rfl (va_cons ve_str (va_cons (vv 1) va_nil)))) vss_nil)
   (vss_one (vs_if (VW.pt (vw_and (vt_cmp (o_eq hr) (ve_ix i_ix (ve_ix i_ix (ve_ix i_ix (vv 0) ve_int) (ve_ix i_ix (vv 2) ve_int)) ve_int) (ve_glob rfl mOH (v := .int 1) ⟨_, rfl⟩ (fun _ => dk_int)) (nomark _)) (vw_and1 (vt_cmp (o_eq hr) (ve_callB c_len rfl m_len PySem.boot_len (va_cons (ve_comp (N' := ["one", "rule"]) (mp := [none, some 2]) rfl (vi_seq (vv 3)) (fun _ _ _ _ => (vg_name (i := 0) ndLr2 rfl (Or.inl rfl) (Or.inr rfl))) (fun _ _ _ _ => (vifs_one (vt_cmp (o_eq hr) (ve_slice (vv 0) vo_none (vo_some ve_int)) (ve_slice (vv 1) vo_none (vo_some ve_int)) (nomark _)))) (fun _ _ _ _ => (vv 0)) (compOk_of (N := nLr) (pn := (defScope sLr).names) (by decide +kernel))) va_nil)) (ve_glob rfl mMA (v := .int 2) ⟨_, rfl⟩ (fun _ => dk_int)) (nomark _))))) (vss_one (vs_raise xNoGame hr rfl hX rfl (va_cons ve_str (va_cons (vv 1) va_nil)))) vss_nil)))))), ?_⟩
 rintro xs μ R _ ⟨g, i, r, rfl, hG, hi, hP, q1, q2⟩
 have hi20 : i < 20 := by have := (List.getElem?_eq_some_iff.mp hi).1; have := hG.rn; omega
 have hrw := hG.rw r (List.mem_of_getElem? hi)
 refine seq_i (fun τ μ' => τ = [some (.D (gzD g)), some (.D (.int i)), some (rzA r), none] /\ μ = μ') (fun Z hZ => ?_) ?_
 ·exact opt_i (atI_nat (j := 2) rfl) (opt_i (atI_nat (v := rzD r) (by rw [List.getElem?_map, hi]; rfl)) (hZ _ _ ⟨rfl, rfl⟩))
 rintro τ _ ⟨rfl, rfl⟩
 refine seq_i (fun τ μ' => τ = [some (.D (gzD g)), some (.D (.int i)), some (rzA r), some (.D (.tuple ((g.rs.take i).map rzD)))] /\ μ = μ') (fun Z hZ => ?_) ?_
 ·refine opt_i (atI_nat (j := 2) rfl) (hZ _ _ ⟨?_, rfl⟩)
  rw [cutD_take]; rfl
 rintro τ _ ⟨rfl, rfl⟩
 have bad : okAt g.H g.le.length (g.rs.take i) r = false -> ∀ a b, EX C [("word", a), ("at", b)] μ := fun e => q2 fun z => by have := z.1; rw [e] at this; cases this
 refine seq_i (fun τ μ' => τ = [some (.D (gzD g)), some (.D (.int i)), some (rzA r), some (.D (.tuple ((g.rs.take i).map rzD)))] /\ μ = μ' /\ parts g.pl.length g.le.length r = true /\ r ∉ g.rs.take i) (fun Z hZ => ?_) ?_
 ·refine ⟨g, r, rfl, hrw, br (fun c1 => brT rfl (opt_i rfl ⟨rfl, μ, Sub.refl, bad ?_ _ _⟩)) (fun c1 => ?_)⟩
  ·rw [Bool.not_eq_true'] at c1; unfold okAt; rw [List.length_map, c1]; rfl
  rw [Bool.not_eq_false'] at c1
  refine opt_i rfl ⟨rz_eqOk r, rzs_eqOk _, ?_⟩
  rw [rz_any]
  refine dif (fun c2 => opt_i rfl ⟨rfl, μ, Sub.refl, bad ?_ _ _⟩) (fun c2 => hZ _ _ ⟨rfl, rfl, c1, c2⟩)
  unfold okAt; rw [decide_eq_true c2]; simp
 rintro τ _ ⟨rfl, rfl, hpa, hni⟩
 have hp : thr r.p g.pl.length = true := by unfold parts at hpa; rw [Bool.and_eq_true, Bool.and_eq_true] at hpa; exact hpa.1.1
 obtain ⟨hp0, hp1⟩ := of_decide_eq_true hp
 have hok : okAt g.H g.le.length (g.rs.take i) r = !(decide (g.H.getD r.p.toNat 0 = 1) && decide (1 < sameZ (g.rs.take i) r)) := by
  unfold okAt; rw [List.length_map, hpa, decide_eq_false hni]; simp
 have hlen : (g.rs.take i).length <= 20 := by rw [List.length_take]; omega
 refine seq_i (fun τ μ' => τ = [some (.D (gzD g)), some (.D (.int i)), some (rzA r), some (.D (.tuple ((g.rs.take i).map rzD)))] /\ Sub μ μ' /\ ¬ (pushZ r = true /\ pushesZ (g.rs.take i) = 3)) (fun Z hZ => ?_) ?_
 ·refine ⟨r, rfl, br (fun c1 => ?_) (fun c1 => brF rfl (hZ _ _ ⟨rfl, Sub.refl, fun z => by rw [c1] at z; cases z.1⟩))⟩
  refine opt_i items_rz fun pc hpc => ?_
  refine cmapf (g.rs.take i) rzA pushZ rzA (fun τ => ∃ o, τ = [o]) ⟨none, rfl⟩ updM_same (seven (by omega)) (fun _ => items_rz) ?_ ?_
  ·rintro j v τ' acc W W2 hj ⟨o, rfl⟩ h1 h2
   exact ⟨v, rfl, br (fun c => h1 c _ ⟨_, rfl⟩) (fun c => h2 c _ ⟨_, rfl⟩)⟩
  ·refine opt_i updM_same (ieq (fun c2 => opt_i rfl ⟨rfl, μ, (Sub.refl.new hpc).new hpc, q2 (fun z => z.2 ⟨c1, ?_⟩) _ _⟩) (fun c2 => hZ _ _ ⟨rfl, (Sub.refl.new hpc).new hpc, fun z => c2 ?_⟩))
   ·rw [List.length_map] at c2; unfold pushesZ; omega
   ·have := z.2; unfold pushesZ at this; rw [List.length_map]; omega
 rintro τ μ1 ⟨rfl, S1, hpu⟩
 have hgt : (g.pl.map plD)[r.p.toNat]? = some (plD (g.pl[r.p.toNat]'(by omega))) := by rw [List.getElem?_map, List.getElem?_eq_getElem (by omega)]; rfl
 have hH : g.H.getD r.p.toNat 0 = (g.pl[r.p.toNat]'(by omega)).2 := by
  rw [List.getD_eq_getElem?_getD, List.getElem?_map, List.getElem?_eq_getElem (by omega)]; rfl
 generalize g.pl[r.p.toNat]'(by omega) = pp at hgt hH
 have hat : atI (g.pl.map plD) r.p = some (plD pp) := by
  have := atI_nat hgt
  rw [Int.toNat_of_nonneg hp0] at this; exact this
 refine opt_i (atI_nat (j := 0) rfl) (opt_i (atI_nat (j := 0) rfl) (opt_i hat (opt_i (atI_nat (j := 1) rfl) (ieq (fun c1 => ?_) (fun c1 => brF rfl ⟨μ, S1, q1 ⟨?_, hpu⟩⟩)))))
 ·refine opt_i items_rz fun pc hpc => ?_
  refine cmapf (g.rs.take i) rzA (atZ r) rzA (fun τ => ∃ o, τ = [o, some (rzA r)]) ⟨none, rfl⟩ updM_same (seven (by omega)) (fun _ => items_rz) ?_ ?_
  ·rintro j v τ' acc W W2 hj ⟨o, rfl⟩ h1 h2
   have e : PyData.eqv (.tuple [.int v.p, .int v.x]) (.tuple [.int r.p, .int r.x]) = atZ r v := by
    show (decide (v.p = r.p) && (decide (v.x = r.x) && true)) = _
    rw [Bool.and_true, <- Bool.decide_and]; rfl
   refine ⟨two_ok v.p v.x, two_ok r.p r.x, br (fun c => h1 (e.symm.trans c) _ ⟨_, rfl⟩) (fun c => h2 (e.symm.trans c) _ ⟨_, rfl⟩)⟩
  ·have hsa := hP.sa r (by rw [hH]; omega)
   refine opt_i updM_same (ieq (fun c2 => opt_i rfl ⟨rfl, μ, (S1.new (S1.none hpc)).new (S1.none hpc), bad ?_ _ _⟩) (fun c2 => ⟨μ, (S1.new (S1.none hpc)).new (S1.none hpc), q1 ⟨?_, hpu⟩⟩))
   all_goals rw [List.length_map] at c2
   ·rw [hok, decide_eq_true (show g.H.getD r.p.toNat 0 = 1 by rw [hH]; omega), decide_eq_true (show 1 < sameZ (g.rs.take i) r by unfold sameZ; omega)]; rfl
   ·rw [hok, decide_eq_false (show ¬ 1 < sameZ (g.rs.take i) r by unfold sameZ at hsa ⊢; omega)]; simp
 ·rw [hok, decide_eq_false (show ¬ g.H.getD r.p.toNat 0 = 1 by rw [hH]; omega)]; rfl
abbrev nLk : List Str := ["game", "places", "letters", "number"]
theorem scLk : FnScope nLk ["game"] (defScope sLk) := ⟨rfl, rfl, rfl, by decide +kernel, rfl, by decide +kernel, by decide +kernel⟩
theorem ndLk1 : (["name", "hand"] : List Str).Nodup := by decide +kernel
theorem fits_bad {g : Gz} {i : Nat} {r : Rz} (hi : g.rs[i]? = some r) (h : ¬ good g i r) : fits g = false := by
 rw [Bool.eq_false_iff]
 intro c
 obtain ⟨_, _, h1, h2, h3⟩ := fits_iff.mp c
 refine h ⟨h2 i r hi, fun ⟨z1, z2⟩ => ?_⟩
 have := pushes_mono (B := g.rs) (i + 1)
 rw [take_get hi, pushes_snoc, z1, z2] at this
 simp at this
 omega
theorem Pre.zero {g : Gz} : Pre g 0 := ⟨by simp [pushesZ], fun v _ => by simp [sameZ]⟩
theorem Pre.step {g : Gz} {i : Nat} {r : Rz} (h : Pre g i) (hi : g.rs[i]? = some r) (hg : good g i r) : Pre g (i + 1) := by
 refine ⟨?_, fun v hv => ?_⟩
 ·rw [take_get hi, pushes_snoc]
  have := h.pu
  cases c : pushZ r with
  | true =>
   have : pushesZ (g.rs.take i) ≠ 3 := fun z => hg.2 ⟨c, z⟩
   simp; omega
  | false => simp; omega
 ·rw [take_get hi, same_snoc]
  have := h.sa v hv
  cases c : atZ v r with
  | true =>
   rw [same_at c]
   have e := of_decide_eq_true c
   have h1 := hg.1
   unfold okAt at h1
   rw [Bool.and_eq_true, e.1, decide_eq_true hv, Bool.true_and, Bool.not_eq_true'] at h1
   have := of_decide_eq_false h1.2
   simp; omega
  | false => simp; omega
def spLk (C : Addr) : ASpX := fun xs μ R EX => ∃ (g : Gz), xs = [.D (gzD g)] /\ GzOk g /\ (fits g = true -> R (.D (.bool true)) μ) /\ (fits g = false -> ∀ a b, EX C [("word", a), ("at", b)] μ)
theorem ok_lk {n : Nat} {C : Addr} (F : Fun K "look" "look" sLk f fd) (cLs : VCalX P w K mg base (n + 1) "look_size" ["word", "many", "most"] spLs) (cLu : VCalX P w K mg base (n + 1) "look_unlike" ["names"] (spLu C)) (cLr : VCalX P w K mg base (n + 1) "look_rule" ["game", "number"] (spLr C)) (m_len : mg "len" = none) (m_range : mg "range" = none) {t1 t2 t3 : Tok} (mMP : mg "MOST_PLACES" = some (.int 3 t1)) (mML : mg "MOST_LETTERS" = some (.int 3 t2)) (mMR : mg "MOST_RULES" = some (.int 8 t3)) (xNoGame : XCal P w K mg base n "NoGame" C ["word", "at"]) :
  FnOk P w K mg base (CX1 P w) (n + 1 + 1) f fd ["game"] (cSpX K 1 (spLk C)) := by
 refine F.vokX scLk fun cdv A outer s H E EX hr hX => ⟨_, (vss_cons (vs_setC (i := 1) (N' := ["name", "hand"]) (mp := [none, none]) rfl scLk.nd rfl rfl (vi_seq (ve_ix i_ix (vv 0) ve_int)) (fun _ _ _ _ => (vg_tup (n := 2) rfl (vgs_cons (vg_name (i := 0) ndLk1 rfl (Or.inl rfl) (Or.inr rfl)) (vgs_cons (vg_name (i := 1) ndLk1 rfl (Or.inl rfl) (Or.inr rfl)) vgs_nil)))) (fun _ _ _ _ => vifs_nil) (fun _ _ _ _ => (vv 0)) (compOk_of (N := nLk) (pn := (defScope sLk).names) (by decide +kernel)))
   (vss_cons (vs_set (i := 2) scLk.nd rfl (Or.inl rfl) (ve_ix i_ix (vv 0) ve_int))
   (vss_cons (vs_expr (ve_callX cLs hr hX rfl (va_cons ve_str (va_cons (ve_callB c_len rfl m_len PySem.boot_len (va_cons (vv 1) va_nil)) (va_cons (ve_glob rfl mMP (v := .int 3) ⟨_, rfl⟩ (fun _ => dk_int)) va_nil)))))
   (vss_cons (vs_expr (ve_callX cLs hr hX rfl (va_cons ve_str (va_cons (ve_callB c_len rfl m_len PySem.boot_len (va_cons (vv 2) va_nil)) (va_cons (ve_glob rfl mML (v := .int 3) ⟨_, rfl⟩ (fun _ => dk_int)) va_nil)))))
   (vss_cons (vs_expr (ve_callX cLu hr hX rfl (va_cons (vv 1) va_nil)))
   (vss_cons (vs_expr (ve_callX cLu hr hX rfl (va_cons (vv 2) va_nil)))
   (vss_cons (vs_for PassesOwn.leaving rfl (vi_range1 rfl m_range (va_cons (ve_callB c_len rfl m_len PySem.boot_len (va_cons (ve_ix i_ix (vv 0) ve_int) va_nil)) va_nil)) (vg_name (i := 3) scLk.nd rfl (Or.inl rfl)) (vss_one (vs_expr (ve_callX cLr hr hX rfl (va_cons (vv 0) (va_cons (vv 3) va_nil))))))
   (vss_cons (vs_if (vt_cmp o_gt (ve_callB c_len rfl m_len PySem.boot_len (va_cons (ve_ix i_ix (vv 0) ve_int) va_nil)) (ve_glob rfl mMR (v := .int 8) ⟨_, rfl⟩ (fun _ => dk_int)) (nomark _)) (vss_one (vs_raise xNoGame hr rfl hX rfl (va_cons ve_str (va_cons (ve_callB c_len rfl m_len PySem.boot_len (va_cons (ve_ix i_ix (vv 0) ve_int) va_nil)) va_nil)))) vss_nil)
   (vss_one (vs_ret ve_bl)))))))))), ?_⟩
 rintro xs μ R _ ⟨g, rfl, hG, q1, q2⟩
 have hp0 := hG.p0
 have hp1 := hG.p1
 have hl0 := hG.l0
 have hl1 := hG.l1
 have hrn := hG.rn
 have upE : ∀ a b ν, Sub μ ν -> fits g = false -> upX EX C [("word", a), ("at", b)] ν := fun a b ν S e => ⟨μ, S, q2 e a b⟩
 refine seq_i (fun τ μ' => ∃ pp, τ = [some (.D (gzD g)), some (.R pp), none, none] /\ Sub μ μ' /\ μ' pp = some (.lst ((g.pl.map (·.1)).map strA))) (fun Z hZ => ?_) ?_
 ·refine opt_i (atI_nat (j := 0) rfl) (opt_i (x := g.pl.map fun p => .D (plD p)) (by show some ((g.pl.map plD).map AV.D) = _; rw [List.map_map]; rfl) fun pc hpc => ?_)
  refine cmap g.pl _ (fun p => strA p.1) (fun τ => ∃ o1 o2, τ = [o1, o2]) ⟨none, none, rfl⟩ updM_same (seven (by omega)) (fun _ => by show some ((g.pl.map plD).map AV.D) = _; rw [List.map_map]; rfl) ?_ ?_
  ·rintro i p τ' acc W hi ⟨o1, o2, rfl⟩ hW
   exact ⟨rfl, hW _ ⟨_, _, rfl⟩⟩
  ·refine hZ _ _ ⟨pc, rfl, (Sub.refl.new hpc).new hpc, ?_⟩
   rw [updM_same, List.map_map]; rfl
 rintro τ μ1 ⟨pp, rfl, S1, e1⟩
 refine seq_i (fun τ μ' => τ = [some (.D (gzD g)), some (.R pp), some (.D (.tuple (g.le.map PyData.str))), none] /\ μ1 = μ') (fun Z hZ => opt_i (atI_nat (j := 1) rfl) (hZ _ _ ⟨rfl, rfl⟩)) ?_
 rintro τ _ ⟨rfl, rfl⟩
 refine seq_d (opt_i e1 ⟨"places", g.pl.length, 3, by rw [List.length_map, List.length_map], by omega, by omega, ?_⟩)
 refine seq_d ⟨"letters", g.le.length, 3, by rw [List.length_map], by omega, by omega, ?_⟩
 refine seq_d ⟨_, g.pl.map (·.1), rfl, .inr ⟨pp, rfl, e1⟩, hG.pn.l, by rw [List.length_map]; omega, fun hd1 => ?_, fun hd a b => upE _ _ _ S1 (Bool.eq_false_iff.mpr fun z => hd (fits_iff.mp z).1)⟩
 refine seq_d ⟨_, g.le, rfl, .inl rfl, hG.ln.l, by omega, fun hd2 => ?_, fun hd a b => upE _ _ _ S1 (Bool.eq_false_iff.mpr fun z => hd (fits_iff.mp z).2.1)⟩
 have hlen : (rngA 0 ((g.rs.map rzD).length : Int).toNat).length = g.rs.length := by rw [rngA_length, List.length_map]; omega
 refine seq_i (fun τ μ' => ∃ o, τ = [some (.D (gzD g)), some (.R pp), some (.D (.tuple (g.le.map PyData.str))), o] /\ μ1 = μ' /\ OkRs g.H g.le.length g.rs /\ pushesZ g.rs <= 3) (fun Z hZ => ?_) ?_
 ·refine opt_i (atI_nat (j := 2) rfl) ⟨by rw [List.length_map]; omega, by rw [List.length_map]; omega, ?_⟩
  refine for_i (fun i τ μ' => ∃ o, τ = [some (.D (gzD g)), some (.R pp), some (.D (.tuple (g.le.map PyData.str))), o] /\ μ1 = μ' /\ Pre g i /\ ∀ j r, j < i -> g.rs[j]? = some r -> okAt g.H g.le.length (g.rs.take j) r = true) ⟨none, rfl, rfl, Pre.zero, fun j _ hj => absurd hj (by omega)⟩ (fun _ _ _ _ => trivial) ?_ ?_
  ·rintro i y τ _ W hy ⟨o, rfl, rfl, hP, hok⟩ hW
   have hi : i < g.rs.length := by rw [<- hlen]; exact (List.getElem?_eq_some_iff.mp hy).1
   have ey := rngA_get _ _ _ hy
   subst ey
   have hr' := List.getElem?_eq_getElem hi
   generalize g.rs[i] = r at hr'
   refine ⟨g, i, r, by rw [Int.zero_add], hG, hr', hP, fun hg => hW _ _ ⟨_, rfl, rfl, hP.step hr' hg, fun j v hj hv => ?_⟩, fun hg a b => upE _ _ _ S1 (fits_bad hr' hg)⟩
   rcases (show j < i \/ j = i by omega) with h | rfl
   ·exact hok j v h hv
   ·rw [hr'] at hv; cases hv; exact hg.1
  ·rintro τ _ ⟨o, rfl, rfl, hP, hok⟩
   rw [hlen] at hP hok
   refine hZ _ _ ⟨_, rfl, rfl, fun i r h => hok i r (List.getElem?_eq_some_iff.mp h).1 h, ?_⟩
   have := hP.pu
   rw [List.take_length] at this; exact this
 rintro τ _ ⟨o, rfl, rfl, hok, hpu⟩
 refine opt_i (atI_nat (j := 2) rfl) (dif (fun c => ?_) (fun c => ⟨μ, S1, q1 (fits_iff.mpr ⟨hd1, hd2, ?_, hok, by omega⟩)⟩))
 ·refine opt_i (atI_nat (j := 2) rfl) (opt_i rfl ⟨rfl, upE _ _ _ S1 ?_⟩)
  rw [Bool.eq_false_iff]
  intro z
  have := (fits_iff.mp z).2.2.1
  rw [List.length_map] at c
  omega
 ·rw [List.length_map] at c; omega
end
section
variable {P : Program} {w : World} {K : PySem.W.Frag} {mg : Str -> Option Value} {base : Heap} {f : Addr} {fd : FuncData}
abbrev nFt : List Str := ["places", "letters", "rules", "game"]
theorem scFt : FnScope nFt ["places", "letters", "rules"] (defScope sFt) := ⟨rfl, rfl, rfl, by decide +kernel, rfl, by decide +kernel, by decide +kernel⟩
def spFt (C : Addr) : ASpX := fun xs μ R EX => ∃ (g : Gz), xs = [.D (.tuple (g.pl.map plD)), .D (.tuple (g.le.map .str)), .D (.tuple (g.rs.map rzD))] /\ GzOk g /\ (fits g = true -> R (.D (gzD g)) μ) /\ (fits g = false -> EX C [] μ)
theorem ok_ft {n : Nat} {c1 c5 D : Addr} {cs : List Addr} (F : Fun K "fitting" "fitting" sFt f fd) (cLk : VCalX P w K mg base (n + 1) "look" ["game"] (spLk c1)) (mc1 : mg "NoGame" = some (.ref c1)) (erNoGame : Err K c1 D cs) (xNoFit : XNo K mg "NoFit" c5) : FnOk P w K mg base (CX1 P w) (n + 1 + 1) f fd ["places", "letters", "rules"] (cSpX K 3 (spFt c5)) := by
 refine F.vokX0 scFt fun cdv A outer s H E EX hr hXF => ⟨_, (vss0_cons (VS.z (vs_set (i := 3) scFt.nd rfl (Or.inl rfl) (ve_tup (va_cons (vv 0) (va_cons (vv 1) (va_cons (vv 2) va_nil))))))
   (vss0_cons (vs0_tryR (fun xe pn EX hX => (vss_one (vs_expr (ve_callX cLk hr hX rfl (va_cons (vv 3) va_nil))))) rfl mc1 erNoGame.xc erNoGame.xi.toXCls.mb xNoFit rfl hXF rfl rfl)
   (vss0_one (VS.z (vs_ret (vv 3)))))), ?_⟩
 rintro xs μ R _ ⟨g, rfl, hG, q1, q2⟩
 refine seq_i (fun τ μ' => τ = [some (.D (.tuple (g.pl.map plD))), some (.D (.tuple (g.le.map .str))), some (.D (.tuple (g.rs.map rzD))), some (.D (gzD g))] /\ μ = μ') (fun Z hZ => hZ _ _ ⟨rfl, rfl⟩) ?_
 rintro τ _ ⟨rfl, rfl⟩
 refine seq_d ?_
 exact ⟨g, rfl, hG, fun hf => ⟨μ, Sub.refl, q1 hf⟩, fun hf a b => ⟨erNoGame.me, μ, Sub.refl, q2 hf⟩⟩
theorem GzOk.rs {g g' : Gz} (h : GzOk g) (p0 : 0 < g'.pl.length) (p1 : g'.pl.length <= 3) (l0 : 0 < g'.le.length) (l1 : g'.le.length <= 3) (pn : Nam (g'.pl.map (·.1))) (ln : Nam g'.le) (e : g'.rs = g.rs) (hd : ∀ p ∈ g'.pl, p.2 < 2) : GzOk g' := ⟨p0, p1, l0, l1, pn, ln, by rw [e]; exact h.rn, by rw [e]; exact h.rw, hd⟩
def Gz.trn (g : Gz) : Gz := ⟨g.pl.map fun p => (p.1, 1 - p.2), g.le, g.rs⟩
theorem trn_names (g : Gz) : g.trn.pl.map (·.1) = g.pl.map (·.1) := by
 show (g.pl.map _).map _ = _
 rw [List.map_map]; rfl
theorem GzOk.trn {g : Gz} (h : GzOk g) : GzOk g.trn := by
 refine h.rs ?_ ?_ h.l0 h.l1 ?_ h.ln rfl fun p hp => ?_
 ·show 0 < (g.pl.map _).length; rw [List.length_map]; exact h.p0
 ·show (g.pl.map _).length <= 3; rw [List.length_map]; exact h.p1
 ·rw [trn_names]; exact h.pn
 ·obtain ⟨p', _, rfl⟩ := List.mem_map.mp (show p ∈ g.pl.map _ from hp)
  show 1 - p'.2 < 2; omega
theorem trn_trn {g : Gz} (h : GzOk g) : g.trn.trn = g := by
 obtain ⟨pl, le, rs⟩ := g
 have hh : ∀ p ∈ pl, p.2 < 2 := h.hd
 show Gz.mk ((pl.map _).map _) _ _ = _
 rw [List.map_map]
 congr 1
 refine (List.map_congr_left fun p hp => ?_).trans (List.map_id _)
 have := hh p hp
 show (p.1, 1 - (1 - p.2)) = p
 obtain ⟨z, k⟩ := p
 show (z, 1 - (1 - k)) = (z, k)
 have : k < 2 := this
 rw [show 1 - (1 - k) = k by omega]
def tpD (p : Str × Nat) : PyData := .tuple [.str p.1, .int (1 - p.2)]
theorem tp_pl {pl : List (Str × Nat)} (h : ∀ p ∈ pl, p.2 < 2) : pl.map tpD = (pl.map fun p => (p.1, 1 - p.2)).map plD := by
 rw [List.map_map]
 refine List.map_congr_left fun p hp => ?_
 have := h p hp
 show PyData.tuple [_, .int (1 - (p.2 : Int))] = PyData.tuple [_, .int ((1 - p.2 : Nat) : Int)]
 rw [show (1 - (p.2 : Int)) = ((1 - p.2 : Nat) : Int) by omega]
theorem items_pl {μ : M} {pl : List (Str × Nat)} : items μ (.D (.tuple (pl.map plD))) = some (pl.map fun p => .D (plD p)) := by
 show some ((pl.map plD).map AV.D) = _
 rw [List.map_map]; rfl
theorem dats_tp (pl : List (Str × Nat)) : dats (pl.map fun p => .D (tpD p)) = some (pl.map tpD) := by
 rw [show (pl.map fun p => AV.D (tpD p)) = (pl.map tpD).map .D by rw [List.map_map]; rfl]; exact dats_map _
abbrev nTu : List Str := ["game"]
theorem scTu : FnScope nTu ["game"] (defScope sTu) := ⟨rfl, rfl, rfl, by decide +kernel, rfl, by decide +kernel, by decide +kernel⟩
theorem ndTu1 : (["name", "hand"] : List Str).Nodup := by decide +kernel
def spTu (C : Addr) : ASpX := fun xs μ R EX => ∃ (g : Gz), xs = [.D (gzD g)] /\ GzOk g /\ (fits g.trn = true -> R (.D (gzD g.trn)) μ) /\ (fits g.trn = false -> EX C [] μ)
theorem ok_tu {n : Nat} {c5 : Addr} (F : Fun K "turned" "turned" sTu f fd) (cFt : VCalX P w K mg base (n + 1) "fitting" ["places", "letters", "rules"] (spFt c5)) (m_tuple : mg "tuple" = none) : FnOk P w K mg base (CX1 P w) (n + 1 + 1) f fd ["game"] (cSpX K 1 (spTu c5)) := by
 refine F.vokX scTu fun cdv A outer s H E EX hr hX => ⟨_, (vss_one (vs_ret (ve_callX cFt hr hX rfl (va_cons (ve_callTy c_tuple rfl m_tuple PyProof.Rows.boot_tuple (va_cons (ve_comp (N' := ["name", "hand"]) (mp := [none, none]) rfl (vi_seq (ve_ix i_ix (vv 0) ve_int)) (fun _ _ _ _ => (vg_tup (n := 2) rfl (vgs_cons (vg_name (i := 0) ndTu1 rfl (Or.inl rfl) (Or.inr rfl)) (vgs_cons (vg_name (i := 1) ndTu1 rfl (Or.inl rfl) (Or.inr rfl)) vgs_nil)))) (fun _ _ _ _ => vifs_nil) (fun _ _ _ _ => (ve_tup (va_cons (vv 0) (va_cons (ve_op o_sub ve_int (vv 1)) va_nil)))) (compOk_of (N := nTu) (pn := (defScope sTu).names) (by decide +kernel))) va_nil)) (va_cons (ve_ix i_ix (vv 0) ve_int) (va_cons (ve_ix i_ix (vv 0) ve_int) va_nil)))))), ?_⟩
 rintro xs μ R _ ⟨g, rfl, hG, q1, q2⟩
 have hp1 := hG.p1
 refine opt_i (atI_nat (j := 0) rfl) (opt_i items_pl fun pc hpc => ?_)
 refine cmap g.pl _ (fun p => .D (tpD p)) (fun τ => ∃ o1 o2, τ = [o1, o2]) ⟨none, none, rfl⟩ updM_same (seven (by omega)) (fun _ => items_pl) ?_ ?_
 ·rintro i p τ' acc W hi ⟨o1, o2, rfl⟩ hW
  exact ⟨rfl, hW _ ⟨_, _, rfl⟩⟩
 ·have S : ∀ {o1 o2 : MO}, Sub μ (updM (updM μ pc o1) pc o2) := (Sub.refl.new hpc).new hpc
  refine opt_i (items_R updM_same) (opt_i (dats_tp _) (opt_i (atI_nat (j := 1) rfl) (opt_i (atI_nat (j := 2) rfl) ⟨g.trn, ?_, hG.trn, fun hf => ⟨μ, S, q1 hf⟩, fun hf => ⟨μ, S, q2 hf⟩⟩)))
  rw [tp_pl hG.hd]; rfl
def Gz.ren (g : Gz) (zs ys : List Str) : Gz := ⟨zs.zip (g.pl.map (·.2)), ys, g.rs⟩
def rnOk (g : Gz) (zs ys : List Str) : Bool := decide (zs.length = g.pl.length) && (decide (ys.length = g.le.length) && fits (g.ren zs ys))
theorem GzOk.ren {g : Gz} (h : GzOk g) {zs ys : List Str} (hz : Nam zs) (hy : Nam ys) (ez : zs.length = g.pl.length) (ey : ys.length = g.le.length) : GzOk (g.ren zs ys) := by
 have hl : (zs.zip (g.pl.map (·.2))).length = g.pl.length := by rw [List.length_zip, List.length_map]; omega
 refine h.rs ?_ ?_ ?_ ?_ ?_ hy rfl fun p hp => ?_
 ·show 0 < (zs.zip _).length; rw [hl]; exact h.p0
 ·show (zs.zip _).length <= 3; rw [hl]; exact h.p1
 ·show 0 < ys.length; rw [ey]; exact h.l0
 ·show ys.length <= 3; rw [ey]; exact h.l1
 ·show Nam ((zs.zip (g.pl.map (·.2))).map (·.1))
  rw [List.map_fst_zip (by rw [List.length_map]; omega)]; exact hz
 ·obtain ⟨p', hp', e⟩ := List.mem_map.mp (List.of_mem_zip (show p ∈ zs.zip (g.pl.map (·.2)) from hp)).2
  rw [<- e]; exact h.hd p' hp'
abbrev nRn : List Str := ["game", "places", "letters", "hands"]
theorem scRn : FnScope nRn ["game", "places", "letters"] (defScope sRn) := ⟨rfl, rfl, rfl, by decide +kernel, rfl, by decide +kernel, by decide +kernel⟩
theorem ndRn1 : (["name", "hand"] : List Str).Nodup := by decide +kernel
def strsD (zs : List Str) : PyData := .tuple (zs.map .str)
def spRn (C : Addr) : ASpX := fun xs μ R EX => ∃ (g : Gz) (zs ys : List Str), xs = [.D (gzD g), .D (strsD zs), .D (strsD ys)] /\ GzOk g /\ Nam zs /\ Nam ys /\ (rnOk g zs ys = true -> R (.D (gzD (g.ren zs ys))) μ) /\ (rnOk g zs ys = false -> EX C [] μ)
theorem dats_hand (pl : List (Str × Nat)) : dats (pl.map fun p => .D (.int p.2)) = some ((pl.map (·.2)).map fun (n : Nat) => PyData.int n) := by
 rw [show (pl.map fun p => AV.D (.int p.2)) = ((pl.map (·.2)).map fun (n : Nat) => PyData.int n).map .D by rw [List.map_map, List.map_map]; rfl]; exact dats_map _
theorem ok_rn {n : Nat} {c5 : Addr} (F : Fun K "renamed" "renamed" sRn f fd) (cFt : VCalX P w K mg base (n + 1) "fitting" ["places", "letters", "rules"] (spFt c5)) (m_len : mg "len" = none) (m_tuple : mg "tuple" = none) (m_zip : mg "zip" = none) (xNoFit : XNo K mg "NoFit" c5) : FnOk P w K mg base (CX1 P w) (n + 1 + 1) f fd ["game", "places", "letters"] (cSpX K 3 (spRn c5)) := by
 refine F.vokX scRn fun cdv A outer s H E EX hr hX => ⟨_, (vss_cons (vs_if (VW.pt (vw_or (vt_cmp (o_ne hr) (ve_callB c_len rfl m_len PySem.boot_len (va_cons (vv 1) va_nil)) (ve_callB c_len rfl m_len PySem.boot_len (va_cons (ve_ix i_ix (vv 0) ve_int) va_nil)) (nomark _)) (vw_or1 (vt_cmp (o_ne hr) (ve_callB c_len rfl m_len PySem.boot_len (va_cons (vv 2) va_nil)) (ve_callB c_len rfl m_len PySem.boot_len (va_cons (ve_ix i_ix (vv 0) ve_int) va_nil)) (nomark _))))) (vss_one (vs_raise0 xNoFit rfl hX rfl)) vss_nil)
   (vss_cons (vs_setC (i := 3) (N' := ["name", "hand"]) (mp := [none, none]) rfl scRn.nd rfl rfl (vi_seq (ve_ix i_ix (vv 0) ve_int)) (fun _ _ _ _ => (vg_tup (n := 2) rfl (vgs_cons (vg_name (i := 0) ndRn1 rfl (Or.inl rfl) (Or.inr rfl)) (vgs_cons (vg_name (i := 1) ndRn1 rfl (Or.inl rfl) (Or.inr rfl)) vgs_nil)))) (fun _ _ _ _ => vifs_nil) (fun _ _ _ _ => (vv 1)) (compOk_of (N := nRn) (pn := (defScope sRn).names) (by decide +kernel)))
   (vss_one (vs_ret (ve_callX cFt hr hX rfl (va_cons (ve_tzipB rfl rfl m_tuple rfl m_zip (vv 1) (vv 3)) (va_cons (vv 2) (va_cons (ve_ix i_ix (vv 0) ve_int) va_nil)))))))), ?_⟩
 rintro xs μ R _ ⟨g, zs, ys, rfl, hG, hz, hy, q1, q2⟩
 have hp1 := hG.p1
 have hl1 := hG.l1
 refine seq_i (fun τ μ' => τ = [some (.D (gzD g)), some (.D (strsD zs)), some (.D (strsD ys)), none] /\ μ = μ' /\ zs.length = g.pl.length /\ ys.length = g.le.length) (fun Z hZ => ?_) ?_
 ·refine opt_i (atI_nat (j := 0) rfl) ⟨eqOk_int _, eqOk_int _, ?_⟩
  rw [eqv_int, List.length_map, List.length_map]
  refine br (fun c => brT rfl ⟨μ, Sub.refl, q2 ?_⟩) (fun c => opt_i (atI_nat (j := 1) rfl) ⟨eqOk_int _, eqOk_int _, ?_⟩)
  ·rw [Bool.not_eq_true'] at c
   have c := of_decide_eq_false c
   unfold rnOk; rw [decide_eq_false (by omega)]; rfl
  rw [Bool.not_eq_false'] at c
  have c := of_decide_eq_true c
  rw [eqv_int, List.length_map, List.length_map]
  refine br (fun c2 => ⟨μ, Sub.refl, q2 ?_⟩) (fun c2 => hZ _ _ ⟨rfl, rfl, by omega, ?_⟩)
  ·rw [Bool.not_eq_true'] at c2
   have c2 := of_decide_eq_false c2
   unfold rnOk; rw [decide_eq_false (show ¬ ys.length = g.le.length by omega), Bool.false_and, Bool.and_false]
  ·rw [Bool.not_eq_false'] at c2
   have c2 := of_decide_eq_true c2
   omega
 rintro τ _ ⟨rfl, rfl, ez, ey⟩
 have hok : rnOk g zs ys = fits (g.ren zs ys) := by unfold rnOk; rw [decide_eq_true ez, decide_eq_true ey]; rfl
 rw [hok] at q1 q2
 refine seq_i (fun τ μ' => ∃ ph, τ = [some (.D (gzD g)), some (.D (strsD zs)), some (.D (strsD ys)), some (.R ph)] /\ Sub μ μ' /\ μ' ph = some (.lst (g.pl.map fun p => .D (.int p.2)))) (fun Z hZ => ?_) ?_
 ·refine opt_i (atI_nat (j := 0) rfl) (opt_i items_pl fun pc hpc => ?_)
  refine cmap g.pl _ (fun p => .D (.int p.2)) (fun τ => ∃ o1 o2, τ = [o1, o2]) ⟨none, none, rfl⟩ updM_same (seven (by omega)) (fun _ => items_pl) ?_ ?_
  ·rintro i p τ' acc W hi ⟨o1, o2, rfl⟩ hW
   exact ⟨rfl, hW _ ⟨_, _, rfl⟩⟩
  ·exact hZ _ _ ⟨pc, rfl, (Sub.refl.new hpc).new hpc, updM_same⟩
 rintro τ μ1 ⟨ph, rfl, S1, e1⟩
 refine opt_i items_str (opt_i (items_R e1) (opt_i (dats_str zs) (opt_i (dats_hand _) ⟨⟨by simp only [List.length_map]; exact ez, by rw [List.length_map]; omega⟩, opt_i (atI_nat (j := 2) rfl) ⟨g.ren zs ys, ?_, hG.ren hz hy ez ey, fun hf => ⟨μ, S1, q1 hf⟩, fun hf => ⟨μ, S1, q2 hf⟩⟩⟩)))
 rw [zip_pl]; rfl
end
section
variable {P : Program} {w : World} {K : PySem.W.Frag} {mg : Str -> Option Value} {base : Heap} {f : Addr} {fd : FuncData}
abbrev nFi : List Str := ["_law_game_here", "_law_places", "_law_letters", "_law_rules_here", "_law_at", "_law_p", "_law_x", "_law_q", "_law_word", "_law_there"]
theorem scFi : FnScope nFi ["_law_game_here"] (defScope sFi) := ⟨rfl, rfl, rfl, by decide +kernel, rfl, by decide +kernel, by decide +kernel⟩
theorem ndFi1 : (["_law_name", "_law_hand"] : List Str).Nodup := by decide +kernel
theorem ndFi2 : (["_law_letter", "_law_letters"] : List Str).Nodup := by decide +kernel
theorem ndFi3 : (["_law_rule_here", "_law_p", "_law_x"] : List Str).Nodup := by decide +kernel
theorem ndFi4 : (["_law_rule_here"] : List Str).Nodup := by decide +kernel
def spFi : ASp := fun xs μ R => ∃ (g : Gz), xs = [.D (gzD g)] /\ GzOk g /\ R (.D (.bool (fits g))) μ
theorem en_rz {rs : List Rz} {i : Nat} {x : AV} (h : (enumA 0 (rs.map rzD))[i]? = some x) : ∃ r, rs[i]? = some r /\ x = .D (.tuple [.int i, rzD r]) := by
 obtain ⟨d, hd, rfl⟩ := enumA_get h
 rw [List.getElem?_map] at hd
 obtain ⟨p, hp, rfl⟩ := Option.map_eq_some_iff.mp hd
 exact ⟨p, hp, by rw [Nat.zero_add]⟩
theorem len_same {us zs : List Str} (h1 : us.Nodup) (h2 : zs.Nodup) (h : ∀ z, z ∈ us ↔ z ∈ zs) : us.length = zs.length :=
 Nat.le_antisymm (sub_len h1 fun z hz => (h z).mp hz) (sub_len h2 fun z hz => (h z).mpr hz)
theorem nodup_of : ∀ {xs ys : List Str}, xs.Nodup -> (∀ x ∈ xs, x ∈ ys) -> ys.length <= xs.length -> ys.Nodup
 | _, [], _, _, _ => List.nodup_nil
 | xs, a :: t, hn, hs, hl => by
  by_cases ha : a ∈ t
  ·have : xs.length <= t.length := sub_len hn fun x hx => by
    rcases List.mem_cons.mp (hs x hx) with rfl | h
    ·exact ha
    ·exact h
   rw [List.length_cons] at hl; omega
  ·refine List.nodup_cons.mpr ⟨ha, nodup_of (xs := xs.erase a) (hn.erase a) (fun x hx => ?_) ?_⟩
   ·have h1 := (List.Nodup.mem_erase_iff hn).mp hx
    rcases List.mem_cons.mp (hs x h1.2) with h | h
    ·exact absurd h h1.1
    ·exact h
   ·rw [List.length_erase]
    rw [List.length_cons] at hl
    split <;> omega
theorem set_len {us zs : List Str} (h1 : us.Nodup) (h : ∀ z, z ∈ us ↔ z ∈ zs) : us.length < zs.length ↔ ¬ zs.Nodup := by
 constructor
 ·intro c hn
  have := len_same h1 hn h
  omega
 ·intro hn
  rcases Nat.lt_or_ge us.length zs.length with c | c
  ·exact c
  ·exact absurd (nodup_of h1 (fun x hx => (h x).mp hx) c) hn
theorem unp4 {a b c d : PyData} {i j k l : Nat} {τ : ASt} {μ : M} {R : ASt -> M -> Prop} (h : R ((((τ.set i (some (.D a))).set j (some (.D b))).set k (some (.D c))).set l (some (.D d))) μ) : wCons (wName i) (wCons (wName j) (wCons (wName k) (wCons (wName l) wNil))) (List.map AV.D [a, b, c, d]) τ μ fun τ' μ' => wNil (List.map AV.D []) τ' μ' R := h
theorem ok_fi {n : Nat} (F : Fun K "_law_fits" "_law_fits" sFi f fd) (m_len : mg "len" = none) (m_set : mg "set" = none) (m_enumerate : mg "enumerate" = none) (m_all : mg "all" = none) : FnOk P w K mg base CX0 (n + 1) f fd ["_law_game_here"] (cSp K 1 spFi) := by
 refine F.vok scFi fun cdv A outer s H E hr => ⟨_, (vss_cons (vs_asg (vv 0) (vg_tup (n := 3) rfl (vgs_cons (vg_name (i := 1) scFi.nd rfl (Or.inl rfl)) (vgs_cons (vg_name (i := 2) scFi.nd rfl (Or.inr rfl)) (vgs_cons (vg_name (i := 3) scFi.nd rfl (Or.inl rfl)) vgs_nil)))))
   (vss_cons (vs_if (VW.pt (vw_or (vt_not (vt_chain o_le o_le ve_int (ve_callB c_len rfl m_len PySem.boot_len (va_cons (vv 1) va_nil)) ve_int)) (vw_or (vt_not (vt_chain o_le o_le ve_int (ve_callB c_len rfl m_len PySem.boot_len (va_cons (vv 2) va_nil)) ve_int)) (vw_or1 (vt_cmp o_gt (ve_callB c_len rfl m_len PySem.boot_len (va_cons (vv 3) va_nil)) ve_int (nomark _)))))) (vss_one (vs_ret ve_bl)) vss_nil)
   (vss_cons (vs_if (VW.pt (vw_or (vt_cmp o_lt (ve_lenset hr rfl m_len rfl m_set (ve_comp (N' := ["_law_name", "_law_hand"]) (mp := [none, none]) rfl (vi_seq (vv 1)) (fun _ _ _ _ => (vg_tup (n := 2) rfl (vgs_cons (vg_name (i := 0) ndFi1 rfl (Or.inl rfl) (Or.inr rfl)) (vgs_cons (vg_name (i := 1) ndFi1 rfl (Or.inl rfl) (Or.inr rfl)) vgs_nil)))) (fun _ _ _ _ => vifs_nil) (fun _ _ _ _ => (vv 0)) (compOk_of (N := nFi) (pn := (defScope sFi).names) (by decide +kernel)))) (ve_callB c_len rfl m_len PySem.boot_len (va_cons (vv 1) va_nil)) (nomark _)) (vw_or1 (vt_cmp o_lt (ve_lenset hr rfl m_len rfl m_set (vv 2)) (ve_callB c_len rfl m_len PySem.boot_len (va_cons (vv 2) va_nil)) (nomark _))))) (vss_one (vs_ret ve_bl)) vss_nil)
   (vss_cons (vs_for PassesOwn.never rfl (vi_enum rfl m_enumerate (vv 3)) (vg_tup (n := 2) rfl (vgs_cons (vg_name (i := 4) scFi.nd rfl (Or.inl rfl)) (vgs_cons (vg_tup (n := 4) rfl (vgs_cons (vg_name (i := 5) scFi.nd rfl (Or.inr rfl)) (vgs_cons (vg_name (i := 6) scFi.nd rfl (Or.inr rfl)) (vgs_cons (vg_name (i := 7) scFi.nd rfl (Or.inl rfl)) (vgs_cons (vg_name (i := 8) scFi.nd rfl (Or.inl rfl)) vgs_nil))))) vgs_nil))) (vss_cons (vs_if (VW.pt (vw_or (vt_not (vt_chain o_le o_lt ve_int (vv 5) (ve_callB c_len rfl m_len PySem.boot_len (va_cons (vv 1) va_nil)))) (vw_or1 (vt_not (vt_chain o_le o_lt ve_int (vv 7) (ve_callB c_len rfl m_len PySem.boot_len (va_cons (vv 1) va_nil))))))) (vss_one (vs_ret ve_bl)) vss_nil)
   (vss_cons (vs_if (VW.pt (vw_or (vt_not (vt_val (ve_callB (c_all rfl) rfl m_all PyProof.Rows.boot_all (va_cons (ve_comp (N' := ["_law_letter", "_law_letters"]) (mp := [none, some 2]) rfl (vi_seq (ve_op o_add (ve_tup (va_cons (vv 6) va_nil)) (vv 8))) (fun _ _ _ _ => (vg_name (i := 0) ndFi2 rfl (Or.inl rfl) (Or.inr rfl))) (fun _ _ _ _ => vifs_nil) (fun _ _ _ _ => (ve_chain o_le o_lt ve_int (vv 0) (ve_callB c_len rfl m_len PySem.boot_len (va_cons (vv 1) va_nil)))) (compOk_of (N := nFi) (pn := (defScope sFi).names) (by decide +kernel))) va_nil)))) (vw_or1 (vt_cmp (o_in hr) (ve_ix i_ix (vv 3) (vv 4)) (ve_slice (vv 3) vo_none (vo_some (vv 4))) (by with_unfolding_all rfl))))) (vss_one (vs_ret ve_bl)) vss_nil)
   (vss_cons (vs_setC (i := 9) (N' := ["_law_rule_here", "_law_p", "_law_x"]) (mp := [none, some 5, some 6]) rfl scFi.nd rfl rfl (vi_seq (ve_slice (vv 3) vo_none (vo_some (vv 4)))) (fun _ _ _ _ => (vg_name (i := 0) ndFi3 rfl (Or.inl rfl) (Or.inr rfl))) (fun _ _ _ _ => (vifs_one (vt_cmp (o_eq hr) (ve_slice (vv 0) vo_none (vo_some ve_int)) (ve_tup (va_cons (vv 1) (va_cons (vv 2) va_nil))) (nomark _)))) (fun _ _ _ _ => (vv 0)) (compOk_of (N := nFi) (pn := (defScope sFi).names) (by decide +kernel)))
   (vss_one (vs_if (VW.pt (vw_and (vt_cmp (o_eq hr) (ve_ix i_ix (ve_ix i_ix (vv 1) (vv 5)) ve_int) ve_int (nomark _)) (vw_and1 (vt_cmp o_gt (ve_callB c_len rfl m_len PySem.boot_len (va_cons (vv 9) va_nil)) ve_int (nomark _))))) (vss_one (vs_ret ve_bl)) vss_nil))))))
   (vss_one (vs_ret (ve_cmp o_lt (ve_callB c_len rfl m_len PySem.boot_len (va_cons (ve_comp (N' := ["_law_rule_here"]) (mp := [none]) rfl (vi_seq (vv 3)) (fun _ _ _ _ => (vg_name (i := 0) ndFi4 rfl (Or.inl rfl) (Or.inr rfl))) (fun _ _ _ _ => (vifs_one (vt_cmp (o_eq hr) (ve_callB c_len rfl m_len PySem.boot_len (va_cons (ve_ix i_ix (vv 0) ve_int) va_nil)) ve_int (nomark _)))) (fun _ _ _ _ => (vv 0)) (compOk_of (N := nFi) (pn := (defScope sFi).names) (by decide +kernel))) va_nil)) ve_int (nomark _)))))))), ?_⟩
 rintro xs μ R _ ⟨g, rfl, hG, q⟩
 have hp0 := hG.p0
 have hp1 := hG.p1
 have hl0 := hG.l0
 have hl1 := hG.l1
 have hrn := hG.rn
 have no : fits g = false -> ∀ μ', Sub μ μ' -> aRt R (.D (.bool false)) μ' := fun e μ' S => ⟨μ, S, by rw [e] at q; exact q⟩
 refine seq_i (fun τ μ' => τ = [some (.D (gzD g)), some (.D (.tuple (g.pl.map plD))), some (.D (.tuple (g.le.map .str))), some (.D (.tuple (g.rs.map rzD))), none, none, none, none, none, none] /\ μ = μ') (fun Z hZ => ⟨rfl, hZ _ _ ⟨rfl, rfl⟩⟩) ?_
 rintro τ _ ⟨rfl, rfl⟩
 refine seq_i (fun τ μ' => τ = [some (.D (gzD g)), some (.D (.tuple (g.pl.map plD))), some (.D (.tuple (g.le.map .str))), some (.D (.tuple (g.rs.map rzD))), none, none, none, none, none, none] /\ μ = μ' /\ g.rs.length <= 8) (fun Z hZ => ?_) ?_
 ·refine dif (fun _ => br (fun c => ?_) (fun _ => ?_)) (fun c => ?_)
  ·rw [Bool.not_eq_true'] at c
   exact absurd (show ((g.pl.map plD).length : Int) <= 3 by rw [List.length_map]; omega) (of_decide_eq_false c)
  ·refine dif (fun _ => br (fun c => ?_) (fun _ => ?_)) (fun c => ?_)
   ·rw [Bool.not_eq_true'] at c
    exact absurd (show ((g.le.map PyData.str).length : Int) <= 3 by rw [List.length_map]; omega) (of_decide_eq_false c)
   ·refine dif (fun c => no ?_ _ Sub.refl) (fun c => hZ _ _ ⟨rfl, rfl, by rw [List.length_map] at c; omega⟩)
    rw [Bool.eq_false_iff]
    intro z
    have := (fits_iff.mp z).2.2.1
    rw [List.length_map] at c
    omega
   ·exact absurd (show (1 : Int) <= ((g.le.map PyData.str).length : Int) by rw [List.length_map]; omega) c
  ·exact absurd (show (1 : Int) <= ((g.pl.map plD).length : Int) by rw [List.length_map]; omega) c
 rintro τ _ ⟨rfl, rfl, h8⟩
 refine seq_i (fun τ μ' => τ = [some (.D (gzD g)), some (.D (.tuple (g.pl.map plD))), some (.D (.tuple (g.le.map .str))), some (.D (.tuple (g.rs.map rzD))), none, none, none, none, none, none] /\ Sub μ μ' /\ (g.pl.map (·.1)).Nodup /\ g.le.Nodup) (fun Z hZ => ?_) ?_
 ·refine opt_i (x := g.pl.map fun p => .D (plD p)) (by show some ((g.pl.map plD).map AV.D) = _; rw [List.map_map]; rfl) fun pc hpc => ?_
  refine cmap g.pl _ (fun p => strA p.1) (fun τ => ∃ o1 o2, τ = [o1, o2]) ⟨none, none, rfl⟩ updM_same (seven (by omega)) (fun _ => by show some ((g.pl.map plD).map AV.D) = _; rw [List.map_map]; rfl) ?_ ?_
  ·rintro i p τ' acc W hi ⟨o1, o2, rfl⟩ hW
   exact ⟨rfl, hW _ ⟨_, _, rfl⟩⟩
  ·have et : txts (g.pl.map fun p => strA p.1) = some (g.pl.map (·.1)) := by
    rw [show (g.pl.map fun p => strA p.1) = (g.pl.map (·.1)).map strA by rw [List.map_map]; rfl]; exact txts_str _
   refine opt_i (items_R updM_same) (opt_i et ⟨by rw [List.length_map]; omega, fun us h1 h2 => ?_⟩)
   have e1 := set_len h1 h2
   rw [List.length_map] at e1
   refine dif (fun c => brT rfl (no ?_ _ ((Sub.refl.new hpc).new hpc))) (fun c1 => ?_)
   ·rw [List.length_map] at c
    exact Bool.eq_false_iff.mpr fun z => e1.mp (by omega) (fits_iff.mp z).1
   have hd1 : (g.pl.map (·.1)).Nodup := Classical.byContradiction fun z => c1 (by have := e1.mpr z; rw [List.length_map]; omega)
   refine opt_i items_str (opt_i (txts_str _) ⟨by omega, fun us h1 h2 => ?_⟩)
   have e1 := set_len h1 h2
   refine dif (fun c => no ?_ _ ((Sub.refl.new hpc).new hpc)) (fun c2 => hZ _ _ ⟨rfl, (Sub.refl.new hpc).new hpc, hd1, Classical.byContradiction fun z => c2 (by have := e1.mpr z; rw [List.length_map]; omega)⟩)
   rw [List.length_map] at c
   exact Bool.eq_false_iff.mpr fun z => e1.mp (by omega) (fits_iff.mp z).2.1
 rintro τ μ1 ⟨rfl, S1, hd1, hd2⟩
 refine seq_i (fun τ μ' => ∃ o4 o5 o6 o7 o8 o9, τ = [some (.D (gzD g)), some (.D (.tuple (g.pl.map plD))), some (.D (.tuple (g.le.map .str))), some (.D (.tuple (g.rs.map rzD))), o4, o5, o6, o7, o8, o9] /\ Sub μ μ' /\ OkRs g.H g.le.length g.rs) (fun Z hZ => ?_) ?_
 ·refine opt_i items_rz (opt_i (dats_rz g.rs) ?_)
  refine for_i (fun i τ μ' => ∃ o4 o5 o6 o7 o8 o9, τ = [some (.D (gzD g)), some (.D (.tuple (g.pl.map plD))), some (.D (.tuple (g.le.map .str))), some (.D (.tuple (g.rs.map rzD))), o4, o5, o6, o7, o8, o9] /\ Sub μ μ' /\ ∀ j r, j < i -> g.rs[j]? = some r -> okAt g.H g.le.length (g.rs.take j) r = true) ⟨none, none, none, none, none, none, rfl, S1, fun j _ hj => absurd hj (by omega)⟩ (fun _ _ _ _ => items_rz) ?_ ?_
  ·rintro i y τ μ2 W hy ⟨o4, o5, o6, o7, o8, o9, rfl, S2, hok⟩ hW
   obtain ⟨r, hr', rfl⟩ := en_rz hy
   have hi20 : i < 20 := by have := (List.getElem?_eq_some_iff.mp hr').1; omega
   have hrw := hG.rw r (List.mem_of_getElem? hr')
   have bad : okAt g.H g.le.length (g.rs.take i) r = false -> ∀ μ', Sub μ μ' -> aRt R (.D (.bool false)) μ' := fun e => no (fits_bad hr' fun z => by have := z.1; rw [e] at this; cases this)
   refine ⟨rfl, rfl, ?_⟩
   refine unp4 ?_
   dsimp only [List.set]
   refine seq_i (fun τ μ' => τ = [some (.D (gzD g)), some (.D (.tuple (g.pl.map plD))), some (.D (.tuple (g.le.map .str))), some (.D (.tuple (g.rs.map rzD))), some (.D (.int i)), some (.D (.int r.p)), some (.D (.int r.x)), some (.D (.int r.q)), some (.D (.tuple (r.w.map .int))), o9] /\ μ2 = μ' /\ thr r.p g.pl.length = true /\ thr r.q g.pl.length = true) (fun Z2 hZ2 => ?_) ?_
   ·have hlp : ((g.pl.map plD).length : Int) = g.pl.length := by rw [List.length_map]
    have bp : thr r.p g.pl.length = false -> aRt R (.D (.bool false)) μ2 := fun e => bad (by unfold okAt parts; rw [List.length_map, e]; rfl) _ S2
    have bq : thr r.q g.pl.length = false -> aRt R (.D (.bool false)) μ2 := fun e => bad (by unfold okAt parts; rw [List.length_map, e, Bool.and_false]; rfl) _ S2
    refine dif (fun c1 => br (fun c2 => brT rfl (bp ?_)) (fun c2 => ?_)) (fun c1 => brT rfl (brT rfl (bp ?_)))
    ·rw [Bool.not_eq_true', hlp] at c2
     exact decide_eq_false fun z => of_decide_eq_false c2 z.2
    ·rw [Bool.not_eq_false', hlp] at c2
     have c2 := of_decide_eq_true c2
     refine dif (fun c3 => br (fun c4 => bq ?_) (fun c4 => hZ2 _ _ ⟨rfl, rfl, decide_eq_true ⟨c1, c2⟩, decide_eq_true ⟨c3, ?_⟩⟩)) (fun c3 => brT rfl (bq (decide_eq_false fun z => c3 z.1)))
     ·rw [Bool.not_eq_true', hlp] at c4
      exact decide_eq_false fun z => of_decide_eq_false c4 z.2
     ·rw [Bool.not_eq_false', hlp] at c4
      exact of_decide_eq_true c4
    ·exact decide_eq_false fun z => c1 z.1
   rintro τ _ ⟨rfl, rfl, hp, hq⟩
   have hll : ((g.le.map PyData.str).length : Int) = g.le.length := by rw [List.length_map]
   have hpq : parts g.pl.length g.le.length r = (r.x :: r.w).all fun z => thr z g.le.length := by unfold parts; rw [hp, hq]; rfl
   refine seq_i (fun τ μ' => τ = [some (.D (gzD g)), some (.D (.tuple (g.pl.map plD))), some (.D (.tuple (g.le.map .str))), some (.D (.tuple (g.rs.map rzD))), some (.D (.int i)), some (.D (.int r.p)), some (.D (.int r.x)), some (.D (.int r.q)), some (.D (.tuple (r.w.map .int))), o9] /\ Sub μ μ' /\ parts g.pl.length g.le.length r = true /\ r ∉ g.rs.take i) (fun Z2 hZ2 => ?_) ?_
   ·refine ⟨?_, opt_i (items_int (as := r.x :: r.w)) fun pc hpc => ?_⟩
    ·rw [List.length_map]; exact Nat.le_trans (show _ <= 30 by simp only [List.length_cons, List.length_nil]; omega) (by decide)
    have S3 : Sub μ (updM (updM μ2 pc (.lst [])) pc (.lst ((r.x :: r.w).map fun z => .D (.bool (thr z g.le.length))))) := (S2.new (S2.none hpc)).new (S2.none hpc)
    refine cmap (r.x :: r.w) _ (fun z => .D (.bool (thr z g.le.length))) (fun τ => ∃ o, τ = [o, some (.D (.tuple (g.le.map .str)))]) ⟨none, rfl⟩ updM_same (seven (by simp only [List.length_cons]; omega)) (fun _ => items_int (as := r.x :: r.w)) ?_ ?_
    ·rintro j z τ' acc W2 hj ⟨o, rfl⟩ hW2
     have hw := hW2 [some (.D (.int z)), some (.D (.tuple (g.le.map .str)))] ⟨_, rfl⟩
     unfold thr at hw
     refine dif (fun c => ?_) (fun c => ?_)
     ·have e : decide (0 <= z /\ z < (g.le.length : Int)) = decide (z < ((g.le.map PyData.str).length : Int)) := by rw [hll]; simp [c]
      rw [e] at hw; exact hw
     ·have e : decide (0 <= z /\ z < (g.le.length : Int)) = false := by simp [c]
      rw [e] at hw; exact hw
    ·refine opt_i updM_same (opt_i (bools_of (fun z => thr z g.le.length) (r.x :: r.w)) (br (fun c => brT rfl (bad ?_ _ S3)) (fun c => ?_)))
     ·rw [Bool.not_eq_true', List.all_map] at c
      unfold okAt; rw [List.length_map, hpq]
      rw [show ((r.x :: r.w).all fun z => thr z g.le.length) = false from c]; rfl
     ·rw [Bool.not_eq_false', List.all_map] at c
      refine opt_i (atI_nat (v := rzD r) (by rw [List.getElem?_map, hr']; rfl)) (opt_i rfl ?_)
      rw [cutD_take]
      refine ⟨rz_eqOk r, rzs_eqOk _, ?_⟩
      rw [rz_any]
      refine dif (fun c2 => bad ?_ _ S3) (fun c2 => hZ2 _ _ ⟨rfl, S3, hpq.trans c, c2⟩)
      unfold okAt; rw [decide_eq_true c2]; simp
   rintro τ μ3 ⟨rfl, S3, hpa, hni⟩
   obtain ⟨hp0', hp1'⟩ := of_decide_eq_true hp
   have hok1 : okAt g.H g.le.length (g.rs.take i) r = !(decide (g.H.getD r.p.toNat 0 = 1) && decide (1 < sameZ (g.rs.take i) r)) := by
    unfold okAt; rw [List.length_map, hpa, decide_eq_false hni]; simp
   have go : okAt g.H g.le.length (g.rs.take i) r = true -> ∀ j v, j < i + 1 -> g.rs[j]? = some v -> okAt g.H g.le.length (g.rs.take j) v = true := fun h j v hj hv => by
    rcases (show j < i \/ j = i by omega) with h' | rfl
    ·exact hok j v h' hv
    ·rw [hr'] at hv; cases hv; exact h
   refine seq_i (fun τ μ' => ∃ pt, τ = [some (.D (gzD g)), some (.D (.tuple (g.pl.map plD))), some (.D (.tuple (g.le.map .str))), some (.D (.tuple (g.rs.map rzD))), some (.D (.int i)), some (.D (.int r.p)), some (.D (.int r.x)), some (.D (.int r.q)), some (.D (.tuple (r.w.map .int))), some (.R pt)] /\ Sub μ μ' /\ μ' pt = some (.lst (((g.rs.take i).filter (atZ r)).map rzA))) (fun Z2 hZ2 => ?_) ?_
   ·refine opt_i (x := (g.rs.take i).map rzA) (by rw [cutD_take]; exact items_rz) fun pc hpc => ?_
    refine cmapf (g.rs.take i) rzA (atZ r) rzA (fun τ => ∃ o, τ = [o, some (.D (.int r.p)), some (.D (.int r.x))]) ⟨none, rfl⟩ updM_same (seven (by rw [List.length_take]; omega)) (fun _ => by rw [cutD_take]; exact items_rz) ?_ ?_
    ·rintro j v τ' acc W W2 hj ⟨o, rfl⟩ h1 h2
     have e : PyData.eqv (.tuple [.int v.p, .int v.x]) (.tuple [.int r.p, .int r.x]) = atZ r v := by
      show (decide (v.p = r.p) && (decide (v.x = r.x) && true)) = _
      rw [Bool.and_true, <- Bool.decide_and]; rfl
     exact ⟨two_ok v.p v.x, two_ok r.p r.x, br (fun c => h1 (e.symm.trans c) _ ⟨_, rfl⟩) (fun c => h2 (e.symm.trans c) _ ⟨_, rfl⟩)⟩
    ·exact hZ2 _ _ ⟨pc, rfl, (S3.new (S3.none hpc)).new (S3.none hpc), updM_same⟩
   rintro τ μ4 ⟨pt, rfl, S4, e4⟩
   have hgt : (g.pl.map plD)[r.p.toNat]? = some (plD (g.pl[r.p.toNat]'(by omega))) := by rw [List.getElem?_map, List.getElem?_eq_getElem (by omega)]; rfl
   have hH : g.H.getD r.p.toNat 0 = (g.pl[r.p.toNat]'(by omega)).2 := by
    rw [List.getD_eq_getElem?_getD, List.getElem?_map, List.getElem?_eq_getElem (by omega)]; rfl
   generalize g.pl[r.p.toNat]'(by omega) = pp at hgt hH
   have hat : atI (g.pl.map plD) r.p = some (plD pp) := by
    have := atI_nat hgt
    rw [Int.toNat_of_nonneg hp0'] at this; exact this
   refine opt_i hat (opt_i (atI_nat (j := 1) rfl) (ieq (fun c1 => ?_) (fun c1 => brF rfl (hW _ _ ⟨_, _, _, _, _, _, rfl, S4, go ?_⟩))))
   ·refine opt_i e4 (dif (fun c2 => bad ?_ _ S4) (fun c2 => hW _ _ ⟨_, _, _, _, _, _, rfl, S4, go ?_⟩))
    all_goals rw [List.length_map] at c2
    ·rw [hok1, decide_eq_true (show g.H.getD r.p.toNat 0 = 1 by rw [hH]; omega), decide_eq_true (show 1 < sameZ (g.rs.take i) r by unfold sameZ; omega)]; rfl
    ·rw [hok1, decide_eq_false (show ¬ 1 < sameZ (g.rs.take i) r by unfold sameZ; omega)]; simp
   ·rw [hok1, decide_eq_false (show ¬ g.H.getD r.p.toNat 0 = 1 by rw [hH]; omega)]; rfl
  ·rintro τ μ2 ⟨o4, o5, o6, o7, o8, o9, rfl, S2, hok⟩
   rw [enumA_length, List.length_map] at hok
   exact hZ _ _ ⟨_, _, _, _, _, _, rfl, S2, fun i r h => hok i r (List.getElem?_eq_some_iff.mp h).1 h⟩
 rintro τ μ2 ⟨o4, o5, o6, o7, o8, o9, rfl, S2, hok⟩
 refine opt_i items_rz fun pc hpc => ?_
 refine cmapf g.rs rzA pushZ rzA (fun τ => ∃ o, τ = [o]) ⟨none, rfl⟩ updM_same (seven (by omega)) (fun _ => items_rz) ?_ ?_
 ·rintro j v τ' acc W W2 hj ⟨o, rfl⟩ h1 h2
  refine opt_i (atI_nat (j := 3) rfl) (ieq (fun c => h1 (decide_eq_true (by rw [List.length_map] at c; omega)) _ ⟨_, rfl⟩) (fun c => h2 (decide_eq_false fun z => c (by rw [List.length_map, z]; rfl)) _ ⟨_, rfl⟩))
 ·refine opt_i updM_same ⟨μ, (S2.new (S2.none hpc)).new (S2.none hpc), ?_⟩
  have e : fits g = decide ((((g.rs.filter pushZ).map rzA).length : Int) < 4) := by
   rw [Bool.eq_iff_iff, decide_eq_true_iff, List.length_map]
   refine fits_iff.trans ⟨fun h => ?_, fun h => ⟨hd1, hd2, h8, hok, ?_⟩⟩
   ·have := h.2.2.2.2; unfold pushesZ at this; omega
   ·unfold pushesZ; omega
  rw [e] at q; exact q
abbrev nRf : List Str := ["_law_e", "_law_others"]
theorem scRf : FnScope nRf ["_law_e"] (defScope sRf) := ⟨rfl, rfl, rfl, by decide +kernel, rfl, by decide +kernel, by decide +kernel⟩
def spRf (C : Addr) : ASp := fun xs μ R => ∃ (fs : List (Str × PyData)), xs = [.X C fs] /\ R (.D (.bool true)) μ
theorem ok_rf {n : Nat} {c0 c1 c2 c3 c4 c5 c6 c7 D : Addr} (F : Fun K "_law_refused" "_law_refused" sRf f fd) (m_isinstance : mg "isinstance" = none) (m_ValueError : mg "ValueError" = none)
  (mc0 : mg "NoText" = some (.ref c0)) (mc1 : mg "NoGame" = some (.ref c1)) (mc2 : mg "NoSaying" = some (.ref c2)) (mc3 : mg "TooMany" = some (.ref c3)) (mc4 : mg "NoPaper" = some (.ref c4)) (mc5 : mg "NoFit" = some (.ref c5)) (mc6 : mg "NoProgram" = some (.ref c6)) (mc7 : mg "NoRow" = some (.ref c7))
  (er : Err K c5 D [c1, c4, c6, c7, c2, c0, c3]) : FnOkW P w K mg base CX0 (n + 1) f fd ["_law_e"] (cSp K 1 (spRf c5)) := by
 refine F.vokW scRf fun cdv A outer s H E hr => ⟨_, (vss_cons (vs_set (i := 1) scRf.nd rfl (Or.inl rfl) (ve_kisiTs (K := K) rfl rfl m_isinstance (pa_gl rfl mc1 (pa_gl rfl mc4 (pa_gl rfl mc6 (pa_gl rfl mc7 (pa_gl rfl mc2 (pa_gl rfl mc0 (pa_gl rfl mc3 pa_gl0))))))) (vv 0) (hl := seven (n := 7) (by decide))))
   (vss_one (vs_ret (ve_and (ve_kisi (K := K) rfl rfl m_isinstance rfl mc5 (vv 0)) (ve_and (ve_kisiT (K := K) (T := "ValueError") rfl rfl m_isinstance rfl m_ValueError (by decide +kernel) (vv 0)) (ve_one (ve_not (vv 1)))))))), ?_⟩
 rintro xs μ R _ ⟨fs, rfl, q⟩
 refine seq_d (asg_v ⟨er.xi, opt_i er.no ?_⟩)
 exact ⟨er.xi, opt_i er.self (brT rfl ⟨er.xi, opt_i er.iV (brT rfl ⟨μ, Sub.refl, q⟩)⟩)⟩
def told (g : Gz) : PyData := if fits g then gzD g else .str "refused"
abbrev nTt : List Str := ["_law_game_here", "_law_found", "_law_e"]
theorem scTt : FnScope nTt ["_law_game_here"] (defScope sTt) := ⟨rfl, rfl, rfl, by decide +kernel, rfl, by decide +kernel, by decide +kernel⟩
def spTt : ASp := fun xs μ R => ∃ (g : Gz), xs = [.D (gzD g)] /\ GzOk g /\ R (.D (told g.trn)) μ
theorem ok_tt {n : Nat} {c5 D : Addr} {cs : List Addr} (F : Fun K "_law_told_turned" "_law_told_turned" sTt f fd) (cTu : VCalX P w K mg base n "turned" ["game"] (spTu c5)) (cRf : VCalW P w K mg base n "_law_refused" ["_law_e"] (spRf c5)) (mD : mg "DuelError" = some (.ref D)) (er : Err K c5 D cs) : FnOk P w K mg base CX0 (n + 1) f fd ["_law_game_here"] (cSp K 1 spTt) := by
 refine F.vok0 scTt fun cdv A outer s H E hr => ⟨_, (vss0_cons (VS.z (vs_set (i := 1) scTt.nd rfl (Or.inl rfl) ve_str))
   (vss0_cons (vs0_try (i := 2) (fun xe pn EX hX => (vss_one (vs_set (i := 1) scTt.nd rfl (Or.inl rfl) (ve_callX cTu hr hX rfl (va_cons (vv 0) va_nil))))) (fun e => (vss_one (vs_if (vt_val (ve_callW cRf (hr.mark _) rfl (va_cons (vv 2) va_nil))) (vss_one (vs_set (i := 1) scTt.nd rfl (Or.inl rfl) ve_str)) vss_nil))) rfl mD er.xD er.mD rfl rfl scTt.nd rfl rfl)
   (vss0_one (VS.z (vs_ret (vv 1)))))), ?_⟩
 rintro xs μ R _ ⟨g, rfl, hG, q⟩
 refine seq_d (asg_c (seq_d ?_))
 refine ⟨g, rfl, hG, fun hf => ⟨μ, Sub.refl, ?_⟩, fun hf => ⟨er.un, ?_⟩⟩
 ·unfold told at q; rw [if_pos hf] at q; exact q
 ·refine ⟨[], rfl, brT rfl ⟨μ, Sub.refl, ?_⟩⟩
  unfold told at q; rw [if_neg (by rw [hf]; decide)] at q; exact q
abbrev nTr : List Str := ["_law_game_here", "_law_places", "_law_letters", "_law_found", "_law_e"]
theorem scTr : FnScope nTr ["_law_game_here", "_law_places", "_law_letters"] (defScope sTr) := ⟨rfl, rfl, rfl, by decide +kernel, rfl, by decide +kernel, by decide +kernel⟩
def toldR (g : Gz) (zs ys : List Str) : PyData := if rnOk g zs ys then gzD (g.ren zs ys) else .str "refused"
def spTr : ASp := fun xs μ R => ∃ (g : Gz) (zs ys : List Str), xs = [.D (gzD g), .D (strsD zs), .D (strsD ys)] /\ GzOk g /\ Nam zs /\ Nam ys /\ R (.D (toldR g zs ys)) μ
theorem ok_tr {n : Nat} {c5 D : Addr} {cs : List Addr} (F : Fun K "_law_told_renamed" "_law_told_renamed" sTr f fd) (cRn : VCalX P w K mg base n "renamed" ["game", "places", "letters"] (spRn c5)) (cRf : VCalW P w K mg base n "_law_refused" ["_law_e"] (spRf c5)) (mD : mg "DuelError" = some (.ref D)) (er : Err K c5 D cs) : FnOk P w K mg base CX0 (n + 1) f fd ["_law_game_here", "_law_places", "_law_letters"] (cSp K 3 spTr) := by
 refine F.vok0 scTr fun cdv A outer s H E hr => ⟨_, (vss0_cons (VS.z (vs_set (i := 3) scTr.nd rfl (Or.inl rfl) ve_str))
   (vss0_cons (vs0_try (i := 4) (fun xe pn EX hX => (vss_one (vs_set (i := 3) scTr.nd rfl (Or.inl rfl) (ve_callX cRn hr hX rfl (va_cons (vv 0) (va_cons (vv 1) (va_cons (vv 2) va_nil))))))) (fun e => (vss_one (vs_if (vt_val (ve_callW cRf (hr.mark _) rfl (va_cons (vv 4) va_nil))) (vss_one (vs_set (i := 3) scTr.nd rfl (Or.inl rfl) ve_str)) vss_nil))) rfl mD er.xD er.mD rfl rfl scTr.nd rfl rfl)
   (vss0_one (VS.z (vs_ret (vv 3)))))), ?_⟩
 rintro xs μ R _ ⟨g, zs, ys, rfl, hG, hz, hy, q⟩
 refine seq_d (asg_c (seq_d ?_))
 refine ⟨g, zs, ys, rfl, hG, hz, hy, fun hf => ⟨μ, Sub.refl, ?_⟩, fun hf => ⟨er.un, ?_⟩⟩
 ·unfold toldR at q; rw [if_pos hf] at q; exact q
 ·refine ⟨[], rfl, brT rfl ⟨μ, Sub.refl, ?_⟩⟩
  unfold toldR at q; rw [if_neg (by rw [hf]; decide)] at q; exact q
end
section
variable {P : Program} {w : World} {K : PySem.W.Frag} {mg : Str -> Option Value} {base : Heap} {f : Addr} {fd : FuncData}
theorem okB_nm {z : Str} (h : lets z) (hl : z.length <= 7) : OkB 0 40 (.str z) := ⟨lets_ok h, Nat.le_refl _, Nat.le_trans hl (by decide), rfl, rfl⟩
theorem okB_pl {p : Str × Nat} (h : lets p.1) (hl : p.1.length <= 7) (h2 : p.2 < 2) : OkB 1 82 (plD p) :=
 (OkBs.cons' (okB_nm h hl) (OkBs.cons' (w3 := 41) (okB_int (i := p.2) (by omega) (by omega)) (OkBs.nil (wt := 0)) (by decide)) (by decide)).tup
theorem okB_rz {r : Rz} {np nl : Nat} (h : parts np nl r = true) (h1 : np <= 3) (h2 : nl <= 3) (hw : r.w.length <= 20) : OkB 2 944 (rzD r) := by
 unfold parts at h
 rw [Bool.and_eq_true, Bool.and_eq_true, List.all_eq_true] at h
 obtain ⟨⟨hp, hq⟩, ha⟩ := h
 have hp := of_decide_eq_true hp
 have hq := of_decide_eq_true hq
 have hx := of_decide_eq_true (ha r.x List.mem_cons_self)
 have hws : ∀ y ∈ r.w, -1000000000 <= y /\ y <= 1000000000 := fun y hy => by
  have := of_decide_eq_true (ha y (List.mem_cons_of_mem _ hy))
  omega
 have b0 : ∀ {i : Int}, 0 <= i -> i < 3 -> OkB 1 40 (.int i) := fun {i} h0 h1 => (okB_int (by omega) (by omega)).mono (by decide) (Nat.le_refl _)
 exact (OkBs.cons' (b0 hp.1 (by omega)) (OkBs.cons' (w3 := 903) (b0 hx.1 (by omega)) (OkBs.cons' (w3 := 862) (b0 hq.1 (by omega)) (OkBs.cons' (w3 := 821) ((okB_ints hws hw).tup) (OkBs.nil (wt := 0)) (by decide)) (by decide)) (by decide)) (by decide)).tup
theorem okB_gz {g : Gz} (hG : GzOk g) (hf : fits g = true) : OkB 4 19400 (gzD g) := by
 obtain ⟨_, _, h8, hok, _⟩ := fits_iff.mp hf
 have hp : OkBs 1 (3 * 83) (g.pl.map plD) := OkBs.all (fun d hd => by
  obtain ⟨p, hp, rfl⟩ := List.mem_map.mp hd
  have hm : p.1 ∈ g.pl.map (·.1) := List.mem_map.mpr ⟨p, hp, rfl⟩
  exact okB_pl (hG.pn.l _ hm) (hG.pn.n _ hm) (hG.hd p hp)) (by rw [List.length_map]; exact hG.p1)
 have hl : OkBs 0 (3 * 41) (g.le.map PyData.str) := OkBs.all (fun d hd => by
  obtain ⟨z, hz, rfl⟩ := List.mem_map.mp hd
  exact okB_nm (hG.ln.l _ hz) (hG.ln.n _ hz)) (by rw [List.length_map]; exact hG.l1)
 have hr : OkBs 2 (20 * 945) (g.rs.map rzD) := OkBs.all (fun d hd => by
  obtain ⟨r, hr, rfl⟩ := List.mem_map.mp hd
  obtain ⟨i, hi, e⟩ := List.getElem_of_mem hr
  have := hok i r (by rw [List.getElem?_eq_getElem hi, e])
  unfold okAt at this
  rw [Bool.and_eq_true, Bool.and_eq_true, List.length_map] at this
  exact okB_rz this.1.1 hG.p1 hG.l1 (hG.rw r hr)) (by rw [List.length_map]; exact hG.rn)
 exact (OkBs.cons' (hp.tup.mono (d' := 3) (w' := 249) (by decide) (by decide)) (OkBs.cons' (w3 := 19025) (hl.tup.mono (d' := 3) (w' := 123) (by decide) (by decide)) (OkBs.cons' (w3 := 18901) hr.tup (OkBs.nil (wt := 0)) (by decide)) (by decide)) (by decide)).tup
theorem okD_gz {g : Gz} (hG : GzOk g) (hf : fits g = true) : OkD (gzD g) := (okB_gz hG hf).ok (by decide) (by decide)
theorem okD_two {g g' : Gz} (hG : GzOk g) (hf : fits g = true) (hG' : GzOk g') (hf' : fits g' = true) : OkD (.list [gzD g, gzD g']) :=
 ((OkBs.cons' (w3 := 38802) (okB_gz hG hf) (OkBs.cons' (w3 := 19401) (okB_gz hG' hf') (OkBs.nil (wt := 0)) (by decide)) (by decide)).lst).ok (by decide) (by decide)
theorem see_R {μ : M} {p : Addr} {xs : List AV} {ds : List PyData} (h : μ p = some (.lst xs)) (hd : dats xs = some ds) : see μ (.R p) = some (.list ds) := by
 simp only [see, h, hd]
theorem ref_ok : EqOk (.str "refused") := eqOk_str (by decide +kernel)
theorem ref_eq : PyData.eqv (.str "refused") (.str "refused") = true := by decide +kernel
abbrev nYt : List Str := ["_law_game_here", "_law_due"]
theorem scYt : FnScope nYt ["_law_game_here"] (defScope sYt) := ⟨rfl, rfl, rfl, by decide +kernel, rfl, by decide +kernel, by decide +kernel⟩
theorem ndYt1 : (["_law_name", "_law_hand"] : List Str).Nodup := by decide +kernel
def spYt : ASp := fun xs μ R => ∃ (g : Gz), xs = [.D (gzD g)] /\ GzOk g /\ fits g = true /\ R (.D (.bool true)) μ
theorem ok_yt {n : Nat} (F : Fun K "_law_turned_right" "_law_turned_right" sYt f fd) (cFi : VCal P w K mg base n "_law_fits" ["_law_game_here"] spFi) (cTt : VCal P w K mg base n "_law_told_turned" ["_law_game_here"] spTt) (m_tuple : mg "tuple" = none) (m_repr : mg "repr" = none) : FnOk P w K mg base CX0 (n + 1) f fd ["_law_game_here"] (cSp K 1 spYt) := by
 refine F.vok scYt fun cdv A outer s H E hr => ⟨_, (vss_cons (vs_set (i := 1) scYt.nd rfl (Or.inl rfl) (ve_tup (va_cons (ve_callTy c_tuple rfl m_tuple PyProof.Rows.boot_tuple (va_cons (ve_comp (N' := ["_law_name", "_law_hand"]) (mp := [none, none]) rfl (vi_seq (ve_ix i_ix (vv 0) ve_int)) (fun _ _ _ _ => (vg_tup (n := 2) rfl (vgs_cons (vg_name (i := 0) ndYt1 rfl (Or.inl rfl) (Or.inr rfl)) (vgs_cons (vg_name (i := 1) ndYt1 rfl (Or.inl rfl) (Or.inr rfl)) vgs_nil)))) (fun _ _ _ _ => vifs_nil) (fun _ _ _ _ => (ve_tup (va_cons (vv 0) (va_cons (ve_op o_sub ve_int (vv 1)) va_nil)))) (compOk_of (N := nYt) (pn := (defScope sYt).names) (by decide +kernel))) va_nil)) (va_cons (ve_ix i_ix (vv 0) ve_int) (va_cons (ve_ix i_ix (vv 0) ve_int) va_nil)))))
   (vss_cons (vs_if (vt_not (vt_val (ve_call cFi hr rfl (va_cons (vv 1) va_nil)))) (vss_one (vs_ret (ve_cmp (o_eq hr) (ve_call cTt hr rfl (va_cons (vv 0) va_nil)) ve_str (nomark _)))) vss_nil)
   (vss_one (vs_ret (ve_cmp o_eqS (ve_callB (c_repr hr) rfl m_repr PyProof.Rows.boot_repr (va_cons (ve_lst (va_cons (ve_call cTt hr rfl (va_cons (vv 0) va_nil)) (va_cons (ve_call cTt hr rfl (va_cons (vv 1) va_nil)) va_nil))) va_nil)) (ve_callB (c_repr hr) rfl m_repr PyProof.Rows.boot_repr (va_cons (ve_lst (va_cons (vv 1) (va_cons (vv 0) va_nil))) va_nil)) (nomark _)))))), ?_⟩
 rintro xs μ R _ ⟨g, rfl, hG, hf0, q⟩
 have hp1 := hG.p1
 refine seq_i (fun τ μ' => τ = [some (.D (gzD g)), some (.D (gzD g.trn))] /\ Sub μ μ') (fun Z hZ => ?_) ?_
 ·refine opt_i (atI_nat (j := 0) rfl) (opt_i items_pl fun pc hpc => ?_)
  refine cmap g.pl _ (fun p => .D (tpD p)) (fun τ => ∃ o1 o2, τ = [o1, o2]) ⟨none, none, rfl⟩ updM_same (seven (by omega)) (fun _ => items_pl) ?_ ?_
  ·rintro i p τ' acc W hi ⟨o1, o2, rfl⟩ hW
   exact ⟨rfl, hW _ ⟨_, _, rfl⟩⟩
  ·refine opt_i (items_R updM_same) (opt_i (dats_tp _) (opt_i (atI_nat (j := 1) rfl) (opt_i (atI_nat (j := 2) rfl) (hZ _ _ ⟨?_, (Sub.refl.new hpc).new hpc⟩))))
   rw [tp_pl hG.hd]; rfl
 rintro τ μ1 ⟨rfl, S1⟩
 refine seq_i (fun τ μ' => τ = [some (.D (gzD g)), some (.D (gzD g.trn))] /\ Sub μ μ' /\ fits g.trn = true) (fun Z hZ => ?_) ?_
 ·refine ⟨g.trn, rfl, hG.trn, br (fun c => ⟨g, rfl, hG, ?_⟩) (fun c => hZ _ _ ⟨rfl, S1, by rw [Bool.not_eq_false'] at c; exact c⟩)⟩
  rw [Bool.not_eq_true'] at c
  rw [show told g.trn = .str "refused" by unfold told; rw [if_neg (by rw [c]; decide)]]
  refine ⟨ref_ok, ref_ok, μ, S1, ?_⟩
  rw [ref_eq]; exact q
 rintro τ μ2 ⟨rfl, S2, hf⟩
 refine ⟨g, rfl, hG, ?_⟩
 rw [show told g.trn = gzD g.trn by unfold told; rw [if_pos hf]]
 refine ⟨g.trn, rfl, hG.trn, ?_⟩
 rw [trn_trn hG, show told g = gzD g by unfold told; rw [if_pos hf0]]
 refine fun p hp => opt_i (see_R updM_same rfl) ⟨okD_two hG.trn hf hG hf0, fun p2 hp2 => opt_i (see_R updM_same rfl) ⟨okD_two hG.trn hf hG hf0, μ, (S2.new (S2.none hp)).new ((S2.new (S2.none hp)).none hp2), ?_⟩⟩
 rw [decide_eq_true rfl]; exact q
abbrev nYr : List Str := ["_law_game_here", "_law_places", "_law_letters", "_law_due"]
theorem scYr : FnScope nYr ["_law_game_here", "_law_places", "_law_letters"] (defScope sYr) := ⟨rfl, rfl, rfl, by decide +kernel, rfl, by decide +kernel, by decide +kernel⟩
theorem ndYr1 : (["_law_name", "_law_place"] : List Str).Nodup := by decide +kernel
def spYr : ASp := fun xs μ R => ∃ (g : Gz) (zs ys : List Str), xs = [.D (gzD g), .D (strsD zs), .D (strsD ys)] /\ GzOk g /\ Nam zs /\ Nam ys /\ R (.D (.bool true)) μ
theorem dats_pl (pl : List (Str × Nat)) : dats (pl.map fun p => .D (plD p)) = some (pl.map plD) := by
 rw [show (pl.map fun p => AV.D (plD p)) = (pl.map plD).map .D by rw [List.map_map]; rfl]; exact dats_map _
theorem zipA_pl : ∀ (zs : List Str) (pl : List (Str × Nat)), zipA (zs.map PyData.str) (pl.map plD) = (zs.zip pl).map fun q => .D (.tuple [.str q.1, plD q.2])
 | [], _ => rfl
 | _ :: _, [] => rfl
 | z :: zs, p :: pl => by
  have := zipA_pl zs pl
  unfold zipA at this ⊢
  rw [List.map_cons, List.map_cons, List.zipWith_cons_cons, this]; rfl
theorem zz_pl : ∀ (zs : List Str) (pl : List (Str × Nat)), ((zs.zip pl).map fun q => PyData.tuple [.str q.1, .int q.2.2]) = (zs.zip (pl.map (·.2))).map plD
 | [], _ => rfl
 | _ :: _, [] => rfl
 | z :: zs, p :: pl => by
  rw [List.zip_cons_cons, List.map_cons, zz_pl zs pl]; rfl
theorem dats_zz (zs : List Str) (pl : List (Str × Nat)) : dats ((zs.zip pl).map fun q => .D (.tuple [.str q.1, .int q.2.2])) = some ((zs.zip (pl.map (·.2))).map plD) := by
 rw [<- zz_pl, show ((zs.zip pl).map fun q => AV.D (.tuple [.str q.1, .int q.2.2])) = ((zs.zip pl).map fun q => PyData.tuple [.str q.1, .int q.2.2]).map .D by rw [List.map_map]; rfl]; exact dats_map _
theorem ok_yr {n : Nat} (F : Fun K "_law_renamed_right" "_law_renamed_right" sYr f fd) (cFi : VCal P w K mg base n "_law_fits" ["_law_game_here"] spFi) (cTr : VCal P w K mg base n "_law_told_renamed" ["_law_game_here", "_law_places", "_law_letters"] spTr) (m_len : mg "len" = none) (m_tuple : mg "tuple" = none) (m_zip : mg "zip" = none) (m_repr : mg "repr" = none) : FnOk P w K mg base CX0 (n + 1) f fd ["_law_game_here", "_law_places", "_law_letters"] (cSp K 3 spYr) := by
 refine F.vok scYr fun cdv A outer s H E hr => ⟨_, (vss_cons (vs_set (i := 3) scYr.nd rfl (Or.inl rfl) ve_non)
   (vss_cons (vs_if (VW.pt (vw_and (vt_cmp (o_eq hr) (ve_callB c_len rfl m_len PySem.boot_len (va_cons (vv 1) va_nil)) (ve_callB c_len rfl m_len PySem.boot_len (va_cons (ve_ix i_ix (vv 0) ve_int) va_nil)) (nomark _)) (vw_and1 (vt_cmp (o_eq hr) (ve_callB c_len rfl m_len PySem.boot_len (va_cons (vv 2) va_nil)) (ve_callB c_len rfl m_len PySem.boot_len (va_cons (ve_ix i_ix (vv 0) ve_int) va_nil)) (nomark _))))) (vss_one (vs_set (i := 3) scYr.nd rfl (Or.inl rfl) (ve_tup (va_cons (ve_callTy c_tuple rfl m_tuple PyProof.Rows.boot_tuple (va_cons (ve_comp (N' := ["_law_name", "_law_place"]) (mp := [none, none]) rfl (vi_zip rfl m_zip (vv 1) (ve_ix i_ix (vv 0) ve_int)) (fun _ _ _ _ => (vg_tup (n := 2) rfl (vgs_cons (vg_name (i := 0) ndYr1 rfl (Or.inl rfl) (Or.inr rfl)) (vgs_cons (vg_name (i := 1) ndYr1 rfl (Or.inl rfl) (Or.inr rfl)) vgs_nil)))) (fun _ _ _ _ => vifs_nil) (fun _ _ _ _ => (ve_tup (va_cons (vv 0) (va_cons (ve_ix i_ix (vv 1) ve_int) va_nil)))) (compOk_of (N := nYr) (pn := (defScope sYr).names) (by decide +kernel))) va_nil)) (va_cons (vv 2) (va_cons (ve_ix i_ix (vv 0) ve_int) va_nil)))))) vss_nil)
   (vss_cons (vs_if (VW.pt (vw_or (vt_cmp o_isN (vv 3) ve_non (nomark _)) (vw_or1 (vt_not (vt_val (ve_call cFi hr rfl (va_cons (vv 3) va_nil))))))) (vss_one (vs_ret (ve_cmp (o_eq hr) (ve_call cTr hr rfl (va_cons (vv 0) (va_cons (vv 1) (va_cons (vv 2) va_nil)))) ve_str (nomark _)))) vss_nil)
   (vss_one (vs_ret (ve_cmp o_eqS (ve_callB (c_repr hr) rfl m_repr PyProof.Rows.boot_repr (va_cons (ve_call cTr hr rfl (va_cons (vv 0) (va_cons (vv 1) (va_cons (vv 2) va_nil)))) va_nil)) (ve_callB (c_repr hr) rfl m_repr PyProof.Rows.boot_repr (va_cons (vv 3) va_nil)) (nomark _))))))), ?_⟩
 rintro xs μ R _ ⟨g, zs, ys, rfl, hG, hz, hy, q⟩
 have hp1 := hG.p1
 have ref : ∀ {μ1 : M} (due : PyData), Sub μ μ1 -> rnOk g zs ys = false -> vRet (vOp aEq (vCall 3 spTr (vCons (vVar 0) (vCons (vVar 1) (vCons (vVar 2) vNil)))) (vC (.D (.str "refused")))) (fun _ _ => True) (aRt R) aNo aNo [some (.D (gzD g)), some (.D (strsD zs)), some (.D (strsD ys)), some (.D due)] μ1 := fun {μ1} due S h => by
  refine ⟨g, zs, ys, rfl, hG, hz, hy, ?_⟩
  rw [show toldR g zs ys = .str "refused" by unfold toldR; rw [if_neg (by rw [h]; decide)]]
  refine ⟨ref_ok, ref_ok, μ, S, ?_⟩
  rw [ref_eq]; exact q
 refine seq_d (asg_c ?_)
 refine seq_i (fun τ μ' => ∃ due : PyData, τ = [some (.D (gzD g)), some (.D (strsD zs)), some (.D (strsD ys)), some (.D due)] /\ Sub μ μ' /\ ((due = .none /\ rnOk g zs ys = false) \/ (due = gzD (g.ren zs ys) /\ zs.length = g.pl.length /\ ys.length = g.le.length))) (fun Z hZ => ?_) ?_
 ·refine opt_i (atI_nat (j := 0) rfl) (ieq (fun c1 => opt_i (atI_nat (j := 1) rfl) (ieq (fun c2 => ?_) (fun c2 => ?_))) (fun c1 => brF rfl (hZ _ _ ⟨.none, rfl, Sub.refl, .inl ⟨rfl, ?_⟩⟩)))
  ·rw [List.length_map, List.length_map] at c1 c2
   refine opt_i (atI_nat (j := 0) rfl) (opt_i items_str (opt_i items_pl (opt_i (dats_str zs) (opt_i (dats_pl g.pl) fun pc hpc => ?_))))
   rw [zipA_pl]
   refine cmap (zs.zip g.pl) _ (fun q => .D (.tuple [.str q.1, .int q.2.2])) (fun τ => ∃ o1 o2, τ = [o1, o2]) ⟨none, none, rfl⟩ updM_same (seven (by rw [List.length_zip]; omega)) (fun _ => ⟨items_str, items_pl⟩) ?_ ?_
   ·rintro i p τ' acc W hi ⟨o1, o2, rfl⟩ hW
    exact ⟨rfl, opt_i (atI_nat (j := 1) rfl) (hW _ ⟨_, _, rfl⟩)⟩
   ·refine opt_i (items_R updM_same) (opt_i (dats_zz zs g.pl) (opt_i (atI_nat (j := 2) rfl) (hZ _ _ ⟨gzD (g.ren zs ys), ?_, (Sub.refl.new hpc).new hpc, .inr ⟨rfl, by omega, by omega⟩⟩)))
    rfl
  ·rw [List.length_map, List.length_map] at c2
   refine hZ _ _ ⟨.none, rfl, Sub.refl, .inl ⟨rfl, ?_⟩⟩
   unfold rnOk; rw [decide_eq_false (show ¬ ys.length = g.le.length by omega), Bool.false_and, Bool.and_false]
  ·rw [List.length_map, List.length_map] at c1
   unfold rnOk; rw [decide_eq_false (by omega)]; rfl
 rintro τ μ1 ⟨due, rfl, S1, hdue⟩
 refine seq_i (fun τ μ' => τ = [some (.D (gzD g)), some (.D (strsD zs)), some (.D (strsD ys)), some (.D (gzD (g.ren zs ys)))] /\ Sub μ μ' /\ GzOk (g.ren zs ys) /\ fits (g.ren zs ys) = true /\ rnOk g zs ys = true) (fun Z hZ => ?_) ?_
 ·rcases hdue with ⟨rfl, hno⟩ | ⟨rfl, ez, ey⟩
  ·exact brT rfl (brT rfl (ref _ S1 hno))
  ·have hR := hG.ren hz hy ez ey
   have hok : rnOk g zs ys = fits (g.ren zs ys) := by unfold rnOk; rw [decide_eq_true ez, decide_eq_true ey]; rfl
   refine brF rfl ⟨g.ren zs ys, rfl, hR, br (fun c => ref _ S1 ?_) (fun c => hZ _ _ ⟨rfl, S1, hR, ?_, ?_⟩)⟩
   ·rw [Bool.not_eq_true'] at c; rw [hok]; exact c
   ·rw [Bool.not_eq_false'] at c; exact c
   ·rw [Bool.not_eq_false'] at c; rw [hok]; exact c
 rintro τ μ2 ⟨rfl, S2, hR, hf, hok⟩
 refine ⟨g, zs, ys, rfl, hG, hz, hy, ?_⟩
 rw [show toldR g zs ys = gzD (g.ren zs ys) by unfold toldR; rw [if_pos hok]]
 refine opt_i rfl ⟨okD_gz hR hf, opt_i rfl ⟨okD_gz hR hf, μ, S2, ?_⟩⟩
 rw [decide_eq_true rfl]; exact q
theorem _root_.L2.XCal.mono {P : Program} {w : World} {K : PySem.W.Frag} {mg : Str -> Option Value} {base : Heap} {j k : Nat} {x : Str} {C : Addr} {fns : List Str} (c : XCal P w K mg base j x C fns) (h : j <= k) : XCal P w K mg base k x C fns :=
 let ⟨f, fd, ps, G, r⟩ := c; ⟨f, fd, ps, G.mono h, r⟩
end
section
variable {P : Program} {w : World} {K : PySem.W.Frag} {mg : Str -> Option Value} {base : Heap} {f : Addr} {fd : FuncData}
def toZ (r : Rul) : Rz := ⟨r.p, r.x, r.q, r.w.map fun (n : Nat) => (n : Int)⟩
def toG (g : Gam) : Gz := ⟨g.pl, g.le, g.rs.map toZ⟩
theorem nats_int (ns : List Nat) : natsD ns = .tuple ((ns.map fun (n : Nat) => (n : Int)).map .int) := by
 unfold natsD; rw [List.map_map]; rfl
theorem rul_rz (r : Rul) : rulD r = rzD (toZ r) := by
 unfold rulD rzD toZ; rw [nats_int]
theorem gam_gz (g : Gam) : gamD g = gzD (toG g) := by
 unfold gamD gzD toG
 rw [List.map_map, show rulD = rzD ∘ toZ from funext rul_rz]
theorem toZ_inj {a b : Rul} (h : toZ a = toZ b) : a = b := by
 obtain ⟨p, x, q, w⟩ := a
 obtain ⟨p', x', q', w'⟩ := b
 simp only [toZ, Rz.mk.injEq] at h
 obtain ⟨h1, h2, h3, h4⟩ := h
 have h4 : w = w' := by
  have := congrArg (List.map Int.toNat) h4
  simpa [List.map_map, Function.comp_def] using this
 subst h4
 rw [show p = p' by omega, show x = x' by omega, show q = q' by omega]
theorem pushes_map (B : List Rul) : pushesZ (B.map toZ) = pushes B := by
 unfold pushesZ pushes
 rw [List.filter_map, List.length_map]
 congr 1
 refine List.filter_congr fun r _ => ?_
 show decide ((r.w.map _).length = 2) = _
 rw [List.length_map]
theorem same_map (B : List Rul) (v : Rul) : sameZ (B.map toZ) (toZ v) = sameR B v := by
 unfold sameZ sameR
 rw [List.filter_map, List.length_map]
 congr 1
 refine List.filter_congr fun r _ => ?_
 exact decide_eq_decide.mpr ⟨fun h => ⟨by have := h.1; simp only [toZ] at this; omega, by have := h.2; simp only [toZ] at this; omega⟩, fun h => ⟨by simp only [toZ]; omega, by simp only [toZ]; omega⟩⟩
theorem gam_ok {g : Gam} {mo : Nat} (h : GamOk g 3 3 8 mo) : GzOk (toG g) := by
 refine ⟨h.p0, h.p1, h.l0, h.l1, ⟨h.pn.l, h.pn.n⟩, ⟨h.ln.l, h.ln.n⟩, ?_, fun r hr => ?_, h.hd⟩
 ·show (g.rs.map toZ).length <= 20
  rw [List.length_map]; exact Nat.le_trans h.r1 (by decide)
 ·obtain ⟨v, hv, rfl⟩ := List.mem_map.mp hr
  have := (h.ru v hv).n
  show (v.w.map _).length <= 20
  rw [List.length_map]; omega
theorem gam_fits {g : Gam} (h : GamOk g 3 3 8 3) : fits (toG g) = true := by
 refine fits_iff.mpr ⟨h.pn.d, h.ln.d, ?_, fun i r e => ?_, ?_⟩
 ·show (g.rs.map toZ).length <= 8
  rw [List.length_map]; exact h.r1
 ·have e : (g.rs.map toZ)[i]? = some r := e
  rw [List.getElem?_map] at e
  obtain ⟨v, hv, rfl⟩ := Option.map_eq_some_iff.mp e
  have hr := h.ru v (List.mem_of_getElem? hv)
  have ht : (toG g).rs.take i = (g.rs.take i).map toZ := by show (g.rs.map toZ).take i = _; rw [List.map_take]
  unfold okAt
  rw [ht, Bool.and_eq_true, Bool.and_eq_true, Bool.not_eq_true', Bool.not_eq_true']
  refine ⟨⟨?_, decide_eq_false fun z => ?_⟩, ?_⟩
  ·unfold parts
   rw [Bool.and_eq_true, Bool.and_eq_true, List.all_eq_true]
   have hp := hr.p
   have hx := hr.x
   have hq := hr.q
   have e1 : ((toG g).H.length : Int) = g.pl.length := by show (((g.pl.map (·.2)).length : Nat) : Int) = _; rw [List.length_map]
   refine ⟨⟨decide_eq_true ⟨by simp only [toZ]; omega, by rw [e1]; simp only [toZ]; omega⟩, decide_eq_true ⟨by simp only [toZ]; omega, by rw [e1]; simp only [toZ]; omega⟩⟩, fun y hy => ?_⟩
   show decide (0 <= y /\ y < ((g.le.length : Nat) : Int)) = true
   rcases List.mem_cons.mp hy with rfl | hy
   ·exact decide_eq_true ⟨by simp only [toZ]; omega, by simp only [toZ]; omega⟩
   ·obtain ⟨m, hm, rfl⟩ := List.mem_map.mp hy
    have := hr.w m hm
    exact decide_eq_true ⟨by omega, by omega⟩
  ·obtain ⟨u, hu, e2⟩ := List.mem_map.mp z
   rw [toZ_inj e2] at hu
   obtain ⟨j, hj, ej⟩ := List.getElem_of_mem hu
   rw [List.getElem_take] at ej
   rw [List.length_take] at hj
   have hi := (List.getElem?_eq_some_iff.mp hv)
   have : j = i := (List.getElem_inj h.ro.nd).mp (ej.trans hi.2.symm)
   omega
  ·rw [same_map, Bool.and_eq_false_iff]
   by_cases c : (g.pl.map (·.2)).getD v.p 0 = 0
   ·refine .inl (decide_eq_false fun z => ?_)
    have z : (g.pl.map (·.2)).getD ((v.p : Int)).toNat 0 = 1 := z
    rw [Int.toNat_natCast, c] at z
    cases z
   ·have := h.ro.an i v hv c
    exact .inr (decide_eq_false (by omega))
 ·show pushesZ (g.rs.map toZ) < 4
  rw [pushes_map]
  have := h.ro.ps
  omega
abbrev nCa : List Str := ["_law_deal_here", "_law_names_here", "_law_way", "_law_found"]
theorem scCa : FnScope nCa ["_law_deal_here", "_law_names_here"] (defScope sCa) := ⟨rfl, rfl, rfl, by decide +kernel, rfl, by decide +kernel, by decide +kernel⟩
def spCa : ASp := fun xs μ R => ∃ (a l : Addr) (ns : List Str), xs = [.R a, .D (strsD ns)] /\ 0 < ns.length /\ ns.length <= 3 /\ Nam ns /\ Pot μ a l /\ ∀ (zs : List Str) μ', Nam zs -> Pot μ' a l -> Ext2 a l μ μ' -> R (.D (strsD zs)) μ'
theorem ixN_nat {n k : Nat} (h : k < n) : ixN n (k : Int) = some k := by
 unfold ixN
 rw [if_pos (by omega), if_pos (by omega), Int.toNat_natCast]
structure CaI (a l : Addr) (ns : List Str) (wy : Nat) (lo : Nat) (μ : M) (τ : ASt) (μ' : M) : Prop where
 w : ∃ (zs : List Str) (p : Addr), τ = [some (.R a), some (.D (strsD ns)), some (.D (.int wy)), some (.R p)] /\ Nam zs /\ lo <= zs.length /\ zs.length <= 4 /\ a ≠ p /\ l ≠ p /\ μ p = none /\ μ' p = some (.lst (zs.map strA))
 P : Pot μ' a l
 S : Ext2 a l μ μ'
theorem ok_ca {n : Nat} (F : Fun K "_law_called" "_law_called" sCa f fd) (cDr : VCal P w K mg base n "_law_draw" ["_law_deal_here", "_law_many"] spDr) (cNa : VCal P w K mg base n "_law_names" ["_law_deal_here", "_law_many"] spNa) (m_len : mg "len" = none) (m_list : mg "list" = none) (m_tuple : mg "tuple" = none) : FnOk P w K mg base CX0 (n + 1) f fd ["_law_deal_here", "_law_names_here"] (cSp K 2 spCa) := by
 refine F.vok scCa fun cdv A outer s H E hr => ⟨_, (vss_cons (vs_set (i := 2) scCa.nd rfl (Or.inl rfl) (ve_call cDr hr rfl (va_cons (vv 0) (va_cons ve_int va_nil))))
   (vss_cons (vs_set (i := 3) scCa.nd rfl (Or.inl rfl) (ve_call cNa hr rfl (va_cons (vv 0) (va_cons (ve_callB c_len rfl m_len PySem.boot_len (va_cons (vv 1) va_nil)) va_nil))))
   (vss_cons (vs_if (vt_cmp (o_eq hr) (vv 2) ve_int (nomark _)) (vss_one (vs_set (i := 3) scCa.nd rfl (Or.inl rfl) (ve_call cNa hr rfl (va_cons (vv 0) (va_cons (ve_op o_add (ve_callB c_len rfl m_len PySem.boot_len (va_cons (vv 1) va_nil)) ve_int) va_nil))))) vss_nil)
   (vss_cons (vs_if (vt_cmp (o_eq hr) (vv 2) ve_int (nomark _)) (vss_one (vs_expr (ve_ml0 PySem.F.slot_list_pop PySem.F.type_list_pop m_pop (vv 3)))) vss_nil)
   (vss_cons (vs_if (vt_cmp (o_eq hr) (vv 2) ve_int (nomark _)) (vss_one (vs_asg (ve_ix i_ix (vv 3) (ve_call cDr hr rfl (va_cons (vv 0) (va_cons (ve_callB c_len rfl m_len PySem.boot_len (va_cons (vv 3) va_nil)) va_nil)))) (vg_sub (vv 3) (ve_call cDr hr rfl (va_cons (vv 0) (va_cons (ve_callB c_len rfl m_len PySem.boot_len (va_cons (vv 3) va_nil)) va_nil)))))) vss_nil)
   (vss_cons (vs_if (vt_cmp (o_eq hr) (vv 2) ve_int (nomark _)) (vss_one (vs_set (i := 3) scCa.nd rfl (Or.inl rfl) (ve_callTy c_list rfl m_list PyProof.Rows.boot_list (va_cons (vv 1) va_nil)))) vss_nil)
   (vss_one (vs_ret (ve_callTy c_tuple rfl m_tuple PyProof.Rows.boot_tuple (va_cons (vv 3) va_nil)))))))))), ?_⟩
 rintro xs μ R _ ⟨a, l, ns, rfl, hn0, hn3, hN, hP, q⟩
 refine seq_d ⟨a, l, 8, rfl, hP, by decide, by decide, fun wy μ1 hwy P1 S1 => ?_⟩
 refine seq_i (fun τ μ' => CaI a l ns wy 1 μ τ μ') (fun Z hZ => ?_) ?_
 ·refine ⟨a, l, ns.length, by rw [List.length_map], by omega, P1, fun zs pz μ2 hz hN2 hf ez P2 S2 => hZ _ _ ⟨⟨zs, pz, rfl, ⟨hN2.l, hN2.n⟩, by omega, by omega, (P1.ne hf).1, (P1.ne hf).2, S1.none (P1.ne hf).1 (P1.ne hf).2 hf, ez⟩, P2, S1.trans S2⟩⟩
 rintro τ μ2 ⟨⟨zs, p, rfl, hz, h1, h4, na, nl, e0, e2⟩, P2, S2⟩
 refine seq_i (fun τ μ' => CaI a l ns wy 1 μ τ μ') (fun Z hZ => ?_) ?_
 ·refine ieq (fun _ => ?_) (fun _ => hZ _ _ ⟨⟨zs, p, rfl, hz, h1, h4, na, nl, e0, e2⟩, P2, S2⟩)
  refine ⟨a, l, ns.length + 1, by rw [List.length_map]; rfl, by omega, P2, fun zs pz μ3 hz hN2 hf ez P3 S3 => hZ _ _ ⟨⟨zs, pz, rfl, ⟨hN2.l, hN2.n⟩, by omega, by omega, (P2.ne hf).1, (P2.ne hf).2, S2.none (P2.ne hf).1 (P2.ne hf).2 hf, ez⟩, P3, S2.trans S3⟩⟩
 rintro τ μ3 ⟨⟨zs, p, rfl, hz, h1, h4, na, nl, e0, e3⟩, P3, S3⟩
 refine seq_i (fun τ μ' => CaI a l ns wy (if wy = 1 then 0 else 1) μ τ μ') (fun Z hZ => ?_) ?_
 ·refine ieq (fun c => ?_) (fun c => hZ _ _ ⟨⟨zs, p, rfl, hz, by split <;> omega, h4, na, nl, e0, e3⟩, P3, S3⟩)
  have c : wy = 1 := by omega
  have eL : (zs.map strA)[(zs.map strA).length - 1]? = some (strA (zs[zs.length - 1]'(by omega))) := by rw [List.length_map, List.getElem?_map, List.getElem?_eq_getElem (by omega)]; rfl
  refine ⟨opt_i e3 trivial, opt_i e3 (opt_i eL (hZ _ _ ⟨⟨zs.dropLast, p, rfl, ⟨fun z h => hz.l z ((List.dropLast_sublist _).subset h), fun z h => hz.n z ((List.dropLast_sublist _).subset h)⟩, by rw [if_pos c]; omega, by rw [List.length_dropLast]; omega, na, nl, e0, ?_⟩, P3.other na nl, S3.put e0⟩))⟩
  rw [updM_same, List.map_dropLast]
 rintro τ μ4 ⟨⟨zs, p, rfl, hz, h1, h4, na, nl, e0, e4⟩, P4, S4⟩
 refine seq_i (fun τ μ' => CaI a l ns wy 0 μ τ μ') (fun Z hZ => ?_) ?_
 ·refine ieq (fun c => ?_) (fun c => hZ _ _ ⟨⟨zs, p, rfl, hz, by omega, h4, na, nl, e0, e4⟩, P4, S4⟩)
  have c : wy = 2 := by omega
  have h1 : 1 <= zs.length := by rw [if_neg (by omega)] at h1; exact h1
  refine opt_i e4 ⟨a, l, zs.length, by rw [List.length_map], P4, by omega, by omega, fun j μ5 hj P5 S5 => ?_⟩
  have e5 := S5 p _ na.symm nl.symm e4
  refine opt_i e5 (opt_i (atI_nat (j := j) (v := strA zs[j]) (by rw [List.getElem?_map, List.getElem?_eq_getElem hj]; rfl)) (opt_i e5 ⟨a, l, zs.length, by rw [List.length_map], P5, by omega, by omega, fun k μ6 hk P6 S6 => ?_⟩))
  have e6 := S6 p _ na.symm nl.symm e5
  refine opt_i e6 (opt_i (ixN_nat (by rw [List.length_map]; exact hk)) (hZ _ _ ⟨⟨zs.set k zs[j], p, rfl, ⟨fun z h => ?_, fun z h => ?_⟩, by omega, by rw [List.length_set]; exact h4, na, nl, e0, ?_⟩, P6.other na nl, ((S4.trans S5).trans S6).put e0⟩))
  ·rcases List.mem_or_eq_of_mem_set h with h | rfl
   ·exact hz.l z h
   ·exact hz.l _ (List.getElem_mem _)
  ·rcases List.mem_or_eq_of_mem_set h with h | rfl
   ·exact hz.n z h
   ·exact hz.n _ (List.getElem_mem _)
  ·rw [updM_same, List.map_set]
 rintro τ μ5 ⟨⟨zs, p, rfl, hz, h1, h4, na, nl, e0, e5⟩, P5, S5⟩
 refine seq_i (fun τ μ' => CaI a l ns wy 0 μ τ μ') (fun Z hZ => ?_) ?_
 ·refine ieq (fun c => ?_) (fun c => hZ _ _ ⟨⟨zs, p, rfl, hz, h1, h4, na, nl, e0, e5⟩, P5, S5⟩)
  refine opt_i items_str fun p2 hp2 => hZ _ _ ⟨⟨ns, p2, rfl, hN, by omega, by omega, (P5.ne hp2).1, (P5.ne hp2).2, S5.none (P5.ne hp2).1 (P5.ne hp2).2 hp2, updM_same⟩, P5.new hp2, S5.new hp2⟩
 rintro τ μ6 ⟨⟨zs, p, rfl, hz, h1, h4, na, nl, e0, e6⟩, P6, S6⟩
 exact opt_i (items_R e6) (opt_i (dats_str zs) ⟨μ6, Sub.refl, q zs μ6 hz P6 S6⟩)
abbrev nLaw : List Str := ["_law_script", "_law_deal_here", "_law_game_here", "_law_places", "_law_some_here"]
theorem scLaw : FnScope nLaw ["_law_script"] (defScope sLaw) := ⟨rfl, rfl, rfl, by decide +kernel, rfl, by decide +kernel, by decide +kernel⟩
theorem ndLaw1 : (["_law_name", "_law_hand"] : List Str).Nodup := by decide +kernel
theorem ndLaw2 : (["_law_turn", "_law_deal_here", "_law_places", "_law_game_here"] : List Str).Nodup := by decide +kernel
theorem ndLaw3 : (["_law_one", "_law_other", "_law_game_here"] : List Str).Nodup := by decide +kernel
def spL : ASp := fun xs μ R => ∃ (ns : List Int), xs = [.D (scrD ns)] /\ ns.length <= 63 /\ ∀ μ', R (.D (.bool true)) μ'
def twoD (q : List Str × List Str) : PyData := .tuple [strsD q.1, strsD q.2]
theorem dats_nm (pl : List (Str × Nat)) : dats (pl.map fun p => strA p.1) = some ((pl.map (·.1)).map PyData.str) := by
 rw [show (pl.map fun p => strA p.1) = (pl.map (·.1)).map strA by rw [List.map_map]; rfl]; exact dats_str _
theorem ok_lawV {n : Nat} (F : Fun K "law" "law" sLaw f fd) (cDe : VCal P w K mg base n "_law_deal" ["_law_script", "_law_base"] spDe) (cGa : VCal P w K mg base n "_law_game" ["_law_deal_here", "_law_sizes", "_law_hand"] spGa) (cCa : VCal P w K mg base n "_law_called" ["_law_deal_here", "_law_names_here"] spCa)
  (cYt : VCal P w K mg base n "_law_turned_right" ["_law_game_here"] spYt) (cYr : VCal P w K mg base n "_law_renamed_right" ["_law_game_here", "_law_places", "_law_letters"] spYr) (m_tuple : mg "tuple" = none) (m_range : mg "range" = none) (m_all : mg "all" = none) : FnOk P w K mg base CX0 (n + 1) f fd ["_law_script"] (cSp K 1 spL) := by
 refine F.vok scLaw fun cdv A outer s H E hr => ⟨_, (vss_cons (vs_set (i := 1) scLaw.nd rfl (Or.inr rfl) (ve_call cDe hr rfl (va_cons (vv 0) (va_cons ve_int va_nil))))
   (vss_cons (vs_set (i := 2) scLaw.nd rfl (Or.inr rfl) (ve_call cGa hr rfl (va_cons (vv 1) (va_cons (ve_tup (va_cons ve_int (va_cons ve_int (va_cons ve_int (va_cons ve_int va_nil))))) (va_cons ve_int va_nil)))))
   (vss_cons (vs_set (i := 3) scLaw.nd rfl (Or.inr rfl) (ve_callTy c_tuple rfl m_tuple PyProof.Rows.boot_tuple (va_cons (ve_comp (N' := ["_law_name", "_law_hand"]) (mp := [none, none]) rfl (vi_seq (ve_ix i_ix (vv 2) ve_int)) (fun _ _ _ _ => (vg_tup (n := 2) rfl (vgs_cons (vg_name (i := 0) ndLaw1 rfl (Or.inl rfl) (Or.inr rfl)) (vgs_cons (vg_name (i := 1) ndLaw1 rfl (Or.inl rfl) (Or.inr rfl)) vgs_nil)))) (fun _ _ _ _ => vifs_nil) (fun _ _ _ _ => (vv 0)) (compOk_of (N := nLaw) (pn := (defScope sLaw).names) (by decide +kernel))) va_nil)))
   (vss_cons (vs_setC (i := 4) (N' := ["_law_turn", "_law_deal_here", "_law_places", "_law_game_here"]) (mp := [none, some 1, some 3, some 2]) rfl scLaw.nd rfl rfl (vi_range1 rfl m_range (va_cons ve_int va_nil)) (fun _ _ _ _ => (vg_name (i := 0) ndLaw2 rfl (Or.inl rfl) (Or.inr rfl))) (fun _ _ _ _ => vifs_nil) (fun _ _ _ _ => (ve_tup (va_cons (ve_call cCa hr rfl (va_cons (vv 1) (va_cons (vv 2) va_nil))) (va_cons (ve_call cCa hr rfl (va_cons (vv 1) (va_cons (ve_ix i_ix (vv 3) ve_int) va_nil))) va_nil)))) (compOk_of (N := nLaw) (pn := (defScope sLaw).names) (by decide +kernel)))
   (vss_cons (vs_expr (ve_ml PySem.F.slot_list_append PySem.F.type_list_append m_append (vv 4) (va_cons (ve_tup (va_cons (ve_ix i_ix (vv 2) ve_int) (va_cons (vv 3) va_nil))) va_nil)))
   (vss_cons (vs_if (vt_not (vt_val (ve_call cYt hr rfl (va_cons (vv 2) va_nil)))) (vss_one (vs_ret ve_bl)) vss_nil)
   (vss_cons (vs_if (vt_not (vt_val (ve_callB (c_all rfl) rfl m_all PyProof.Rows.boot_all (va_cons (ve_comp (N' := ["_law_one", "_law_other", "_law_game_here"]) (mp := [none, none, some 2]) rfl (vi_seq (ve_op o_add (vv 4) (ve_slice (vv 4) vo_none (vo_some ve_int)))) (fun _ _ _ _ => (vg_tup (n := 2) rfl (vgs_cons (vg_name (i := 0) ndLaw3 rfl (Or.inl rfl) (Or.inr rfl)) (vgs_cons (vg_name (i := 1) ndLaw3 rfl (Or.inl rfl) (Or.inr rfl)) vgs_nil)))) (fun _ _ _ _ => vifs_nil) (fun _ _ _ _ => (ve_call cYr hr rfl (va_cons (vv 2) (va_cons (vv 0) (va_cons (vv 1) va_nil))))) (compOk_of (N := nLaw) (pn := (defScope sLaw).names) (by decide +kernel))) va_nil)))) (vss_one (vs_ret ve_bl)) vss_nil)
   (vss_one (vs_ret (ve_call cYt hr rfl (va_cons (vv 2) va_nil))))))))))), ?_⟩
 rintro xs μ R _ ⟨ns, rfl, hns, q⟩
 refine seq_d ⟨ns, 0, rfl, by decide, hns, fun a l μ1 _ _ P1 _ => ?_⟩
 refine seq_d ⟨a, l, 3, 3, 8, 3, rfl, by decide, by decide, by decide, by decide, by decide, by decide, P1, fun g μ2 hg P2 _ => ?_⟩
 have hG := gam_ok hg
 have hF := gam_fits hg
 have hp0 := hg.p0
 have hp1 := hg.p1
 have hl0 := hg.l0
 have hl1 := hg.l1
 rw [gam_gz]
 have hpl : (toG g).pl = g.pl := rfl
 have hle : (toG g).le = g.le := rfl
 generalize toG g = z at hG hF hpl hle
 rw [<- hpl] at hp0 hp1
 rw [<- hle] at hl0 hl1
 refine seq_i (fun τ μ' => τ = [some (.D (scrD ns)), some (.R a), some (.D (gzD z)), some (.D (strsD (z.pl.map (·.1)))), none] /\ Pot μ' a l) (fun Z hZ => ?_) ?_
 ·refine opt_i (atI_nat (j := 0) rfl) (opt_i items_pl fun pc hpc => ?_)
  have hne := P2.ne hpc
  refine cmap z.pl _ (fun p => strA p.1) (fun τ => ∃ o1 o2, τ = [o1, o2]) ⟨none, none, rfl⟩ updM_same (seven (by omega)) (fun _ => items_pl) ?_ ?_
  ·rintro i p τ' acc W hi ⟨o1, o2, rfl⟩ hW
   exact ⟨rfl, hW _ ⟨_, _, rfl⟩⟩
  ·exact opt_i (items_R updM_same) (opt_i (dats_nm _) (hZ _ _ ⟨rfl, (P2.new hpc).other hne.1 hne.2⟩))
 rintro τ μ3 ⟨rfl, P3⟩
 refine seq_i (fun τ μ' => ∃ (L : List (List Str × List Str)) (pr : Addr), τ = [some (.D (scrD ns)), some (.R a), some (.D (gzD z)), some (.D (strsD (z.pl.map (·.1)))), some (.R pr)] /\ L.length <= 3 /\ (∀ r ∈ L, Nam r.1 /\ Nam r.2) /\ μ' pr = some (.lst (L.map fun r => .D (twoD r)))) (fun Z hZ => ?_) ?_
 ·refine ⟨by decide, by decide, fun pc hpc => ?_⟩
  have hne := P3.ne hpc
  have hlen : (rngA 0 (3 : Int).toNat).length = 3 := by rw [rngA_length]; rfl
  refine comp_i (fun j acc τ μ' => ∃ (o : Option AV) (L : List (List Str × List Str)), τ = [o, some (.R a), some (.D (strsD (z.pl.map (·.1)))), some (.D (gzD z))] /\ acc = (L.map fun r => .D (twoD r)) /\ L.length = j /\ (∀ r ∈ L, Nam r.1 /\ Nam r.2) /\ μ' pc = some (.lst acc) /\ Pot μ' a l) ⟨none, [], rfl, rfl, rfl, (fun _ z => nomatch z), updM_same, P3.new hpc⟩ (fun _ _ _ _ _ => trivial) ?_ ?_
  ·rintro j y acc τ μ4 Z2 hy ⟨o, L, rfl, rfl, hn, hb, e4, P4⟩ hZ2
   have hj : j < 3 := by rw [<- hlen]; exact (List.getElem?_eq_some_iff.mp hy).1
   refine brT rfl ⟨a, l, z.pl.map (·.1), rfl, by rw [List.length_map]; exact hp0, by rw [List.length_map]; exact hp1, hG.pn, P4, fun us μ5 hu P5 S5 => ?_⟩
   refine opt_i (atI_nat (j := 1) rfl) ⟨a, l, z.le, rfl, hl0, hl1, hG.ln, P5, fun vs μ6 hv P6 S6 => ?_⟩
   have e6 := S6 pc _ hne.1.symm hne.2.symm (S5 pc _ hne.1.symm hne.2.symm e4)
   refine ⟨e6, small1000 (by rw [List.length_map]; omega), hZ2 _ _ _ ⟨_, L ++ [(us, vs)], rfl, by rw [List.map_append]; rfl, by rw [List.length_append, hn]; rfl, fun v hv' => ?_, updM_same, P6.other hne.1 hne.2⟩⟩
   rcases List.mem_append.mp hv' with h | h
   ·exact hb v h
   ·rw [List.mem_singleton.mp h]; exact ⟨hu, hv⟩
  ·rintro acc τ μ4 ⟨o, L, rfl, rfl, hn, hb, e4, P4⟩
   rw [hlen] at hn
   exact hZ _ _ ⟨L, pc, rfl, by omega, hb, e4⟩
 rintro τ μ4 ⟨L, pr, rfl, hL, hLw, e4⟩
 refine seq_i (fun τ μ' => ∃ (L : List (List Str × List Str)), τ = [some (.D (scrD ns)), some (.R a), some (.D (gzD z)), some (.D (strsD (z.pl.map (·.1)))), some (.R pr)] /\ L.length <= 4 /\ (∀ r ∈ L, Nam r.1 /\ Nam r.2) /\ μ' pr = some (.lst (L.map fun r => .D (twoD r)))) (fun Z hZ => ?_) ?_
 ·refine ⟨opt_i e4 trivial, opt_i (atI_nat (j := 1) rfl) (opt_i e4 ⟨small1000 (by rw [List.length_map]; omega), hZ _ _ ⟨L ++ [(z.le, z.pl.map (·.1))], rfl, by rw [List.length_append]; simp only [List.length_cons, List.length_nil]; omega, fun v hv => ?_, ?_⟩⟩)⟩
  ·rcases List.mem_append.mp hv with h | h
   ·exact hLw v h
   ·rw [List.mem_singleton.mp h]; exact ⟨hG.ln, hG.pn⟩
  ·rw [updM_same, List.map_append]; rfl
 clear hL hLw e4
 rintro τ μ5 ⟨L, rfl, hL, hLw, e5⟩
 refine seq_d ⟨z, rfl, hG, hF, brF rfl ?_⟩
 refine seq_d ?_
 refine opt_i (items_R e5) fun p1 hp1' => ?_
 have hp1p : pr ≠ p1 := by rintro rfl; rw [e5] at hp1'; cases hp1'
 rw [show cutA (L.map fun r => AV.D (twoD r)) none (some 1) = (L.take 1).map fun r => AV.D (twoD r) from cutA_take _ L 1]
 refine opt_i (x := MO.lst (L.map fun r => .D (twoD r))) (by rw [updM_ne hp1p]; exact e5) (opt_i updM_same ⟨seven (by simp only [List.length_map, List.length_take]; omega), fun p2 hp2 => ?_⟩)
 rw [<- List.map_append]
 have hLL : (L ++ L.take 1).length <= 6 := by rw [List.length_append, List.length_take]; omega
 have hLLw : ∀ r ∈ L ++ L.take 1, Nam r.1 /\ Nam r.2 := fun r h => by
  rcases List.mem_append.mp h with h | h
  ·exact hLw r h
  ·exact hLw r (List.mem_of_mem_take h)
 generalize L ++ L.take 1 = LL at hLL hLLw
 refine opt_i (items_R updM_same) fun pc hpc => ?_
 have hpc2 : p2 ≠ pc := by rintro rfl; rw [updM_same] at hpc; cases hpc
 refine cmap LL _ (fun _ => .D (.bool true)) (fun τ => ∃ o1 o2, τ = [o1, o2, some (.D (gzD z))]) ⟨none, none, rfl⟩ updM_same (seven (by omega)) (fun acc => items_R (by rw [updM_ne hpc2, updM_ne hpc2]; exact updM_same)) ?_ ?_
 ·rintro i r τ' acc W hi ⟨o1, o2, rfl⟩ hW
  have hr := hLLw r (List.mem_of_getElem? hi)
  exact ⟨rfl, z, r.1, r.2, rfl, hG, hr.1, hr.2, hW _ ⟨_, _, rfl⟩⟩
 ·refine opt_i updM_same (opt_i (bools_of (fun _ => true) LL) (brF ?_ ?_))
  ·rw [List.all_map]; simp
  ·exact ⟨z, rfl, hG, hF, _, Sub.refl, q _⟩
def spLaw (K : PySem.W.Frag) : Sp := fun vs H Q _ => ∃ (a : Addr) (ns : List Int), vs = [.ref a] /\ SqL K H a (ns.map V.int) /\ Only H /\ ns.length <= 63 /\ ∀ H', Q (.bl true) H'
theorem dk_ints {H : Hp} : ∀ (ns : List Int), DkAll K H (ns.map .int) (ns.map V.int)
 | [] => dks_nil
 | n :: ns => dks_cons dk_int (dk_ints ns)
theorem ok_law {n : Nat} (F : Fun K "law" "law" sLaw f fd) (cDe : VCal P w K mg base n "_law_deal" ["_law_script", "_law_base"] spDe) (cGa : VCal P w K mg base n "_law_game" ["_law_deal_here", "_law_sizes", "_law_hand"] spGa) (cCa : VCal P w K mg base n "_law_called" ["_law_deal_here", "_law_names_here"] spCa)
  (cYt : VCal P w K mg base n "_law_turned_right" ["_law_game_here"] spYt) (cYr : VCal P w K mg base n "_law_renamed_right" ["_law_game_here", "_law_places", "_law_letters"] spYr) (m_tuple : mg "tuple" = none) (m_range : mg "range" = none) (m_all : mg "all" = none) : FnOk P w K mg base CX0 (n + 1) f fd ["_law_script"] (spLaw K) := by
 refine (ok_lawV F cDe cGa cCa cYt cYr m_tuple m_range m_all).imp ?_
 rintro vs H Q E ⟨a, ns, rfl, hS, hO, hl, q⟩
 refine ⟨[.D (scrD ns)], fun _ => none, fun v _ => v = .D (.bool true), rfl, .cons ?_ .nil, (fun _ _ z => nomatch z), ⟨ns, rfl, hl, fun _ => rfl⟩, ?_⟩
 ·refine dk_lst (xs := ns.map V.int) ?_ (dk_ints ns)
  rcases hS with (h | h) | h
  ·rcases hO a with z | ⟨o, xs, z⟩
   ·rw [z] at h; cases h
   ·rw [z] at h; cases h
  ·exact .inl h
  ·exact .inr h
 ·rintro x μ v H' _ _ rx rfl
  cases RelA.bl rx
  exact q _
end
theorem len_1 {us : List Value} (h : us.length = 1) : ∃ a0, us = [a0] := by
 obtain ⟨a0, t, rfl, h2⟩ := len_succ h
 rw [List.eq_nil_of_length_eq_zero h2]; exact ⟨a0, rfl⟩
theorem len_2 {us : List Value} (h : us.length = 2) : ∃ a0 a1, us = [a0, a1] := by
 obtain ⟨a0, t, rfl, h2⟩ := len_succ h
 obtain ⟨a1, rfl⟩ := len_1 h2
 exact ⟨a0, a1, rfl⟩
theorem len_3 {us : List Value} (h : us.length = 3) : ∃ a0 a1 a2, us = [a0, a1, a2] := by
 obtain ⟨a0, t, rfl, h2⟩ := len_succ h
 obtain ⟨a1, a2, rfl⟩ := len_2 h2
 exact ⟨a0, a1, a2, rfl⟩
theorem len_4 {us : List Value} (h : us.length = 4) : ∃ a0 a1 a2 a3, us = [a0, a1, a2, a3] := by
 obtain ⟨a0, t, rfl, h2⟩ := len_succ h
 obtain ⟨a1, a2, a3, rfl⟩ := len_3 h2
 exact ⟨a0, a1, a2, a3, rfl⟩
theorem len_5 {us : List Value} (h : us.length = 5) : ∃ a0 a1 a2 a3 a4, us = [a0, a1, a2, a3, a4] := by
 obtain ⟨a0, t, rfl, h2⟩ := len_succ h
 obtain ⟨a1, a2, a3, a4, rfl⟩ := len_4 h2
 exact ⟨a0, a1, a2, a3, a4, rfl⟩
theorem all_mk {l : PySem.W.OpenLaw} {w : World} {K : PySem.W.Frag} {h : Heap} {mg : Str -> Option Value} {fa f1 f2 f3 f4 f5 f6 f7 f8 f9 f10 f11 f12 f13 f14 f15 f16 f17 f18 f19 f20 f21 f22 f23 f24 c0 c1 c2 c3 c4 c5 c6 c7 D gc1 : Addr} (X : K.In h) (G : h.Ns mainGlobals mg) (hfa : mg "law" = some (.ref fa))
  {od1 an1 od2 an2 od3 an3 od4 an4 od5 an5 od6 an6 od7 an7 od8 an8 od9 an9 od10 an10 od11 an11 od12 an12 od13 an13 od14 an14 od15 an15 od16 an16 od17 an17 od18 an18 od19 an19 od20 an20 od21 an21 od22 an22 od23 an23 od24 an24 odc1 anc1 : Option Addr} {sl1 sl2 sl3 sl4 sl5 sl6 sl7 sl8 sl9 sl10 sl11 sl12 sl13 sl14 sl15 sl16 sl17 sl18 sl19 sl20 sl21 sl22 sl23 sl24 slc1 : Array (Option Value)} {oc1 kV1 dc1 pm1 cd1 ct1 oc2 kV2 dc2 pm2 cd2 ct2 oc3 kV3 dc3 pm3 cd3 ct3 oc4 kV4 dc4 pm4 cd4 ct4 oc5 kV5 dc5 pm5 cd5 ct5 oc6 kV6 dc6 pm6 cd6 ct6 oc7 kV7 dc7 pm7 cd7 ct7 oc8 kV8 dc8 pm8 cd8 ct8 oc9 kV9 dc9 pm9 cd9 ct9 oc10 kV10 dc10 pm10 cd10 ct10 oc11 kV11 dc11 pm11 cd11 ct11 oc12 kV12 dc12 pm12 cd12 ct12 oc13 kV13 dc13 pm13 cd13 ct13 oc14 kV14 dc14 pm14 cd14 ct14 oc15 kV15 dc15 pm15 cd15 ct15 oc16 kV16 dc16 pm16 cd16 ct16 oc17 kV17 dc17 pm17 cd17 ct17 oc18 kV18 dc18 pm18 cd18 ct18 oc19 kV19 dc19 pm19 cd19 ct19 oc20 kV20 dc20 pm20 cd20 ct20 oc21 kV21 dc21 pm21 cd21 ct21 oc22 kV22 dc22 pm22 cd22 ct22 oc23 kV23 dc23 pm23 cd23 ct23 oc24 kV24 dc24 pm24 cd24 ct24 occ1 kVc1 dcc1 pmc1 cdc1 ctc1 : Value}
  {t1 t2 t3 t4 t5 t6 : Tok}
  (a1 : PySem.W.nsIn K mainGlobals "is_there" = some (some (.ref f1)))
  (l1 : K.lookup f1 = some ⟨oc1, od1, .func (PySem.W.fnOf "is_there" "is_there" (defArgs sIt) (defBody sIt) (defScope sIt) .none kV1 dc1 pm1 an1 cd1 ct1), sl1⟩)
  (c_1 : PySem.W.codeIn K cd1 "is_there" = true)
  (k1 : PySem.W.keepIn K (.ref f1) = true)
  (a2 : PySem.W.nsIn K mainGlobals "look" = some (some (.ref f2)))
  (l2 : K.lookup f2 = some ⟨oc2, od2, .func (PySem.W.fnOf "look" "look" (defArgs sLk) (defBody sLk) (defScope sLk) .none kV2 dc2 pm2 an2 cd2 ct2), sl2⟩)
  (c_2 : PySem.W.codeIn K cd2 "look" = true)
  (k2 : PySem.W.keepIn K (.ref f2) = true)
  (a3 : PySem.W.nsIn K mainGlobals "look_size" = some (some (.ref f3)))
  (l3 : K.lookup f3 = some ⟨oc3, od3, .func (PySem.W.fnOf "look_size" "look_size" (defArgs sLs) (defBody sLs) (defScope sLs) .none kV3 dc3 pm3 an3 cd3 ct3), sl3⟩)
  (c_3 : PySem.W.codeIn K cd3 "look_size" = true)
  (k3 : PySem.W.keepIn K (.ref f3) = true)
  (a4 : PySem.W.nsIn K mainGlobals "look_unlike" = some (some (.ref f4)))
  (l4 : K.lookup f4 = some ⟨oc4, od4, .func (PySem.W.fnOf "look_unlike" "look_unlike" (defArgs sLu) (defBody sLu) (defScope sLu) .none kV4 dc4 pm4 an4 cd4 ct4), sl4⟩)
  (c_4 : PySem.W.codeIn K cd4 "look_unlike" = true)
  (k4 : PySem.W.keepIn K (.ref f4) = true)
  (a5 : PySem.W.nsIn K mainGlobals "look_rule" = some (some (.ref f5)))
  (l5 : K.lookup f5 = some ⟨oc5, od5, .func (PySem.W.fnOf "look_rule" "look_rule" (defArgs sLr) (defBody sLr) (defScope sLr) .none kV5 dc5 pm5 an5 cd5 ct5), sl5⟩)
  (c_5 : PySem.W.codeIn K cd5 "look_rule" = true)
  (k5 : PySem.W.keepIn K (.ref f5) = true)
  (a6 : PySem.W.nsIn K mainGlobals "has_its_parts" = some (some (.ref f6)))
  (l6 : K.lookup f6 = some ⟨oc6, od6, .func (PySem.W.fnOf "has_its_parts" "has_its_parts" (defArgs sHp) (defBody sHp) (defScope sHp) .none kV6 dc6 pm6 an6 cd6 ct6), sl6⟩)
  (c_6 : PySem.W.codeIn K cd6 "has_its_parts" = true)
  (k6 : PySem.W.keepIn K (.ref f6) = true)
  (a7 : PySem.W.nsIn K mainGlobals "is_push" = some (some (.ref f7)))
  (l7 : K.lookup f7 = some ⟨oc7, od7, .func (PySem.W.fnOf "is_push" "is_push" (defArgs sIp) (defBody sIp) (defScope sIp) .none kV7 dc7 pm7 an7 cd7 ct7), sl7⟩)
  (c_7 : PySem.W.codeIn K cd7 "is_push" = true)
  (k7 : PySem.W.keepIn K (.ref f7) = true)
  (a8 : PySem.W.nsIn K mainGlobals "turned" = some (some (.ref f8)))
  (l8 : K.lookup f8 = some ⟨oc8, od8, .func (PySem.W.fnOf "turned" "turned" (defArgs sTu) (defBody sTu) (defScope sTu) .none kV8 dc8 pm8 an8 cd8 ct8), sl8⟩)
  (c_8 : PySem.W.codeIn K cd8 "turned" = true)
  (k8 : PySem.W.keepIn K (.ref f8) = true)
  (a9 : PySem.W.nsIn K mainGlobals "renamed" = some (some (.ref f9)))
  (l9 : K.lookup f9 = some ⟨oc9, od9, .func (PySem.W.fnOf "renamed" "renamed" (defArgs sRn) (defBody sRn) (defScope sRn) .none kV9 dc9 pm9 an9 cd9 ct9), sl9⟩)
  (c_9 : PySem.W.codeIn K cd9 "renamed" = true)
  (k9 : PySem.W.keepIn K (.ref f9) = true)
  (a10 : PySem.W.nsIn K mainGlobals "fitting" = some (some (.ref f10)))
  (l10 : K.lookup f10 = some ⟨oc10, od10, .func (PySem.W.fnOf "fitting" "fitting" (defArgs sFt) (defBody sFt) (defScope sFt) .none kV10 dc10 pm10 an10 cd10 ct10), sl10⟩)
  (c_10 : PySem.W.codeIn K cd10 "fitting" = true)
  (k10 : PySem.W.keepIn K (.ref f10) = true)
  (a11 : PySem.W.nsIn K mainGlobals "_law_deal" = some (some (.ref f11)))
  (l11 : K.lookup f11 = some ⟨oc11, od11, .func (PySem.W.fnOf "_law_deal" "_law_deal" (defArgs sDe) (defBody sDe) (defScope sDe) .none kV11 dc11 pm11 an11 cd11 ct11), sl11⟩)
  (c_11 : PySem.W.codeIn K cd11 "_law_deal" = true)
  (k11 : PySem.W.keepIn K (.ref f11) = true)
  (a12 : PySem.W.nsIn K mainGlobals "_law_draw" = some (some (.ref f12)))
  (l12 : K.lookup f12 = some ⟨oc12, od12, .func (PySem.W.fnOf "_law_draw" "_law_draw" (defArgs sDr) (defBody sDr) (defScope sDr) .none kV12 dc12 pm12 an12 cd12 ct12), sl12⟩)
  (c_12 : PySem.W.codeIn K cd12 "_law_draw" = true)
  (k12 : PySem.W.keepIn K (.ref f12) = true)
  (a13 : PySem.W.nsIn K mainGlobals "_law_names" = some (some (.ref f13)))
  (l13 : K.lookup f13 = some ⟨oc13, od13, .func (PySem.W.fnOf "_law_names" "_law_names" (defArgs sNa) (defBody sNa) (defScope sNa) .none kV13 dc13 pm13 an13 cd13 ct13), sl13⟩)
  (c_13 : PySem.W.codeIn K cd13 "_law_names" = true)
  (k13 : PySem.W.keepIn K (.ref f13) = true)
  (a14 : PySem.W.nsIn K mainGlobals "_law_rule" = some (some (.ref f14)))
  (l14 : K.lookup f14 = some ⟨oc14, od14, .func (PySem.W.fnOf "_law_rule" "_law_rule" (defArgs sRu) (defBody sRu) (defScope sRu) .none kV14 dc14 pm14 an14 cd14 ct14), sl14⟩)
  (c_14 : PySem.W.codeIn K cd14 "_law_rule" = true)
  (k14 : PySem.W.keepIn K (.ref f14) = true)
  (a15 : PySem.W.nsIn K mainGlobals "_law_rules" = some (some (.ref f15)))
  (l15 : K.lookup f15 = some ⟨oc15, od15, .func (PySem.W.fnOf "_law_rules" "_law_rules" (defArgs sRs) (defBody sRs) (defScope sRs) .none kV15 dc15 pm15 an15 cd15 ct15), sl15⟩)
  (c_15 : PySem.W.codeIn K cd15 "_law_rules" = true)
  (k15 : PySem.W.keepIn K (.ref f15) = true)
  (a16 : PySem.W.nsIn K mainGlobals "_law_game" = some (some (.ref f16)))
  (l16 : K.lookup f16 = some ⟨oc16, od16, .func (PySem.W.fnOf "_law_game" "_law_game" (defArgs sGa) (defBody sGa) (defScope sGa) .none kV16 dc16 pm16 an16 cd16 ct16), sl16⟩)
  (c_16 : PySem.W.codeIn K cd16 "_law_game" = true)
  (k16 : PySem.W.keepIn K (.ref f16) = true)
  (a17 : PySem.W.nsIn K mainGlobals "_law_refused" = some (some (.ref f17)))
  (l17 : K.lookup f17 = some ⟨oc17, od17, .func (PySem.W.fnOf "_law_refused" "_law_refused" (defArgs sRf) (defBody sRf) (defScope sRf) .none kV17 dc17 pm17 an17 cd17 ct17), sl17⟩)
  (c_17 : PySem.W.codeIn K cd17 "_law_refused" = true)
  (k17 : PySem.W.keepIn K (.ref f17) = true)
  (a18 : PySem.W.nsIn K mainGlobals "_law_fits" = some (some (.ref f18)))
  (l18 : K.lookup f18 = some ⟨oc18, od18, .func (PySem.W.fnOf "_law_fits" "_law_fits" (defArgs sFi) (defBody sFi) (defScope sFi) .none kV18 dc18 pm18 an18 cd18 ct18), sl18⟩)
  (c_18 : PySem.W.codeIn K cd18 "_law_fits" = true)
  (k18 : PySem.W.keepIn K (.ref f18) = true)
  (a19 : PySem.W.nsIn K mainGlobals "_law_told_turned" = some (some (.ref f19)))
  (l19 : K.lookup f19 = some ⟨oc19, od19, .func (PySem.W.fnOf "_law_told_turned" "_law_told_turned" (defArgs sTt) (defBody sTt) (defScope sTt) .none kV19 dc19 pm19 an19 cd19 ct19), sl19⟩)
  (c_19 : PySem.W.codeIn K cd19 "_law_told_turned" = true)
  (k19 : PySem.W.keepIn K (.ref f19) = true)
  (a20 : PySem.W.nsIn K mainGlobals "_law_told_renamed" = some (some (.ref f20)))
  (l20 : K.lookup f20 = some ⟨oc20, od20, .func (PySem.W.fnOf "_law_told_renamed" "_law_told_renamed" (defArgs sTr) (defBody sTr) (defScope sTr) .none kV20 dc20 pm20 an20 cd20 ct20), sl20⟩)
  (c_20 : PySem.W.codeIn K cd20 "_law_told_renamed" = true)
  (k20 : PySem.W.keepIn K (.ref f20) = true)
  (a21 : PySem.W.nsIn K mainGlobals "_law_turned_right" = some (some (.ref f21)))
  (l21 : K.lookup f21 = some ⟨oc21, od21, .func (PySem.W.fnOf "_law_turned_right" "_law_turned_right" (defArgs sYt) (defBody sYt) (defScope sYt) .none kV21 dc21 pm21 an21 cd21 ct21), sl21⟩)
  (c_21 : PySem.W.codeIn K cd21 "_law_turned_right" = true)
  (k21 : PySem.W.keepIn K (.ref f21) = true)
  (a22 : PySem.W.nsIn K mainGlobals "_law_renamed_right" = some (some (.ref f22)))
  (l22 : K.lookup f22 = some ⟨oc22, od22, .func (PySem.W.fnOf "_law_renamed_right" "_law_renamed_right" (defArgs sYr) (defBody sYr) (defScope sYr) .none kV22 dc22 pm22 an22 cd22 ct22), sl22⟩)
  (c_22 : PySem.W.codeIn K cd22 "_law_renamed_right" = true)
  (k22 : PySem.W.keepIn K (.ref f22) = true)
  (a23 : PySem.W.nsIn K mainGlobals "_law_called" = some (some (.ref f23)))
  (l23 : K.lookup f23 = some ⟨oc23, od23, .func (PySem.W.fnOf "_law_called" "_law_called" (defArgs sCa) (defBody sCa) (defScope sCa) .none kV23 dc23 pm23 an23 cd23 ct23), sl23⟩)
  (c_23 : PySem.W.codeIn K cd23 "_law_called" = true)
  (k23 : PySem.W.keepIn K (.ref f23) = true)
  (a24 : PySem.W.nsIn K mainGlobals "law" = some (some (.ref f24)))
  (l24 : K.lookup f24 = some ⟨oc24, od24, .func (PySem.W.fnOf "law" "law" (defArgs sLaw) (defBody sLaw) (defScope sLaw) .none kV24 dc24 pm24 an24 cd24 ct24), sl24⟩)
  (c_24 : PySem.W.codeIn K cd24 "law" = true)
  (k24 : PySem.W.keepIn K (.ref f24) = true)
  (u_c0 : PySem.W.nsIn K mainGlobals "NoText" = some (some (.ref c0)))
  (u_c1 : PySem.W.nsIn K mainGlobals "NoGame" = some (some (.ref c1)))
  (u_c2 : PySem.W.nsIn K mainGlobals "NoSaying" = some (some (.ref c2)))
  (u_c3 : PySem.W.nsIn K mainGlobals "TooMany" = some (some (.ref c3)))
  (u_c4 : PySem.W.nsIn K mainGlobals "NoPaper" = some (some (.ref c4)))
  (u_c5 : PySem.W.nsIn K mainGlobals "NoFit" = some (some (.ref c5)))
  (u_c6 : PySem.W.nsIn K mainGlobals "NoProgram" = some (some (.ref c6)))
  (u_c7 : PySem.W.nsIn K mainGlobals "NoRow" = some (some (.ref c7)))
  (u_D : PySem.W.nsIn K mainGlobals "DuelError" = some (some (.ref D)))
  (e_c1 : errIn K c1 D [] = true)
  (i_c1 : PySem.W.findIn K (.ref c1) "__init__" = some (some (.ref gc1)))
  (n_c1 : PySem.W.isFn K (.ref gc1) = true)
  (l_c1 : K.lookup gc1 = some ⟨occ1, odc1, .func (PySem.W.fnOf "__init__" "NoGame.__init__" (defArgs sic1) (defBody sic1) (defScope sic1) .none kVc1 dcc1 pmc1 anc1 cdc1 ctc1), slc1⟩)
  (c_c1 : PySem.W.codeIn K cdc1 "NoGame.__init__" = true)
  (k_c1 : PySem.W.keepIn K (.ref gc1) = true)
  (na_c1_word : PySem.W.findIn K (.ref c1) "word" = some none)
  (na_c1_at : PySem.W.findIn K (.ref c1) "at" = some none)
  (e_c5 : errIn K c5 D [c1, c4, c6, c7, c2, c0, c3] = true)
  (i_c5 : PySem.W.findIn K (.ref c5) "__init__" = some (some (.builtin "ValueError.__init__")))
  (z_isinstance : PySem.W.nsIn K mainGlobals "isinstance" = some none)
  (z_bool : PySem.W.nsIn K mainGlobals "bool" = some none)
  (z_len : PySem.W.nsIn K mainGlobals "len" = some none)
  (z_range : PySem.W.nsIn K mainGlobals "range" = some none)
  (z_enumerate : PySem.W.nsIn K mainGlobals "enumerate" = some none)
  (z_all : PySem.W.nsIn K mainGlobals "all" = some none)
  (z_tuple : PySem.W.nsIn K mainGlobals "tuple" = some none)
  (z_zip : PySem.W.nsIn K mainGlobals "zip" = some none)
  (z_max : PySem.W.nsIn K mainGlobals "max" = some none)
  (z_list : PySem.W.nsIn K mainGlobals "list" = some none)
  (z_reversed : PySem.W.nsIn K mainGlobals "reversed" = some none)
  (z_int : PySem.W.nsIn K mainGlobals "int" = some none)
  (z_ValueError : PySem.W.nsIn K mainGlobals "ValueError" = some none)
  (z_set : PySem.W.nsIn K mainGlobals "set" = some none)
  (z_repr : PySem.W.nsIn K mainGlobals "repr" = some none)
  (y1 : PySem.W.nsIn K mainGlobals "MOST_PLACES" = some (some (.int 3 t1)))
  (y2 : PySem.W.nsIn K mainGlobals "MOST_LETTERS" = some (some (.int 3 t2)))
  (y3 : PySem.W.nsIn K mainGlobals "MOST_RULES" = some (some (.int 8 t3)))
  (y4 : PySem.W.nsIn K mainGlobals "MOST_PUSHES" = some (some (.int 3 t4)))
  (y5 : PySem.W.nsIn K mainGlobals "MOST_ANSWERS" = some (some (.int 2 t5)))
  (y6 : PySem.W.nsIn K mainGlobals "OTHER_HAND" = some (some (.int 1 t6))) :
  ∃ fd : FuncData, (∀ (s : Shared) (v : Value), BindsTo s fd ⟨[v], []⟩ [("_law_script", v)]) /\ ∀ base : Heap, K.In base -> base.Ns mainGlobals mg -> FnOk l.prog w K mg base CX0 65 fa fd ["_law_script"] (spLaw K) := by
 have e := hfa.symm.trans (PySem.W.mg_of X G a24)
 cases e
 have F1 := fun_mk (st := sIt) l1 c_1 k1
 have F2 := fun_mk (st := sLk) l2 c_2 k2
 have F3 := fun_mk (st := sLs) l3 c_3 k3
 have F4 := fun_mk (st := sLu) l4 c_4 k4
 have F5 := fun_mk (st := sLr) l5 c_5 k5
 have F6 := fun_mk (st := sHp) l6 c_6 k6
 have F7 := fun_mk (st := sIp) l7 c_7 k7
 have F8 := fun_mk (st := sTu) l8 c_8 k8
 have F9 := fun_mk (st := sRn) l9 c_9 k9
 have F10 := fun_mk (st := sFt) l10 c_10 k10
 have F11 := fun_mk (st := sDe) l11 c_11 k11
 have F12 := fun_mk (st := sDr) l12 c_12 k12
 have F13 := fun_mk (st := sNa) l13 c_13 k13
 have F14 := fun_mk (st := sRu) l14 c_14 k14
 have F15 := fun_mk (st := sRs) l15 c_15 k15
 have F16 := fun_mk (st := sGa) l16 c_16 k16
 have F17 := fun_mk (st := sRf) l17 c_17 k17
 have F18 := fun_mk (st := sFi) l18 c_18 k18
 have F19 := fun_mk (st := sTt) l19 c_19 k19
 have F20 := fun_mk (st := sTr) l20 c_20 k20
 have F21 := fun_mk (st := sYt) l21 c_21 k21
 have F22 := fun_mk (st := sYr) l22 c_22 k22
 have F23 := fun_mk (st := sCa) l23 c_23 k23
 have F24 := fun_mk (st := sLaw) l24 c_24 k24
 have Fc1 := fun_mk (st := sic1) l_c1 c_c1 k_c1
 have b1 := F1.binds (ps := ["number", "many"]) fun _ _ _ _ _ _ us hl => by obtain ⟨a0, a1, rfl⟩ := len_2 hl; rfl
 have b2 := F2.binds (ps := ["game"]) fun _ _ _ _ _ _ us hl => by obtain ⟨a0, rfl⟩ := len_1 hl; rfl
 have b3 := F3.binds (ps := ["word", "many", "most"]) fun _ _ _ _ _ _ us hl => by obtain ⟨a0, a1, a2, rfl⟩ := len_3 hl; rfl
 have b4 := F4.binds (ps := ["names"]) fun _ _ _ _ _ _ us hl => by obtain ⟨a0, rfl⟩ := len_1 hl; rfl
 have b5 := F5.binds (ps := ["game", "number"]) fun _ _ _ _ _ _ us hl => by obtain ⟨a0, a1, rfl⟩ := len_2 hl; rfl
 have b6 := F6.binds (ps := ["game", "rule"]) fun _ _ _ _ _ _ us hl => by obtain ⟨a0, a1, rfl⟩ := len_2 hl; rfl
 have b7 := F7.binds (ps := ["rule"]) fun _ _ _ _ _ _ us hl => by obtain ⟨a0, rfl⟩ := len_1 hl; rfl
 have b8 := F8.binds (ps := ["game"]) fun _ _ _ _ _ _ us hl => by obtain ⟨a0, rfl⟩ := len_1 hl; rfl
 have b9 := F9.binds (ps := ["game", "places", "letters"]) fun _ _ _ _ _ _ us hl => by obtain ⟨a0, a1, a2, rfl⟩ := len_3 hl; rfl
 have b10 := F10.binds (ps := ["places", "letters", "rules"]) fun _ _ _ _ _ _ us hl => by obtain ⟨a0, a1, a2, rfl⟩ := len_3 hl; rfl
 have b11 := F11.binds (ps := ["_law_script", "_law_base"]) fun _ _ _ _ _ _ us hl => by obtain ⟨a0, a1, rfl⟩ := len_2 hl; rfl
 have b12 := F12.binds (ps := ["_law_deal_here", "_law_many"]) fun _ _ _ _ _ _ us hl => by obtain ⟨a0, a1, rfl⟩ := len_2 hl; rfl
 have b13 := F13.binds (ps := ["_law_deal_here", "_law_many"]) fun _ _ _ _ _ _ us hl => by obtain ⟨a0, a1, rfl⟩ := len_2 hl; rfl
 have b14 := F14.binds (ps := ["_law_deal_here", "_law_sizes", "_law_found"]) fun _ _ _ _ _ _ us hl => by obtain ⟨a0, a1, a2, rfl⟩ := len_3 hl; rfl
 have b15 := F15.binds (ps := ["_law_deal_here", "_law_hands", "_law_letters", "_law_many", "_law_most"]) fun _ _ _ _ _ _ us hl => by obtain ⟨a0, a1, a2, a3, a4, rfl⟩ := len_5 hl; rfl
 have b16 := F16.binds (ps := ["_law_deal_here", "_law_sizes", "_law_hand"]) fun _ _ _ _ _ _ us hl => by obtain ⟨a0, a1, a2, rfl⟩ := len_3 hl; rfl
 have b17 := F17.binds (ps := ["_law_e"]) fun _ _ _ _ _ _ us hl => by obtain ⟨a0, rfl⟩ := len_1 hl; rfl
 have b18 := F18.binds (ps := ["_law_game_here"]) fun _ _ _ _ _ _ us hl => by obtain ⟨a0, rfl⟩ := len_1 hl; rfl
 have b19 := F19.binds (ps := ["_law_game_here"]) fun _ _ _ _ _ _ us hl => by obtain ⟨a0, rfl⟩ := len_1 hl; rfl
 have b20 := F20.binds (ps := ["_law_game_here", "_law_places", "_law_letters"]) fun _ _ _ _ _ _ us hl => by obtain ⟨a0, a1, a2, rfl⟩ := len_3 hl; rfl
 have b21 := F21.binds (ps := ["_law_game_here"]) fun _ _ _ _ _ _ us hl => by obtain ⟨a0, rfl⟩ := len_1 hl; rfl
 have b22 := F22.binds (ps := ["_law_game_here", "_law_places", "_law_letters"]) fun _ _ _ _ _ _ us hl => by obtain ⟨a0, a1, a2, rfl⟩ := len_3 hl; rfl
 have b23 := F23.binds (ps := ["_law_deal_here", "_law_names_here"]) fun _ _ _ _ _ _ us hl => by obtain ⟨a0, a1, rfl⟩ := len_2 hl; rfl
 have bc1 := Fc1.binds (ps := ["self", "word", "at"]) fun _ _ _ _ _ _ us hl => by obtain ⟨a0, a1, a2, rfl⟩ := len_3 hl; rfl
 have m_isinstance := PySem.W.mg_none_of X G z_isinstance
 have m_bool := PySem.W.mg_none_of X G z_bool
 have m_len := PySem.W.mg_none_of X G z_len
 have m_range := PySem.W.mg_none_of X G z_range
 have m_enumerate := PySem.W.mg_none_of X G z_enumerate
 have m_all := PySem.W.mg_none_of X G z_all
 have m_tuple := PySem.W.mg_none_of X G z_tuple
 have m_zip := PySem.W.mg_none_of X G z_zip
 have m_max := PySem.W.mg_none_of X G z_max
 have m_list := PySem.W.mg_none_of X G z_list
 have m_reversed := PySem.W.mg_none_of X G z_reversed
 have m_int := PySem.W.mg_none_of X G z_int
 have m_ValueError := PySem.W.mg_none_of X G z_ValueError
 have m_set := PySem.W.mg_none_of X G z_set
 have m_repr := PySem.W.mg_none_of X G z_repr
 have mc0 := PySem.W.mg_of X G u_c0
 have mc1 := PySem.W.mg_of X G u_c1
 have mc2 := PySem.W.mg_of X G u_c2
 have mc3 := PySem.W.mg_of X G u_c3
 have mc4 := PySem.W.mg_of X G u_c4
 have mc5 := PySem.W.mg_of X G u_c5
 have mc6 := PySem.W.mg_of X G u_c6
 have mc7 := PySem.W.mg_of X G u_c7
 have mD := PySem.W.mg_of X G u_D
 have er_c1 := err_of e_c1
 have er_c5 := err_of e_c5
 have mMP := PySem.W.mg_of X G y1
 have mML := PySem.W.mg_of X G y2
 have mMR := PySem.W.mg_of X G y3
 have mMH := PySem.W.mg_of X G y4
 have mMA := PySem.W.mg_of X G y5
 have mOH := PySem.W.mg_of X G y6
 refine ⟨PySem.W.fnOf "law" "law" (defArgs sLaw) (defBody sLaw) (defScope sLaw) .none kV24 dc24 pm24 an24 cd24 ct24, fun s v => .of_eq rfl, fun base _ _ => ?_⟩
 have x_c1 : XCal l.prog w K mg base 9 "NoGame" c1 ["word", "at"] := ⟨_, _, _, (ok_ic1 (P := l.prog) (w := w) (mg := mg) (base := base) (n := 0) Fc1 er_c1.xi.toXCls na_c1_word na_c1_at).mono (by decide), bc1, ⟨er_c1.xc, i_c1, n_c1, er_c1.kp⟩, mc1, er_c1.xi.toXCls.mb⟩
 have x_c5 : XNo K mg "NoFit" c5 := ⟨er_c5.xc, i_c5, er_c5.kp, er_c5.xi.toXCls.mb, mc5⟩
 have g1 := ok_it (P := l.prog) (w := w) (mg := mg) (base := base) (n := 0) F1 m_isinstance m_bool
 have q1 : VCal l.prog w K mg base 1 "is_there" ["number", "many"] _ := ⟨_, _, g1, b1, k1, PySem.W.mg_of X G a1⟩
 have g3 := ok_ls (P := l.prog) (w := w) (mg := mg) (base := base) (n := 9) F3 x_c1
 have q3 : VCalX l.prog w K mg base 11 "look_size" ["word", "many", "most"] _ := ⟨_, _, g3, b3, k3, PySem.W.mg_of X G a3⟩
 have g4 := ok_lu (P := l.prog) (w := w) (mg := mg) (base := base) (n := 9) F4 m_enumerate x_c1
 have q4 : VCalX l.prog w K mg base 11 "look_unlike" ["names"] _ := ⟨_, _, g4, b4, k4, PySem.W.mg_of X G a4⟩
 have g6 := ok_hp (P := l.prog) (w := w) (mg := mg) (base := base) (n := 1) F6 (q1.mono (by decide)) m_len m_all
 have q6 : VCal l.prog w K mg base 2 "has_its_parts" ["game", "rule"] _ := ⟨_, _, g6, b6, k6, PySem.W.mg_of X G a6⟩
 have g7 := ok_ip (P := l.prog) (w := w) (mg := mg) (base := base) (n := 0) F7 m_len
 have q7 : VCal l.prog w K mg base 1 "is_push" ["rule"] _ := ⟨_, _, g7, b7, k7, PySem.W.mg_of X G a7⟩
 have g5 := ok_lr (P := l.prog) (w := w) (mg := mg) (base := base) (n := 9) F5 (q6.mono (by decide)) (q7.mono (by decide)) m_len mMH mMA mOH x_c1
 have q5 : VCalX l.prog w K mg base 11 "look_rule" ["game", "number"] _ := ⟨_, _, g5, b5, k5, PySem.W.mg_of X G a5⟩
 have g2 := ok_lk (P := l.prog) (w := w) (mg := mg) (base := base) (n := 10) F2 (q3.mono (by decide)) (q4.mono (by decide)) (q5.mono (by decide)) m_len m_range mMP mML mMR (x_c1.mono (by decide))
 have q2 : VCalX l.prog w K mg base 12 "look" ["game"] _ := ⟨_, _, g2, b2, k2, PySem.W.mg_of X G a2⟩
 have g10 := ok_ft (P := l.prog) (w := w) (mg := mg) (base := base) (n := 11) F10 (q2.mono (by decide)) mc1 er_c1 x_c5
 have q10 : VCalX l.prog w K mg base 13 "fitting" ["places", "letters", "rules"] _ := ⟨_, _, g10, b10, k10, PySem.W.mg_of X G a10⟩
 have g8 := ok_tu (P := l.prog) (w := w) (mg := mg) (base := base) (n := 12) F8 (q10.mono (by decide)) m_tuple
 have q8 : VCalX l.prog w K mg base 14 "turned" ["game"] _ := ⟨_, _, g8, b8, k8, PySem.W.mg_of X G a8⟩
 have g9 := ok_rn (P := l.prog) (w := w) (mg := mg) (base := base) (n := 12) F9 (q10.mono (by decide)) m_len m_tuple m_zip x_c5
 have q9 : VCalX l.prog w K mg base 14 "renamed" ["game", "places", "letters"] _ := ⟨_, _, g9, b9, k9, PySem.W.mg_of X G a9⟩
 have g11 := ok_de (P := l.prog) (w := w) (mg := mg) (base := base) (n := 0) F11 m_max m_list m_reversed
 have q11 : VCal l.prog w K mg base 1 "_law_deal" ["_law_script", "_law_base"] _ := ⟨_, _, g11, b11, k11, PySem.W.mg_of X G a11⟩
 have g12 := ok_dr (P := l.prog) (w := w) (mg := mg) (base := base) (n := 0) F12 m_len
 have q12 : VCal l.prog w K mg base 1 "_law_draw" ["_law_deal_here", "_law_many"] _ := ⟨_, _, g12, b12, k12, PySem.W.mg_of X G a12⟩
 have g13 := ok_na (P := l.prog) (w := w) (mg := mg) (base := base) (n := 1) F13 (q12.mono (by decide)) m_range m_len m_int
 have q13 : VCal l.prog w K mg base 2 "_law_names" ["_law_deal_here", "_law_many"] _ := ⟨_, _, g13, b13, k13, PySem.W.mg_of X G a13⟩
 have g14 := ok_ru (P := l.prog) (w := w) (mg := mg) (base := base) (n := 1) F14 (q12.mono (by decide)) m_len m_tuple m_range
 have q14 : VCal l.prog w K mg base 2 "_law_rule" ["_law_deal_here", "_law_sizes", "_law_found"] _ := ⟨_, _, g14, b14, k14, PySem.W.mg_of X G a14⟩
 have g15 := ok_rs (P := l.prog) (w := w) (mg := mg) (base := base) (n := 2) F15 (q14.mono (by decide)) m_range m_len m_tuple
 have q15 : VCal l.prog w K mg base 3 "_law_rules" ["_law_deal_here", "_law_hands", "_law_letters", "_law_many", "_law_most"] _ := ⟨_, _, g15, b15, k15, PySem.W.mg_of X G a15⟩
 have g16 := ok_ga (P := l.prog) (w := w) (mg := mg) (base := base) (n := 3) F16 (q12.mono (by decide)) (q13.mono (by decide)) (q15.mono (by decide)) m_range m_int m_len m_tuple m_zip
 have q16 : VCal l.prog w K mg base 4 "_law_game" ["_law_deal_here", "_law_sizes", "_law_hand"] _ := ⟨_, _, g16, b16, k16, PySem.W.mg_of X G a16⟩
 have g17 := ok_rf (P := l.prog) (w := w) (mg := mg) (base := base) (n := 0) F17 m_isinstance m_ValueError mc0 mc1 mc2 mc3 mc4 mc5 mc6 mc7 er_c5
 have q17 : VCalW l.prog w K mg base 1 "_law_refused" ["_law_e"] _ := ⟨_, _, g17, b17, k17, PySem.W.mg_of X G a17⟩
 have g18 := ok_fi (P := l.prog) (w := w) (mg := mg) (base := base) (n := 0) F18 m_len m_set m_enumerate m_all
 have q18 : VCal l.prog w K mg base 1 "_law_fits" ["_law_game_here"] _ := ⟨_, _, g18, b18, k18, PySem.W.mg_of X G a18⟩
 have g19 := ok_tt (P := l.prog) (w := w) (mg := mg) (base := base) (n := 14) F19 (q8.mono (by decide)) (q17.mono (by decide)) mD er_c5
 have q19 : VCal l.prog w K mg base 15 "_law_told_turned" ["_law_game_here"] _ := ⟨_, _, g19, b19, k19, PySem.W.mg_of X G a19⟩
 have g20 := ok_tr (P := l.prog) (w := w) (mg := mg) (base := base) (n := 14) F20 (q9.mono (by decide)) (q17.mono (by decide)) mD er_c5
 have q20 : VCal l.prog w K mg base 15 "_law_told_renamed" ["_law_game_here", "_law_places", "_law_letters"] _ := ⟨_, _, g20, b20, k20, PySem.W.mg_of X G a20⟩
 have g21 := ok_yt (P := l.prog) (w := w) (mg := mg) (base := base) (n := 15) F21 (q18.mono (by decide)) (q19.mono (by decide)) m_tuple m_repr
 have q21 : VCal l.prog w K mg base 16 "_law_turned_right" ["_law_game_here"] _ := ⟨_, _, g21, b21, k21, PySem.W.mg_of X G a21⟩
 have g22 := ok_yr (P := l.prog) (w := w) (mg := mg) (base := base) (n := 15) F22 (q18.mono (by decide)) (q20.mono (by decide)) m_len m_tuple m_zip m_repr
 have q22 : VCal l.prog w K mg base 16 "_law_renamed_right" ["_law_game_here", "_law_places", "_law_letters"] _ := ⟨_, _, g22, b22, k22, PySem.W.mg_of X G a22⟩
 have g23 := ok_ca (P := l.prog) (w := w) (mg := mg) (base := base) (n := 2) F23 (q12.mono (by decide)) (q13.mono (by decide)) m_len m_list m_tuple
 have q23 : VCal l.prog w K mg base 3 "_law_called" ["_law_deal_here", "_law_names_here"] _ := ⟨_, _, g23, b23, k23, PySem.W.mg_of X G a23⟩
 have g24 := ok_law (P := l.prog) (w := w) (mg := mg) (base := base) (n := 16) F24 (q11.mono (by decide)) (q16.mono (by decide)) (q23.mono (by decide)) (q21.mono (by decide)) (q22.mono (by decide)) m_tuple m_range m_all
 exact g24.mono (by decide)
theorem walk {l : PySem.W.OpenLaw} {q : Program} {loose : List Str} {XP : (Str -> Option Value) -> Heap -> Prop} {YP : World -> Heap -> Prop} {d : DefRec} {K : Params -> PySem.W.Frag} (hn : l.most = some 63) (hdf : d.params.defaults = [])
  (hY : ∀ (w : World) (h : Heap), YP w h -> (K w.params).In h)
  (F : ∀ (w : World) (mg : Str -> Option Value) (fa : Addr) (h : Heap), (K w.params).In h -> h.Ns mainGlobals mg -> mg d.name = some (.ref fa) ->
   ∃ fd : FuncData, (∀ (s : Shared) (u : Value), BindsTo s fd ⟨[u], []⟩ [("_law_script", u)]) /\ ∀ base : Heap, (K w.params).In base -> base.Ns mainGlobals mg -> FnOk l.prog w (K w.params) mg base CX0 65 fa fd ["_law_script"] (spLaw (K w.params))) :
  PySem.W.WalkO q loose XP YP l.row.toRowW d [] (fun f vs => PySem.call f vs) :=
 L2.walk_of (n := 63) (k := 65) (x := "_law_script") (CX := fun _ => CX0) (sp := fun w => spLaw (K w.params)) hn (by decide) hdf ⟨rfl, by decide, by decide, rfl⟩ hY F (fun _ _ a ns hl hO hS => ⟨a, ns, rfl, hS, hO, hl, fun _ => rfl⟩) fun _ _ _ _ _ z => z
end K46
theorem PySem.W.Fast.tw8158691623110485068 : True := trivial
theorem PySem.W.Fast.tw17843462591443458564 : True := trivial
theorem PySem.W.Fast.tw16241394917400423081 : True := trivial
theorem PySem.W.Fast.tw5279569393100179450 : True := trivial
theorem PySem.W.Fast.tw17127238071006736717 : True := trivial
theorem PySem.W.Fast.tw13868413422578139813 : True := trivial
theorem PySem.W.Fast.tw9734914091226188089 : True := trivial
theorem PySem.W.Fast.tw8247293043875626235 : True := trivial
theorem PySem.W.Fast.tw5047160877098316912 : True := trivial
theorem PySem.W.Fast.tw12661223994067005216 : True := trivial
theorem PySem.W.Fast.tw4490127082038162654 : True := trivial
theorem PySem.W.Fast.tw8255740708854170117 : True := trivial
theorem PySem.W.Fast.tw13335191930063143803 : True := trivial
theorem PySem.W.Fast.tw134501868216886435 : True := trivial
theorem PySem.W.Fast.tw14818093003220191830 : True := trivial
theorem PySem.W.Fast.tw12336813770059881952 : True := trivial
theorem PySem.W.Fast.tw16627136063034447247 : True := trivial
theorem PySem.W.Fast.tw15804346928154822363 : True := trivial
theorem PySem.W.Fast.tw3692494508002992690 : True := trivial
theorem PySem.W.Fast.tw13817231225142108770 : True := trivial
theorem PySem.W.Fast.tw14108911067428534100 : True := trivial
theorem PySem.W.Fast.tw1943238028998206869 : True := trivial
theorem PySem.W.Fast.tw9196126151801345689 : True := trivial
theorem PySem.W.Fast.tw2131724916935189584 : True := trivial
theorem PySem.W.Fast.tw16045565679444226428 : True := trivial
theorem PySem.W.Fast.tw13706321109735455720 : True := trivial
theorem PySem.W.Fast.tw17338125888562035461 : True := trivial
theorem PySem.W.Fast.tw10024572245727077736 : True := trivial
theorem PySem.W.Fast.tw10524340258905064857 : True := trivial
theorem PySem.W.Fast.tw17784732916203859385 : True := trivial
theorem PySem.W.Fast.tw11729974667949979643 : True := trivial
theorem PySem.W.Fast.tw6273631263520017712 : True := trivial
theorem PySem.W.Fast.tw5469669966681713220 : True := trivial
theorem PySem.W.Fast.tw11906211485788883647 : True := trivial
theorem PySem.W.Fast.tw10091839615070589429 : True := trivial
theorem PySem.W.Fast.tw14943040936098458468 : True := trivial
theorem PySem.W.Fast.tw175994772595611783 : True := trivial
theorem PySem.W.Fast.tw9065899556444161256 : True := trivial
theorem PySem.W.Fast.tw14573298798413232659 : True := trivial
theorem PySem.W.Fast.tw13540778203570809159 : True := trivial
theorem PySem.W.Fast.tw18180271280026099075 : True := trivial
theorem PySem.W.Fast.tw2452475684450584792 : True := trivial
theorem PySem.W.Fast.tw15987764647982147392 : True := trivial
theorem PySem.W.Fast.tw14292695136603061098 : True := trivial
theorem PySem.W.Fast.tw975271981535965073 : True := trivial
theorem PySem.W.Fast.tw9761486473662552712 : True := trivial
theorem PySem.W.Fast.tw5104132616835937251 : True := trivial
theorem PySem.W.Fast.tw4944759063035994150 : True := trivial
theorem PySem.W.Fast.tw7026633452883694729 : True := trivial
theorem PySem.W.Fast.tw17948938725844033368 : True := trivial
theorem PySem.W.Fast.tw9197093595351031054 : True := trivial
theorem PySem.W.Fast.tw10264231014937362041 : True := trivial
theorem PySem.W.Fast.tw836197919681661892 : True := trivial
theorem PySem.W.Fast.tw8475775055882883845 : True := trivial
theorem PySem.W.Fast.tw1480052630477479754 : True := trivial
theorem PySem.W.Fast.tw10834793923382178124 : True := trivial
theorem PySem.W.Fast.tw11269425074045103951 : True := trivial
theorem PySem.W.Fast.tw14909912180296340235 : True := trivial
theorem PySem.W.Fast.tw2246882485690502835 : True := trivial
theorem PySem.W.Fast.tw146680824941680287 : True := trivial
theorem PySem.W.Fast.tw13692323448355497607 : True := trivial
theorem PySem.W.Fast.tw16869686902402756764 : True := trivial
theorem PySem.W.Fast.tw13968630242054401337 : True := trivial
theorem PySem.W.Fast.tw6063681300804512792 : True := trivial
theorem PySem.W.Fast.tw60207643950105567 : True := trivial
theorem PySem.W.Fast.tw15469230101161005177 : True := trivial
theorem PySem.W.Fast.tw17519264623655570488 : True := trivial
theorem PySem.W.Fast.tw8840798179183945285 : True := trivial
theorem PySem.W.Fast.tw9219723830006880752 : True := trivial
theorem PySem.W.Fast.tw12877515199354756417 : True := trivial
theorem PySem.W.Fast.tw15309506583803395576 : True := trivial
theorem PySem.W.Fast.tw157310223049901544 : True := trivial
theorem PySem.W.Fast.tw405401008690299999 : True := trivial
theorem PySem.W.Fast.tw13465701389834623295 : True := trivial
theorem PySem.W.Fast.tw2333534141661784288 : True := trivial
theorem PySem.W.Fast.tw17142511125634720126 : True := trivial
theorem PySem.W.Fast.tw14766599471080517264 : True := trivial
theorem PySem.W.Fast.tw13001914510886340320 : True := trivial
theorem PySem.W.Fast.tw3645782718452912634 : True := trivial
theorem PySem.W.Fast.tw17230243635788956472 : True := trivial
theorem PySem.W.Fast.tw14231954158729559218 : True := trivial
theorem PySem.W.Fast.tw198711992488435291 : True := trivial
theorem PySem.W.Fast.tw10778696186568239704 : True := trivial
theorem PySem.W.Fast.tw3930021402118210816 : True := trivial
theorem PySem.W.Fast.tw9924349324354661268 : True := trivial
theorem PySem.W.Fast.tw15553389822101792515 : True := trivial
theorem PySem.W.Fast.tw14004435314900643811 : True := trivial
theorem PySem.W.Fast.tw8857683455159243249 : True := trivial
theorem PySem.W.Fast.tw13117750539933699992 : True := trivial
open PySem PySem.W PyProof.Rows
set_option maxRecDepth 100000 in
set_option maxHeartbeats 0 in
theorem PySem.Challenge.cw_pileduel_k46_turned_and_renamed_holds : PySem.Challenge.rw_pileduel_k46_turned_and_renamed.Holds := by
 w_on; o_law; k_head; (case hw => w_witness2)
 k_fill
 refine K46.walk (l := PySem.Challenge.rw_pileduel_k46_turned_and_renamed) rfl rfl (fun w h Y => PySem.W.kIn_of Y) ?F
 case F =>
  intro w mg fa h KX G hmg
  refine' K46.all_mk KX G hmg ?a1 ?l1 ?c_1 ?k1 ?a2 ?l2 ?c_2 ?k2 ?a3 ?l3 ?c_3 ?k3 ?a4 ?l4 ?c_4 ?k4 ?a5 ?l5 ?c_5 ?k5 ?a6 ?l6 ?c_6 ?k6 ?a7 ?l7 ?c_7 ?k7 ?a8 ?l8 ?c_8 ?k8 ?a9 ?l9 ?c_9 ?k9 ?a10 ?l10 ?c_10 ?k10 ?a11 ?l11 ?c_11 ?k11 ?a12 ?l12 ?c_12 ?k12 ?a13 ?l13 ?c_13 ?k13 ?a14 ?l14 ?c_14 ?k14 ?a15 ?l15 ?c_15 ?k15 ?a16 ?l16 ?c_16 ?k16 ?a17 ?l17 ?c_17 ?k17 ?a18 ?l18 ?c_18 ?k18 ?a19 ?l19 ?c_19 ?k19 ?a20 ?l20 ?c_20 ?k20 ?a21 ?l21 ?c_21 ?k21 ?a22 ?l22 ?c_22 ?k22 ?a23 ?l23 ?c_23 ?k23 ?a24 ?l24 ?c_24 ?k24 ?u_c0 ?u_c1 ?u_c2 ?u_c3 ?u_c4 ?u_c5 ?u_c6 ?u_c7 ?u_D ?e_c1 ?i_c1 ?n_c1 ?l_c1 ?c_c1 ?k_c1 ?na_c1_word ?na_c1_at ?e_c5 ?i_c5 ?z_isinstance ?z_bool ?z_len ?z_range ?z_enumerate ?z_all ?z_tuple ?z_zip ?z_max ?z_list ?z_reversed ?z_int ?z_ValueError ?z_set ?z_repr ?y1 ?y2 ?y3 ?y4 ?y5 ?y6
  (case a1 => k_is)
  (case l1 => k_is)
  (case c_1 => k_is)
  (case k1 => k_is)
  (case a2 => k_is)
  (case l2 => k_is)
  (case c_2 => k_is)
  (case k2 => k_is)
  (case a3 => k_is)
  (case l3 => k_is)
  (case c_3 => k_is)
  (case k3 => k_is)
  (case a4 => k_is)
  (case l4 => k_is)
  (case c_4 => k_is)
  (case k4 => k_is)
  (case a5 => k_is)
  (case l5 => k_is)
  (case c_5 => k_is)
  (case k5 => k_is)
  (case a6 => k_is)
  (case l6 => k_is)
  (case c_6 => k_is)
  (case k6 => k_is)
  (case a7 => k_is)
  (case l7 => k_is)
  (case c_7 => k_is)
  (case k7 => k_is)
  (case a8 => k_is)
  (case l8 => k_is)
  (case c_8 => k_is)
  (case k8 => k_is)
  (case a9 => k_is)
  (case l9 => k_is)
  (case c_9 => k_is)
  (case k9 => k_is)
  (case a10 => k_is)
  (case l10 => k_is)
  (case c_10 => k_is)
  (case k10 => k_is)
  (case a11 => k_is)
  (case l11 => k_is)
  (case c_11 => k_is)
  (case k11 => k_is)
  (case a12 => k_is)
  (case l12 => k_is)
  (case c_12 => k_is)
  (case k12 => k_is)
  (case a13 => k_is)
  (case l13 => k_is)
  (case c_13 => k_is)
  (case k13 => k_is)
  (case a14 => k_is)
  (case l14 => k_is)
  (case c_14 => k_is)
  (case k14 => k_is)
  (case a15 => k_is)
  (case l15 => k_is)
  (case c_15 => k_is)
  (case k15 => k_is)
  (case a16 => k_is)
  (case l16 => k_is)
  (case c_16 => k_is)
  (case k16 => k_is)
  (case a17 => k_is)
  (case l17 => k_is)
  (case c_17 => k_is)
  (case k17 => k_is)
  (case a18 => k_is)
  (case l18 => k_is)
  (case c_18 => k_is)
  (case k18 => k_is)
  (case a19 => k_is)
  (case l19 => k_is)
  (case c_19 => k_is)
  (case k19 => k_is)
  (case a20 => k_is)
  (case l20 => k_is)
  (case c_20 => k_is)
  (case k20 => k_is)
  (case a21 => k_is)
  (case l21 => k_is)
  (case c_21 => k_is)
  (case k21 => k_is)
  (case a22 => k_is)
  (case l22 => k_is)
  (case c_22 => k_is)
  (case k22 => k_is)
  (case a23 => k_is)
  (case l23 => k_is)
  (case c_23 => k_is)
  (case k23 => k_is)
  (case a24 => k_is)
  (case l24 => k_is)
  (case c_24 => k_is)
  (case k24 => k_is)
  (case u_c0 => k_is)
  (case u_c1 => k_is)
  (case u_c2 => k_is)
  (case u_c3 => k_is)
  (case u_c4 => k_is)
  (case u_c5 => k_is)
  (case u_c6 => k_is)
  (case u_c7 => k_is)
  (case u_D => k_is)
  (case e_c1 => kernel_rfl)
  (case i_c1 => k_is)
  (case n_c1 => k_is)
  (case l_c1 => k_is)
  (case c_c1 => k_is)
  (case k_c1 => k_is)
  (case na_c1_word => k_is)
  (case na_c1_at => k_is)
  (case e_c5 => kernel_rfl)
  (case i_c5 => k_is)
  (case z_isinstance => k_is)
  (case z_bool => k_is)
  (case z_len => k_is)
  (case z_range => k_is)
  (case z_enumerate => k_is)
  (case z_all => k_is)
  (case z_tuple => k_is)
  (case z_zip => k_is)
  (case z_max => k_is)
  (case z_list => k_is)
  (case z_reversed => k_is)
  (case z_int => k_is)
  (case z_ValueError => k_is)
  (case z_set => k_is)
  (case z_repr => k_is)
  (case y1 => k_is)
  (case y2 => k_is)
  (case y3 => k_is)
  (case y4 => k_is)
  (case y5 => k_is)
  (case y6 => k_is)
