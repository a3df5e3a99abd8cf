import PyProof.Rows.All
import Wide.All
import OpenK.AllK
import Wide.FinOn
import Lean
import PyProof.EqAt
import PyProof.EqKinds
import PyProof.TupleCall
import PyProof.CompFree
import PyProof.CompUse
import PyProof.CollectIter
import PyProof.ListNew
import KE.KRevIter
import PyProof.EnumMake
import PyProof.Draws
import PyProof.TupleIter
import PyProof.WalksMore
import PyProof.ReprRoads
import PyProof.P3Eq
import PyProof.NeData
import PyProof.EqLayable
import PyProof.Rows.RegFStrParts
import PyProof.AutoListH
import KE.KItemsList
import KE.KDictList
import PyProof.StrBlockG
import PyProof.StrLawsOcc
import PyProof.StrLawsTight
import PyProof.StrLawsChain
import PyProof.Rows.Range3
import PyProof.MinMaxWalk
import PyProof.WalkInts
import PyProof.ExcClass3
import PyProof.ExcInit
import PyProof.InstStoreFacts
import PyProof.ExcArgsOwn
import KE.KIsAll
import PyProof.RaisesMany
import PyProof.RulesTry
import PyProof.Raises
import PyProof.RulesAs
import PyProof.NsDelKeeps
import PyProof.PassesOwn
import PyProof.Rows.CatchHere
import PySem.Challenge.RW_pileduel_k52_programs_looked_at
set_option Elab.async false
set_option linter.all false
set_option maxRecDepth 100000
namespace L2
open PySem PySem.Spec PyProof.Rows
abbrev Key := Sum Int Str
def keyIs : Key → Value → Bool
  | .inl k, v => Value.isInt k v
  | .inr x, v => Value.isStrOf x v
def keyH (w : World) : Key → Int
  | .inl k => hashInt k
  | .inr x => hashStr w x
theorem keyIs_shape : ∀ {k : Key} {v : Value}, keyIs k v = true → (∃ i t, k = Sum.inl i ∧ v = Value.int i t) ∨ (∃ x t, k = Sum.inr x ∧ v = Value.str x t)
  | .inl i, v, h => by
    obtain ⟨t, e⟩ := Value.isInt_shape (k := i) (v := v) h
    exact .inl ⟨i, t, rfl, e⟩
  | .inr x, v, h => by
    obtain ⟨t, e⟩ := Value.isStrOf_shape (x := x) (v := v) h
    exact .inr ⟨x, t, rfl, e⟩
theorem keyIs_int (i : Int) (t : Tok) : keyIs (.inl i) (.int i t) = true := by simp [keyIs, Value.isInt]
theorem keyIs_str (x : Str) (t : Tok) : keyIs (.inr x) (.str x t) = true := by simp [keyIs, Value.isStrOf]
theorem key_ll (a b : Int) : decide ((Sum.inl a : Key) = Sum.inl b) = (a == b) := by
  by_cases e : a = b
  · subst e; simp
  · have h : ¬ (Sum.inl a : Key) = Sum.inl b := fun q => e (Sum.inl.inj q)
    rw [decide_eq_false h]
    exact (beq_eq_false_iff_ne.mpr e).symm
theorem key_rr (a b : Str) : decide ((Sum.inr a : Key) = Sum.inr b) = decide (a = b) := by
  by_cases e : a = b
  · subst e; simp
  · have h : ¬ (Sum.inr a : Key) = Sum.inr b := fun q => e (Sum.inr.inj q)
    rw [decide_eq_false h, decide_eq_false e]
theorem key_lr (a : Int) (b : Str) : decide ((Sum.inl a : Key) = Sum.inr b) = false := decide_eq_false (fun q => nomatch q)
theorem key_rl (a : Str) (b : Int) : decide ((Sum.inr a : Key) = Sum.inl b) = false := decide_eq_false (fun q => nomatch q)
def mixKind (prog : Program) (w : World) : PySem.KeyKind prog w Key where
  is := keyIs
  hash := keyH w
  inj := fun v a b ha hb => by
    rcases keyIs_shape ha with ⟨i, t, rfl, rfl⟩ | ⟨x, t, rfl, rfl⟩
    · rcases keyIs_shape hb with ⟨j, u, rfl, e⟩ | ⟨y, u, rfl, e⟩
      · injection e with e1 _; rw [e1]
      · exact nomatch e
    · rcases keyIs_shape hb with ⟨j, u, rfl, e⟩ | ⟨y, u, rfl, e⟩
      · exact nomatch e
      · injection e with e1 _; rw [e1]
  byValue := fun k v h => by
    rcases keyIs_shape h with ⟨i, t, rfl, rfl⟩ | ⟨x, t, rfl, rfl⟩ <;> rfl
  pyHash := fun hv h => by
    rcases keyIs_shape hv with ⟨i, t, rfl, rfl⟩ | ⟨x, t, rfl, rfl⟩
    · exact wpAny_pyHash_int h
    · exact wpAny_pyHash_str h
  eqBool := fun hu hv h => by
    rcases keyIs_shape hu with ⟨i, t, rfl, rfl⟩ | ⟨x, t, rfl, rfl⟩
    · rcases keyIs_shape hv with ⟨j, u, rfl, rfl⟩ | ⟨y, u, rfl, rfl⟩
      · rw [key_ll] at h; exact wpAny_eqBool_int h
      · rw [key_lr] at h; exact SeqAt.EqAt.int_str i t y u _ _ _ _ h
    · rcases keyIs_shape hv with ⟨j, u, rfl, rfl⟩ | ⟨y, u, rfl, rfl⟩
      · rw [key_rl] at h; exact SeqAt.EqAt.str_int x t j u _ _ _ _ h
      · rw [key_rr] at h; exact wpAny_eqBool_str h
  «strs» := fun k x t v h => by
    rcases keyIs_shape h with ⟨i, u, rfl, e⟩ | ⟨y, u, rfl, e⟩
    · exact nomatch e
    · injection e with e1 _
      subst e1
      cases v <;> rfl
theorem mixKind_int (prog : Program) (w : World) (i : Int) (t : Tok) : (mixKind prog w).is (.inl i) (.int i t) = true := keyIs_int i t
theorem mixKind_str (prog : Program) (w : World) (x : Str) (t : Tok) : (mixKind prog w).is (.inr x) (.str x t) = true := keyIs_str x t
end L2
namespace L2
open PySem PySem.Spec PyProof.Rows
inductive V where
  | non | bl (b : Bool) | int (i : Int) | str (x : Str) | byt (b : Array UInt8) | flt (b : UInt64) | ref (a : Addr) | ty (n : String)
  deriving DecidableEq
def RelV : V → Value → Prop
  | .non, u => u = Value.none
  | .bl b, u => u = Value.bool b
  | .int i, u => ∃ t, u = Value.int i t
  | .str x, u => ∃ t, u = Value.str x t
  | .byt b, u => ∃ t, u = Value.bytes b t
  | .flt b, u => ∃ t, u = Value.float b t
  | .ref a, u => u = Value.ref a
  | .ty n, u => u = Value.type n
abbrev Vals : List V → List Value → Prop := Paired RelV
theorem Vals.length {xs : List V} {us : List Value} (r : Vals xs us) : xs.length = us.length := Paired.length r
theorem Vals.get : ∀ {xs : List V} {us : List Value} {i : Nat} {x : V}, Vals xs us → xs[i]? = some x → ∃ u, us[i]? = some u ∧ RelV x u
  | _, _, _, _, .nil, e => by simp at e
  | _, _, 0, _, .cons r _, e => by simp at e; subst e; exact ⟨_, rfl, r⟩
  | _, _, i + 1, x, .cons _ t, e => by
    obtain ⟨u, h1, h2⟩ := Vals.get (i := i) (x := x) t (by simpa using e)
    exact ⟨u, by simpa using h1, h2⟩
theorem Vals.set {x : V} {u : Value} (r : RelV x u) : ∀ {xs : List V} {us : List Value} (i : Nat), Vals xs us → Vals (xs.set i x) (us.set i u)
  | _, _, _, .nil => .nil
  | _, _, 0, .cons _ t => .cons r t
  | _, _, i + 1, .cons q t => .cons q (Vals.set r i t)
theorem Vals.append : ∀ {xs ys : List V} {us ws : List Value}, Vals xs us → Vals ys ws → Vals (xs ++ ys) (us ++ ws)
  | _, _, _, _, .nil, s => s
  | _, _, _, _, .cons r t, s => .cons r (Vals.append t s)
theorem Vals.take : ∀ {xs : List V} {us : List Value} (n : Nat), Vals xs us → Vals (xs.take n) (us.take n)
  | _, _, 0, _ => .nil
  | _, _, _ + 1, .nil => .nil
  | _, _, n + 1, .cons r t => .cons r (Vals.take n t)
theorem Vals.drop : ∀ {xs : List V} {us : List Value} (n : Nat), Vals xs us → Vals (xs.drop n) (us.drop n)
  | _, _, 0, r => r
  | _, _, _ + 1, .nil => .nil
  | _, _, n + 1, .cons _ t => Vals.drop n t
def RelO : Option V → Option Value → Prop
  | some v, some u => RelV v u
  | none, none => True
  | _, _ => False
def KV {κ : Type} : List (κ × V) → List (κ × Value) → Prop := Paired fun (p : κ × V) (q : κ × Value) => p.1 = q.1 ∧ RelV p.2 q.2
def kV : Key → V
  | .inl i => .int i
  | .inr x => .str x
inductive HO where
  | lst (xs : List V)
  | tup (xs : List V)
  | dK (kvs : List (Key × V)) | dT (kvs : List (List Key × V))
  | set (S : Int → Bool) (n : Nat)
  | ins (C dx : Addr) (fs : List (Str × V))
  | own (x : Addr)
  | xd (fs : List (Str × V))
  | met (f x : Addr)
  | rng (lo hi : Int)
  | frz (o : Obj) (u : HO)
  | tbl (ps : Array Value)
  | ext (φ : Heap → Prop)
abbrev Hp := Addr → Option HO
def upd (H : Hp) (a : Addr) (o : HO) : Hp := fun b => if b = a then some o else H b
theorem upd_same {H : Hp} {a : Addr} {o : HO} : upd H a o a = some o := by unfold upd; rw [if_pos rfl]
theorem upd_ne {H : Hp} {a b : Addr} {o : HO} (h : b ≠ a) : upd H a o b = H b := by unfold upd; rw [if_neg h]
theorem ne_of {H : Hp} {a b : Addr} {o u : HO} (h : H a = some o) (h' : H b = some u) (d : o ≠ u) : a ≠ b := by
  intro e; subst e; rw [h] at h'; exact d (Option.some.inj h')
theorem ne_of_none {H : Hp} {a b : Addr} {o : HO} (h : H a = some o) (h' : H b = none) : a ≠ b := by
  intro e; subst e; rw [h] at h'; cases h'
section
variable (P : Program) (w : World)
def ObjOk (H : Hp) (h : Heap) (a : Addr) : HO → Prop
  | .lst xs => xs.length ≤ sizeLine ∧ ∃ (its : List Value) (n : Nat), Vals xs its ∧ h.get? a = some { cls := .type "list", data := .seq its.toArray n }
  | .tup xs => xs.length ≤ sizeLine ∧ ∃ its : List Value, Vals xs its ∧ IsTup h a its.toArray
  | .dK kvs => kvs.length ≤ sizeLine ∧ (a == sysModules) = false ∧ ∃ vs, KV kvs vs ∧ h.DictOf (mixKind P w) a vs
  | .dT kvs => kvs.length ≤ sizeLine ∧ (a == sysModules) = false ∧ ∃ xs : List (List Key × Addr × Value),
      Paired (fun (p : List Key × V) (q : List Key × Addr × Value) => p.1 = q.1 ∧ H q.2.1 = some (.tup (p.1.map kV)) ∧ RelV p.2 q.2.2) kvs xs ∧
      ∃ o es ep, h.get? a = some o ∧ o.ExactDict ∧ o.data = .dict es ep ∧ es.toList = xs.map (entryOfKey (tupleKind (mixKind P w))) ∧ (xs.map (·.1)).Nodup
  | .set S n => h.SetOf (intKind P w) a S n
  | .ins C dx fs => H dx = some (.own a) ∧ fs.length ≤ 1000 ∧ dx ≠ a ∧ h.get? a = some (PySem.W.instObj C dx) ∧
      ∃ mA, h.Ns1 dx mA ∧ (∀ f, RelO (fs.lookup f) (mA f)) ∧ PySem.Within mA (fs.map (·.1))
  | .own _ => ∃ o, h.get? a = some o
  | .xd fs => ∃ mA, h.Ns1 a mA ∧ ∀ f, RelO (fs.lookup f) (mA f)
  | .rng lo hi => ∃ t u v, h.get? a = some { cls := .type "range", data := .fields #[.int lo t, .int hi u, .int 1 v] }
  | .frz o u => h.get? a = some o ∧ ObjOk H h a u
  | .tbl ps => h.get? a = some { cls := .none, data := .fields ps }
  | .met f x => h.get? a = some (PySem.W.methodObj (.ref f) (.ref x))
  | .ext φ => φ h ∧ (∃ o, h.get? a = some o) ∧ ∀ h1 h2 : Heap, φ h1 → (∀ o, h1.get? a = some o → h2.get? a = some o) → φ h2
def HOk (H : Hp) (h : Heap) : Prop := ∀ a o, H a = some o → ObjOk P w H h a o
end
section
variable {P : Program} {w : World} {H H' : Hp} {h h' : Heap} {a : Addr} {o : HO}
theorem ObjOk.lt (x : ObjOk P w H h a o) : a < h.objs.size := by
  cases o with
  | lst xs => obtain ⟨_, _, _, _, e⟩ := x; exact Heap.lt_size e
  | tup xs => obtain ⟨_, _, _, p⟩ := x; exact p.lt
  | dK kvs => obtain ⟨_, _, _, _, o, _, _, e, _⟩ := x; exact Heap.lt_size e
  | dT kvs => obtain ⟨_, _, _, _, o, _, _, e, _⟩ := x; exact Heap.lt_size e
  | set S n => obtain ⟨o, _, _, _, e, _⟩ := x; exact Heap.lt_size e
  | ins C dx fs => obtain ⟨_, _, _, e, _⟩ := x; exact Heap.lt_size e
  | own y => obtain ⟨_, e⟩ := x; exact Heap.lt_size e
  | xd fs => obtain ⟨_, ⟨_, _, _, e, _⟩, _⟩ := x; exact Heap.lt_size e
  | rng lo hi => obtain ⟨_, _, _, e⟩ := x; exact Heap.lt_size e
  | frz ob u => obtain ⟨e, _⟩ := x; exact Heap.lt_size e
  | tbl ps => exact Heap.lt_size (show h.get? a = some _ from x)
  | met f y => exact Heap.lt_size (show h.get? a = some _ from x)
  | ext φ => obtain ⟨_, ⟨_, e⟩, _⟩ := x; exact Heap.lt_size e
theorem Paired.mapP {α β : Type} {F G : α → β → Prop} : ∀ {l₁ : List α} {l₂ : List β}, Paired F l₁ l₂ → (∀ a b, F a b → G a b) → Paired G l₁ l₂
  | _, _, .nil, _ => .nil
  | _, _, .cons r t, f => .cons (f _ _ r) (Paired.mapP t f)
theorem ObjOk.stay (x : ObjOk P w H h a o) (k : ∀ b u, (b = a ∨ H b = some (.own a)) → h.get? b = some u → h'.get? b = some u)
    (ho : ∀ b, H b = some (.own a) → H' b = some (.own a)) (ht : ∀ b xs, H b = some (.tup xs) → H' b = some (.tup xs)) : ObjOk P w H' h' a o := by
  induction o with
  | lst xs => obtain ⟨z, its, n, r, e⟩ := x; exact ⟨z, its, n, r, k _ _ (.inl rfl) e⟩
  | tup xs => obtain ⟨z, its, r, ob, e, c⟩ := x; exact ⟨z, its, r, ob, k _ _ (.inl rfl) e, c⟩
  | dK kvs => obtain ⟨z, y, vs, r, ob, es, ep, e, c⟩ := x; exact ⟨z, y, vs, r, ob, es, ep, k _ _ (.inl rfl) e, c⟩
  | dT kvs =>
    obtain ⟨z, y, xs, r, ob, es, ep, e, c⟩ := x
    exact ⟨z, y, xs, Paired.mapP r fun p q z => ⟨z.1, ht _ _ z.2.1, z.2.2⟩, ob, es, ep, k _ _ (.inl rfl) e, c⟩
  | set S n => obtain ⟨ob, es, ep, t, e, c⟩ := x; exact ⟨ob, es, ep, t, k _ _ (.inl rfl) e, c⟩
  | ins C dx fs =>
    obtain ⟨d, z, ne, e, mA, ⟨od, es, ep, e2, c⟩, r⟩ := x
    exact ⟨ho _ d, z, ne, k _ _ (.inl rfl) e, mA, ⟨od, es, ep, k _ _ (.inr d) e2, c⟩, r⟩
  | own y => obtain ⟨ob, e⟩ := x; exact ⟨ob, k _ _ (.inl rfl) e⟩
  | xd fs => obtain ⟨mA, ⟨od, es, ep, e, c⟩, r⟩ := x; exact ⟨mA, ⟨od, es, ep, k _ _ (.inl rfl) e, c⟩, r⟩
  | rng lo hi => obtain ⟨t, u, v, e⟩ := x; exact ⟨t, u, v, k _ _ (.inl rfl) e⟩
  | frz ob u ih => obtain ⟨e, q⟩ := x; exact ⟨k _ _ (.inl rfl) e, ih q⟩
  | tbl ps =>
    have e : h.get? a = some { cls := .none, data := .fields ps } := x
    show h'.get? a = some { cls := .none, data := .fields ps }
    exact k a _ (.inl rfl) e
  | met f y =>
    have e : h.get? a = some (PySem.W.methodObj (.ref f) (.ref y)) := x
    show h'.get? a = some (PySem.W.methodObj (.ref f) (.ref y))
    exact k a _ (.inl rfl) e
  | ext φ => obtain ⟨p, ⟨o, e⟩, st⟩ := x; exact ⟨st _ _ p fun o q => k _ _ (.inl rfl) q, ⟨o, k _ _ (.inl rfl) e⟩, st⟩
theorem HOk.lt (x : HOk P w H h) (e : H a = some o) : a < h.objs.size := (x a o e).lt
theorem HOk.fresh (x : HOk P w H h) (e : h.objs.size ≤ a) : H a = none := by
  cases q : H a with
  | none => rfl
  | some u => exact absurd (Nat.lt_of_lt_of_le (x.lt q) e) (Nat.lt_irrefl _)
theorem HOk.kept (x : HOk P w H h) (k : ∀ b u, h.get? b = some u → h'.get? b = some u) : HOk P w H h' := fun a o e =>
  (x a o e).stay (fun b u _ q => k b u q) (fun _ q => q) fun _ _ q => q
theorem HOk.laid (x : HOk P w H h) (k : ∀ b u, h.get? b = some u → h'.get? b = some u) (hp : h.objs.size ≤ a) (new : ObjOk P w (upd H a o) h' a o) : HOk P w (upd H a o) h' := fun b u e => by
  have hn := x.fresh hp
  by_cases hb : b = a
  · subst hb; rw [upd_same] at e; cases e; exact new
  · rw [upd_ne hb] at e
    exact (x b u e).stay (fun c v _ q => k c v q) (fun c q => by rw [upd_ne (ne_of_none q hn)]; exact q) fun c xs q => by rw [upd_ne (ne_of_none q hn)]; exact q
end
def Rd (H : Hp) (a : Addr) (u : HO) : Prop := H a = some u ∨ ∃ o, H a = some (.frz o u)
theorem Rd.of {H : Hp} {a : Addr} {u : HO} (h : H a = some u) : Rd H a u := .inl h
theorem Rd.ok {P : Program} {w : World} {H : Hp} {h : Heap} {a : Addr} {u : HO} (r : Rd H a u) (x : HOk P w H h) : ObjOk P w H h a u := by
  rcases r with r | ⟨o, r⟩
  · exact x a u r
  · obtain ⟨_, q⟩ := x a _ r
    exact q
def Mut : Option HO → Prop
  | some (.lst _) => True
  | some (.dK _) => True
  | some (.dT _) => True
  | some (.set _ _) => True
  | some (.ins _ _ _) => True
  | some (.ext _) => True
  | _ => False
section
variable {P : Program} {w : World} {H : Hp} {h h' : Heap} {x e : Addr} {o' : HO}
theorem HOk.write (ok : HOk P w H h) (mu : Mut (H x)) (he : e = x ∨ H e = some (.own x)) (k : ∀ b u, b ≠ e → h.get? b = some u → h'.get? b = some u) (heo : ∃ u, h'.get? e = some u)
    (new : ObjOk P w (upd H x o') h' x o') : HOk P w (upd H x o') h' := fun b u q => by
  have nown : ∀ c y, H c = some (.own y) → c ≠ x := fun c y r z => by subst z; rw [r] at mu; exact mu
  have ntup : ∀ c xs, H c = some (.tup xs) → c ≠ x := fun c xs r z => by subst z; rw [r] at mu; exact mu
  by_cases hb : b = x
  · subst hb; rw [upd_same] at q; cases q; exact new
  · rw [upd_ne hb] at q
    by_cases hbe : b = e
    · have q' : H b = some (.own x) := by
        rcases he with z | z
        · exact absurd (hbe.trans z) hb
        · rw [hbe]; exact z
      rw [q] at q'; cases q'
      obtain ⟨v, hv⟩ := heo
      exact ⟨v, by rw [hbe]; exact hv⟩
    · refine (ok b u q).stay (fun c v hc r => k c v ?_ r) (fun c r => by rw [upd_ne (nown c b r)]; exact r) fun c xs r => by rw [upd_ne (ntup c xs r)]; exact r
      rcases hc with rfl | hc
      · exact hbe
      · rintro rfl
        rcases he with z | z
        · exact nown c b hc z
        · rw [hc] at z; cases z; exact hb rfl
end
structure Un (fs ex : List Addr) (H H' : Hp) (h h' : Heap) : Prop where
  keep : ∀ b o, h.get? b = some o → H b = none → b ∉ fs → b ∉ ex → h'.get? b = some o
  slot : ∀ b o, h.get? b = some o → H b = none → b ∈ fs → b ∉ ex → ∃ sl, h'.get? b = some { o with slots := sl }
  free : ∀ b o, h.get? b = some o → H b = none → b ∉ ex → H' b = none
  there : ∀ b o, h.get? b = some o → b ∉ ex → ∃ o', h'.get? b = some o'
  tups : ∀ b xs, H b = some (.tup xs) → H' b = some (.tup xs)
  frzs : ∀ b o u, H b = some (.frz o u) → H' b = some (.frz o u)
  tbls : ∀ b ps, H b = some (.tbl ps) → ∃ more, H' b = some (.tbl (ps ++ more))
section
variable {fs fs' ex ex' : List Addr} {H H1 H2 : Hp} {h h1 h2 h' : Heap} {a x e : Addr} {o : HO}
theorem Un.any (u : Un fs ex H H1 h h1) {b : Addr} {ob : Obj} (q : h.get? b = some ob) (n : H b = none) (hx : b ∉ ex) : ∃ sl, h1.get? b = some { ob with slots := sl } := by
  by_cases hb : b ∈ fs
  · exact u.slot b ob q n hb hx
  · exact ⟨ob.slots, u.keep b ob q n hb hx⟩
theorem Un.trans (a : Un fs ex H H1 h h1) (b : Un fs ex H1 H2 h1 h2) : Un fs ex H H2 h h2 where
  keep := fun c ob q n hc hx => b.keep c ob (a.keep c ob q n hc hx) (a.free c ob q n hx) hc hx
  slot := fun c ob q n hc hx => by
    obtain ⟨sl, e1⟩ := a.slot c ob q n hc hx
    obtain ⟨sl', e2⟩ := b.slot c _ e1 (a.free c ob q n hx) hc hx
    exact ⟨sl', e2⟩
  free := fun c ob q n hx => by
    obtain ⟨o', e1⟩ := a.there c ob q hx
    exact b.free c o' e1 (a.free c ob q n hx) hx
  there := fun c ob q hx => by
    obtain ⟨o', e1⟩ := a.there c ob q hx
    exact b.there c o' e1 hx
  tups := fun c xs q => b.tups c xs (a.tups c xs q)
  frzs := fun c ob xs q => b.frzs c ob xs (a.frzs c ob xs q)
  tbls := fun c ps q => by
    obtain ⟨m1, e1⟩ := a.tbls c ps q
    obtain ⟨m2, e2⟩ := b.tbls c _ e1
    exact ⟨m1 ++ m2, by rw [e2, Array.append_assoc]⟩
theorem Un.kept (k : ∀ b u, h.get? b = some u → h'.get? b = some u) : Un fs ex H H h h' :=
  ⟨fun b ob q _ _ _ => k b ob q, fun b ob q _ _ _ => ⟨ob.slots, k b ob q⟩, fun _ _ _ n _ => n, fun b ob q _ => ⟨ob, k b ob q⟩, fun _ _ q => q, fun _ _ _ q => q, fun _ ps q => ⟨#[], by rw [q]; simp⟩⟩
theorem Un.refl : Un fs ex H H h h := Un.kept fun _ _ q => q
theorem Un.laid (k : ∀ b u, h.get? b = some u → h'.get? b = some u) (hp : h.objs.size ≤ a) (hn : H a = none) : Un fs ex H (upd H a o) h h' where
  keep := fun b u q _ _ _ => k b u q
  slot := fun b u q _ _ _ => ⟨u.slots, k b u q⟩
  free := fun b u q n _ => by rw [upd_ne (Nat.ne_of_lt (Nat.lt_of_lt_of_le (Heap.lt_size q) hp))]; exact n
  there := fun b u q _ => ⟨u, k b u q⟩
  tups := fun b xs q => by rw [upd_ne (ne_of_none q hn)]; exact q
  frzs := fun b u xs q => by rw [upd_ne (ne_of_none q hn)]; exact q
  tbls := fun b ps q => ⟨#[], by rw [upd_ne (ne_of_none q hn), q]; simp⟩
theorem Un.write (mu : Mut (H x)) (he : e = x ∨ H e = some (.own x)) (k : ∀ b u, b ≠ e → h.get? b = some u → h'.get? b = some u) (heo : ∃ u, h'.get? e = some u) : Un fs ex H (upd H x o) h h' := by
  have hx : ∀ b, H b = none → b ≠ x := fun b n z => by subst z; rw [n] at mu; exact mu
  have hb : ∀ b, H b = none → b ≠ e := fun b n z => by
    subst z
    rcases he with r | r
    · exact hx b n r
    · rw [n] at r; cases r
  have hm : ∀ b u, H b = some u → ¬ Mut (some u) → b ≠ x := fun b u q nm z => by subst z; rw [q] at mu; exact nm mu
  refine ⟨fun b u q n _ _ => k b u (hb b n) q, fun b u q n _ _ => ⟨u.slots, k b u (hb b n) q⟩, fun b u q n _ => by rw [upd_ne (hx b n)]; exact n, fun b u q _ => ?_,
    fun b xs q => by rw [upd_ne (hm b _ q fun z => z)]; exact q, fun b u xs q => by rw [upd_ne (hm b _ q fun z => z)]; exact q, fun b ps q => ⟨#[], by rw [upd_ne (hm b _ q fun z => z), q]; simp⟩⟩
  by_cases hbe : b = e
  · subst hbe; exact heo
  · exact ⟨u, k b u hbe q⟩
theorem Un.mono (u : Un fs ex H H1 h h1) (hs : ∀ b ∈ fs, b ∈ fs') (hx : ∀ b ∈ ex, b ∈ ex') : Un fs' ex' H H1 h h1 :=
  ⟨fun b ob q n hb he => u.keep b ob q n (fun z => hb (hs b z)) fun z => he (hx b z), fun _ _ q n _ he => u.any q n fun z => he (hx _ z), fun b ob q n he => u.free b ob q n fun z => he (hx b z), fun b ob q he => u.there b ob q fun z => he (hx b z), u.tups, u.frzs, u.tbls⟩
end
def trk (h : Heap) (H : Hp) : List Addr := (List.range h.objs.size).filter fun a => (H a).isSome
def hidT (h : Heap) (H : Hp) : Heap := PySem.W.hideAll h (trk h H)
theorem hidT_size (h : Heap) (H : Hp) : (hidT h H).objs.size = h.objs.size := PySem.W.hideAll_size _ _
theorem hidT_get {h : Heap} {H : Hp} {b : Addr} {o : Obj} (e : h.get? b = some o) (n : H b = none) : (hidT h H).get? b = some o :=
  PySem.W.hideAll_get _ e fun hm => by
    have q : (H b).isSome = true := (List.mem_filter.mp hm).2
    rw [n] at q; simp at q
theorem of_hidT {h : Heap} {H : Hp} {b : Addr} {o : Obj} (e : (hidT h H).get? b = some o) : h.get? b = some o ∧ H b = none := by
  have e' : h.get? b = some o := PySem.W.of_hideAll (trk h H) e
  refine ⟨e', ?_⟩
  cases q : H b with
  | none => rfl
  | some x =>
    have hm : b ∈ trk h H := List.mem_filter.mpr ⟨List.mem_range.mpr (Heap.lt_size e'), by simp [q]⟩
    have z : (hidT h H).get? b = none := PySem.W.hideAll_none (trk h H) hm
    rw [z] at e; cases e
def allNews (g h : Heap) (L : Addr) : List (Addr × Obj) := (List.range h.objs.size).filterMap fun a => if a = L ∨ (g.get? a).isSome = true then none else (h.get? a).map fun o => (a, o)
def rest (g h : Heap) (L d : Addr) : List (Addr × Obj) := (allNews g h L).filter fun p => decide (p.1 ≠ d)
end L2
namespace L2
open PySem PySem.Spec PyProof.Rows
structure Mod (K : PySem.W.Frag) (mg : Str → Option Value) (base : Heap) : Prop where
  kin : K.In base
  glob : base.Ns mainGlobals mg
  blt : ∃ mb, base.Ns builtinsNs mb ∧ ∀ x : Str, x ≠ "__name__" → mb x = bootBuiltins x
  nolimit : base.NoLimit
structure Cx where
  prog : Program
  w : World
  K : PySem.W.Frag
  mg : Str → Option Value
  base : Heap
  A : Around
  N : List Str
  s₀ : Shared
  H₀ : Hp
  env : Env
  outer : List Env
  stack : List Env
  ex : List Addr
  fn : Str → Bool
  calm : Bool
  pn : List (Addr × Obj)
  xe : Value → Shared → Prop
def frs (l : List Env) : List Addr := l.filterMap (·.frame)
abbrev Cx.fs (X : Cx) : List Addr := frs X.outer
def Vis (sc : Scope) (x : Str) : Prop := sc.names.lookup x = some .local ∨ sc.names.lookup x = some .cell ∨ sc.names.lookup x = some .free
def Loc (sc : Scope) (x : Str) : Prop := sc.names.lookup x = some .local ∨ sc.names.lookup x = some .cell
def Look (env : Env) (h : Heap) (m : Str → Option Value) (x : Str) (u : Value) : Prop :=
  (env.kindOf x = some .local ∧ m x = some u) ∨ ((env.kindOf x = some .cell ∨ env.kindOf x = some .free) ∧ ∃ c, env.cells.lookup x = some c ∧ h.IsCell c (some u))
structure Cx.Ok (X : Cx) : Prop where
  mod : Mod X.K X.mg X.base
  kind : X.env.scope.kind = .function
  glob : X.env.globals = mainGlobals
  blt : X.env.builtins = builtinsNs
  above : X.s₀.heap.objs.size ≤ X.env.locals
  inj : ∀ x y c, X.env.cells.lookup x = some c → X.env.cells.lookup y = some c → x = y
  has : ∀ x, (X.env.kindOf x = some .cell ∨ X.env.kindOf x = some .free) → ∃ c, X.env.cells.lookup x = some c
  cab : ∀ x c, X.fn x = true → X.env.cells.lookup x = some c → X.s₀.heap.objs.size ≤ c
  hd : X.calm = true → X.A.handled = none
  frames : X.A.frames = some X.stack
  stk : X.stack = X.outer ∨ (X.stack = X.env :: X.outer ∧ X.env.frame = some X.env.locals)
  exf : ∀ b ∈ X.ex, b ≠ X.env.locals ∧ ∀ x c, X.env.cells.lookup x = some c → c ≠ b
  bs : ∀ b o, X.base.get? b = some o → X.s₀.heap.get? b = some o ∧ X.H₀ b = none
  bsz : X.base.objs.size ≤ X.s₀.heap.objs.size
  noex : ∀ b o, X.base.get? b = some o → b ∉ X.ex
  exfs : ∀ b ∈ X.ex, b ∉ X.fs
  funs : X.s₀.heap.FunFrames X.base X.outer
  frf : ∀ b ∈ X.fs, X.H₀ b = none
structure Inv (X : Cx) (pins : List (Addr × Obj)) (σ : List (Option V)) (H : Hp) (s : Shared) : Prop where
  ok : X.Ok
  os : s.os = X.s₀.os
  bare : AllBare s.gens
  base : Un X.fs X.ex X.H₀ H X.s₀.heap s.heap
  loc : ∃ m, s.heap.Ns X.env.locals m ∧ ∀ (i : Nat) (x : Str) (v : V), X.N[i]? = some x → σ[i]? = some (some v) → Vis X.env.scope x → ∃ u, RelV v u ∧ Look X.env s.heap m x u
  cell : ∀ x c, X.env.cells.lookup x = some c → ∃ v, s.heap.IsCell c v
  free : H X.env.locals = none
  freeC : ∀ x c, X.env.cells.lookup x = some c → H c = none
  pin : ∀ p ∈ X.pn ++ pins, s.heap.get? p.1 = some p.2 ∧ H p.1 = none ∧ p.1 ≠ X.env.locals ∧ p.1 ∉ X.fs ∧ ∀ v, p.2.data ≠ .cell v
  hok : HOk X.prog X.w H s.heap
  len : σ.length = X.N.length
section
variable {X : Cx} {pins : List (Addr × Obj)} {σ : List (Option V)} {H H' : Hp} {s : Shared} {h' : Heap}
theorem Cx.Ok.nofr (ok : X.Ok) {b : Addr} {o : Obj} (e : X.base.get? b = some o) : b ∉ X.fs := fun hb => by
  have := (ok.funs.mem hb).1
  rw [e] at this; cases this
theorem Inv.bs (I : Inv X pins σ H s) : ∀ b o, X.base.get? b = some o → s.heap.get? b = some o ∧ H b = none := fun b o e =>
  ⟨I.base.keep b o (I.ok.bs b o e).1 (I.ok.bs b o e).2 (I.ok.nofr e) (I.ok.noex b o e), I.base.free b o (I.ok.bs b o e).1 (I.ok.bs b o e).2 (I.ok.noex b o e)⟩
theorem Inv.bk (I : Inv X pins σ H s) : ∀ b o, X.base.get? b = some o → s.heap.get? b = some o := fun b o e => (I.bs b o e).1
theorem Inv.mod (I : Inv X pins σ H s) : Mod X.K X.mg X.base := I.ok.mod
theorem Inv.kIn (I : Inv X pins σ H s) : X.K.In s.heap := I.ok.mod.kin.keeps I.bk
theorem Inv.nolimit (I : Inv X pins σ H s) : s.heap.NoLimit := I.ok.mod.nolimit.keeps I.bk
theorem Inv.fr (I : Inv X pins σ H s) : ∃ m, Fr X.base X.env.locals s.heap m :=
  let ⟨m, hn, _⟩ := I.loc
  ⟨m, hn, I.bk, Nat.le_trans I.ok.bsz I.ok.above⟩
theorem Inv.lt (I : Inv X pins σ H s) : X.env.locals < s.heap.objs.size := let ⟨_, hn, _⟩ := I.loc; hn.lt
theorem Inv.sz (I : Inv X pins σ H s) : X.s₀.heap.objs.size ≤ s.heap.objs.size := Nat.le_trans I.ok.above (Nat.le_of_lt I.lt)
theorem Inv.nofs (I : Inv X pins σ H s) {a : Addr} (h : s.heap.objs.size ≤ a) : a ∉ X.fs := fun hb => by
  obtain ⟨_, o, ho, _⟩ := I.ok.funs.mem hb
  exact absurd (Nat.lt_of_lt_of_le (Heap.lt_size ho) (Nat.le_trans I.sz h)) (Nat.lt_irrefl _)
theorem Inv.cne (I : Inv X pins σ H s) : ∀ x c, X.env.cells.lookup x = some c → c ≠ X.env.locals := fun x c e z => by
  obtain ⟨v, o, ho, hd⟩ := I.cell x c e
  obtain ⟨m, ⟨o', es, ep, ho', hd', _⟩, _⟩ := I.loc
  rw [z, ho'] at ho; cases ho; rw [hd'] at hd; cases hd
theorem Inv.funs (I : Inv X pins σ H s) : s.heap.FunFrames X.base X.outer := by
  have all : ∀ (l : List Env), (∀ b ∈ frs l, b ∈ X.fs) → X.s₀.heap.FunFrames X.base l → s.heap.FunFrames X.base l := by
    intro l
    induction l with
    | nil => intro _ _; trivial
    | cons env r ih =>
      intro hs hl
      obtain ⟨hk, ⟨L, o, hf, hn, ho, hd⟩, hr⟩ := hl
      have hL : L ∈ X.fs := hs L (by unfold frs; rw [List.filterMap_cons, hf]; exact List.mem_cons_self)
      obtain ⟨sl, e⟩ := I.base.slot L o ho (I.ok.frf L hL) hL fun z => I.ok.exfs L z hL
      exact ⟨hk, ⟨L, _, hf, hn, e, hd⟩, ih (fun b hb => hs b (by unfold frs; rw [List.filterMap_cons, hf]; exact List.mem_cons_of_mem _ hb)) hr⟩
  exact all X.outer (fun _ hb => hb) I.ok.funs
theorem Inv.stack (I : Inv X pins σ H s) : s.heap.FunFrames X.base X.stack := by
  rcases I.ok.stk with e | ⟨e, hf⟩
  · rw [e]; exact I.funs
  · rw [e]
    obtain ⟨m, hn, _⟩ := I.loc
    refine .cons (by rw [I.ok.kind]; decide) hf hn ?_ I.funs
    exact Heap.get?_none_of_le (Nat.le_trans I.ok.bsz I.ok.above)
theorem Inv.stkSub (I : Inv X pins σ H s) : ∀ b ∈ frs X.stack, b ∈ X.env.locals :: X.fs := fun b hb => by
  rcases I.ok.stk with e | ⟨e, hf⟩
  · rw [e] at hb; exact List.mem_cons_of_mem _ hb
  · rw [e] at hb
    unfold frs at hb
    rw [List.filterMap_cons, hf] at hb
    exact hb
theorem Inv.stkFree (I : Inv X pins σ H s) : ∀ b ∈ frs X.stack, H b = none := fun b hb => by
  rcases List.mem_cons.mp (I.stkSub b hb) with e | hb
  · rw [e]; exact I.free
  · obtain ⟨_, o, ho, _⟩ := I.ok.funs.mem hb
    exact I.base.free b o ho (I.ok.frf b hb) fun z => I.ok.exfs b z hb
theorem Inv.step {g' : Array GenState} {t' : Nat} {d' : Drawn} {ch : List Addr} (I : Inv X pins σ H s)
    (hch : ∀ b ∈ ch, (b ∈ X.ex ∨ X.s₀.heap.objs.size ≤ b) ∧ b ≠ X.env.locals ∧ (∀ x c, X.env.cells.lookup x = some c → c ≠ b) ∧ ∀ p ∈ X.pn ++ pins, p.1 ≠ b)
    (keep : ∀ b o, b ≠ X.env.locals → b ∉ X.fs → b ∉ ch → s.heap.get? b = some o → H b = none → h'.get? b = some o)
    (slot : ∀ b o, b ≠ X.env.locals → b ∈ X.fs → b ∉ ch → s.heap.get? b = some o → H b = none → ∃ sl, h'.get? b = some { o with slots := sl }) (free : ∀ b o, b ∉ ch → s.heap.get? b = some o → H b = none → H' b = none)
    (there : ∀ b o, b ∉ ch → s.heap.get? b = some o → ∃ o', h'.get? b = some o')
    (tups : ∀ b xs, H b = some (.tup xs) → H' b = some (.tup xs)) (frzs : ∀ b o u, H b = some (.frz o u) → H' b = some (.frz o u)) (tbls : ∀ b ps, H b = some (.tbl ps) → ∃ more, H' b = some (.tbl (ps ++ more)))
    (ns : ∀ m, s.heap.Ns X.env.locals m → h'.Ns X.env.locals m) (hok : HOk X.prog X.w H' h') (hg : AllBare g') :
    Inv X pins σ H' { s with heap := h', gens := g', drawn := d', toks := t' } := by
  have neL : ∀ b o, X.s₀.heap.get? b = some o → b ≠ X.env.locals := fun b o e => Nat.ne_of_lt (Nat.lt_of_lt_of_le (Heap.lt_size e) I.ok.above)
  have neC : ∀ b o, X.s₀.heap.get? b = some o → b ∉ X.ex → b ∉ ch := fun b o e hx hb => by
    rcases (hch b hb).1 with z | z
    · exact hx z
    · exact absurd (Nat.lt_of_lt_of_le (Heap.lt_size e) z) (Nat.lt_irrefl _)
  have cellK : ∀ x c, X.env.cells.lookup x = some c → ∀ v, s.heap.IsCell c v → h'.IsCell c v := fun x c e v ⟨o, ho, hd⟩ => by
    have nch : c ∉ ch := fun z => (hch c z).2.2.1 x c e rfl
    by_cases hc : c ∈ X.fs
    · obtain ⟨sl, q⟩ := slot c o (I.cne x c e) hc nch ho (I.freeC x c e)
      exact ⟨_, q, hd⟩
    · exact ⟨o, keep c o (I.cne x c e) hc nch ho (I.freeC x c e), hd⟩
  refine ⟨I.ok, I.os, hg, ⟨fun b o e n hb hx => ?_, fun b o e n hb hx => ?_, fun b o e n hx => ?_, fun b o e hx => ?_, fun b xs e => tups b xs (I.base.tups b xs e), fun b o xs e => frzs b o xs (I.base.frzs b o xs e), fun b ps e => ?_⟩, ?_, fun x c e => ?_, ?_, fun x c e => ?_, fun p hp => ?_, hok, I.len⟩
  · exact keep b o (neL b o e) hb (neC b o e hx) (I.base.keep b o e n hb hx) (I.base.free b o e n hx)
  · obtain ⟨sl, e1⟩ := I.base.slot b o e n hb hx
    obtain ⟨sl', e2⟩ := slot b _ (neL b o e) hb (neC b o e hx) e1 (I.base.free b o e n hx)
    exact ⟨sl', e2⟩
  · obtain ⟨o', e1⟩ := I.base.there b o e hx
    exact free b o' (neC b o e hx) e1 (I.base.free b o e n hx)
  · obtain ⟨o', e1⟩ := I.base.there b o e hx
    exact there b o' (neC b o e hx) e1
  · obtain ⟨m1, e1⟩ := I.base.tbls b ps e
    obtain ⟨m2, e2⟩ := tbls b _ e1
    exact ⟨m1 ++ m2, by rw [e2, Array.append_assoc]⟩
  · obtain ⟨m, hn, hl⟩ := I.loc
    refine ⟨m, ns m hn, fun i x v e1 e2 e3 => ?_⟩
    obtain ⟨u, r, l⟩ := hl i x v e1 e2 e3
    refine ⟨u, r, ?_⟩
    rcases l with l | ⟨k, c, e, z⟩
    · exact .inl l
    · exact .inr ⟨k, c, e, cellK x c e _ z⟩
  · obtain ⟨v, z⟩ := I.cell x c e
    exact ⟨v, cellK x c e v z⟩
  · obtain ⟨m, ⟨o, _, _, ho, _⟩, _⟩ := I.loc
    exact free _ o (fun z => (hch _ z).2.1 rfl) ho I.free
  · obtain ⟨v, o, ho, hd⟩ := I.cell x c e
    exact free c o (fun z => (hch c z).2.2.1 x c e rfl) ho (I.freeC x c e)
  · obtain ⟨e, n, ne, nf, d⟩ := I.pin p hp
    have nch : p.1 ∉ ch := fun z => (hch p.1 z).2.2.2 p hp rfl
    exact ⟨keep p.1 p.2 ne nf nch e n, free p.1 p.2 nch e n, ne, nf, d⟩
theorem Inv.un {t' : Nat} (I : Inv X pins σ H s) (u : Un X.fs [] H H' s.heap h') (hok : HOk X.prog X.w H' h') : Inv X pins σ H' { s with heap := h', toks := t' } := by
  obtain ⟨m, ⟨o, es, ep, ho, r⟩, _⟩ := id I.loc
  obtain ⟨sl, hL⟩ := u.any ho I.free (by simp)
  exact I.step (g' := s.gens) (d' := s.drawn) (ch := []) (fun _ z => nomatch z) (fun b o _ hb _ e n => u.keep b o e n hb (by simp)) (fun b o _ hb _ e n => u.slot b o e n hb (by simp)) (fun b o _ e n => u.free b o e n (by simp)) (fun b o _ e => u.there b o e (by simp)) u.tups u.frzs u.tbls (fun m' hm => by
    obtain ⟨o', es', ep', ho', r'⟩ := hm
    rw [ho] at ho'; cases ho'
    exact ⟨_, es', ep', hL, r'⟩) hok I.bare
theorem Inv.call {g' : Array GenState} {t' : Nat} {d' : Drawn} {ch : List Addr} (I : Inv X pins σ H s) (u : Un (frs X.stack) ch H H' s.heap h') (hok : HOk X.prog X.w H' h') (hg : AllBare g')
    (hch : ∀ b ∈ ch, (b ∈ X.ex ∨ X.s₀.heap.objs.size ≤ b) ∧ b ≠ X.env.locals ∧ (∀ x c, X.env.cells.lookup x = some c → c ≠ b) ∧ ∀ p ∈ X.pn ++ pins, p.1 ≠ b) :
    Inv X pins σ H' { s with heap := h', gens := g', drawn := d', toks := t' } := by
  obtain ⟨m, ⟨o, es, ep, ho, r⟩, _⟩ := id I.loc
  obtain ⟨sl, hL⟩ := u.any ho I.free fun z => (hch _ z).2.1 rfl
  exact I.step (ch := ch) hch (fun b o hL hb hc e n => u.keep b o e n (fun z => (List.mem_cons.mp (I.stkSub b z)).elim hL hb) hc) (fun b o _ _ hc e n => u.any e n hc) (fun b o hc e n => u.free b o e n hc) (fun b o hc e => u.there b o e hc) u.tups u.frzs u.tbls (fun m' hm => by
    obtain ⟨o', es', ep', ho', r'⟩ := hm
    rw [ho] at ho'; cases ho'
    exact ⟨_, es', ep', hL, r'⟩) hok hg
theorem Inv.turned {t' : Nat} {it : Addr} (I : Inv X pins σ H s) (k : ∀ b o, b ≠ it → s.heap.get? b = some o → h'.get? b = some o) (hn : H it = none) (hL : it ≠ X.env.locals)
    (h1 : it ∈ X.ex ∨ X.s₀.heap.objs.size ≤ it) (h2 : ∀ x c, X.env.cells.lookup x = some c → c ≠ it) (h3 : ∀ p ∈ X.pn ++ pins, p.1 ≠ it) : Inv X pins σ H { s with heap := h', toks := t' } := by
  have nit : ∀ b u, H b = some u → b ≠ it := fun b u e z => by rw [z, hn] at e; cases e
  refine I.step (g' := s.gens) (d' := s.drawn) (ch := [it]) (fun b hb => ?_) (fun b o _ _ hc e _ => k b o (fun z => hc (by simp [z])) e) (fun b o _ _ hc e _ => ⟨o.slots, k b o (fun z => hc (by simp [z])) e⟩) (fun _ _ _ _ n => n)
    (fun b o hc e => ⟨o, k b o (fun z => hc (by simp [z])) e⟩) (fun _ _ e => e) (fun _ _ _ e => e) (fun b ps e => ⟨#[], by rw [e]; simp⟩) (fun m hm => ?_) (fun b u e => ?_) I.bare
  · have e : b = it := by simpa using hb
    subst e
    exact ⟨h1, hL, h2, h3⟩
  · obtain ⟨o, es, ep, ho, r⟩ := hm
    exact ⟨o, es, ep, k _ o (Ne.symm hL) ho, r⟩
  · refine (I.hok b u e).stay (fun c v hc q => k c v ?_ q) (fun _ q => q) fun _ _ q => q
    rcases hc with z | z
    · rw [z]; exact nit b u e
    · exact nit c _ z
theorem Inv.tok (I : Inv X pins σ H s) (t : Nat) : Inv X pins σ H { s with toks := t } := I.un (h' := s.heap) (t' := t) Un.refl I.hok
theorem Inv.kept {t' : Nat} (I : Inv X pins σ H s) (k : ∀ b u, s.heap.get? b = some u → h'.get? b = some u) : Inv X pins σ H { s with heap := h', toks := t' } := I.un (Un.kept k) (I.hok.kept k)
theorem Inv.laid {a : Addr} {o : HO} {t' : Nat} (I : Inv X pins σ H s) (k : ∀ b u, s.heap.get? b = some u → h'.get? b = some u) (hp : s.heap.objs.size ≤ a) (new : ObjOk X.prog X.w (upd H a o) h' a o) :
    Inv X pins σ (upd H a o) { s with heap := h', toks := t' } := I.un (Un.laid k hp (I.hok.fresh hp)) (I.hok.laid k hp new)
theorem Inv.write {x e : Addr} {o : HO} {t' : Nat} (I : Inv X pins σ H s) (mu : Mut (H x)) (he : e = x ∨ H e = some (.own x)) (k : ∀ b u, b ≠ e → s.heap.get? b = some u → h'.get? b = some u) (heo : ∃ u, h'.get? e = some u)
    (new : ObjOk X.prog X.w (upd H x o) h' x o) : Inv X pins σ (upd H x o) { s with heap := h', toks := t' } := I.un (Un.write mu he k heo) (I.hok.write mu he k heo new)
theorem Inv.pins_of {pins' : List (Addr × Obj)} (I : Inv X pins σ H s) (h : ∀ p ∈ pins', s.heap.get? p.1 = some p.2 ∧ H p.1 = none ∧ p.1 ≠ X.env.locals ∧ p.1 ∉ X.fs ∧ ∀ v, p.2.data ≠ .cell v) : Inv X pins' σ H s :=
  ⟨I.ok, I.os, I.bare, I.base, I.loc, I.cell, I.free, I.freeC, fun p hp => (List.mem_append.mp hp).elim (fun z => I.pin p (List.mem_append_left _ z)) (h p), I.hok, I.len⟩
theorem nodup_ix {N : List Str} (hN : N.Nodup) {i j : Nat} {x : Str} (a : N[i]? = some x) (b : N[j]? = some x) : i = j := by
  obtain ⟨h1, e1⟩ := List.getElem?_eq_some_iff.mp a
  obtain ⟨h2, e2⟩ := List.getElem?_eq_some_iff.mp b
  exact (List.getElem_inj hN).mp (e1.trans e2.symm)
theorem store_ok2 {M : Model} {A : Around} {E : Value → Shared → Prop} {i : Nat} {x : Str} {v : V} {u : Value} {Q : Unit → Shared → Prop} (I : Inv X pins σ H s) (hN : X.N.Nodup) (hi : X.N[i]? = some x) (hx : Loc X.env.scope x) (r : RelV v u)
    (h : ∀ s', Inv X pins (σ.set i (some v)) H s' → (∃ a, Heap.SameBut a s.heap s'.heap ∧ (a = X.env.locals ∨ X.env.cells.lookup x = some a)) → Q () s') (hf : X.fn x = true ∨ X.env.scope.names.lookup x = some .local := by first | exact .inl rfl | exact .inr rfl | assumption) : wpAny M A (storeName X.env x u) Q E s := by
  obtain ⟨m, hn, hl⟩ := id I.loc
  have hcls : (X.env.scope.kind == .class || (X.env.scope.kind == .module && X.env.locals != X.env.globals)) = false := by rw [I.ok.kind]; rfl
  have hiσ : i < σ.length := by rw [I.len]; exact (List.getElem?_eq_some_iff.mp hi).1
  have cne := I.cne
  have tracked : ∀ {a : Addr} {h' : Heap}, (∃ o, s.heap.get? a = some o ∧ H a = none) → Heap.SameBut a s.heap h' → HOk X.prog X.w H h' := fun {a h'} ha hs b ob e => by
    obtain ⟨_, _, hfree⟩ := ha
    refine (I.hok b ob e).stay (fun c w' hc q => (hs.2 c ?_).trans q) (fun _ q => q) fun _ _ q => q
    rintro rfl
    rcases hc with rfl | hc
    · rw [hfree] at e; cases e
    · rw [hfree] at hc; cases hc
  rcases hx with hk | hk
  · refine wpAny_storeName_local hk hn (fun h' hn' hs => ?_) hcls
    obtain ⟨oL, _, _, hoL, _⟩ := id hn
    refine h _ ⟨I.ok, I.os, I.bare, ⟨fun b o e n hb hx => ?_, fun b o e n hb hx => ?_, I.base.free, fun b o e hx => ?_, I.base.tups, I.base.frzs, I.base.tbls⟩, ⟨_, hn', fun j y v' e1 e2 e3 => ?_⟩, fun y c e => ?_, I.free, I.freeC, fun p hp => ?_, tracked ⟨oL, hoL, I.free⟩ hs, by simpa using I.len⟩ ⟨_, hs, .inl rfl⟩
    · exact (hs.2 b (Nat.ne_of_lt (Nat.lt_of_lt_of_le (Heap.lt_size e) I.ok.above))).trans (I.base.keep b o e n hb hx)
    · obtain ⟨sl, e1⟩ := I.base.slot b o e n hb hx
      exact ⟨sl, (hs.2 b (Nat.ne_of_lt (Nat.lt_of_lt_of_le (Heap.lt_size e) I.ok.above))).trans e1⟩
    · obtain ⟨o', e1⟩ := I.base.there b o e hx
      exact ⟨o', (hs.2 b (Nat.ne_of_lt (Nat.lt_of_lt_of_le (Heap.lt_size e) I.ok.above))).trans e1⟩
    · by_cases hj : j = i
      · subst hj
        rw [hi] at e1; cases e1
        rw [List.getElem?_set_self hiσ] at e2
        cases e2
        exact ⟨u, r, .inl ⟨hk, by simp⟩⟩
      · rw [List.getElem?_set_ne (Ne.symm hj)] at e2
        obtain ⟨u', r', q⟩ := hl j y v' e1 e2 e3
        refine ⟨u', r', ?_⟩
        rcases q with ⟨k, e⟩ | ⟨k, c, e, z⟩
        · refine .inl ⟨k, ?_⟩
          have : y ≠ x := fun e => hj (nodup_ix hN e1 (e ▸ hi))
          simp [this, e]
        · exact .inr ⟨k, c, e, z.sameBut hs (cne y c e)⟩
    · obtain ⟨w', z⟩ := I.cell y c e
      exact ⟨w', z.sameBut hs (cne y c e)⟩
    · obtain ⟨e, n, ne, nf, d⟩ := I.pin p hp
      exact ⟨(hs.2 p.1 ne).trans e, n, ne, nf, d⟩
  · have hfn : X.fn x = true := by
      rcases hf with z | z
      · exact z
      · rw [z] at hk; cases hk
    obtain ⟨c, hc⟩ := I.ok.has x (.inl hk)
    obtain ⟨w', z⟩ := I.cell x c hc
    refine wpAny_storeName_cell I.ok.kind hk hc z (fun h' hc' hs => ?_)
    obtain ⟨oc, hoc, hocd⟩ := id z
    refine h { s with heap := h' } ⟨I.ok, I.os, I.bare, ⟨fun b o e n hb hx => ?_, fun b o e n hb hx => ?_, I.base.free, fun b o e hx => ?_, I.base.tups, I.base.frzs, I.base.tbls⟩, ⟨m, hn.sameBut hs (Ne.symm (cne x c hc)), fun j y v' e1 e2 e3 => ?_⟩, fun y c' e => ?_, I.free, I.freeC, fun p hp => ?_, tracked ⟨oc, hoc, I.freeC x c hc⟩ hs, by simpa using I.len⟩ ⟨c, hs, .inr hc⟩
    · exact (hs.2 b (Nat.ne_of_lt (Nat.lt_of_lt_of_le (Heap.lt_size e) (I.ok.cab x c hfn hc)))).trans (I.base.keep b o e n hb hx)
    · obtain ⟨sl, e1⟩ := I.base.slot b o e n hb hx
      exact ⟨sl, (hs.2 b (Nat.ne_of_lt (Nat.lt_of_lt_of_le (Heap.lt_size e) (I.ok.cab x c hfn hc)))).trans e1⟩
    · obtain ⟨o', e1⟩ := I.base.there b o e hx
      exact ⟨o', (hs.2 b (Nat.ne_of_lt (Nat.lt_of_lt_of_le (Heap.lt_size e) (I.ok.cab x c hfn hc)))).trans e1⟩
    · by_cases hj : j = i
      · subst hj
        rw [hi] at e1; cases e1
        rw [List.getElem?_set_self hiσ] at e2
        cases e2
        exact ⟨u, r, .inr ⟨.inl hk, c, hc, hc'⟩⟩
      · rw [List.getElem?_set_ne (Ne.symm hj)] at e2
        obtain ⟨u', r', q⟩ := hl j y v' e1 e2 e3
        refine ⟨u', r', ?_⟩
        rcases q with q | ⟨k, c', e, z'⟩
        · exact .inl q
        · refine .inr ⟨k, c', e, z'.sameBut hs ?_⟩
          rintro rfl
          exact hj (nodup_ix hN e1 (I.ok.inj _ _ _ e hc ▸ hi))
    · by_cases hcc : c' = c
      · subst hcc; exact ⟨_, hc'⟩
      · obtain ⟨w2, z2⟩ := I.cell y c' e
        exact ⟨w2, z2.sameBut hs hcc⟩
    · obtain ⟨e, n, ne, nf, d⟩ := I.pin p hp
      refine ⟨(hs.2 p.1 ?_).trans e, n, ne, nf, d⟩
      intro q
      rw [q, hoc] at e
      have q' : oc = p.2 := Option.some.inj e
      exact d w' (by rw [← q']; exact hocd)
theorem store_ok {M : Model} {A : Around} {E : Value → Shared → Prop} {i : Nat} {x : Str} {v : V} {u : Value} {Q : Unit → Shared → Prop} (I : Inv X pins σ H s) (hN : X.N.Nodup) (hi : X.N[i]? = some x) (hx : Loc X.env.scope x) (r : RelV v u)
    (h : ∀ s', Inv X pins (σ.set i (some v)) H s' → Q () s') (hf : X.fn x = true ∨ X.env.scope.names.lookup x = some .local := by first | exact .inl rfl | exact .inr rfl | assumption) : wpAny M A (storeName X.env x u) Q E s :=
  store_ok2 I hN hi hx r (fun s' I' _ => h s' I') hf
theorem Inv.call' {s' : Shared} {ch : List Addr} (I : Inv X pins σ H s) (ho : s'.os = s.os) (u : Un (frs X.stack) ch H H' s.heap s'.heap) (hok : HOk X.prog X.w H' s'.heap) (hg : AllBare s'.gens)
    (hch : ∀ b ∈ ch, (b ∈ X.ex ∨ X.s₀.heap.objs.size ≤ b) ∧ b ≠ X.env.locals ∧ (∀ x c, X.env.cells.lookup x = some c → c ≠ b) ∧ ∀ p ∈ X.pn ++ pins, p.1 ≠ b) : Inv X pins σ H' s' := by
  obtain ⟨h', g', d', t', o'⟩ := s'
  have e : o' = s.os := ho
  subst e
  exact I.call (g' := g') (t' := t') (d' := d') u hok hg hch
end
abbrev XK := Value → Option Addr → Hp → Prop
abbrev St := List (Option V)
abbrev VK := V → Hp → Prop
abbrev TE := St → Hp → VK → Prop
abbrev TT := St → Hp → (Bool → Hp → Prop) → Prop
abbrev TA := St → Hp → (List V → Hp → Prop) → Prop
structure Ends where
  nx : St → Hp → Prop
  rt : VK
  bk : St → Hp → Prop := fun _ _ => False
  ct : St → Hp → Prop := fun _ _ => False
abbrev TS := Ends → St → Hp → Prop
def EP (X : Cx) (pins : List (Addr × Obj)) (σ : St) (Q : VK) (u : Value) (s' : Shared) : Prop := ∃ v H', Inv X pins σ H' s' ∧ RelV v u ∧ Q v H'
def TP (X : Cx) (pins : List (Addr × Obj)) (σ : St) (Q : Bool → Hp → Prop) (b : Bool) (s' : Shared) : Prop := ∃ H', Inv X pins σ H' s' ∧ Q b H'
def AP (X : Cx) (pins : List (Addr × Obj)) (σ : St) (Q : List V → Hp → Prop) (us : List Value) (s' : Shared) : Prop := ∃ vs H', Inv X pins σ H' s' ∧ Vals vs us ∧ Q vs H'
def SP (X : Cx) (pins : List (Addr × Obj)) (D : Ends) (f : Flow) (s' : Shared) : Prop :=
  match f with
  | .next => ∃ σ' H', Inv X pins σ' H' s' ∧ D.nx σ' H'
  | .brk => ∃ σ' H', Inv X pins σ' H' s' ∧ D.bk σ' H'
  | .cont => ∃ σ' H', Inv X pins σ' H' s' ∧ D.ct σ' H'
  | .ret u => ∃ v σ' H', Inv X pins σ' H' s' ∧ RelV v u ∧ D.rt v H'
def PE (X : Cx) (e : Expr) (t : TE) : Prop :=
  ∀ (pins : List (Addr × Obj)) (s : Shared) (σ : St) (H : Hp) (Q : VK), Inv X pins σ H s → t σ H Q → wpAny (model X.prog X.w) X.A (eval e X.env) (EP X pins σ Q) X.xe s
def PT (X : Cx) (e : Expr) (t : TT) : Prop :=
  ∀ (pins : List (Addr × Obj)) (s : Shared) (σ : St) (H : Hp) (Q : Bool → Hp → Prop), Inv X pins σ H s → t σ H Q → wpAny (model X.prog X.w) X.A (isTrue e X.env (eval e X.env)) (TP X pins σ Q) X.xe s
def PW (X : Cx) (e : Expr) (t : TT) : Prop :=
  ∀ (whole : Sem Value) (pins : List (Addr × Obj)) (s : Shared) (σ : St) (H : Hp) (Q : Bool → Hp → Prop), Inv X pins σ H s → t σ H Q → wpAny (model X.prog X.w) X.A (isTrue e X.env whole) (TP X pins σ Q) X.xe s
theorem PW.pt {X : Cx} {e : Expr} {t : TT} (h : PW X e t) : PT X e t := h _
def PA (X : Cx) (es : List Expr) (t : TA) : Prop :=
  ∀ (pos : Pos) (pins : List (Addr × Obj)) (s : Shared) (σ : St) (H : Hp) (Q : List V → Hp → Prop), Inv X pins σ H s → t σ H Q → wpAny (model X.prog X.w) X.A (spliced (backTo pos (starEach es X.env))) (AP X pins σ Q) X.xe s
def PS (X : Cx) (st : Stmt) (t : TS) : Prop :=
  ∀ (pins : List (Addr × Obj)) (s : Shared) (σ : St) (H : Hp) (D : Ends), Inv X pins σ H s → t D σ H → wpAny (model X.prog X.w) X.A (exec st X.env) (SP X pins D) X.xe s
def PSs (X : Cx) (st : List Stmt) (t : TS) : Prop :=
  ∀ (pins : List (Addr × Obj)) (s : Shared) (σ : St) (H : Hp) (D : Ends), Inv X pins σ H s → t D σ H → wpAny (model X.prog X.w) X.A (execs st X.env) (SP X pins D) X.xe s
theorem thn {α : Type} {t : Sem α} {Q Q' : α → Shared → Prop} {M : Model} {A : Around} {E : Value → Shared → Prop} {s : Shared} (h : wpAny M A t Q E s) (hQ : ∀ a s, Q a s → Q' a s) : wpAny M A t Q' E s := wpAny_mono h hQ fun _ _ x => x
end L2
namespace L2
open PySem PySem.Spec PyProof.Rows
section
variable {X : Cx}
def tVar (i : Nat) : TE := fun σ H Q => ∃ v, σ[i]? = some (some v) ∧ Q v H
def tC (v : V) : TE := fun _ H Q => Q v H
theorem pe_var {i : Nat} {x : Str} {pos : Pos} (hN : X.N[i]? = some x) (hv : Vis X.env.scope x) (hd : (x == ("__debug__" : Str)) = false := by decide) (hcd : (x == ("__classdict__" : Str)) = false := by decide) : PE X (.Name x pos) (tVar i) := by
  intro pins s σ H Q I h
  obtain ⟨v, e, h⟩ := h
  obtain ⟨m, hn, hl⟩ := I.loc
  obtain ⟨u, r, l⟩ := hl i x v hN e hv
  have fin : EP X pins σ Q u s := ⟨v, H, I, r, h⟩
  rcases l with ⟨hk, hm⟩ | ⟨hk, c, hc, hcell⟩
  · exact wpAny_Name (wpAny_loadName_local I.ok.kind hk hn hm fin) hd
  · rcases hk with hk | hk
    · exact wpAny_Name (wpAny_loadName_cell I.ok.kind hk hc hcell fin) hd
    · exact wpAny_Name (wpAny_loadName_free I.ok.kind hk hc hcell fin hcd) hd
theorem pe_int {i j pos} : PE X (.Constant (.int i) j pos) (tC (.int i)) := fun _ _ _ H _ I h => wpAny_Constant_int ⟨.int i, H, I.tok _, ⟨_, rfl⟩, h⟩
theorem pe_bl {b j pos} : PE X (.Constant (.bool b) j pos) (tC (.bl b)) := fun _ _ _ H _ I h => Constant_bool ⟨.bl b, H, I, rfl, h⟩
theorem pe_non {j pos} : PE X (.Constant .none j pos) (tC .non) := fun _ _ _ H _ I h => Constant_none ⟨.non, H, I, rfl, h⟩
theorem pe_str {x j pos} : PE X (.Constant (.str x) j pos) (tC (.str x)) := fun _ _ _ H _ I h => Calls.Constant_str ⟨.str x, H, I.tok _, ⟨_, rfl⟩, h⟩
def Gl (X : Cx) (x : Str) : Prop := X.env.kindOf x = some .globalImplicit
theorem ld_glob {E : Value → Shared → Prop} {pins : List (Addr × Obj)} {s : Shared} {σ : St} {H : Hp} {x : Str} {u : Value} {pos : Pos} {Q : Value → Shared → Prop} (I : Inv X pins σ H s) (hg : Gl X x) (hm : X.mg x = some u) (h : Q u s)
    (hd : (x == ("__debug__" : Str)) = false := by decide) : wpAny (model X.prog X.w) X.A (eval (.Name x pos) X.env) Q E s :=
  Calls.Name_function_global I.ok.kind hg (Calls.loadGlobal_global (by rw [I.ok.glob]; exact I.mod.glob.keeps I.bk) hm h) hd
theorem ld_blt {E : Value → Shared → Prop} {pins : List (Addr × Obj)} {s : Shared} {σ : St} {H : Hp} {x : Str} {u : Value} {pos : Pos} {Q : Value → Shared → Prop} (I : Inv X pins σ H s) (hg : Gl X x) (hm : X.mg x = none) (hv : bootBuiltins x = some u) (h : Q u s)
    (hn : x ≠ "__name__" := by decide) (hd : (x == ("__debug__" : Str)) = false := by decide) : wpAny (model X.prog X.w) X.A (eval (.Name x pos) X.env) Q E s := by
  obtain ⟨mb, h1, h2⟩ := I.mod.blt
  exact Calls.Name_function_global I.ok.kind hg (Calls.loadGlobal_builtin (by rw [I.ok.glob]; exact I.mod.glob.keeps I.bk) hm (by rw [I.ok.blt]; exact h1.keeps I.bk) ((h2 x hn).trans hv) h) hd
theorem pe_glob {x : Str} {v : V} {u : Value} {pos : Pos} (hg : Gl X x) (hm : X.mg x = some u) (r : RelV v u) (hd : (x == ("__debug__" : Str)) = false := by decide) : PE X (.Name x pos) (tC v) :=
  fun _ _ _ H _ I h => ld_glob I hg hm ⟨v, H, I, r, h⟩ hd
variable {a b : Expr} {ta tb : TE} {pos : Pos}
def tB (t : TE) : TT := fun σ H Q => t σ H fun x H1 => ∃ c, x = .bl c ∧ Q c H1
theorem pt_val {e : Expr} {t : TE} (h : PE X e t) (he : ∀ whole, isTrue e X.env whole = (do let v ← whole; standAt e.pos; holding [v] (truthy v)) := by intro _; rfl) : PT X e (tB t) := by
  intro pins s σ H Q I hw
  refine isTrue_plain (thn (h pins s σ H _ I hw) fun v s1 ⟨x, H1, I1, r1, q1⟩ => ?_) (he _)
  obtain ⟨d, rfl, q⟩ := q1
  cases r1
  exact wpAny_truthy_bool ⟨H1, I1, q⟩
variable {tA tB' : TT} {rest : List Expr}
def tAnd (t u : TT) : TT := fun σ H Q => t σ H fun c H1 => if c = true then u σ H1 Q else Q false H1
def tOr (t u : TT) : TT := fun σ H Q => t σ H fun c H1 => if c = true then Q true H1 else u σ H1 Q
def tNot (t : TT) : TT := fun σ H Q => t σ H fun c H1 => Q (!c) H1
theorem pw_and1 (ha : PT X a tA) : PW X (.BoolOp .And [a] pos) tA := by
  intro wh pins s σ H Q I h
  refine isTrue_and (thn (ha pins s σ H Q I h) fun c s1 e => ?_)
  cases c with
  | true => exact isTrue_and_nil e
  | false => exact e
theorem pw_or1 (ha : PT X a tA) : PW X (.BoolOp .Or [a] pos) tA := by
  intro wh pins s σ H Q I h
  refine isTrue_or (thn (ha pins s σ H Q I h) fun c s1 e => ?_)
  cases c with
  | false => exact isTrue_or_nil e
  | true => exact e
theorem pw_and (ha : PT X a tA) (hb : PW X (.BoolOp .And (b :: rest) pos) tB') : PW X (.BoolOp .And (a :: b :: rest) pos) (tAnd tA tB') := by
  intro wh pins s σ H Q I h
  refine isTrue_and (thn (ha pins s σ H _ I h) fun c s1 ⟨H1, I1, q1⟩ => ?_)
  cases c with
  | true => exact hb wh pins s1 σ H1 Q I1 q1
  | false => exact ⟨H1, I1, q1⟩
theorem pw_or (ha : PT X a tA) (hb : PW X (.BoolOp .Or (b :: rest) pos) tB') : PW X (.BoolOp .Or (a :: b :: rest) pos) (tOr tA tB') := by
  intro wh pins s σ H Q I h
  refine isTrue_or (thn (ha pins s σ H _ I h) fun c s1 ⟨H1, I1, q1⟩ => ?_)
  cases c with
  | true => exact ⟨H1, I1, q1⟩
  | false => exact hb wh pins s1 σ H1 Q I1 q1
theorem pt_not (ha : PT X a tA) : PT X (.UnaryOp .Not a pos) (tNot tA) := by
  intro pins s σ H Q I h
  exact isTrue_not (ha pins s σ H (fun c H1 => Q (!c) H1) I h)
def tAndV (ta tb : TE) : TE := fun σ H Q => ta σ H fun x H1 => ∃ c, x = .bl c ∧ if c = true then tb σ H1 Q else Q (.bl false) H1
def tNotV (ta : TE) : TE := fun σ H Q => ta σ H fun x H1 => ∃ c, x = .bl c ∧ Q (.bl (!c)) H1
theorem pe_one {op} {t : TE} (h : PE X a t) : PE X (.BoolOp op [a] pos) t := fun pins s σ H Q I hw => BoolOp_one (h pins s σ H Q I hw)
theorem pe_and (ha : PE X a ta) (hb : PE X (.BoolOp .And (b :: rest) pos) tb) : PE X (.BoolOp .And (a :: b :: rest) pos) (tAndV ta tb) := by
  intro pins s σ H Q I h
  refine BoolOp_and (thn (ha pins s σ H _ I h) fun v s1 ⟨x, H1, I1, r1, q1⟩ => ?_)
  obtain ⟨c, rfl, q1⟩ := q1
  cases r1
  refine wpAny_truthy_bool ?_
  cases c with
  | true => exact hb pins s1 σ H1 Q I1 q1
  | false => exact ⟨.bl false, H1, I1, rfl, q1⟩
theorem pe_not (ha : PE X a ta) : PE X (.UnaryOp .Not a pos) (tNotV ta) := by
  intro pins s σ H Q I h
  refine UnaryOp_ (thn (ha pins s σ H _ I h) fun v s1 ⟨x, H1, I1, r1, q1⟩ => ?_)
  obtain ⟨c, rfl, q1⟩ := q1
  cases r1
  exact not_of (wpAny_truthy_bool ⟨.bl (!c), H1, I1, rfl, q1⟩)
end
end L2
namespace L2
open PySem PySem.Spec PyProof.Rows
def SqL (K : PySem.W.Frag) (H : Hp) (a : Addr) (xs : List V) : Prop :=
  Rd H a (.lst xs) ∨
    ∃ (o : Obj) (its : Array Value) (n : Nat), K.lookup a = some o ∧ o.cls = .type "list" ∧ o.dict = none ∧ o.data = .seq its n ∧ its.size ≤ sizeLine ∧ Vals xs its.toList
def SqT (K : PySem.W.Frag) (H : Hp) (a : Addr) (xs : List V) : Prop :=
  Rd H a (.tup xs) ∨
    ∃ (o : Obj) (its : Array Value) (n : Nat), K.lookup a = some o ∧ o.cls = .type "tuple" ∧ o.data = .seq its n ∧ its.size ≤ sizeLine ∧ Vals xs its.toList
def absV : Value → Option V
  | .none => some .non
  | .bool b => some (.bl b)
  | .int i _ => some (.int i)
  | .str x _ => some (.str x)
  | .bytes b _ => some (.byt b)
  | .float b _ => some (.flt b)
  | .ref a => some (.ref a)
  | .type n => some (.ty n)
  | _ => none
theorem RelV.abs {x : V} {u : Value} (r : RelV x u) : absV u = some x := by
  cases x with
  | non => cases r; rfl
  | bl _ => cases r; rfl
  | int _ => obtain ⟨t, rfl⟩ := r; rfl
  | str _ => obtain ⟨t, rfl⟩ := r; rfl
  | byt _ => obtain ⟨t, rfl⟩ := r; rfl
  | flt _ => obtain ⟨t, rfl⟩ := r; rfl
  | ref _ => cases r; rfl
  | ty _ => cases r; rfl
theorem RelV.inj {x y : V} {u : Value} (r : RelV x u) (q : RelV y u) : x = y := Option.some.inj (r.abs.symm.trans q.abs)
theorem Vals.inj : ∀ {xs ys : List V} {us : List Value}, Vals xs us → Vals ys us → xs = ys
  | _, _, _, .nil, .nil => rfl
  | _, _, _, .cons r t, .cons r' t' => by rw [r.inj r', Vals.inj t t']
section
variable {X : Cx} {pins : List (Addr × Obj)} {σ : St} {H : Hp} {s : Shared} {a : Addr} {xs ys : List V}
theorem SqL.of {K : PySem.W.Frag} (h : H a = some (.lst xs)) : SqL K H a xs := .inl (.inl h)
theorem SqT.of {K : PySem.W.Frag} (h : H a = some (.tup xs)) : SqT K H a xs := .inl (.inl h)
theorem Inv.list (I : Inv X pins σ H s) (h : SqL X.K H a xs) : ∃ its : List Value, Vals xs its ∧ PlainL s.heap a its.toArray ∧ xs.length ≤ sizeLine := by
  rcases h with h | ⟨o, its, n, hk, hc, hd, hs, hz, r⟩
  · obtain ⟨z, its, n, r, e⟩ := h.ok I.hok
    exact ⟨its, r, ⟨_, n, e, rfl, rfl, rfl⟩, z⟩
  · refine ⟨its.toList, r, ⟨o, n, I.kIn a o hk, hc, hd, by simpa using hs⟩, ?_⟩
    have e := r.length
    simp only [Array.length_toList] at e
    omega
theorem Inv.tuple (I : Inv X pins σ H s) (h : SqT X.K H a xs) : ∃ its : List Value, Vals xs its ∧ IsTup s.heap a its.toArray ∧ xs.length ≤ sizeLine := by
  rcases h with h | ⟨o, its, n, hk, hc, hs, hz, r⟩
  · obtain ⟨z, its, r, p⟩ := h.ok I.hok
    exact ⟨its, r, p, z⟩
  · refine ⟨its.toList, r, ⟨o, I.kIn a o hk, hc, n, by simpa using hs⟩, ?_⟩
    have e := r.length
    simp only [Array.length_toList] at e
    omega
theorem Inv.list_inj (I : Inv X pins σ H s) (h : SqL X.K H a xs) (h' : SqL X.K H a ys) : xs = ys := by
  obtain ⟨its, r, ⟨o, n, e, _, _, d⟩, _⟩ := I.list h
  obtain ⟨its', r', ⟨o', n', e', _, _, d'⟩, _⟩ := I.list h'
  rw [e] at e'; cases e'
  rw [d] at d'
  injection d' with d1 _
  have : its = its' := by simpa using congrArg Array.toList d1
  subst this
  exact r.inj r'
theorem Inv.tuple_inj (I : Inv X pins σ H s) (h : SqT X.K H a xs) (h' : SqT X.K H a ys) : xs = ys := by
  obtain ⟨its, r, ⟨o, e, _, n, d⟩, _⟩ := I.tuple h
  obtain ⟨its', r', ⟨o', e', _, n', d'⟩, _⟩ := I.tuple h'
  rw [e] at e'; cases e'
  rw [d] at d'
  injection d' with d1 _
  have : its = its' := by simpa using congrArg Array.toList d1
  subst this
  exact r.inj r'
end
abbrev Cx.wish (X : Cx) (E : Value → Shared → Prop) : Cx := { X with xe := E }
abbrev Cx.nox (X : Cx) : Cx := X.wish fun _ _ => False
theorem Cx.Ok.wish {X : Cx} (ok : X.Ok) (E : Value → Shared → Prop) : (X.wish E).Ok :=
  ⟨ok.mod, ok.kind, ok.glob, ok.blt, ok.above, ok.inj, ok.has, ok.cab, ok.hd, ok.frames, ok.stk, ok.exf, ok.bs, ok.bsz, ok.noex, ok.exfs, ok.funs, ok.frf⟩
theorem Cx.Ok.unwish {X : Cx} {E : Value → Shared → Prop} (ok : (X.wish E).Ok) : X.Ok :=
  ⟨ok.mod, ok.kind, ok.glob, ok.blt, ok.above, ok.inj, ok.has, ok.cab, ok.hd, ok.frames, ok.stk, ok.exf, ok.bs, ok.bsz, ok.noex, ok.exfs, ok.funs, ok.frf⟩
section
variable {X : Cx} {pins : List (Addr × Obj)} {σ : St} {H : Hp} {s : Shared} {E : Value → Shared → Prop}
theorem Inv.wish (I : Inv X pins σ H s) (E : Value → Shared → Prop) : Inv (X.wish E) pins σ H s := ⟨I.ok.wish E, I.os, I.bare, I.base, I.loc, I.cell, I.free, I.freeC, I.pin, I.hok, I.len⟩
theorem Inv.unwish (I : Inv (X.wish E) pins σ H s) : Inv X pins σ H s := ⟨I.ok.unwish, I.os, I.bare, I.base, I.loc, I.cell, I.free, I.freeC, I.pin, I.hok, I.len⟩
theorem SP.unwish {D : Ends} {f : Flow} {s' : Shared} (h : SP (X.wish E) pins D f s') : SP X pins D f s' := by
  cases f with
  | next => obtain ⟨σ', H', I, q⟩ := h; exact ⟨σ', H', I.unwish, q⟩
  | brk => obtain ⟨σ', H', I, q⟩ := h; exact ⟨σ', H', I.unwish, q⟩
  | cont => obtain ⟨σ', H', I, q⟩ := h; exact ⟨σ', H', I.unwish, q⟩
  | ret u => obtain ⟨v, σ', H', I, r, q⟩ := h; exact ⟨v, σ', H', I.unwish, r, q⟩
theorem PE.nox {e : Expr} {t : TE} (h : PE X.nox e t) : PE X e t := fun pins s σ H Q I hw =>
  wpAny_mono (h pins s σ H Q (I.wish _) hw) (fun _ _ ⟨v, H', I', r, q⟩ => ⟨v, H', I'.unwish, r, q⟩) fun _ _ z => False.elim z
theorem PT.nox {e : Expr} {t : TT} (h : PT X.nox e t) : PT X e t := fun pins s σ H Q I hw =>
  wpAny_mono (h pins s σ H Q (I.wish _) hw) (fun _ _ ⟨H', I', q⟩ => ⟨H', I'.unwish, q⟩) fun _ _ z => False.elim z
theorem PSs.nox {st : List Stmt} {t : TS} (h : PSs X.nox st t) : PSs X st t := fun pins s σ H D I hw =>
  wpAny_mono (h pins s σ H D (I.wish _) hw) (fun _ _ q => q.unwish) fun _ _ z => False.elim z
end
section
variable {X : Cx} {st : Stmt} {rest : List Stmt} {t u : TS} {e : Expr} {te : TE} {pos : Pos}
def tNext : TS := fun D σ H => D.nx σ H
def tSeq (t u : TS) : TS := fun D σ H => t { D with nx := u D } σ H
theorem pss_nil : PSs X [] tNext := fun _ _ σ H _ I h => wpAny_execs_nil ⟨σ, H, I, h⟩
theorem pss_cons (h1 : PS X st t) (h2 : PSs X rest u) : PSs X (st :: rest) (tSeq t u) := by
  intro pins s σ H D I h
  refine wpAny_execs_cons (thn (h1 pins s σ H { D with nx := u D } I h) fun f s1 q => ?_)
  cases f with
  | next =>
    obtain ⟨σ', H', I', q⟩ := q
    exact h2 pins s1 σ' H' D I' q
  | ret v => exact q
  | brk => exact q
  | cont => exact q
theorem pss_one (h1 : PS X st t) : PSs X [st] t := by
  intro pins s σ H D I h
  refine wpAny_execs_cons (thn (h1 pins s σ H D I h) fun f s1 q => ?_)
  cases f with
  | next => exact wpAny_execs_nil q
  | ret v => exact q
  | brk => exact q
  | cont => exact q
theorem Inv.quiet {pins : List (Addr × Obj)} {σ : St} {H : Hp} {s : Shared} (I : Inv X pins σ H s) : interactive X.env = false := by simp [interactive, I.ok.kind]
def tDrop (te : TE) : TS := fun D σ H => te σ H fun _ H1 => D.nx σ H1
theorem ps_expr (he : PE X e te) (hs : swapsWith e none pos.line X.env = pure false := by rfl) : PS X (.Expr e pos) (tDrop te) := by
  intro pins s σ H D I h
  exact wpAny_Expr_any (thn (he pins s σ H _ I h) fun v s1 ⟨x, H1, I1, r1, q1⟩ => ⟨σ, H1, I1, q1⟩) I.quiet hs
def tRet (te : TE) : TS := fun D σ H => te σ H D.rt
theorem ps_ret (he : PE X e te) : PS X (.Return (some e) pos) (tRet te) := by
  intro pins s σ H D I h
  exact wpAny_Return_some (thn (he pins s σ H _ I h) fun v s1 ⟨x, H1, I1, r1, q1⟩ => ⟨x, σ, H1, I1, r1, q1⟩)
def tIfS (c : TT) (t u : TS) : TS := fun D σ H => c σ H fun b H1 => if b = true then t D σ H1 else u D σ H1
theorem ps_if {c : Expr} {a b : List Stmt} {tc : TT} (hc : PT X c tc) (ha : PSs X a t) (hb : PSs X b u) : PS X (.If c a b pos) (tIfS tc t u) := by
  intro pins s σ H D I h
  refine wpAny_If (thn (hc pins s σ H _ I h) fun d s1 ⟨H1, I1, q1⟩ => ?_)
  cases d with
  | true => exact ha pins s1 σ H1 D I1 q1
  | false => exact hb pins s1 σ H1 D I1 q1
end
abbrev TG := V → St → Hp → (St → Hp → Prop) → Prop
abbrev TGs := List V → St → Hp → (St → Hp → Prop) → Prop
def PG (X : Cx) (target : Expr) (t : TG) : Prop :=
  ∀ (pins : List (Addr × Obj)) (s : Shared) (σ : St) (H : Hp) (v : V) (u : Value) (Q : St → Hp → Prop), Inv X pins σ H s → RelV v u → t v σ H Q →
    wpAny (model X.prog X.w) X.A (assign target X.env u) (fun _ s' => ∃ σ' H', Inv X pins σ' H' s' ∧ Q σ' H') X.xe s
def PGs (X : Cx) (ts : List Expr) (t : TGs) : Prop :=
  ∀ (pins : List (Addr × Obj)) (s : Shared) (σ : St) (H : Hp) (vs : List V) (us : List Value) (Q : St → Hp → Prop), Inv X pins σ H s → Vals vs us → t vs σ H Q →
    wpAny (model X.prog X.w) X.A (assignInOrder ((assignEach ts X.env).map (·.2)) us) (fun _ s' => ∃ σ' H', Inv X pins σ' H' s' ∧ Q σ' H') X.xe s
abbrev TSet := V → V → V → Hp → (Hp → Prop) → Prop
def PSet (X : Cx) (t : TSet) : Prop :=
  ∀ (pins : List (Addr × Obj)) (s : Shared) (σ : St) (H : Hp) (o i v : V) (ov iv u : Value) (Q : Hp → Prop), Inv X pins σ H s → RelV o ov → RelV i iv → RelV v u → t o i v H Q →
    wpAny (model X.prog X.w) X.A (setItem ov iv u) (fun _ s' => ∃ H', Inv X pins σ H' s' ∧ Q H') X.xe s
section
variable {X : Cx} {pos : Pos}
def gName (i : Nat) : TG := fun v σ H Q => Q (σ.set i (some v)) H
theorem pg_name {i : Nat} {x : Str} (hN : X.N.Nodup) (hi : X.N[i]? = some x) (hx : Loc X.env.scope x) (hf : X.fn x = true ∨ X.env.scope.names.lookup x = some .local := by first | exact .inl rfl | exact .inr rfl | assumption) : PG X (.Name x pos) (gName i) := by
  intro pins s σ H v u Q I r h
  exact wpAny_assign_Name (store_ok I hN hi hx r (fun s' I' => ⟨_, H, I', h⟩) hf)
def gNil : TGs := fun vs σ H Q => vs = [] ∧ Q σ H
def gCons (t : TG) (u : TGs) : TGs := fun vs σ H Q => ∃ v r, vs = v :: r ∧ t v σ H fun σ' H' => u r σ' H' Q
theorem pgs_nil : PGs X [] gNil := by
  intro pins s σ H vs us Q I r h
  obtain ⟨e, h⟩ := h
  subst e
  cases r
  exact assignInOrder_nil ⟨σ, H, I, h⟩
theorem pgs_cons {e : Expr} {es : List Expr} {t : TG} {u : TGs} (h1 : PG X e t) (h2 : PGs X es u)
    (hs : (assignEach (e :: es) X.env).map (·.2) = assign e X.env :: (assignEach es X.env).map (·.2) := by rfl) : PGs X (e :: es) (gCons t u) := by
  intro pins s σ H vs us Q I r h
  obtain ⟨v, vr, e1, h⟩ := h
  subst e1
  cases r with
  | cons r rr =>
    rw [hs]
    refine assignInOrder_cons (thn (h1 pins s σ H _ _ _ I r h) fun _ s1 ⟨σ1, H1, I1, q1⟩ => ?_)
    exact h2 pins s1 σ1 H1 _ _ Q I1 rr q1
def gTup (K : PySem.W.Frag) (n : Nat) (t : TGs) : TG := fun v σ H Q => ∃ a xs, v = .ref a ∧ SqT K H a xs ∧ xs.length = n ∧ t xs σ H Q
theorem pg_tup {es : List Expr} {k : Nat} {t : TGs} {n : Nat} (hc : X.calm = true) (h : PGs X es t)
    (hn : (assignEach es X.env).length = n := by rfl) (hst : (assignEach es X.env).findIdx? (·.1) = none := by rfl) : PG X (.Tuple es k pos) (gTup X.K n t) := by
  intro pins s σ H v u Q I r hw
  obtain ⟨a, xs, e1, hq, hl, hw⟩ := hw
  subst e1
  cases r
  obtain ⟨its, rv, ht, hz⟩ := I.tuple hq
  refine assign_Tuple_tuple (I.ok.hd hc) ht (by simp [hn, ← hl, rv.length]) hst fun h' hx => ?_
  have I1 : Inv X pins σ H { s with heap := h' } := I.kept (t' := s.toks) fun b o e => hx b o (Nat.ne_of_lt (Heap.lt_size e)) e
  exact h pins _ σ H xs _ Q I1 (by simpa using rv) hw
def gSub (to ti : TE) (t : TSet) : TG := fun v σ H Q => to σ H fun o H1 => ti σ H1 fun i H2 => t o i v H2 fun H3 => Q σ H3
theorem pg_sub {o i : Expr} {to ti : TE} {t : TSet} (ho : PE X o to) (hi : PE X i ti) (hs : PSet X t)
    (ha : ∀ v, assign (.Subscript o i pos) X.env v = (do
      let ov ← holding [v] (eval o X.env)
      let iv ← holding [v, ov] (eval i X.env)
      standAt pos
      holding [v, ov, iv] (setItem ov iv v)
      release [v, ov, iv] []) := by intro _; rfl) : PG X (.Subscript o i pos) (gSub to ti t) := by
  intro pins s σ H v u Q I r h
  rw [ha]
  refine wpAny_bind (wpAny_holding (thn (ho pins s σ H _ I h) fun ov s1 ⟨x, H1, I1, r1, q1⟩ => ?_))
  refine wpAny_bind (wpAny_holding (thn (hi pins s1 σ H1 _ I1 q1) fun iv s2 ⟨y, H2, I2, r2, q2⟩ => ?_))
  refine wpAny_bind (wpAny_standAt (wpAny_bind (wpAny_holding (thn (hs pins s2 σ H2 x y v ov iv u _ I2 r1 r2 r q2) fun _ s3 ⟨H3, I3, q3⟩ => ?_))))
  exact wpAny_release ⟨σ, H3, I3, q3⟩
def tAsg (te : TE) (g : TG) : TS := fun D σ H => te σ H fun x H1 => g x σ H1 D.nx
theorem ps_asg {tg e : Expr} {te : TE} {g : TG} (he : PE X e te) (hg : PG X tg g) (hs : swapsWithSole [tg] e pos.line X.env = pure false := by rfl) (hw : swappedStores [tg] e X.env = pure none := by rfl)
    (h1 : (assignEach [tg] X.env).map (·.2) = [assign tg X.env] := by rfl) : PS X (.Assign [tg] e pos) (tAsg te g) := by
  intro pins s σ H D I h
  refine wpAny_Assign_stores (thn (he pins s σ H _ I h) fun v s1 ⟨x, H1, I1, r1, q1⟩ => ?_) hs hw
  rw [h1]
  exact thn (hg pins s1 σ H1 x v _ I1 r1 q1) fun _ s2 q => q
theorem ps_set {i : Nat} {x : Str} {e : Expr} {te : TE} {pos' : Pos} (hN : X.N.Nodup) (hi : X.N[i]? = some x) (hx : Loc X.env.scope x) (he : PE X e te) (hs : swapsWith e (some (.Name x pos')) pos.line X.env = pure false := by rfl) (hf : X.fn x = true ∨ X.env.scope.names.lookup x = some .local := by first | exact .inl rfl | exact .inr rfl | assumption) :
    PS X (.Assign [.Name x pos'] e pos) (tAsg te (gName i)) := by
  intro pins s σ H D I h
  refine wpAny_Assign_Name (thn (he pins s σ H _ I h) fun v s1 ⟨y, H1, I1, r1, q1⟩ => ?_) hs
  exact store_ok I1 hN hi hx r1 (fun s2 I2 => ⟨_, H1, I2, q1⟩) hf
end
section
variable {X : Cx} {pos : Pos}
def tWhile (c : TT) (tb : TS) : TS := fun D σ H => ∃ W : Nat → St → Hp → Prop, (∃ m, W m σ H) ∧ ∀ m σ H, W m σ H →
  c σ H fun b H1 => if b = true then ∃ N : St → Hp → Prop, (∀ σ' H', N σ' H' → ∃ m', m' < m ∧ W m' σ' H') ∧ tb { D with nx := N, ct := N, bk := D.nx } σ H1 else D.nx σ H1
theorem ps_while {c : Expr} {body : List Stmt} {tc : TT} {tb : TS} (hp : PassesOwn (model X.prog X.w) X.A X.env X.xe) (hc : PT X c tc) (hb : PSs X body tb) : PS X (.While c body [] pos) (tWhile tc tb) := by
  intro pins s σ H D I h
  obtain ⟨W, ⟨m0, w0⟩, turn⟩ := h
  refine wpAny_While (codeAny_whileLoop (fun n s' => ∃ σ' H', Inv X pins σ' H' s' ∧ W n σ' H') ?_ m0 ⟨σ, H, I, w0⟩)
  rintro n s1 ⟨σ1, H1, I1, w1⟩
  refine wpAny_passesOwn hp (thn (hc pins s1 σ1 H1 _ I1 (turn n σ1 H1 w1)) fun b s2 ⟨H2, I2, q2⟩ => ?_)
  cases b with
  | true =>
    obtain ⟨N, hN, q2⟩ := q2
    rw [if_pos rfl]
    refine wpAny_passesOwn hp (thn (hb pins s2 σ1 H2 _ I2 q2) fun f s3 q3 => ?_)
    cases f with
    | next =>
      obtain ⟨σ3, H3, I3, n3⟩ := q3
      obtain ⟨m', hm, w3⟩ := hN σ3 H3 n3
      exact ⟨m', hm, σ3, H3, I3, w3⟩
    | cont =>
      obtain ⟨σ3, H3, I3, n3⟩ := q3
      obtain ⟨m', hm, w3⟩ := hN σ3 H3 n3
      exact ⟨m', hm, σ3, H3, I3, w3⟩
    | brk => exact q3
    | ret v => exact q3
  | false =>
    rw [if_neg Bool.false_ne_true]
    exact wpAny_execs_nil ⟨σ1, H2, I2, q2⟩
end
structure It where
  go : Nat → Hp → Prop
  yld : Nat → Hp → V → Hp → Prop
  stop : Nat → Hp → Prop
def FpOk (X : Cx) (pins : List (Addr × Obj)) (H : Hp) (b : Addr) : Prop :=
  H b = none ∧ b ≠ X.env.locals ∧ b ∉ X.fs ∧ (b ∈ X.ex ∨ X.s₀.heap.objs.size ≤ b) ∧ (∀ x c, X.env.cells.lookup x = some c → c ≠ b) ∧ ∀ p ∈ X.pn ++ pins, p.1 ≠ b
theorem Inv.fpOk {X : Cx} {pins : List (Addr × Obj)} {σ : St} {H H' : Hp} {s : Shared} {b : Addr} (I : Inv X pins σ H s) (hb : s.heap.objs.size ≤ b) (hn : H' b = none) : FpOk X pins H' b := by
  refine ⟨hn, Nat.ne_of_gt (Nat.lt_of_lt_of_le I.lt hb), I.nofs hb, .inr (Nat.le_trans I.sz hb), fun x c e z => ?_, fun p hp z => ?_⟩
  · obtain ⟨v, q⟩ := I.cell x c e
    exact absurd (Nat.lt_of_lt_of_le q.lt (by rw [z]; exact hb)) (Nat.lt_irrefl _)
  · exact absurd (Nat.lt_of_lt_of_le (Heap.lt_size (I.pin p hp).1) (by rw [z]; exact hb)) (Nat.lt_irrefl _)
structure Turn (P : Program) (w : World) (K : PySem.W.Frag) (tg : Expr) (J : It) (fp : List Addr) (it : Addr) (tn : Nat → Heap → Prop) : Prop where
  mem : it ∈ fp
  obj : ∀ i h, tn i h → ∀ b ∈ fp, ∃ o, h.get? b = some o ∧ ∀ v, o.data ≠ .cell v
  keep : ∀ i h h', tn i h → (∀ b ∈ fp, ∀ o, h.get? b = some o → h'.get? b = some o) → tn i h'
  item : ∀ (X : Cx), X.prog = P → X.w = w → X.K = K → X.calm = true → ∀ (i : Nat) (pins : List (Addr × Obj)) (s : Shared) (σ : St) (H : Hp) (E : Value → Shared → Prop), Inv X pins σ H s → (∀ b ∈ fp, FpOk X pins H b) → tn i s.heap → J.go i H →
    wpAny (model P w) X.A (pyNext (.ref it)) (fun r s1 => ∃ u, r = some u ∧
      wpAny (model P w) X.A (letOwnedTupleGo tg (.ref it) u) (fun _ s2 => ∃ x H', Inv X pins σ H' s2 ∧ RelV x u ∧ J.yld i H x H' ∧ tn (i + 1) s2.heap ∧ ∀ b ∈ fp, H' b = none) E s1) E s
  done : ∀ (X : Cx), X.prog = P → X.w = w → X.K = K → X.calm = true → ∀ (i : Nat) (pins : List (Addr × Obj)) (s : Shared) (σ : St) (H : Hp) (E : Value → Shared → Prop), Inv X pins σ H s → (∀ b ∈ fp, FpOk X pins H b) → tn i s.heap → J.stop i H →
    wpAny (model P w) X.A (pyNext (.ref it)) (fun r s1 => r = none ∧ Inv X pins σ H s1) E s
  self : ∀ (A : Around) (i : Nat) (s : Shared) (Q : Value → Shared → Prop) (E : Value → Shared → Prop), tn i s.heap → Q (.ref it) s → wpAny (model P w) A (pyIter (.ref it)) Q E s
abbrev TI := St → Hp → (It → Hp → Prop) → Prop
def PIE (X : Cx) (pins : List (Addr × Obj)) (σ : St) (tg : Expr) (R : It → Hp → Prop) (itv : Value) (s2 : Shared) : Prop :=
  ∃ (it : Addr) (fp : List Addr) (tn : Nat → Heap → Prop) (J : It) (H' : Hp), itv = .ref it ∧ Inv X pins σ H' s2 ∧ Turn X.prog X.w X.K tg J fp it tn ∧ tn 0 s2.heap ∧ (∀ b ∈ fp, FpOk X pins H' b) ∧ R J H'
def PI (X : Cx) (tg iter : Expr) (wi : TI) : Prop :=
  ∀ (pins : List (Addr × Obj)) (s : Shared) (σ : St) (H : Hp) (R : It → Hp → Prop), Inv X pins σ H s → wi σ H R →
    wpAny (model X.prog X.w) X.A (eval iter X.env) (fun v s1 => wpAny (model X.prog X.w) X.A (pyIter v) (PIE X pins σ tg R) X.xe s1) X.xe s
theorem go_of {M : Model} {A : Around} {E : Value → Shared → Prop} {s : Shared} {tg : Expr} {it : Addr} {u : Value} {o : Obj} {n : String} {vs : Array Value} {Q : Unit → Shared → Prop} (ho : s.heap.get? it = some o) (hc : o.cls = .type n) (hd : o.data = .fields vs)
    (hn : ["enumerate", "zip", "dict_itemiterator", "dict_reverseitemiterator", "odict_iterator", "itertools.zip_longest", "itertools.pairwise"].contains n = false) (hQ : Q () s) : wpAny M A (letOwnedTupleGo tg (.ref it) u) Q E s := by
  unfold letOwnedTupleGo
  cases tg <;> first
    | exact wpAny_pure hQ
    | (cases u <;> first
        | exact wpAny_pure hQ
        | (refine wpAny_bind (wpAny_load ho ?_)
           rw [hc, hd]
           show wpAny M A (if (["enumerate", "zip", "dict_itemiterator", "dict_reverseitemiterator", "odict_iterator", "itertools.zip_longest", "itertools.pairwise"].contains n && vs[0]? == some (rawInt _)) = true then _ else _) Q E s
           rw [if_neg (by intro h; rw [hn, Bool.false_and] at h; cases h)]
           exact wpAny_pure hQ))
def Itl (K : PySem.W.Frag) (a : Addr) : It :=
  ⟨fun i H => ∃ xs x, SqL K H a xs ∧ xs[i]? = some x, fun i H x H' => H' = H ∧ ∀ xs, SqL K H a xs → xs[i]? = some x, fun i H => ∃ xs, SqL K H a xs ∧ xs.length ≤ i⟩
def Itt (K : PySem.W.Frag) (a : Addr) : It :=
  ⟨fun i H => ∃ xs x, SqT K H a xs ∧ xs[i]? = some x, fun i H x H' => H' = H ∧ ∀ xs, SqT K H a xs → xs[i]? = some x, fun i H => ∃ xs, SqT K H a xs ∧ xs.length ≤ i⟩
def Itr (lo : Int) (n : Nat) : It := ⟨fun i _ => i < n, fun i H x H' => H' = H ∧ x = .int (lo + i), fun i _ => n ≤ i⟩
theorem turn_list {P : Program} {w : World} {K : PySem.W.Frag} {tg : Expr} (a it : Addr) : Turn P w K tg (Itl K a) [it] it (fun i h => h.IsListIter it a i) where
  mem := by simp
  obj := fun i h st b hb => by
    have e : b = it := by simpa using hb
    subst e
    obtain ⟨o, e, c, d⟩ := st
    exact ⟨o, e, fun v z => by rw [d] at z; cases z⟩
  keep := fun i h h' st k => st.at fun o e => k it (by simp) o e
  item := by
    intro X hP hw hK hc i pins s σ H E I hf st hg
    subst hP hw hK
    obtain ⟨xs, x, hq, hx⟩ := hg
    obtain ⟨its, rv, p, hz⟩ := I.list hq
    obtain ⟨u, hu, ru⟩ := rv.get hx
    obtain ⟨f0, f1, f2, f3, f4, f5⟩ := hf it (by simp)
    refine wpAny_pyNext_list_item st p.isList (x := u) (by simpa using hu) fun h' st' sb => ?_
    have I1 : Inv X pins σ H { s with heap := h' } := I.turned (t' := s.toks) (fun b o hb e => (sb.2 b hb).trans e) f0 f1 f3 f4 f5
    obtain ⟨o, e, c, d⟩ := id st'
    exact ⟨u, rfl, go_of (s := { s with heap := h' }) e c d (by decide) ⟨x, H, I1, ru, ⟨rfl, fun ys hy => by rw [I.list_inj hy hq]; exact hx⟩, st', fun b hb => (hf b hb).1⟩⟩
  done := by
    intro X hP hw hK hc i pins s σ H E I hf st hg
    subst hP hw hK
    obtain ⟨xs, hq, hx⟩ := hg
    obtain ⟨its, rv, p, hz⟩ := I.list hq
    obtain ⟨f0, f1, f2, f3, f4, f5⟩ := hf it (by simp)
    have hl := rv.length
    exact wpAny_pyNext_list_end (I.ok.hd hc) st p.isList (by simp; omega) fun h' eb => ⟨rfl, I.turned (t' := s.toks) (fun b o hb e => eb b o hb e) f0 f1 f3 f4 f5⟩
  self := fun _ _ _ _ _ st h => wpAny_pyIter_listiter st h
theorem turn_tuple {P : Program} {w : World} {K : PySem.W.Frag} {tg : Expr} (a it : Addr) : Turn P w K tg (Itt K a) [it] it (fun i h => h.IsTupleIter it a i) where
  mem := by simp
  obj := fun i h st b hb => by
    have e : b = it := by simpa using hb
    subst e
    obtain ⟨o, e, c, d⟩ := st
    exact ⟨o, e, fun v z => by rw [d] at z; cases z⟩
  keep := fun i h h' st k => st.at fun o e => k it (by simp) o e
  item := by
    intro X hP hw hK hc i pins s σ H E I hf st hg
    subst hP hw hK
    obtain ⟨xs, x, hq, hx⟩ := hg
    obtain ⟨its, rv, p, hz⟩ := I.tuple hq
    obtain ⟨u, hu, ru⟩ := rv.get hx
    obtain ⟨f0, f1, f2, f3, f4, f5⟩ := hf it (by simp)
    refine wpAny_pyNext_tuple_item st (show s.heap.IsTuple a its.toArray from p) (x := u) (by simpa using hu) fun h' st' sb => ?_
    have I1 : Inv X pins σ H { s with heap := h' } := I.turned (t' := s.toks) (fun b o hb e => (sb.2 b hb).trans e) f0 f1 f3 f4 f5
    obtain ⟨o, e, c, d⟩ := id st'
    exact ⟨u, rfl, go_of (s := { s with heap := h' }) e c d (by decide) ⟨x, H, I1, ru, ⟨rfl, fun ys hy => by rw [I.tuple_inj hy hq]; exact hx⟩, st', fun b hb => (hf b hb).1⟩⟩
  done := by
    intro X hP hw hK hc i pins s σ H E I hf st hg
    subst hP hw hK
    obtain ⟨xs, hq, hx⟩ := hg
    obtain ⟨its, rv, p, hz⟩ := I.tuple hq
    obtain ⟨f0, f1, f2, f3, f4, f5⟩ := hf it (by simp)
    have hl := rv.length
    exact wpAny_pyNext_tuple_end (I.ok.hd hc) st (show s.heap.IsTuple a its.toArray from p) (by simp; omega) fun h' eb => ⟨rfl, I.turned (t' := s.toks) (fun b o hb e => eb b o hb e) f0 f1 f3 f4 f5⟩
  self := fun _ _ _ _ _ st h => wpAny_pyIter_tupleiter st h
theorem turn_range {P : Program} {w : World} {K : PySem.W.Frag} {tg : Expr} (it : Addr) (lo : Int) (n : Nat) : Turn P w K tg (Itr lo n) [it] it (fun i h => IsRangeIter h it (lo + (i : Nat) * 1) ((n : Int) - (i : Nat)) 1) where
  mem := by simp
  obj := fun i h st b hb => by
    have e : b = it := by simpa using hb
    subst e
    exact ⟨_, st, fun v z => by
      have z' : Data.fields _ = Data.cell v := z
      cases z'⟩
  keep := fun i h h' st k => k it (by simp) _ st
  item := by
    intro X hP hw hK hc i pins s σ H E I hf st hg
    subst hP hw hK
    obtain ⟨f0, f1, f2, f3, f4, f5⟩ := hf it (by simp)
    have W := Walks.range (prog := X.prog) (w := X.w) (I.ok.hd hc) it lo 1 n
    refine W.item i s _ _ hg st fun v h' tk hv st' kk => ?_
    obtain ⟨t, rfl⟩ := hv
    have I1 : Inv X pins σ H { s with heap := h', toks := tk } := I.turned (fun b o hb e => kk b o (by simpa using hb) e) f0 f1 f3 f4 f5
    refine ⟨_, rfl, go_of (s := { s with heap := h', toks := tk }) (n := "range_iterator") st' rfl rfl (by decide) ⟨.int (lo + i), H, I1, ⟨t, ?_⟩, ⟨rfl, rfl⟩, st', fun b hb => (hf b hb).1⟩⟩
    rw [Int.mul_one]
  done := by
    intro X hP hw hK hc i pins s σ H E I hf st hg
    subst hP hw hK
    obtain ⟨f0, f1, f2, f3, f4, f5⟩ := hf it (by simp)
    exact wpAny_pyNext_range_end (I.ok.hd hc) st (by have : n ≤ i := hg; omega) fun h' eb => ⟨rfl, I.turned (t' := s.toks) (fun b o hb e => eb b o hb e) f0 f1 f3 f4 f5⟩
  self := fun _ _ _ _ _ st h => wpAny_pyIter_rangeiter st h
end L2
namespace L2
open PySem PySem.Spec PyProof.Rows
section
variable {X : Cx} {tg : Expr}
theorem range_it {pins : List (Addr × Obj)} {σ : St} {H : Hp} {s : Shared} {R : It → Hp → Prop} {E : Value → Shared → Prop} {lo hi : Int} {t u v : Tok} {tk : Nat} (I : Inv X pins σ H s) (h1 : -(2 ^ 62) ≤ lo) (h2 : lo < 2 ^ 62) (h3 : -(2 ^ 62) ≤ hi) (h4 : hi < 2 ^ 62)
    (q : R (Itr lo (hi - lo).toNat) H) : wpAny (model X.prog X.w) X.A (pyIter (.ref s.heap.objs.size)) (PIE X pins σ tg R) E { s with heap := s.heap.push { cls := .type "range", data := .fields #[.int lo t, .int hi u, .int 1 v] }, toks := tk } := by
  refine wpAny_pyIter_range (IsRange.new ..) (small_one h1 h2 h3 h4) ?_
  have I1 : Inv X pins σ H { s with heap := s.heap.push { cls := .type "range", data := .fields #[.int lo t, .int hi u, .int 1 v] }, toks := tk } := I.kept fun b o e => Heap.get?_push_of_some _ e
  refine ⟨(s.heap.push { cls := .type "range", data := .fields #[.int lo t, .int hi u, .int 1 v] }).objs.size, [(s.heap.push { cls := .type "range", data := .fields #[.int lo t, .int hi u, .int 1 v] }).objs.size], _, _, H, rfl,
    I1.kept (t' := tk) fun b o e => Heap.get?_push_of_some _ e, turn_range _ lo (hi - lo).toNat, ?_, fun b hb => ?_, q⟩
  · have e1 : lo + ((0 : Nat) : Int) * 1 = lo := by simp
    have e2 : (((hi - lo).toNat : Nat) : Int) - ((0 : Nat) : Int) = Builtin.Range.rangeSize lo hi 1 := by rw [rangeSize_one]; split <;> omega
    show IsRangeIter _ _ (lo + ((0 : Nat) : Int) * 1) ((((hi - lo).toNat : Nat) : Int) - ((0 : Nat) : Int)) 1
    rw [e1, e2]
    exact Heap.get?_push_size _ rfl
  · have e : b = (s.heap.push { cls := .type "range", data := .fields #[.int lo t, .int hi u, .int 1 v] }).objs.size := by simpa using hb
    subst e
    exact I1.fpOk (Nat.le_refl _) (I1.hok.fresh (Nat.le_refl _))
def iRng1 (ta : TA) : TI := fun σ H R => ta σ H fun vs H1 => ∃ j : Int, vs = [.int j] ∧ -(2 ^ 62) ≤ j ∧ j < 2 ^ 62 ∧ R (Itr 0 j.toNat) H1
theorem pi_range1 {a : Expr} {ta : TA} {p pos : Pos} (hg : Gl X "range") (hm : X.mg "range" = none) (ha : PA X [a] ta) (hs : starEach [a] X.env = [(false, eval a X.env)] := by rfl) : PI X tg (.Call (.Name "range" p) [a] [] pos) (iRng1 ta) := by
  intro pins s σ H R I h
  refine Call_ (ld_blt I hg hm boot_range (PyProof.Rows.callWith_type1 (thn (ha pos pins s σ H _ I h) fun us s1 ⟨vs, H1, I1, r1, q1⟩ => ?_) hs rfl))
  obtain ⟨j, e, q1, q2, q⟩ := q1
  subst e
  cases r1 with
  | cons r rr =>
    cases rr
    obtain ⟨t, rfl⟩ := r
    exact call_range_1 (range_it I1 (by omega) (by omega) q1 q2 (by simpa using q))
def tFor (wi : TI) (g : TG) (tb : TS) : TS := fun D σ H => wi σ H fun J H1 => ∃ W : Nat → Nat → St → Hp → Prop, (∃ m, W 0 m σ H1) ∧ ∀ i m σ H, W i m σ H →
  (J.stop i H ∧ D.nx σ H) ∨ (J.go i H ∧ ∃ N : St → Hp → Prop, (∀ σ' H', N σ' H' → ∃ m', m' < m ∧ W (i + 1) m' σ' H') ∧ ∀ x H', J.yld i H x H' → g x σ H' fun σ2 H2 => tb { D with nx := N, ct := N, bk := D.nx } σ2 H2)
def pinsAt (fp : List Addr) (h : Heap) : List (Addr × Obj) := fp.filterMap fun b => (h.get? b).map fun o => (b, o)
theorem mem_pinsAt {fp : List Addr} {h : Heap} {b : Addr} {o : Obj} (hb : b ∈ fp) (e : h.get? b = some o) : (b, o) ∈ pinsAt fp h := List.mem_filterMap.mpr ⟨b, hb, by rw [e]; rfl⟩
theorem of_pinsAt {fp : List Addr} {h : Heap} {p : Addr × Obj} (hp : p ∈ pinsAt fp h) : p.1 ∈ fp ∧ h.get? p.1 = some p.2 := by
  obtain ⟨b, hb, e⟩ := List.mem_filterMap.mp hp
  cases q : h.get? b with
  | none => rw [q] at e; cases e
  | some o =>
    rw [q] at e
    have e' : (b, o) = p := Option.some.inj e
    subst e'
    exact ⟨hb, q⟩
theorem Inv.pinned {pins : List (Addr × Obj)} {σ : St} {H : Hp} {s : Shared} {fp : List Addr} (I : Inv X pins σ H s) (hf : ∀ b ∈ fp, FpOk X pins H b) (ho : ∀ b ∈ fp, ∃ o, s.heap.get? b = some o ∧ ∀ v, o.data ≠ .cell v) : Inv X (pins ++ pinsAt fp s.heap) σ H s :=
  I.pins_of fun p hp => (List.mem_append.mp hp).elim (fun z => I.pin p (List.mem_append_right _ z)) fun z => by
    obtain ⟨hb, e⟩ := of_pinsAt z
    obtain ⟨f0, f1, f2, _⟩ := hf p.1 hb
    obtain ⟨o, e', d⟩ := ho p.1 hb
    rw [e] at e'; cases e'
    exact ⟨e, f0, f1, f2, d⟩
theorem Inv.unpinned {pins pl : List (Addr × Obj)} {σ : St} {H : Hp} {s : Shared} (I : Inv X (pins ++ pl) σ H s) : Inv X pins σ H s := I.pins_of fun p hp => I.pin p (List.mem_append_right _ (List.mem_append_left _ hp))
theorem ps_for {iter : Expr} {body : List Stmt} {wi : TI} {g : TG} {tb : TS} {pos : Pos} (hp : PassesOwn (model X.prog X.w) X.A X.env X.xe) (hc : X.calm = true) (hi : PI X tg iter wi) (hg : PG X tg g) (hb : PSs X body tb)
    (hs : ∀ x, foldedSetIterable iter X.env x = pure x := by intro _; rfl) : PS X (.For tg iter body [] pos) (tFor wi g tb) := by
  intro pins s σ H D I h
  refine wpAny_For (thn (hi pins s σ H _ I h) fun v s1 h1 => thn h1 fun itv s2 h2 => ?_) hs
  obtain ⟨it, fp, tn, J, H2, e, I2, T, st2, f2, W, ⟨m0, w0⟩, turn⟩ := h2
  subst e
  have stat : ∀ {H' : Hp}, (∀ b ∈ fp, H' b = none) → ∀ b ∈ fp, FpOk X pins H' b := fun hn b hb => ⟨hn b hb, (f2 b hb).2⟩
  refine codeAny_forLoop_any (fun n s' => ∃ i σ' H', Inv X pins σ' H' s' ∧ tn i s'.heap ∧ (∀ b ∈ fp, H' b = none) ∧ W i n σ' H') ?_ m0 ⟨0, σ, H2, I2, st2, fun b hb => (f2 b hb).1, w0⟩
  rintro n s3 ⟨i, σ3, H3, I3, st3, fr3, w3⟩
  rcases turn i n σ3 H3 w3 with ⟨stop, qn⟩ | ⟨go, N, hN, step⟩
  · refine wpAny_passesOwn hp (thn (T.done X rfl rfl rfl hc i pins s3 σ3 H3 X.xe I3 (stat fr3) st3 stop) fun r s4 ⟨hr, I4⟩ => ?_)
    subst hr
    exact wpAny_execs_nil ⟨σ3, H3, I4, qn⟩
  · refine wpAny_passesOwn hp (thn (T.item X rfl rfl rfl hc i pins s3 σ3 H3 X.xe I3 (stat fr3) st3 go) fun r s4 ⟨u, hr, h4⟩ => ?_)
    subst hr
    refine wpAny_passesOwn hp (thn h4 fun _ s5 ⟨x, H5, I5, r5, y5, st5, fr5⟩ => ?_)
    have I5' := I5.pinned (stat fr5) (T.obj _ _ st5)
    refine wpAny_passesOwn hp (thn (hg _ s5 σ3 H5 x u _ I5' r5 (step x H5 y5)) fun _ s6 ⟨σ6, H6, I6, q6⟩ => ?_)
    refine wpAny_passesOwn hp (thn (hb _ s6 σ6 H6 _ I6 q6) fun f s7 q7 => ?_)
    have again : ∀ {σ7 : St} {H7 : Hp}, Inv X (pins ++ pinsAt fp s5.heap) σ7 H7 s7 → N σ7 H7 → ∃ m, m < n ∧ ∃ i σ' H', Inv X pins σ' H' s7 ∧ tn i s7.heap ∧ (∀ b ∈ fp, H' b = none) ∧ W i m σ' H' := fun {σ7 H7} I7 n7 => by
      obtain ⟨m', hm, w7⟩ := hN σ7 H7 n7
      refine ⟨m', hm, i + 1, σ7, H7, I7.unpinned, T.keep _ _ _ st5 fun b hb o e => (I7.pin (b, o) (List.mem_append_right _ (List.mem_append_right _ (mem_pinsAt hb e)))).1, fun b hb => ?_, w7⟩
      obtain ⟨o, e, d⟩ := T.obj _ _ st5 b hb
      exact (I7.pin (b, o) (List.mem_append_right _ (List.mem_append_right _ (mem_pinsAt hb e)))).2.1
    cases f with
    | next => obtain ⟨σ7, H7, I7, n7⟩ := q7; exact again I7 n7
    | cont => obtain ⟨σ7, H7, I7, n7⟩ := q7; exact again I7 n7
    | brk => obtain ⟨σ7, H7, I7, q7⟩ := q7; exact ⟨σ7, H7, I7.unpinned, q7⟩
    | ret v => obtain ⟨x7, σ7, H7, I7, r7, q7⟩ := q7; exact ⟨x7, σ7, H7, I7.unpinned, r7, q7⟩
end
end L2
namespace L2
open PySem PySem.Spec PyProof.Rows
abbrev R2 := V → V → Hp → VK → Prop
def OpR (X : Cx) (f : Value → Value → Sem Value) (r : R2) : Prop :=
  ∀ (pins : List (Addr × Obj)) (s : Shared) (σ : St) (H : Hp) (x y : V) (v u : Value) (Q : VK), Inv X pins σ H s → RelV x v → RelV y u → r x y H Q →
    wpAny (model X.prog X.w) X.A (f v u) (EP X pins σ Q) X.xe s
def UnR (X : Cx) (f : Value → Sem Value) (r : V → Hp → VK → Prop) : Prop :=
  ∀ (pins : List (Addr × Obj)) (s : Shared) (σ : St) (H : Hp) (x : V) (v : Value) (Q : VK), Inv X pins σ H s → RelV x v → r x H Q →
    wpAny (model X.prog X.w) X.A (f v) (EP X pins σ Q) X.xe s
def CallR (X : Cx) (f : Value) (r : List V → Hp → VK → Prop) : Prop :=
  ∀ (pins : List (Addr × Obj)) (s : Shared) (σ : St) (H : Hp) (xs : List V) (us : List Value) (Q : VK), Inv X pins σ H s → Vals xs us → r xs H Q →
    wpAny (model X.prog X.w) X.A (call f us) (EP X pins σ Q) X.xe s
def tOp (r : R2) (ta tb : TE) : TE := fun σ H Q => ta σ H fun x H1 => tb σ H1 fun y H2 => r x y H2 Q
def tUn (r : V → Hp → VK → Prop) (ta : TE) : TE := fun σ H Q => ta σ H fun x H1 => r x H1 Q
def rI (C : Int → Int → Prop) (g : Int → Int → V) : R2 := fun x y H Q => ∃ i j, x = .int i ∧ y = .int j ∧ C i j ∧ Q (g i j) H
def rI0 (g : Int → Int → V) : R2 := fun x y H Q => ∃ i j, x = .int i ∧ y = .int j ∧ Q (g i j) H
def rU (g : Int → V) : V → Hp → VK → Prop := fun x H Q => ∃ i, x = .int i ∧ Q (g i) H
section
variable {X : Cx} {a b c : Expr} {ta tb tc : TE} {pos : Pos}
theorem binT (ha : PE X a ta) (hb : PE X b tb) {pins : List (Addr × Obj)} {s : Shared} {σ : St} {H : Hp} {R : V → V → Hp → Prop} (I : Inv X pins σ H s)
    (h : ta σ H fun x H1 => tb σ H1 fun y H2 => R x y H2) {Q : Value → Shared → Prop} {f : Value → Value → Sem Value}
    (hf : ∀ v u s2 x y H2, Inv X pins σ H2 s2 → RelV x v → RelV y u → R x y H2 → wpAny (model X.prog X.w) X.A (f v u) Q X.xe s2) :
    wpAny (model X.prog X.w) X.A (eval a X.env) (fun v s₁ => wpAny (model X.prog X.w) X.A (eval b X.env) (fun u s₂ => wpAny (model X.prog X.w) X.A (f v u) Q X.xe s₂) X.xe s₁) X.xe s := by
  refine thn (ha pins s σ H _ I h) fun v s1 ⟨x, H1, I1, r1, q1⟩ => ?_
  refine thn (hb pins s1 σ H1 _ I1 q1) fun u s2 ⟨y, H2, I2, r2, q2⟩ => ?_
  exact hf v u s2 x y H2 I2 r1 r2 q2
theorem pe_op {op : Operator} {r : R2} (ho : OpR X (binaryOp op) r) (ha : PE X a ta) (hb : PE X b tb) : PE X (.BinOp a op b pos) (tOp r ta tb) := by
  intro pins s σ H Q I h
  exact wpAny_BinOp (binT ha hb I h fun v u s2 x y H2 I2 rx ry q => ho pins s2 σ H2 x y v u Q I2 rx ry q)
theorem pe_un {op : UnaryOp} {r : V → Hp → VK → Prop} (ho : UnR X (unaryOp op) r) (ha : PE X a ta) : PE X (.UnaryOp op a pos) (tUn r ta) := by
  intro pins s σ H Q I h
  exact UnaryOp_ (thn (ha pins s σ H _ I h) fun v s1 ⟨x, H1, I1, r1, q1⟩ => ho pins s1 σ H1 x v Q I1 r1 q1)
theorem opI {f : Value → Value → Sem Value} {C : Int → Int → Prop} {g : Int → Int → Int}
    (rule : ∀ (i j : Int) (t u : Tok) (s : Shared) (Q : Value → Shared → Prop) (E : Value → Shared → Prop), C i j → Q (.int (g i j) s.toks) { s with toks := s.toks + 1 } → wpAny (model X.prog X.w) X.A (f (.int i t) (.int j u)) Q E s) :
    OpR X f (rI C fun i j => .int (g i j)) := by
  intro pins s σ H x y v u Q I rx ry h
  obtain ⟨i, j, rfl, rfl, hc, q⟩ := h
  obtain ⟨t, rfl⟩ := rx
  obtain ⟨t', rfl⟩ := ry
  exact rule i j t t' s _ _ hc ⟨.int (g i j), H, I.tok _, ⟨_, rfl⟩, q⟩
theorem opI0 {f : Value → Value → Sem Value} {g : Int → Int → Int}
    (rule : ∀ (i j : Int) (t u : Tok) (s : Shared) (Q : Value → Shared → Prop) (E : Value → Shared → Prop), Q (.int (g i j) s.toks) { s with toks := s.toks + 1 } → wpAny (model X.prog X.w) X.A (f (.int i t) (.int j u)) Q E s) :
    OpR X f (rI0 fun i j => .int (g i j)) := by
  intro pins s σ H x y v u Q I rx ry h
  obtain ⟨i, j, rfl, rfl, q⟩ := h
  obtain ⟨t, rfl⟩ := rx
  obtain ⟨t', rfl⟩ := ry
  exact rule i j t t' s _ _ ⟨.int (g i j), H, I.tok _, ⟨_, rfl⟩, q⟩
theorem opB0 {f : Value → Value → Sem Value} {g : Int → Int → Bool}
    (rule : ∀ (i j : Int) (t u : Tok) (s : Shared) (Q : Value → Shared → Prop) (E : Value → Shared → Prop), Q (.bool (g i j)) s → wpAny (model X.prog X.w) X.A (f (.int i t) (.int j u)) Q E s) :
    OpR X f (rI0 fun i j => .bl (g i j)) := by
  intro pins s σ H x y v u Q I rx ry h
  obtain ⟨i, j, rfl, rfl, q⟩ := h
  obtain ⟨t, rfl⟩ := rx
  obtain ⟨t', rfl⟩ := ry
  exact rule i j t t' s _ _ ⟨.bl (g i j), H, I, rfl, q⟩
def CDiv (i j : Int) : Prop := 0 < j ∧ j < 1073741824
def CPow (i j : Int) : Prop := 0 ≤ j ∧ j ≤ 1000000 ∧ i.natAbs < 2 ^ 64
def CMul (i j : Int) : Prop := (-(2 ^ 64) < i ∧ i < 2 ^ 64) ∨ (-(2 ^ 64) < j ∧ j < 2 ^ 64)
theorem CMul.ok {i j : Int} (h : CMul i j) : IntMulOk i j := by
  rcases h with ⟨h1, h2⟩ | ⟨h1, h2⟩
  · exact .of_left (intBits_le_64 h1 h2)
  · exact .of_right (intBits_le_64 h1 h2)
theorem op_add : OpR X (binaryOp .Add) (rI0 fun i j => .int (i + j)) := opI0 fun _ _ _ _ _ _ _ q => add_int q
theorem op_sub : OpR X (binaryOp .Sub) (rI0 fun i j => .int (i - j)) := opI0 fun _ _ _ _ _ _ _ q => sub_int q
theorem op_mul : OpR X (binaryOp .Mult) (rI CMul fun i j => .int (i * j)) := opI fun _ _ _ _ _ _ _ hc q => mul_int q hc.ok
theorem op_fdiv : OpR X (binaryOp .FloorDiv) (rI CDiv fun i j => .int (i / j)) := opI fun i j _ _ _ _ _ hc q => by
  have h1 : (0 : Int) < j := hc.1
  have h2 : j < 1073741824 := hc.2
  exact floordiv_int (by omega) (by rw [Int.fdiv_eq_ediv_of_nonneg i (by omega)]; exact q) (.inl (PyProof.noPylong_small (by omega)))
theorem op_mod : OpR X (binaryOp .Mod) (rI (fun _ j => 0 < j) fun i j => .int (i % j)) := opI fun i j _ _ _ _ _ hc q => by
  have h1 : (0 : Int) < j := hc
  exact mod_int' (by omega) (by rw [Int.fmod_eq_emod_of_nonneg i (by omega)]; exact q)
theorem op_pow : OpR X (binaryOp .Pow) (rI CPow fun i j => .int (i ^ j.toNat)) := opI fun _ _ _ _ _ _ _ hc q => pow_int_small hc.1 hc.2.1 hc.2.2 q
theorem unI {f : Value → Sem Value} {g : Int → Int}
    (rule : ∀ (i : Int) (t : Tok) (s : Shared) (Q : Value → Shared → Prop) (E : Value → Shared → Prop), Q (.int (g i) s.toks) { s with toks := s.toks + 1 } → wpAny (model X.prog X.w) X.A (f (.int i t)) Q E s) :
    UnR X f (rU fun i => .int (g i)) := by
  intro pins s σ H x v Q I rx h
  obtain ⟨i, rfl, q⟩ := h
  obtain ⟨t, rfl⟩ := rx
  exact rule i t s _ _ ⟨.int (g i), H, I.tok _, ⟨_, rfl⟩, q⟩
theorem un_neg : UnR X (unaryOp .USub) (rU fun i => .int (-i)) := unI fun _ _ _ _ _ q => neg_int q
end
section
variable {X : Cx} {a b c : Expr} {ta tb tc : TE} {pos : Pos}
theorem fin_bl {pins : List (Addr × Obj)} {σ : St} {H : Hp} {s : Shared} {Q : VK} {k k' : Bool} (I : Inv X pins σ H s) (q : Q (.bl k) H) (e : k = k') : EP X pins σ Q (.bool k') s := by
  subst e
  exact ⟨.bl k, H, I, rfl, q⟩
theorem op_lt : OpR X (compareOp .Lt) (rI0 fun i j => .bl (decide (i < j))) := opB0 fun _ _ _ _ _ _ _ q => lt_int q
theorem op_le : OpR X (compareOp .LtE) (rI0 fun i j => .bl (decide (i ≤ j))) := opB0 fun _ _ _ _ _ _ _ q => le_int q
theorem op_gt : OpR X (compareOp .Gt) (rI0 fun i j => .bl (decide (j < i))) := opB0 fun _ _ _ _ _ _ _ q => gt_int q
theorem op_ge : OpR X (compareOp .GtE) (rI0 fun i j => .bl (decide (j ≤ i))) := opB0 fun _ _ _ _ _ _ _ q => ge_int q
theorem op_in_str : OpR X (compareOp .In) (fun x y H Q => ∃ i j, x = .str i ∧ y = .str j ∧ Q (.bl (!(Builtin.Str.occurrences j i 0 j.length 1).isEmpty)) H) := by
  intro pins s σ H x y v u Q I rx ry h
  obtain ⟨i, j, rfl, rfl, q⟩ := h
  obtain ⟨t, rfl⟩ := rx
  obtain ⟨t', rfl⟩ := ry
  exact in_str (fin_bl I q rfl)
theorem op_notN : OpR X (compareOp .IsNot) (fun x y H Q => y = .non ∧ Q (.bl (!decide (x = .non))) H) := by
  intro pins s σ H x y v u Q I rx ry h
  obtain ⟨rfl, q⟩ := h
  cases ry
  refine isnot_none_gen (fin_bl I q ?_)
  cases x <;> first
    | (cases rx; rfl)
    | (obtain ⟨t, rfl⟩ := rx; rfl)
theorem nomark (b : Expr) {op : CmpOp} (h : op ≠ .In := by decide) (h2 : op ≠ .NotIn := by decide) : behindInMarks op b = false := by
  have e1 : (op == CmpOp.In) = false := by cases op <;> first | rfl | exact absurd rfl h
  have e2 : (op == CmpOp.NotIn) = false := by cases op <;> first | rfl | exact absurd rfl h2
  cases b <;> simp [behindInMarks, e1, e2]
theorem pe_cmpR {op : CmpOp} {r : R2} (ho : OpR X (compareOp op) r) (ha : PE X a ta) (hb : PE X b tb) (hm : behindInMarks op b = false) : PE X (.Compare a [op] [b] pos) (tOp r ta tb) := by
  intro pins s σ H Q I h
  exact wpAny_Compare1 (binT ha hb I h fun v u s2 x y H2 I2 rx ry q => ho pins s2 σ H2 x y v u Q I2 rx ry q) hm
def tTest (t : TE) : TT := fun σ H Q => t σ H fun x H' => ∃ k, x = .bl k ∧ Q k H'
theorem pt_cmpR {op : CmpOp} {r : R2} (ho : OpR X (compareOp op) r) (ha : PE X a ta) (hb : PE X b tb) (hm : behindInMarks op b = false) : PT X (.Compare a [op] [b] pos) (tTest (tOp r ta tb)) := by
  intro pins s σ H Q I h
  refine wpAny_isTrue_Compare1 (thn (ha pins s σ H _ I h) fun v s1 ⟨x, H1, I1, r1, q1⟩ => thn (hb pins s1 σ H1 _ I1 q1) fun u s2 ⟨y, H2, I2, r2, q2⟩ =>
    thn (ho pins s2 σ H2 x y v u _ I2 r1 r2 q2) fun c s3 ⟨z, H3, I3, r3, k, e, q3⟩ => ?_) hm
  subst e
  cases r3
  exact wpAny_truthy_bool ⟨H3, I3, q3⟩
def tChain (r r' : R2) (ta tb tc : TE) : TE := fun σ H Q => ta σ H fun x H1 => tb σ H1 fun y H2 => r x y H2 fun z H3 => ∃ k, z = .bl k ∧
  (if k = true then tc σ H3 fun w' H4 => r' y w' H4 Q else Q (.bl false) H3)
theorem pe_chain {op op' : CmpOp} {r r' : R2} (ho : OpR X (compareOp op) r) (ho' : OpR X (compareOp op') r') (ha : PE X a ta) (hb : PE X b tb) (hc : PE X c tc)
    (hm : lastMarks [op, op'] [b, c] = false := by with_unfolding_all rfl) : PE X (.Compare a [op, op'] [b, c] pos) (tChain r r' ta tb tc) := by
  intro pins s σ H Q I h
  refine Compare_chain (thn (ha pins s σ H _ I h) fun v s1 ⟨x, H1, I1, r1, q1⟩ => chain_link (thn (hb pins s1 σ H1 _ I1 q1) fun u s2 ⟨y, H2, I2, r2, q2⟩ =>
    thn (ho pins s2 σ H2 x y v u _ I2 r1 r2 q2) fun d s3 ⟨z, H3, I3, r3, k, e, q3⟩ => ?_)) hm
  subst e
  cases r3
  refine wpAny_truthy_bool ?_
  cases k with
  | false => exact ite_ff ⟨.bl false, H3, I3, rfl, q3⟩
  | true => exact ite_tt (chain_last (thn (hc pins s3 σ H3 _ I3 q3) fun w' s4 ⟨z', H4, I4, r4, q4⟩ => ho' pins s4 σ H4 y z' u w' Q I4 r2 r4 q4))
theorem pt_chain {op op' : CmpOp} {r r' : R2} (ho : OpR X (compareOp op) r) (ho' : OpR X (compareOp op') r') (ha : PE X a ta) (hb : PE X b tb) (hc : PE X c tc)
    (hm : lastMarks [op, op'] [b, c] = false := by with_unfolding_all rfl) : PT X (.Compare a [op, op'] [b, c] pos) (tTest (tChain r r' ta tb tc)) := by
  intro pins s σ H Q I h
  refine isTrue_chain (thn (ha pins s σ H _ I h) fun v s1 ⟨x, H1, I1, r1, q1⟩ => test_link (thn (hb pins s1 σ H1 _ I1 q1) fun u s2 ⟨y, H2, I2, r2, q2⟩ =>
    thn (ho pins s2 σ H2 x y v u _ I2 r1 r2 q2) fun d s3 ⟨z, H3, I3, r3, k, e, q3⟩ => ?_)) hm
  subst e
  cases r3
  refine wpAny_truthy_bool ?_
  cases k with
  | false =>
    obtain ⟨k', e', q'⟩ := q3
    cases e'
    exact ite_ff ⟨H3, I3, q'⟩
  | true =>
    refine ite_tt (test_last (thn (hc pins s3 σ H3 _ I3 q3) fun w' s4 ⟨z', H4, I4, r4, q4⟩ => thn (ho' pins s4 σ H4 y z' u w' _ I4 r2 r4 q4) fun d' s5 ⟨z2, H5, I5, r5, k2, e2, q5⟩ => ?_))
    subst e2
    cases r5
    exact wpAny_truthy_bool ⟨H5, I5, q5⟩
theorem line63 : (sizeLine : Nat) < 2 ^ 63 := by rw [sizeLine_eq]; decide
theorem op_add_str : OpR X (binaryOp .Add) (fun x y H Q => ∃ i j, x = .str i ∧ y = .str j ∧ i.length + j.length ≤ sizeLine ∧ Q (.str (i ++ j)) H) := by
  intro pins s σ H x y v u Q I rx ry h
  obtain ⟨i, j, rfl, rfl, hz, q⟩ := h
  obtain ⟨t, rfl⟩ := rx
  obtain ⟨t', rfl⟩ := ry
  exact add_str (fun t' tk => ⟨.str (i ++ j), H, I.tok _, ⟨_, rfl⟩, q⟩) hz
theorem vals1 {x : V} {us : List Value} (r : Vals [x] us) : ∃ u, us = [u] ∧ RelV x u := by
  cases r with
  | cons r1 r2 => cases r2; exact ⟨_, rfl, r1⟩
end
end L2
namespace L2
open PySem PySem.Spec PyProof.Rows
theorem lookIn_ns {h : Heap} {dx : Addr} {mA : Str → Option Value} (n : h.Ns1 dx mA) : ∃ od, h.get? dx = some od ∧ ∀ name, PySem.W.lookIn name od = some (mA name) := by
  obtain ⟨o, es, ep, ho, hd, hk, _, hm⟩ := n
  refine ⟨o, ho, fun name => ?_⟩
  have e := hm name
  unfold nsFind findBy at e
  rw [← Array.find?_toList] at e
  unfold PySem.W.lookIn
  rw [hd]
  dsimp only
  split
  · rename_i y q
    rw [q] at e
    exact congrArg some e
  · rename_i q
    rw [q] at e
    have a : es.toList.any (·.refKey) = false := by
      rw [List.any_eq_false]
      intro y hy
      obtain ⟨z, t, hkey⟩ := hk y (Array.mem_toList_iff.mp hy)
      simp [DictEntry.refKey, hkey]
    have a' : ¬ es.toList.any (·.refKey) = true := by rw [a]; exact Bool.false_ne_true
    rw [if_neg a']
    exact congrArg some e
section
variable {prog : Program} {w : World} {A : Around} {E : Value → Shared → Prop} {s : Shared} {K : PySem.W.Frag} {x dx C f : Addr} {mA : Str → Option Value} {name : Str} {v : Value}
end
def putF (f : Str) (v : V) : List (Str × V) → List (Str × V)
  | [] => [(f, v)]
  | (g, x) :: r => if g = f then (g, v) :: r else (g, x) :: putF f v r
theorem lookup_putF (f g : Str) (v : V) : ∀ fs : List (Str × V), (putF f v fs).lookup g = if g = f then some v else fs.lookup g
  | [] => by
    show List.lookup g [(f, v)] = _
    by_cases h : g = f
    · have hb : (g == f) = true := beq_iff_eq.mpr h
      simp only [List.lookup, hb, if_pos h]
    · have hb : (g == f) = false := beq_eq_false_iff_ne.mpr h
      simp only [List.lookup, hb, if_neg h]
  | (k, x) :: r => by
    have ih := lookup_putF f g v r
    rw [show putF f v ((k, x) :: r) = (if k = f then (k, v) :: r else (k, x) :: putF f v r) from rfl]
    by_cases hk : k = f
    · rw [if_pos hk]
      by_cases h : g = k
      · have hb : (g == k) = true := beq_iff_eq.mpr h
        simp only [List.lookup, hb, if_pos (h.trans hk)]
      · have hb : (g == k) = false := beq_eq_false_iff_ne.mpr h
        simp only [List.lookup, hb, if_neg (fun e : g = f => h (e.trans hk.symm))]
    · rw [if_neg hk]
      by_cases h : g = k
      · have hb : (g == k) = true := beq_iff_eq.mpr h
        simp only [List.lookup, hb, if_neg (fun e : g = f => hk (h.symm.trans e))]
      · have hb : (g == k) = false := beq_eq_false_iff_ne.mpr h
        simp only [List.lookup, hb]
        exact ih
theorem keys_putF (f : Str) (v : V) : ∀ fs : List (Str × V), f ∈ (putF f v fs).map (·.1) ∧ ∀ g, g ∈ fs.map (·.1) → g ∈ (putF f v fs).map (·.1)
  | [] => ⟨by simp [putF], fun g h => by simp at h⟩
  | (k, x) :: r => by
    obtain ⟨i1, i2⟩ := keys_putF f v r
    rw [show putF f v ((k, x) :: r) = (if k = f then (k, v) :: r else (k, x) :: putF f v r) from rfl]
    by_cases hk : k = f
    · rw [if_pos hk]
      subst hk
      exact ⟨by simp, fun g h => by simpa using h⟩
    · rw [if_neg hk]
      refine ⟨?_, fun g h => ?_⟩
      · rw [List.map_cons]
        exact List.mem_cons_of_mem _ i1
      · rw [List.map_cons] at h ⊢
        rcases List.mem_cons.mp h with e | e
        · exact List.mem_cons.mpr (.inl e)
        · exact List.mem_cons_of_mem _ (i2 g e)
theorem RelO.some_of {v : V} {o : Option Value} (r : RelO (some v) o) : ∃ u, o = some u ∧ RelV v u := by
  cases o with
  | none => exact (show False from r).elim
  | some u => exact ⟨u, rfl, r⟩
theorem handed_of {v : V} {u : Value} (r : RelV v u) : PySem.W.handedIn u = true := by
  cases v with
  | non => cases (show u = Value.none from r); rfl
  | bl b => cases (show u = Value.bool b from r); rfl
  | int i => obtain ⟨t, e⟩ := (show ∃ t, u = Value.int i t from r); cases e; rfl
  | str x => obtain ⟨t, e⟩ := (show ∃ t, u = Value.str x t from r); cases e; rfl
  | byt b => obtain ⟨t, e⟩ := (show ∃ t, u = Value.bytes b t from r); cases e; rfl
  | flt b => obtain ⟨t, e⟩ := (show ∃ t, u = Value.float b t from r); cases e; rfl
  | ref a => cases (show u = Value.ref a from r); rfl
  | ty n => cases (show u = Value.type n from r); rfl
section
variable {P : Program} {w : World} {H H' : Hp} {h h' : Heap} {a C dx : Addr} {fs fs' : List (Str × V)}
end
structure Cls (K : PySem.W.Frag) (C : Addr) : Prop where
  pg : PySem.W.plainGet K C Str.empty = true
  hd : PySem.W.hasDictIn K C = true
  po : PySem.W.plainOver K C = true
  sa : PySem.W.findIn K (.ref C) "__setattr__" = some (some (.builtin "object.__setattr__"))
theorem Cls.get {K : PySem.W.Frag} {C : Addr} (c : Cls K C) (f : Str) : PySem.W.plainGet K C f = true := c.pg
def NoAttr (K : PySem.W.Frag) (C : Addr) (f : Str) : Prop := PySem.W.findIn K (.ref C) f = some none
section
variable {X : Cx} {pins : List (Addr × Obj)} {σ : St} {H : Hp} {s : Shared} {a C dx : Addr} {fs : List (Str × V)} {f : Str} {v : V} {A : Around} {E : Value → Shared → Prop}
theorem attr_of {prog : Program} {w : World} {env : Env} {e : Expr} {f : Str} {pos : Pos} {s : Shared} {Q : Value → Shared → Prop} (hb : attributeBase e f env (eval e env) = eval e env)
    (h : wpAny (model prog w) A (eval e env) (fun o s₁ => wpAny (model prog w) A (getAttr o f true) Q E s₁) E s) : wpAny (model prog w) A (eval (.Attribute e f pos) env) Q E s :=
  Attribute_any_ h (by rw [arm_eval_Attribute, hb])
end
section
variable {X : Cx} {o e value : Expr} {f : Str} {pos pos' tpos : Pos} {ta tv : TE}
end
section
variable {X : Cx} {pins : List (Addr × Obj)} {σ : St} {H : Hp} {s : Shared} {A : Around} {E : Value → Shared → Prop} {Q : Value → Shared → Prop} {c : Value} {b : Bool}
end
end L2
namespace L2
open PySem PySem.Spec PyProof.Rows
structure Room (k : Nat) (A : Around) : Prop where
  hd : A.handled = none
  dp : A.depth + 3 * k + 5 < recursionLimit
  un : A.units + 16 * k + 200 < cLine
  gd : A.guards = some []
theorem Room.mono {j k : Nat} {A : Around} (r : Room k A) (h : j ≤ k) : Room j A := ⟨r.hd, by have := r.dp; omega, by have := r.un; omega, r.gd⟩
theorem Room.deeper {k : Nat} {A : Around} (r : Room (k + 1) A) (env : Env) : Room k (A.deeper env) :=
  ⟨r.hd, by have := r.dp; show A.depth + 1 + 3 * k + 5 < _; omega, by have := r.un; show A.units + 3 + 16 * k + 200 < _; omega, r.gd⟩
theorem Room.in1 {k : Nat} {A : Around} (r : Room (k + 1) A) : Room k A.in1 :=
  ⟨r.hd, by have := r.dp; show A.depth + 3 * k + 5 < _; omega, by have := r.un; show A.units + 1 + 16 * k + 200 < _; omega, r.gd⟩
theorem make_depth {A : Around} {C : Addr} {us : List Value} {kw : List (Str × Value)} : (A.under (.builtin "type.__call__" ⟨.ref C :: us, kw⟩)).depth = A.depth + 1 := by
  first | rfl | simp [Around.under, Code.weight, Code.isCreation, Code.isGuard, Code.isCaller, Code.frames, Code.isFrame, guardIds]
theorem make_units {A : Around} {C : Addr} {us : List Value} {kw : List (Str × Value)} : (A.under (.builtin "type.__call__" ⟨.ref C :: us, kw⟩)).units = A.units + 1 := by
  first | rfl | simp [Around.under, Code.cUnits, Code.frames, Code.isFrame]
theorem Room.make {k : Nat} {A : Around} (r : Room (k + 1) A) (C : Addr) (us : List Value) (kw : List (Str × Value)) : Room k (A.under (.builtin "type.__call__" ⟨.ref C :: us, kw⟩)) :=
  ⟨r.hd, by have := r.dp; rw [make_depth]; omega, by have := r.un; rw [make_units]; omega, r.gd⟩
theorem Room.depth {k : Nat} {A : Around} (r : Room k A) : A.depth < recursionLimit := by have := r.dp; omega
theorem Room.units {k : Nat} {A : Around} (r : Room k A) : A.units + 64 < cLine := by have := r.un; omega
def tNil : TA := fun _ H Q => Q [] H
def tCons (ta : TE) (tr : TA) : TA := fun σ H Q => ta σ H fun x H1 => tr σ H1 fun xs H2 => Q (x :: xs) H2
section
variable {X : Cx} {e : Expr} {es : List Expr} {te : TE} {t : TA} {pos : Pos}
theorem pa_nil : PA X [] tNil := fun _ _ _ _ H Q I h => Calls.spliced_nil ⟨[], H, I, .nil, h⟩
theorem pa_cons (ha : PE X e te) (hr : PA X es t) (hs : starEach (e :: es) X.env = (false, eval e X.env) :: starEach es X.env := by rfl) : PA X (e :: es) (tCons te t) := by
  intro pos pins s σ H Q I h
  rw [hs]
  show wpAny _ _ (spliced ((false, eval e X.env) :: backTo pos (starEach es X.env))) _ _ s
  refine Calls.spliced_cons (thn (ha pins s σ H _ I h) fun u s1 ⟨x, H1, I1, r1, q1⟩ => ?_)
  exact thn (hr pos pins s1 σ H1 _ I1 q1) fun us s2 ⟨xs, H2, I2, r2, q2⟩ => ⟨x :: xs, H2, I2, .cons r1 r2, q2⟩
def tTup (t : TA) : TE := fun σ H Q => t σ H fun xs H1 => xs.length ≤ sizeLine ∧ ∀ p, H1 p = none → Q (.ref p) (upd H1 p (.tup xs))
def tLst (t : TA) : TE := fun σ H Q => t σ H fun xs H1 => xs.length ≤ sizeLine ∧ ∀ p, H1 p = none → Q (.ref p) (upd H1 p (.lst xs))
theorem pe_tup {x1} (h : PA X es t) : PE X (.Tuple es x1 pos) (tTup t) := by
  intro pins s σ H Q I hq
  refine wpAny_Tuple_spliced (thn (h pos pins s σ H _ I hq) fun us s1 ⟨xs, H1, I1, r, z, q⟩ => ⟨by rw [← r.length]; exact z, ?_⟩)
  have hf : H1 s1.heap.objs.size = none := I1.hok.fresh (Nat.le_refl _)
  refine ⟨.ref s1.heap.objs.size, upd H1 s1.heap.objs.size (.tup xs), I1.laid (t' := s1.toks) (fun b u e => Heap.get?_push_of_some _ e) (Nat.le_refl _) ?_, rfl, q _ hf⟩
  exact ⟨z, us, r, ⟨_, Heap.get?_push_size _ rfl, rfl, _, rfl⟩⟩
theorem pe_lst (h : PA X es t) : PE X (.List es pos) (tLst t) := by
  intro pins s σ H Q I hq
  refine wpAny_List_spliced (thn (h pos pins s σ H _ I hq) fun us s1 ⟨xs, H1, I1, r, z, q⟩ => ⟨by rw [← r.length]; exact z, ?_⟩)
  have hf : H1 s1.heap.objs.size = none := I1.hok.fresh (Nat.le_refl _)
  refine ⟨.ref s1.heap.objs.size, upd H1 s1.heap.objs.size (.lst xs), I1.laid (t' := s1.toks) (fun b u e => Heap.get?_push_of_some _ e) (Nat.le_refl _) ?_, rfl, q _ hf⟩
  exact ⟨z, us, 0, r, Heap.get?_push_size _ rfl⟩
end
abbrev Sp := List V → Hp → VK → XK → Prop
abbrev CXT := List Env → Hp → Shared → XK → Value → Shared → Prop
structure Env0 (P : Program) (w : World) (K : PySem.W.Frag) (mg : Str → Option Value) (base : Heap) (A : Around) (outer : List Env) (s : Shared) (H : Hp) : Prop where
  frames : A.frames = some outer
  mod : Mod K mg base
  bs : ∀ b o, base.get? b = some o → s.heap.get? b = some o ∧ H b = none
  bsz : base.objs.size ≤ s.heap.objs.size
  funs : s.heap.FunFrames base outer
  frf : ∀ b ∈ frs outer, H b = none
  hok : HOk P w H s.heap
  bare : AllBare s.gens
def CE (outer : List Env) (P : Program) (w : World) (H : Hp) (s : Shared) (Q : VK) (u : Value) (s' : Shared) : Prop :=
  ∃ v H', s'.os = s.os ∧ AllBare s'.gens ∧ Un (frs outer) [] H H' s.heap s'.heap ∧ HOk P w H' s'.heap ∧ RelV v u ∧ Q v H'
def CR (CX : CXT) (outer : List Env) (P : Program) (w : World) (H : Hp) (s : Shared) (Q : VK) (E : XK) (r : Result) (s' : Shared) : Prop :=
  match r with
  | .ok (.ret u) => CE outer P w H s Q u s'
  | .ok _ => False
  | .error e => CX outer H s E e s'
structure FnOk (P : Program) (w : World) (K : PySem.W.Frag) (mg : Str → Option Value) (base : Heap) (CX : CXT) (k : Nat) (f : Addr) (fd : FuncData) (ps : List Str) (sp : Sp) : Prop where
  len : ∀ vs H Q E, sp vs H Q E → vs.length = ps.length
  run : ∀ (A : Around) (outer : List Env) (s : Shared) (H : Hp) (args : Args) (us : List Value) (vs : List V) (Q : VK) (E : XK), Room k A → Env0 P w K mg base A outer s H → BindsTo s fd args (ps.zip us) → Vals vs us → sp vs H Q E →
    codeAny (model P w) A (.call (.ref f) args) (CR CX outer P w H s Q E) s
theorem FnOk.mono {P : Program} {w : World} {K : PySem.W.Frag} {mg : Str → Option Value} {base : Heap} {CX : CXT} {j k : Nat} {f : Addr} {fd : FuncData} {ps : List Str} {sp : Sp} (F : FnOk P w K mg base CX j f fd ps sp) (h : j ≤ k) :
    FnOk P w K mg base CX k f fd ps sp := ⟨F.len, fun A outer s H args us vs Q E hr => F.run A outer s H args us vs Q E (hr.mono h)⟩
theorem FnOk.imp {P : Program} {w : World} {K : PySem.W.Frag} {mg : Str → Option Value} {base : Heap} {CX : CXT} {k : Nat} {f : Addr} {fd : FuncData} {ps : List Str} {sp sp' : Sp} (F : FnOk P w K mg base CX k f fd ps sp)
    (h : ∀ vs H Q E, sp' vs H Q E → sp vs H Q E) : FnOk P w K mg base CX k f fd ps sp' :=
  ⟨fun vs H Q E q => F.len vs H Q E (h _ _ _ _ q), fun A outer s H args us vs Q E hr he hb hv hs => F.run A outer s H args us vs Q E hr he hb hv (h _ _ _ _ hs)⟩
theorem Env0.make {P : Program} {w : World} {K : PySem.W.Frag} {mg : Str → Option Value} {base : Heap} {A : Around} {outer : List Env} {s : Shared} {H : Hp} (e : Env0 P w K mg base A outer s H) (C : Addr) (us : List Value) (kw : List (Str × Value)) :
    Env0 P w K mg base (A.under (.builtin "type.__call__" ⟨.ref C :: us, kw⟩)) outer s H := ⟨by first | exact e.frames | (simpa [Around.under, Code.envs, Code.isFrame, pushEnvs] using e.frames), e.mod, e.bs, e.bsz, e.funs, e.frf, e.hok, e.bare⟩
theorem Env0.in1 {P : Program} {w : World} {K : PySem.W.Frag} {mg : Str → Option Value} {base : Heap} {A : Around} {outer : List Env} {s : Shared} {H : Hp} (e : Env0 P w K mg base A outer s H) :
    Env0 P w K mg base A.in1 outer s H := ⟨e.frames, e.mod, e.bs, e.bsz, e.funs, e.frf, e.hok, e.bare⟩
section
variable {X : Cx} {pins : List (Addr × Obj)} {σ : St} {H : Hp} {s s' : Shared}
theorem Inv.env0 (I : Inv X pins σ H s) : Env0 X.prog X.w X.K X.mg X.base X.A X.stack s H :=
  ⟨I.ok.frames, I.ok.mod, I.bs, Nat.le_trans I.ok.bsz I.sz, I.stack, I.stkFree, I.hok, I.bare⟩
theorem Inv.after {Q : VK} {u : Value} (I : Inv X pins σ H s) (h : CE X.stack X.prog X.w H s Q u s') : EP X pins σ Q u s' := by
  obtain ⟨v, H', os, bare, un, hok, r, q⟩ := h
  obtain ⟨hh, g, d, t, os'⟩ := s'
  obtain rfl : os' = s.os := os
  exact ⟨v, H', I.call (h' := hh) (g' := g) (d' := d) (t' := t) (ch := []) un hok bare (fun b z => absurd z (by simp)), r, q⟩
end
def tCall (sp : Sp) (dvs : List V) (E : XK) (t : TA) : TE := fun σ H Q => t σ H fun vs H1 => sp (vs ++ dvs) H1 Q E
def Binds (K : PySem.W.Frag) (fd : FuncData) (ps : List Str) (ds : List Value) : Prop :=
  ∀ (s : Shared) (us : List Value), K.In s.heap → (us ++ ds).length = ps.length → BindsTo s fd ⟨us, []⟩ (ps.zip (us ++ ds))
theorem Binds.all {K : PySem.W.Frag} {fd : FuncData} {ps : List Str} (h : ∀ us : List Value, us.length = ps.length → bindArgs fd ⟨us, []⟩ = pure (ps.zip us)) : Binds K fd ps [] := fun s us _ hl => by
  rw [List.append_nil] at hl ⊢
  exact .of_eq (h us hl)
def Passes (CX : CXT) (X : Cx) (E : XK) : Prop := ∀ (pins : List (Addr × Obj)) (σ : St) (H : Hp) (s : Shared) (e : Value) (s' : Shared), Inv X pins σ H s → CX X.stack H s E e s' → X.xe e s'
section
variable {X : Cx} {CX : CXT} {k : Nat} {f C : Addr} {fd : FuncData} {ps : List Str} {sp : Sp} {dvs : List V} {ds : List Value} {E : XK} {x m : Str} {p pos apos : Pos} {e o : Expr} {es : List Expr} {ta : TE} {t : TA}
theorem run_fn {pins : List (Addr × Obj)} {σ : St} {H : Hp} {s : Shared} {Q : VK} {us : List Value} {vs : List V} (F : FnOk X.prog X.w X.K X.mg X.base CX k f fd ps sp) (hr : Room k X.A) (hb : Binds X.K fd ps ds) (hd : Vals dvs ds) (hx : Passes CX X E)
    (I : Inv X pins σ H s) (r : Vals vs us) (h : sp (vs ++ dvs) H Q E) : wpAny (model X.prog X.w) X.A (call (.ref f) us) (EP X pins σ Q) X.xe s := by
  have r2 : Vals (vs ++ dvs) (us ++ ds) := r.append hd
  have hl : (us ++ ds).length = ps.length := by rw [← r2.length]; exact F.len _ _ _ _ h
  refine wpAny_call (codeAny_mono (F.run X.A X.stack s H ⟨us, []⟩ (us ++ ds) (vs ++ dvs) Q E hr I.env0 (hb s us I.kIn hl) r2 h) fun r s' hq => ?_)
  cases r with
  | error e => exact hx pins σ H s e s' I hq
  | ok fl =>
    cases fl with
    | ret u => exact I.after hq
    | next => exact False.elim hq
    | brk => exact False.elim hq
    | cont => exact False.elim hq
theorem pe_call (F : FnOk X.prog X.w X.K X.mg X.base CX k f fd ps sp) (hr : Room k X.A) (hg : Gl X x) (hm : X.mg x = some (.ref f)) (hk : PySem.W.keepIn X.K (.ref f) = true) (hb : Binds X.K fd ps ds) (hd : Vals dvs ds) (hx : Passes CX X E)
    (ha : PA X (e :: es) t) (hdb : (x == ("__debug__" : Str)) = false := by decide) (he : starEach (e :: es) X.env = (false, eval e X.env) :: starEach es X.env := by rfl) (hpl : (backTo pos (starEach es X.env)).any (·.1) = false := by rfl) :
    PE X (.Call (.Name x p) (e :: es) [] pos) (tCall sp dvs E t) := by
  intro pins s σ H Q I h
  refine wpAny_Call_Name_kw (ld_glob I hg hm ?_ hdb)
  refine PySem.W.callWith_K (h₀ := X.base) I.ok.mod.kin hk (thn (ha pos pins s σ H _ I h) fun us s1 ⟨vs, H1, I1, r, q⟩ => ⟨I1.kIn, ?_⟩) he hpl
  exact run_fn F hr hb hd hx I1 r q
end
section
variable {X : Cx} {CX : CXT} {k : Nat} {f C : Addr} {fd : FuncData} {ps ks : List Str} {sp : Sp} {E : XK} {x m : Str} {p pos apos kpos : Pos} {e o : Expr} {es : List Expr} {kws : List Keyword} {te ta : TE} {t tk : TA} {nm : Option Str}
variable {g : List Value → List Value → List Value} {gV : List V → List V → List V}
end
structure FnScope (N P : List Str) (sc : Scope) : Prop where
  kind : sc.kind = .function
  co : sc.isCoroutine = false
  gen : sc.isGenerator = false
  nd : N.Nodup
  pre : N.take P.length = P
  par : ∀ x ∈ P, sc.names.lookup x = some .local ∨ sc.names.lookup x = some .cell
  nofree : ∀ y ∈ sc.names, y.2 ≠ .free
theorem bindL_out {kindOf : Str → Option NameKind} {x : Str} : ∀ {binds : List (Str × Value)} {m : Str → Option Value}, (∀ v, (x, v) ∉ binds) → bindL kindOf binds m x = m x
  | [], _, _ => rfl
  | (n, v) :: r, m, h => by
    unfold bindL
    rw [bindL_out fun w hw => h w (List.mem_cons_of_mem _ hw)]
    split
    · have : x ≠ n := by rintro rfl; exact h v List.mem_cons_self
      simp [this]
    · rfl
theorem bindC_out {kindOf : Str → Option NameKind} {x : Str} : ∀ {binds : List (Str × Value)} {m : Str → Option Value}, (∀ v, (x, v) ∉ binds) → bindC kindOf binds m x = m x
  | [], _, _ => rfl
  | (n, v) :: r, m, h => by
    unfold bindC
    rw [bindC_out fun w hw => h w (List.mem_cons_of_mem _ hw)]
    split
    · rfl
    · have : x ≠ n := by rintro rfl; exact h v List.mem_cons_self
      simp [this]
theorem bindL_get {kindOf : Str → Option NameKind} {x : Str} {v : Value} : ∀ {P : List Str} {vs : List Value} {i : Nat} {m : Str → Option Value}, P.Nodup → P[i]? = some x → vs[i]? = some v → kindOf x = some .local →
    bindL kindOf (P.zip vs) m x = some v
  | [], _, _, _, _, h, _, _ => by simp at h
  | _ :: _, [], _, _, _, _, h, _ => by simp at h
  | p :: P, w :: vs, 0, m, nd, h1, h2, hk => by
    simp at h1 h2; subst h1; subst h2
    show bindL kindOf ((p, w) :: P.zip vs) m p = _
    unfold bindL
    rw [bindL_out fun v hv => (List.nodup_cons.mp nd).1 (List.of_mem_zip hv).1, if_pos hk]
    simp
  | p :: P, w :: vs, i + 1, m, nd, h1, h2, hk => by
    show bindL kindOf ((p, w) :: P.zip vs) m x = _
    unfold bindL
    exact bindL_get (i := i) (List.nodup_cons.mp nd).2 (by simpa using h1) (by simpa using h2) hk
theorem bindC_get {kindOf : Str → Option NameKind} {x : Str} {v : Value} : ∀ {P : List Str} {vs : List Value} {i : Nat} {m : Str → Option Value}, P.Nodup → P[i]? = some x → vs[i]? = some v → kindOf x ≠ some .local →
    bindC kindOf (P.zip vs) m x = some v
  | [], _, _, _, _, h, _, _ => by simp at h
  | _ :: _, [], _, _, _, _, h, _ => by simp at h
  | p :: P, w :: vs, 0, m, nd, h1, h2, hk => by
    simp at h1 h2; subst h1; subst h2
    show bindC kindOf ((p, w) :: P.zip vs) m p = _
    unfold bindC
    rw [bindC_out fun v hv => (List.nodup_cons.mp nd).1 (List.of_mem_zip hv).1, if_neg hk]
    simp
  | p :: P, w :: vs, i + 1, m, nd, h1, h2, hk => by
    show bindC kindOf ((p, w) :: P.zip vs) m x = _
    unfold bindC
    exact bindC_get (i := i) (List.nodup_cons.mp nd).2 (by simpa using h1) (by simpa using h2) hk
def start (N : List Str) (vs : List V) : St := vs.map some ++ List.replicate (N.length - vs.length) none
def cxOf (CX : CXT) (P : Program) (w : World) (K : PySem.W.Frag) (mg : Str → Option Value) (base : Heap) (N : List Str) (qual : Str) (scope : Scope) (f : Addr) (cd : Value) (A : Around) (outer : List Env) (s : Shared) (H : Hp) (E : XK) : Cx where
  prog := P
  w := w
  K := K
  mg := mg
  base := base
  A := A.deeper (envOfC qual scope s.heap.objs.size f cd)
  N := N
  s₀ := s
  H₀ := H
  env := envOfC qual scope s.heap.objs.size f cd
  outer := outer
  stack := envOfC qual scope s.heap.objs.size f cd :: outer
  ex := []
  calm := true
  fn := fun _ => true
  pn := []
  xe := fun e s' => wpAny (model P w) (A.deeper (envOfC qual scope s.heap.objs.size f cd)) («leaving» (envOfC qual scope s.heap.objs.size f cd) e) (fun _ s'' => CX outer H s E e s'') (fun e' s'' => CX outer H s E e' s'') s'
theorem cell_has {sc : Scope} {n : Nat} {x : Str} (h : sc.names.lookup x = some .cell) : ∃ c, (cellsFrom n sc.names []).lookup x = some c := by
  have q := PySem.W.cellsFrom_some sc.names n [] (.inl h)
  exact Option.isSome_iff_exists.mp q
theorem inv_start {CX : CXT} {P : Program} {w : World} {K : PySem.W.Frag} {mg : Str → Option Value} {base : Heap} {N ps : List Str} {qual : Str} {scope : Scope} {f : Addr} {cd : Value} {A : Around} {outer : List Env} {s s1 : Shared} {H : Hp} {E : XK} {us : List Value} {vs : List V}
    (S : FnScope N ps scope) (hd : A.handled = none) (e0 : Env0 P w K mg base A outer s H) (hl : vs.length = ps.length) (r : Vals vs us)
    (x : InCallC s s.heap.objs.size (bindL (envOfC qual scope s.heap.objs.size f cd).kindOf (ps.zip us) fun _ => none) (cellsFrom (s.heap.objs.size + 1) scope.names []) (bindC (envOfC qual scope s.heap.objs.size f cd).kindOf (ps.zip us) fun _ => none) s1) :
    Inv (cxOf CX P w K mg base N qual scope f cd A outer s H E) [] (start N vs) H s1 := by
  have hpl : ps.length ≤ N.length := by have := congrArg List.length S.pre; rw [List.length_take] at this; omega
  obtain ⟨h1, tk, rfl, hk⟩ := x.done
  have noA : ∀ b : Addr, b ∉ (cxOf CX P w K mg base N qual scope f cd A outer s H E).ex := fun b z => absurd (show b ∈ ([] : List Addr) from z) (by simp)
  refine ⟨⟨e0.mod, S.kind, rfl, rfl, Nat.le_refl _, fun y z c h1 h2 => ?_, fun y hy => ?_, fun y c _ h => ?_, fun _ => hd, Around.frames_deeper e0.frames, .inr ⟨rfl, rfl⟩, fun b z => absurd z (noA b), e0.bs, e0.bsz, fun b _ _ => noA b, fun b z => absurd z (noA b), e0.funs, e0.frf⟩,
    rfl, e0.bare, Un.kept hk, ⟨_, x.toInCall.ns, fun i y v h1 h2 h3 => ?_⟩, fun y c h => ⟨_, x.cell y c h⟩, e0.hok.fresh (Nat.le_refl _), fun y c h => ?_, fun p hp => absurd (show p ∈ ([] : List (Addr × Obj)) from hp) (by simp), e0.hok.kept hk, ?_⟩
  · exact name_of_addr x.apart (PySem.mem_of_lookup h1) (PySem.mem_of_lookup h2)
  · have hy : scope.names.lookup y = some .cell ∨ scope.names.lookup y = some .free := hy
    rcases hy with hy | hy
    · exact cell_has hy
    · exact absurd rfl (S.nofree _ (PySem.mem_of_lookup hy))
  · exact Nat.le_of_lt (x.above y c (PySem.mem_of_lookup h))
  · have hi : i < vs.length := by
      unfold start at h2
      by_cases hi : i < vs.length
      · exact hi
      · rw [List.getElem?_append_right (by simpa using hi)] at h2
        rw [List.getElem?_replicate] at h2
        split at h2 <;> cases h2
    have ha : vs[i]? = some v := by
      unfold start at h2
      rw [List.getElem?_append_left (by simpa using hi), List.getElem?_map] at h2
      cases e : vs[i]? with
      | none => rw [e] at h2; cases h2
      | some a => rw [e] at h2; cases h2; rfl
    obtain ⟨u, hu, rv⟩ := r.get ha
    have hp : ps[i]? = some y := by
      rw [← S.pre, List.getElem?_take_of_lt (by omega)]; exact h1
    have ndP : ps.Nodup := by rw [← S.pre]; exact S.nd.sublist (List.take_sublist _ _)
    refine ⟨u, rv, ?_⟩
    rcases S.par y (List.mem_of_getElem? hp) with k | k
    · exact .inl ⟨k, bindL_get ndP hp hu k⟩
    · obtain ⟨c, e⟩ := cell_has (n := s.heap.objs.size + 1) k
      refine .inr ⟨.inl k, c, e, ?_⟩
      have q := x.cell y c e
      rw [bindC_get ndP hp hu (by show scope.names.lookup y ≠ _; rw [k]; decide)] at q
      exact q
  · exact e0.hok.fresh (Nat.le_of_lt (x.above y c (PySem.mem_of_lookup h)))
  · unfold start
    show _ = N.length
    rw [List.length_append, List.length_map, List.length_replicate]
    omega
theorem fn_of {CX : CXT} {P : Program} {w : World} {K : PySem.W.Frag} {mg : Str → Option Value} {base : Heap} {k : Nat} {f : Addr} {name qual : Str} {params : Arguments} {body : List Stmt} {scope : Scope} {dV kV doc pm cdv ct oc : Value} {an od : Option Addr}
    {osl : Array (Option Value)} {N ps : List Str} {sp : Sp} (lk : K.lookup f = some ⟨oc, od, .func (PySem.W.fnOf name qual params body scope dV kV doc pm an cdv ct), osl⟩) (hcd : PySem.W.codeIn K cdv qual = true) (S : FnScope N ps scope)
    (len : ∀ vs H Q E, sp vs H Q E → vs.length = ps.length)
    (hbody : ∀ (A : Around) (outer : List Env) (s : Shared) (H : Hp) (vs : List V) (Q : VK) (E : XK), Room k (A.deeper (envOfC qual scope s.heap.objs.size f cdv)) → sp vs H Q E →
      ∃ t, PSs (cxOf CX P w K mg base N qual scope f cdv A outer s H E) body t ∧ t { nx := fun _ H' => Q .non H', rt := Q } (start N vs) H) :
    FnOk P w K mg base CX (k + 1) f (PySem.W.fnOf name qual params body scope dV kV doc pm an cdv ct) ps sp := by
  refine ⟨len, fun A outer s H args us vs Q E hr e0 hb r hsp => ?_⟩
  have hl := len _ _ _ _ hsp
  have KX : K.In s.heap := e0.mod.kin.keeps fun b o e => (e0.bs b o e).1
  have lim : s.heap.NoLimit := e0.mod.nolimit.keeps fun b o e => (e0.bs b o e).1
  have hkind : ∀ y ∈ ps.zip us, scope.names.lookup y.1 = some .local ∨ (scope.names.lookup y.1 = some .cell ∧ ((cellsFrom (s.heap.objs.size + 1) scope.names []).lookup y.1).isSome = true) := fun ⟨n, v⟩ hy => by
    rcases S.par n (List.of_mem_zip hy).1 with q | q
    · exact .inl q
    · exact .inr ⟨q, PySem.W.cellsFrom_some _ _ _ (.inl q)⟩
  refine codeAny_call_function hr.depth (KX _ _ lk) rfl S.co S.gen rfl (PySem.W.codeRec_of KX hcd) (hb _ _ _ _ ?_)
  refine wpAny_newFunctionEnv_cells S.kind hkind fun env he s1 x => ?_
  subst he
  refine ⟨lim.keeps x.toInCall.keep, codeAny_func ?_⟩
  obtain ⟨t, ht, hq⟩ := hbody A outer s H vs Q E (hr.deeper _) hsp
  have I : Inv (cxOf CX P w K mg base N qual scope f cdv A outer s H E) [] (start N vs) H s1 := inv_start S hr.hd e0 hl r x
  refine wpAny_mono (ht [] s1 (start N vs) H _ I hq) (fun fl s' hs => ?_) fun e s' hs => hs
  have fin : ∀ {σ' : St} {H' : Hp} {v : V} {u : Value}, Inv (cxOf CX P w K mg base N qual scope f cdv A outer s H E) [] σ' H' s' → RelV v u → Q v H' → CE outer P w H s Q u s' :=
    fun {σ' H' v u} J rv q => ⟨v, H', J.os, J.bare, J.base, J.hok, rv, q⟩
  cases fl with
  | ret u =>
    obtain ⟨v, σ', H', J, rv, q⟩ := hs
    exact fin J rv q
  | next =>
    obtain ⟨σ', H', J, q⟩ := hs
    exact fin (v := V.non) (u := Value.none) J rfl q
  | brk =>
    obtain ⟨_, _, _, q⟩ := hs
    exact False.elim q
  | cont =>
    obtain ⟨_, _, _, q⟩ := hs
    exact False.elim q
end L2
namespace L2
open PySem PySem.Spec PyProof.Rows
section
variable {X : Cx} {x : Str} {p pos : Pos} {e : Expr} {es : List Expr} {t : TA} {id T : String} {r : List V → Hp → VK → Prop}
def tCB (r : List V → Hp → VK → Prop) (t : TA) : TE := fun σ H Q => t σ H fun vs H1 => r vs H1 Q
theorem pe_callB (hc : CallR X (.builtin id) r) (hg : Gl X x) (hm : X.mg x = none) (hv : bootBuiltins x = some (.builtin id)) (ha : PA X (e :: es) t) (hn : x ≠ "__name__" := by decide) (hdb : (x == ("__debug__" : Str)) = false := by decide)
    (he : starEach (e :: es) X.env = (false, eval e X.env) :: starEach es X.env := by rfl) (hpl : (backTo pos (starEach es X.env)).any (·.1) = false := by rfl) : PE X (.Call (.Name x p) (e :: es) [] pos) (tCB r t) := by
  intro pins s σ H Q I h
  refine wpAny_Call_Name_kw (ld_blt I hg hm hv ?_ hn hdb)
  exact PyProof.Rows.callWith_builtin1 (thn (ha pos pins s σ H _ I h) fun us s1 ⟨vs, H1, I1, r1, q1⟩ => hc pins s1 σ H1 vs us Q I1 r1 q1) he hpl
theorem pe_callTy (hc : CallR X (.type T) r) (hg : Gl X x) (hm : X.mg x = none) (hv : bootBuiltins x = some (.type T)) (ha : PA X (e :: es) t) (hn : x ≠ "__name__" := by decide) (hdb : (x == ("__debug__" : Str)) = false := by decide)
    (he : starEach (e :: es) X.env = (false, eval e X.env) :: starEach es X.env := by rfl) (hpl : (backTo pos (starEach es X.env)).any (·.1) = false := by rfl) : PE X (.Call (.Name x p) (e :: es) [] pos) (tCB r t) := by
  intro pins s σ H Q I h
  refine wpAny_Call_Name_kw (ld_blt I hg hm hv ?_ hn hdb)
  exact PyProof.Rows.callWith_type1 (thn (ha pos pins s σ H _ I h) fun us s1 ⟨vs, H1, I1, r1, q1⟩ => hc pins s1 σ H1 vs us Q I1 r1 q1) he hpl
end
end L2
namespace HT
open PySem PyProof.Rows
section
open PySem.SeqAt
open PySem.AutoSeq1 (wpAny_loadPart')
open PySem.MeetsSeq PySem.MeetsSeq2 PySem.MeetsSeq3
end
section
variable {prog : Program} {w : World} {A : Around} {E : Value → Shared → Prop} {s : Shared}
theorem cat_tup {t b : Addr} {vs ws : List Value} {Q : Value → Shared → Prop} (ht : IsTup s.heap t vs.toArray) (hb : IsTup s.heap b ws.toArray) (hv : vs ≠ [])
    (h1 : ws = [] → Q (.ref t) s) (h2 : ws ≠ [] → Q (.ref s.heap.objs.size) { s with heap := s.heap.push { cls := .type "tuple", data := .seq (vs ++ ws).toArray } })
    (hsz : vs.length + ws.length ≤ sizeLine) : wpAny (model prog w) A (binaryOp .Add (.ref t) (.ref b)) Q E s := by
  obtain ⟨⟨cls, dd, data, sl⟩, ho, hc, n, hd⟩ := id ht
  obtain ⟨⟨cls2, dd2, data2, sl2⟩, ho2, hc2, n2, hd2⟩ := id hb
  simp only at hc hd hc2 hd2
  subst hc hd hc2 hd2
  have e : vs.toArray ++ ws.toArray = (vs ++ ws).toArray := by simp
  by_cases hw : ws = []
  · exact concat_meets ⟨_, ho, rfl⟩ ⟨_, ho2, rfl⟩ noFill_tuple_add seq_tuple_add PySem.F.slot_tuple_add PySem.F.entry_tuple_add (PySem.F.args_tuple_add_2 _ _)
      (tuple_addW1 t b vs.toArray ws.toArray n n2 dd dd2 sl sl2 (by simpa using hv) (by simp [hw])) ⟨ho, ho2, h1 hw⟩
  · refine concat_meets ⟨_, ho, rfl⟩ ⟨_, ho2, rfl⟩ noFill_tuple_add seq_tuple_add PySem.F.slot_tuple_add PySem.F.entry_tuple_add (PySem.F.args_tuple_add_2 _ _)
      (tuple_addW2 t b vs.toArray ws.toArray n n2 dd dd2 sl sl2 (by simpa using hv) (by simpa using hw) (by rw [List.size_toArray, List.size_toArray]; exact hsz)) ⟨ho, ho2, ?_⟩
    rw [e]
    exact h2 hw
def sIx (n d : Nat) : Option Int → Nat
  | none => d
  | some v => if v < 0 then (v + (n : Int)).toNat else min v.toNat n
theorem sIx_none (n d : Nat) : sIx n d none = d := rfl
theorem sIx_nat (n d k : Nat) : sIx n d (some (k : Int)) = min k n := by
  show (if (k : Int) < 0 then ((k : Int) + (n : Int)).toNat else min (k : Int).toNat n) = min k n
  rw [if_neg (by omega), Int.toNat_natCast]
theorem sIx_le (n d : Nat) (hd : d ≤ n) (o : Option Int) : sIx n d o ≤ n := by
  cases o with
  | none => exact hd
  | some v =>
    show (if v < 0 then (v + (n : Int)).toNat else min v.toNat n) ≤ n
    by_cases hv : v < 0
    · rw [if_pos hv]; omega
    · rw [if_neg hv]; exact Nat.min_le_right _ _
theorem clip_eq (v : Int) (n d : Nat) : (if v < 0 then max (v + (n : Int)) 0 else min v (n : Int)) = ((sIx n d (some v) : Nat) : Int) := by
  show (if v < 0 then max (v + (n : Int)) 0 else min v (n : Int)) = (((if v < 0 then (v + (n : Int)).toNat else min v.toNat n) : Nat) : Int)
  by_cases hv : v < 0
  · simp only [if_pos hv]; omega
  · simp only [if_neg hv]; omega
theorem adjust_gen (lo hi : Option Int) (n : Nat) : Builtin.Slice.sliceAdjust lo hi 1 (n : Int) = (((sIx n 0 lo : Nat) : Int), ((sIx n n hi : Nat) : Int)) := by
  have h1 : ¬ ((1 : Int) < 0) := by omega
  unfold Builtin.Slice.sliceAdjust
  simp only [h1, if_false]
  refine Prod.ext ?_ ?_
  · cases lo with
    | none => rfl
    | some v => exact clip_eq v n 0
  · cases hi with
    | none => rfl
    | some v => exact clip_eq v n n
theorem places_gen (i j : Nat) : Builtin.Slice.slicePlaces (i : Int) (j : Int) 1 = j - i := by
  unfold Builtin.Slice.slicePlaces
  have h1 : (1 : Int) > 0 := by omega
  simp only [h1, if_true, Int.ediv_one]
  split <;> omega
theorem slicePart_ {v : Value} {o : Option Int} {Q : Option Int → Shared → Prop} (p : IsPart v o) (h : Q o s) : wpAny (model prog w) A (Builtin.Slice.slicePartIndex v) Q E s := by
  cases p with
  | none => exact slicePart_none h
  | int i t => exact slicePart_int h
theorem sliceApplied_gen {sl : Addr} {vl vu : Value} {lo hi : Option Int} {n : Nat} {Q : Int × Int × Nat → Shared → Prop} (hs : s.heap.IsSliceOf sl vl vu .none) (pl : IsPart vl lo) (pu : IsPart vu hi)
    (h : Q (((sIx n 0 lo : Nat) : Int), 1, sIx n n hi - sIx n 0 lo) s) : wpAny (model prog w) A (Builtin.Slice.sliceApplied (.ref sl) (pure (n : Int))) Q E s := by
  obtain ⟨os, hos, hcs, hds⟩ := id hs
  unfold Builtin.Slice.sliceApplied Builtin.Slice.sliceFields
  refine wpAny_bind (wpAny_bind (wpAny_field hos hds (x := vl) rfl (wpAny_bind (wpAny_field hos hds (x := vu) rfl (wpAny_bind (wpAny_field hos hds (x := .none) rfl (wpAny_pure ?_)))))))
  refine wpAny_bind (slicePart_none ?_)
  show wpAny _ _ (if ((1 : Int) == 0) = true then _ else _) _ _ s
  rw [if_neg (by decide)]
  refine wpAny_bind (slicePart_ pl (wpAny_bind (slicePart_ pu (wpAny_bind (wpAny_pure ?_)))))
  show wpAny _ _ (match Builtin.Slice.sliceAdjust lo hi 1 (n : Int) with | (lo, hi) => pure (lo, (1 : Int), Builtin.Slice.slicePlaces lo hi 1)) _ _ s
  rw [adjust_gen lo hi n]
  show wpAny _ _ (pure (((sIx n 0 lo : Nat) : Int), (1 : Int), Builtin.Slice.slicePlaces ((sIx n 0 lo : Nat) : Int) ((sIx n n hi : Nat) : Int) 1)) _ _ s
  rw [places_gen]
  exact wpAny_pure h
theorem pick_gen (xs : Array Value) (i k : Nat) : ((List.range k).filterMap fun (m : Nat) => xs[((i : Int) + (m : Int) * 1).toNat]?).toArray = ((xs.toList.drop i).take k).toArray := by
  have e : (fun (m : Nat) => xs[((i : Int) + (m : Int) * 1).toNat]?) = fun m => xs[i + m]? := by
    funext m
    have : ((i : Int) + (m : Int) * 1).toNat = i + m := by omega
    rw [this]
  rw [e]
  have := pick_run xs i k
  rw [List.filterMap_map] at this
  have e2 : ((fun x => xs[x]?) ∘ fun x => i + x) = fun m => xs[i + m]? := rfl
  rw [e2] at this
  rw [this]
theorem getItem_tuple_cut {t sl : Addr} {items : Array Value} {vl vu : Value} {lo hi : Option Int} {Q : Value → Shared → Prop} (ht : IsTup s.heap t items) (hs : s.heap.IsSliceOf sl vl vu .none) (pl : IsPart vl lo) (pu : IsPart vu hi)
    (hw : ¬ (sIx items.size 0 lo = 0 ∧ sIx items.size items.size hi = items.size))
    (h : Q (.ref s.heap.objs.size) { s with heap := s.heap.push { cls := .type "tuple", data := .seq ((items.toList.drop (sIx items.size 0 lo)).take (sIx items.size items.size hi - sIx items.size 0 lo)).toArray } })
    (hsz : items.size ≤ sizeLine) : wpAny (model prog w) A (getItem (.ref t) (.ref sl)) Q E s := by
  have htake : sizeOk (.seq ((items.toList.drop (sIx items.size 0 lo)).take (sIx items.size items.size hi - sIx items.size 0 lo)).toArray) := by
    show ((items.toList.drop (sIx items.size 0 lo)).take (sIx items.size items.size hi - sIx items.size 0 lo)).toArray.size ≤ sizeLine
    rw [List.size_toArray, List.length_take, List.length_drop, Array.length_toList]
    omega
  have hj : sIx items.size items.size hi ≤ items.size := sIx_le _ _ (Nat.le_refl _) hi
  obtain ⟨os, hos, hcs, hds⟩ := id hs
  have hTs : s.TypeIs (.ref sl) "slice" := ⟨os, hos, hcs⟩
  unfold getItem
  try with_reducible refine wpAny_holding ?_
  first | refine wpAny_bind (wpAny_pure ?_) | skip
  refine wpAny_bind (wpAny_sequenceKey ht.typeIs (by decide) ?_)
  refine wpAny_bind (wpAny_callSpecial?_slot (name := Str.ofString "__getitem__") ht.typeIs PyProof.Rows.slot_tuple_getitem
    (wpAny_call_entry PyProof.Rows.slot_tuple_getitem ht.typeIs entry_tuple_getitem ?_ (args_tuple_getitem _ _)))
  show wpAny _ _ (Builtin.Tuple.tupleItemsOf (.ref t) >>= _) _ _ s
  refine wpAny_bind (tupleItemsOf_ ht ?_)
  refine wpAny_bind (wpAny_typeOf hTs ?_)
  rw [if_pos (by decide)]
  refine wpAny_bind (sliceApplied_gen hs pl pu ?_)
  have hno : ¬ ((((sIx items.size 0 lo : Nat) : Int) == 0 && (1 : Int) == 1 && (sIx items.size items.size hi - sIx items.size 0 lo) == items.size) = true) := by
    intro q
    rw [Bool.and_eq_true, Bool.and_eq_true] at q
    have q1 : ((sIx items.size 0 lo : Nat) : Int) = 0 := eq_of_beq q.1.1
    have q2 : sIx items.size items.size hi - sIx items.size 0 lo = items.size := eq_of_beq q.2
    exact hw ⟨by omega, by omega⟩
  show wpAny _ _ (if (((sIx items.size 0 lo : Nat) : Int) == 0 && (1 : Int) == 1 && (sIx items.size items.size hi - sIx items.size 0 lo) == items.size) = true then _ else _) _ _ s
  rw [if_neg hno, pick_gen]
  first
    | exact wpAny_bind (m := Builtin.Tuple.tupleExact _) (wpAny_newObj_type (wpAny_pure ⟨_, rfl, wpAny_pure h⟩) htake)
    | exact wpAny_bind (m := Builtin.Tuple.tupleExact _) (wpAny_newObj_type (wpAny_bind (wpAny_pure (wpAny_pure ⟨_, rfl, wpAny_pure h⟩))) htake)
    | exact wpAny_bind (wpAny_bind (m := Builtin.Tuple.tupleExact _) (wpAny_newObj_type (wpAny_pure (wpAny_pure ⟨_, rfl, wpAny_pure h⟩)) htake))
    | exact wpAny_bind (wpAny_bind (m := Builtin.Tuple.tupleExact _) (wpAny_newObj_type (wpAny_pure ⟨_, rfl, wpAny_pure h⟩) htake))
end
end HT
namespace L2
open PySem PySem.Spec PyProof.Rows
abbrev TO := St → Hp → (Option Int → Hp → Prop) → Prop
def PO (X : Cx) (e : Option Expr) (t : TO) : Prop :=
  ∀ (pins : List (Addr × Obj)) (s : Shared) (σ : St) (H : Hp) (Q : Option Int → Hp → Prop), Inv X pins σ H s → t σ H Q →
    wpAny (model X.prog X.w) X.A (evalPart e X.env) (fun u s' => ∃ o H', Inv X pins σ H' s' ∧ IsPart u o ∧ Q o H') X.xe s
def tNoPart : TO := fun _ H Q => Q none H
def tPart (t : TE) : TO := fun σ H Q => t σ H fun x H1 => ∃ i, x = .int i ∧ Q (some i) H1
section
variable {X : Cx} {e : Expr} {te : TE} {lo hi : Option Expr} {tl th : TO} {pos p2 : Pos}
theorem po_none : PO X none tNoPart := by
  intro pins s σ H Q I h
  rw [evalPart_none]
  exact wpAny_pure ⟨none, H, I, .none, h⟩
theorem po_some (h : PE X e te) : PO X (some e) (tPart te) := by
  intro pins s σ H Q I hw
  rw [evalPart_some]
  refine thn (h pins s σ H _ I hw) fun u s1 ⟨x, H1, I1, r1, q1⟩ => ?_
  obtain ⟨i, rfl, q⟩ := q1
  obtain ⟨t, rfl⟩ := r1
  exact ⟨some i, H1, I1, .int i t, q⟩
def SlR (X : Cx) (r : V → Option Int → Option Int → Hp → VK → Prop) : Prop :=
  ∀ (pins : List (Addr × Obj)) (s : Shared) (σ : St) (H : Hp) (x : V) (v vl vu : Value) (lo hi : Option Int) (sl : Addr) (Q : VK), Inv X pins σ H s → RelV x v → s.heap.IsSliceOf sl vl vu .none → IsPart vl lo → IsPart vu hi → r x lo hi H Q →
    ∃ T id, typeLookup (.type T) "__getitem__" = pure (some (.builtin id)) ∧ s.TypeIs v T ∧ wpAny (model X.prog X.w) X.A (getItem v (.ref sl)) (EP X pins σ Q) X.xe s
def tSl (r : V → Option Int → Option Int → Hp → VK → Prop) (te : TE) (tl th : TO) : TE := fun σ H Q => te σ H fun x H1 => tl σ H1 fun l H2 => th σ H2 fun u H3 => r x l u H3 Q
theorem pe_slice {r : V → Option Int → Option Int → Hp → VK → Prop} (hr : SlR X r) (he : PE X e te) (hl : PO X lo tl) (hu : PO X hi th) : PE X (.Subscript e (.Slice lo hi none p2) pos) (tSl r te tl th) := by
  intro pins s σ H Q I h
  refine Subscript_ (thn (he pins s σ H _ I h) fun v s1 ⟨x, H1, I1, r1, q1⟩ => ?_)
  refine wpAny_Slice (thn (hl pins s1 σ H1 _ I1 q1) fun vl s2 ⟨l, H2, I2, pl, q2⟩ => thn (hu pins s2 σ H2 _ I2 q2) fun vu s3 ⟨u, H3, I3, pu, q3⟩ => ?_)
  rw [evalPart_none]
  refine wpAny_pure ?_
  have I4 : Inv X pins σ H3 { s3 with heap := s3.heap.push { cls := .type "slice", data := .fields #[vl, vu, .none] } } := I3.kept (t' := s3.toks) fun b ob q => Heap.get?_push_of_some _ q
  obtain ⟨T, id, hT, ht, hg⟩ := hr pins { s3 with heap := s3.heap.push { cls := .type "slice", data := .fields #[vl, vu, .none] } } σ H3 x v vl vu l u s3.heap.objs.size Q I4 r1 (Heap.IsSliceOf.new ..) pl pu q3
  show wpAny (model X.prog X.w) X.A (subscriptTail e (.Slice lo hi none p2) v (.ref s3.heap.objs.size)) (EP X pins σ Q) X.xe { s3 with heap := s3.heap.push { cls := .type "slice", data := .fields #[vl, vu, .none] } }
  exact tail_any (ops := [.ref s3.heap.objs.size, v]) ht hT hg (by with_unfolding_all rfl)
def cutV (xs : List V) (lo hi : Option Int) : List V := (xs.drop (HT.sIx xs.length 0 lo)).take (HT.sIx xs.length xs.length hi - HT.sIx xs.length 0 lo)
theorem cutV_length (xs : List V) (lo hi : Option Int) : (cutV xs lo hi).length ≤ xs.length := by
  unfold cutV
  rw [List.length_take, List.length_drop]
  omega
def rSlT (K : PySem.W.Frag) : V → Option Int → Option Int → Hp → VK → Prop := fun x lo hi H Q => ∃ a xs, x = .ref a ∧ SqT K H a xs ∧
  ¬ (HT.sIx xs.length 0 lo = 0 ∧ HT.sIx xs.length xs.length hi = xs.length) ∧ ∀ p, H p = none → Q (.ref p) (upd H p (.tup (cutV xs lo hi)))
theorem sl_tup : SlR X (rSlT X.K) := by
  intro pins s σ H x v vl vu lo hi sl Q I rx hs pl pu h
  obtain ⟨a, xs, rfl, hx, hw, q⟩ := h
  cases rx
  obtain ⟨its, r, ht, hz⟩ := I.tuple hx
  have hlen : its.toArray.size = xs.length := by rw [List.size_toArray]; exact r.length.symm
  refine ⟨"tuple", _, PyProof.Rows.slot_tuple_getitem.lookup, ht.typeIs, ?_⟩
  refine HT.getItem_tuple_cut ht hs pl pu (by rw [hlen]; exact hw) ?_ (by rw [hlen]; exact hz)
  rw [hlen]
  refine ⟨.ref s.heap.objs.size, _, I.laid (t' := s.toks) (o := .tup (cutV xs lo hi)) (fun b ob q => Heap.get?_push_of_some _ q) (Nat.le_refl _) ?_, rfl, q _ (I.hok.fresh (Nat.le_refl _))⟩
  exact ⟨Nat.le_trans (cutV_length xs lo hi) hz, _, (r.drop (HT.sIx xs.length 0 lo)).take (HT.sIx xs.length xs.length hi - HT.sIx xs.length 0 lo), IsTup.new _ _⟩
theorem Vals.nil_iff {xs : List V} {us : List Value} (r : Vals xs us) : us = [] ↔ xs = [] := by
  cases r with
  | nil => simp
  | cons _ _ => simp
end
end L2
namespace L2
open PySem PySem.Spec PyProof.Rows
def ixN (n : Nat) (i : Int) : Option Nat := if 0 ≤ i then (if i < n then some i.toNat else none) else if -(n : Int) ≤ i then some (i + n).toNat else none
def atI {α : Type} (xs : List α) (i : Int) : Option α := (ixN xs.length i).bind fun j => xs[j]?
theorem ixN_seq {n : Nat} {i : Int} {j : Nat} (h : ixN n i = some j) : seqIndex? i n = some j ∧ j < n ∧ -(n : Int) ≤ i ∧ i < n := by
  unfold ixN at h
  by_cases h0 : 0 ≤ i
  · rw [if_pos h0] at h
    by_cases h1 : i < n
    · rw [if_pos h1] at h
      have e : i.toNat = j := Option.some.inj h
      exact ⟨by rw [seqIndex_of h0 h1, e], by omega, by omega, h1⟩
    · rw [if_neg h1] at h; cases h
  · rw [if_neg h0] at h
    by_cases h1 : -(n : Int) ≤ i
    · rw [if_pos h1] at h
      have e : (i + n).toNat = j := Option.some.inj h
      exact ⟨by rw [seqIndex_neg (by omega) h1, e], by omega, h1, by omega⟩
    · rw [if_neg h1] at h; cases h
theorem atI_get {α : Type} {xs : List α} {i : Int} {v : α} (h : atI xs i = some v) : ∃ j, seqIndex? i xs.length = some j ∧ xs[j]? = some v ∧ j < xs.length ∧ -(xs.length : Int) ≤ i ∧ i < xs.length := by
  unfold atI at h
  cases e : ixN xs.length i with
  | none => rw [e] at h; cases h
  | some j =>
    rw [e] at h
    obtain ⟨h1, h2, h3, h4⟩ := ixN_seq e
    exact ⟨j, h1, h, h2, h3, h4⟩
theorem atI_nat {α : Type} {xs : List α} {j : Nat} {v : α} (h : xs[j]? = some v) : atI xs (j : Int) = some v := by
  have hj : j < xs.length := (List.getElem?_eq_some_iff.mp h).1
  have e : ixN xs.length (j : Int) = some j := by
    unfold ixN
    rw [if_pos (by omega), if_pos (by omega)]; simp
  unfold atI; rw [e]; exact h
def PlainIx (b : Expr) : Prop := ∀ o i, subscripted b false o i = operate [o, i] (getItem o i)
def IxR (X : Cx) (r : R2) : Prop :=
  ∀ (value slice : Expr) (pins : List (Addr × Obj)) (s : Shared) (σ : St) (H : Hp) (x y : V) (v u : Value) (Q : VK), Inv X pins σ H s → RelV x v → RelV y u → r x y H Q →
    subscripted slice false v u = operate [v, u] (getItem v u) → wpAny (model X.prog X.w) X.A (subscriptTail value slice v u) (EP X pins σ Q) X.xe s
def MtR (X : Cx) (id : String) (r : V → List V → Hp → VK → Prop) : Prop :=
  ∀ (pins : List (Addr × Obj)) (s : Shared) (σ : St) (H : Hp) (x : V) (xs : List V) (v : Value) (us : List Value) (Q : VK), Inv X pins σ H s → RelV x v → Vals xs us → r x xs H Q →
    wpAny (model X.prog X.w) X.A (call (.builtin id) (v :: us)) (EP X pins σ Q) X.xe s
section
variable {X : Cx} {a b : Expr} {ta tb : TE} {pos : Pos}
theorem pe_ix {r : R2} (hr : IxR X r) (ha : PE X a ta) (hb : PE X b tb) (hs : PlainIx b) : PE X (.Subscript a b pos) (tOp r ta tb) := by
  intro pins s σ H Q I h
  exact Subscript_ (binT ha hb I h fun v u s2 x y H2 I2 rx ry q => hr a b pins s2 σ H2 x y v u Q I2 rx ry q (hs _ _))
def rIxL (K : PySem.W.Frag) : R2 := fun x y H Q => ∃ p xs i v, x = .ref p ∧ y = .int i ∧ SqL K H p xs ∧ atI xs i = some v ∧ Q v H
def rIxT (K : PySem.W.Frag) : R2 := fun x y H Q => ∃ p xs i v, x = .ref p ∧ y = .int i ∧ SqT K H p xs ∧ atI xs i = some v ∧ Q v H
def rIxS : R2 := fun x y H Q => ∃ z i c, x = .str z ∧ y = .int i ∧ z.length ≤ sizeLine ∧ atI z.cps.toList i = some c ∧ Q (.str ⟨#[c]⟩) H
theorem ix_list : IxR X (rIxL X.K) := by
  intro value slice pins s σ H x y v u Q I rx ry h hs
  obtain ⟨p, xs, i, z, rfl, rfl, hq, he, q⟩ := h
  cases rx
  obtain ⟨t, rfl⟩ := ry
  obtain ⟨its, r, pl, hz⟩ := I.list hq
  obtain ⟨j, h1, h2, h3, h4, h5⟩ := atI_get he
  obtain ⟨w, ew, rw'⟩ := r.get h2
  have hl := r.length
  have hn := line63
  have fin : EP X pins σ Q w s := ⟨z, H, I, rw', q⟩
  by_cases h0 : 0 ≤ i
  · have hj : i.toNat = j := by
      rw [seqIndex_of h0 h5] at h1
      exact Option.some.inj h1
    exact item_listR pl.isList h0 (by omega) (by rw [hj]; simpa using ew) fin hs
  · have hj : (i + (its.toArray.size : Int)).toNat = j := by
      rw [seqIndex_neg (by omega) h4] at h1
      rw [List.size_toArray, ← hl]
      exact Option.some.inj h1
    exact subscriptTail_builtinR (x := w) pl.isList.typeIs slot_list_getitem.lookup
      (wpAny_getItem_list_neg (Q := fun r s' => r = w ∧ EP X pins σ Q r s') pl.isList (by omega) (by rw [List.size_toArray] <;> omega) (by omega) (by rw [hj]; simpa using ew) ⟨rfl, fin⟩) hs
theorem ix_tup : IxR X (rIxT X.K) := by
  intro value slice pins s σ H x y v u Q I rx ry h hs
  obtain ⟨p, xs, i, z, rfl, rfl, hq, he, q⟩ := h
  cases rx
  obtain ⟨t, rfl⟩ := ry
  obtain ⟨its, r, pl, hz⟩ := I.tuple hq
  obtain ⟨j, h1, h2, h3, h4, h5⟩ := atI_get he
  obtain ⟨w, ew, rw'⟩ := r.get h2
  have hl := r.length
  have hn := line63
  have fin : EP X pins σ Q w s := ⟨z, H, I, rw', q⟩
  exact subscriptTail_builtinR (x := w) pl.typeIs slot_tuple_getitem.lookup
    (getItem_tuple (j := j) (Q := fun r s' => r = w ∧ EP X pins σ Q r s') pl (by omega) (by omega) (by rw [List.size_toArray, ← hl]; exact h1) (by simpa using ew) ⟨rfl, fin⟩) hs
theorem ix_str : IxR X rIxS := by
  intro value slice pins s σ H x y v u Q I rx ry h hs
  obtain ⟨z, i, c, rfl, rfl, hz, he, q⟩ := h
  obtain ⟨t, rfl⟩ := rx
  obtain ⟨t', rfl⟩ := ry
  obtain ⟨j, h1, h2, h3, h4, h5⟩ := atI_get he
  have hl : z.cps.toList.length = z.length := by simp [Str.length]
  rw [hl] at h1 h4 h5
  have hn := line63
  exact tail_any (typeIs_str s z t) slot_str_getitem.lookup (getItem_str (c := c) (by
    have e1 : decide (i < -(2 ^ 63 : Int)) = false := decide_eq_false (by omega)
    have e2 : decide (i ≥ 2 ^ 63) = false := decide_eq_false (by omega)
    rw [e1, e2, Bool.or_false]) (by rw [h1]; simpa using h2) ⟨.str ⟨#[c]⟩, H, I.tok _, ⟨_, rfl⟩, q⟩) hs
theorem mapSeq_set (its : List Value) (n j : Nat) (u : Value) : Obj.mapSeq (·.setIfInBounds j u) { cls := .type "list", data := .seq its.toArray n } = { cls := .type "list", data := .seq (its.set j u).toArray n } := by
  simp [Obj.mapSeq]
theorem Inv.lst {pins : List (Addr × Obj)} {σ : St} {H : Hp} {s : Shared} {p : Addr} {xs : List V} (I : Inv X pins σ H s) (h : H p = some (.lst xs)) :
    ∃ (its : List Value) (n : Nat), Vals xs its ∧ s.heap.get? p = some { cls := .type "list", data := .seq its.toArray n } ∧ xs.length ≤ sizeLine := by
  obtain ⟨z, its, n, r, e⟩ := I.hok p _ h
  exact ⟨its, n, r, e, z⟩
theorem Inv.lstUpd {pins : List (Addr × Obj)} {σ : St} {H : Hp} {s : Shared} {p : Addr} {xs ys : List V} {its its' : List Value} {n n' : Nat} {f : Obj → Obj} (I : Inv X pins σ H s) (h : H p = some (.lst xs))
    (ho : s.heap.get? p = some { cls := .type "list", data := .seq its.toArray n }) (hf : f { cls := .type "list", data := .seq its.toArray n } = { cls := .type "list", data := .seq its'.toArray n' }) (r : Vals ys its') (hz : ys.length ≤ sizeLine) (t : Nat) :
    Inv X pins σ (upd H p (.lst ys)) { s with heap := s.heap.update p f, toks := t } := by
  have e : (s.heap.update p f).get? p = some { cls := .type "list", data := .seq its'.toArray n' } := by
    rw [Heap.get?_update_self f ho (by rw [hf] <;> rfl), hf]
  refine I.write (x := p) (e := p) (by rw [h]; trivial) (.inl rfl) (fun b u hb q => (Heap.get?_update_other _ _ (Ne.symm hb)).trans q) ⟨_, e⟩ ?_
  exact ⟨hz, its', n', r, e⟩
def rSetL : V → V → V → Hp → (Hp → Prop) → Prop := fun o i v H Q => ∃ p xs k j, o = .ref p ∧ i = .int k ∧ H p = some (.lst xs) ∧ ixN xs.length k = some j ∧ Q (upd H p (.lst (xs.set j v)))
theorem set_list : PSet X rSetL := by
  intro pins s σ H o i v ov iv u Q I ro ri rv h
  obtain ⟨p, xs, k, j, rfl, rfl, hp, hj, q⟩ := h
  cases ro
  obtain ⟨t, rfl⟩ := ri
  obtain ⟨its, n, r, ho, hz⟩ := I.lst hp
  obtain ⟨h1, h2, h3, h4⟩ := ixN_seq hj
  have hl := r.length
  have hn := line63
  have I' : Inv X pins σ (upd H p (.lst (xs.set j v))) { s with heap := s.heap.update p (Obj.mapSeq (·.setIfInBounds j u)) } :=
    I.lstUpd hp ho (mapSeq_set its n j u) (r.set rv j) (by rw [List.length_set]; exact hz) s.toks
  by_cases h0 : 0 ≤ k
  · have hk : k.toNat = j := by
      rw [seqIndex_of h0 h4] at h1
      exact Option.some.inj h1
    exact PySem.W.ki_setAt ho h0 (by omega) (by rw [List.size_toArray, ← hl]; exact h4) (by rw [hk]; exact ⟨_, I', q⟩)
  · have hk : (k + (its.toArray.size : Int)).toNat = j := by
      rw [seqIndex_neg (by omega) h3] at h1
      rw [List.size_toArray, ← hl]
      exact Option.some.inj h1
    exact PySem.W.ki_setBack ho (by omega) (by rw [List.size_toArray, ← hl]; exact h3) (by omega) (by rw [hk]; exact ⟨_, I', q⟩)
theorem slice_bounds (lo hi : Option Int) (n : Nat) : (sliceBounds lo hi none n).1 = ((HT.sIx n 0 lo : Nat) : Int) ∧ (sliceBounds lo hi none n).2.1 = ((HT.sIx n n hi : Nat) : Int) ∧ (sliceBounds lo hi none n).2.2 = 1 := by
  refine ⟨?_, ?_, rfl⟩
  · cases lo with
    | none => simp [sliceBounds, HT.sIx]
    | some i =>
      simp only [sliceBounds, HT.sIx, Option.getD_none, show (1 : Int) > 0 by decide, if_true]
      by_cases h : i < 0
      · simp only [h, if_true] <;> omega
      · simp only [h, if_false] <;> omega
  · cases hi with
    | none => simp [sliceBounds, HT.sIx]
    | some i =>
      simp only [sliceBounds, HT.sIx, Option.getD_none, show (1 : Int) > 0 by decide, if_true]
      by_cases h : i < 0
      · simp only [h, if_true] <;> omega
      · simp only [h, if_false] <;> omega
theorem slicePick_cut (its : List Value) (lo hi : Option Int) : slicePick its.toArray lo hi none = ((its.drop (HT.sIx its.length 0 lo)).take (HT.sIx its.length its.length hi - HT.sIx its.length 0 lo)).toArray := by
  obtain ⟨h1, h2, h3⟩ := slice_bounds lo hi its.toArray.size
  unfold slicePick
  rw [h1, h2, h3]
  simp only [sliceRange_one, pick_run, List.size_toArray] <;> rfl
def rSlL (K : PySem.W.Frag) : V → Option Int → Option Int → Hp → VK → Prop := fun x lo hi H Q => ∃ a xs, x = .ref a ∧ SqL K H a xs ∧ ∀ p, H p = none → Q (.ref p) (upd H p (.lst (cutV xs lo hi)))
theorem sl_list : SlR X (rSlL X.K) := by
  intro pins s σ H x v vl vu lo hi sl Q I rx hs pl pu h
  obtain ⟨a, xs, rfl, hx, q⟩ := h
  cases rx
  obtain ⟨its, r, ht, hz⟩ := I.list hx
  have hlen := r.length
  refine ⟨"list", _, slot_list_getitem.lookup, ht.isList.typeIs, ?_⟩
  refine wpAny_getItem_list_slice ht.isList hs pl pu .none (by simp) ?_ (by rw [List.size_toArray] <;> omega)
  rw [slicePick_cut, ← hlen]
  refine ⟨.ref s.heap.objs.size, _, I.laid (t' := s.toks) (o := .lst (cutV xs lo hi)) (fun b ob q => Heap.get?_push_of_some _ q) (Nat.le_refl _) ?_, rfl, q _ (I.hok.fresh (Nat.le_refl _))⟩
  exact ⟨Nat.le_trans (cutV_length xs lo hi) hz, _, 0, (r.drop (HT.sIx xs.length 0 lo)).take (HT.sIx xs.length xs.length hi - HT.sIx xs.length 0 lo), Heap.get?_push_size _ rfl⟩
theorem op_notIn_str : OpR X (compareOp .NotIn) (fun x y H Q => ∃ i j, x = .str i ∧ y = .str j ∧ Q (.bl (!(!(Builtin.Str.occurrences j i 0 j.length 1).isEmpty))) H) := by
  intro pins s σ H x y v u Q I rx ry h
  obtain ⟨i, j, rfl, rfl, q⟩ := h
  obtain ⟨t, rfl⟩ := rx
  obtain ⟨t', rfl⟩ := ry
  exact notIn_str ⟨.bl _, H, I, rfl, q⟩
theorem call_len_seq : CallR X (.builtin "len") (fun xs H Q => ∃ p ys, xs = [.ref p] ∧ (SqL X.K H p ys ∨ SqT X.K H p ys) ∧ Q (.int ys.length) H) := by
  intro pins s σ H xs us Q I r h
  obtain ⟨p, ys, rfl, hq, q⟩ := h
  obtain ⟨u, rfl, rx⟩ := vals1 r
  cases rx
  have hn := line63
  rcases hq with hq | hq
  · obtain ⟨its, r', pl, hz⟩ := I.list hq
    have hlen := r'.length
    exact Calls.call_len_list pl.isList (by simp only [List.size_toArray] <;> omega) ⟨.int ys.length, H, I.tok _, ⟨s.toks + 1, by rw [List.size_toArray, hlen]⟩, q⟩
  · obtain ⟨its, r', pl, hz⟩ := I.tuple hq
    have hlen := r'.length
    exact len_tuple pl (by simp only [List.size_toArray] <;> omega) ⟨.int ys.length, H, I.tok _, ⟨s.toks + 1, by rw [List.size_toArray, hlen]⟩, q⟩
theorem call_len_str : CallR X (.builtin "len") (fun xs H Q => ∃ z, xs = [.str z] ∧ z.length ≤ sizeLine ∧ Q (.int z.length) H) := by
  intro pins s σ H xs us Q I r h
  obtain ⟨z, rfl, hz, q⟩ := h
  obtain ⟨u, rfl, t, rfl⟩ := vals1 r
  have hn := line63
  exact len_str (by omega) ⟨.int z.length, H, I.tok _, ⟨_, rfl⟩, q⟩
theorem call_tuple_of : CallR X (.type "tuple") (fun xs H Q => ∃ p ys, xs = [.ref p] ∧ ((SqL X.K H p ys ∧ ∀ l, H l = none → Q (.ref l) (upd H l (.tup ys))) ∨ (SqT X.K H p ys ∧ Q (.ref p) H))) := by
  intro pins s σ H xs us Q I r h
  obtain ⟨p, ys, rfl, h⟩ := h
  obtain ⟨u, rfl, rx⟩ := vals1 r
  cases rx
  rcases h with ⟨hq, q⟩ | ⟨hq, q⟩
  · obtain ⟨its, r', pl, hz⟩ := I.list hq
    have hlen := r'.length
    refine call_tuple_list pl.isList (fun h' kp => ?_) (by simp only [List.size_toArray] <;> omega)
    have I1 : Inv X pins σ H { s with heap := h' } := I.kept (t' := s.toks) kp
    have I2 : Inv X pins σ (upd H h'.objs.size (.tup ys)) { s with heap := h'.push { cls := .type "tuple", data := .seq its.toArray } } :=
      I1.laid (t' := s.toks) (fun b o e => Heap.get?_push_of_some _ e) (Nat.le_refl _) (show ObjOk X.prog X.w _ _ _ (.tup ys) from ⟨hz, its, r', IsTup.new _ _⟩)
    exact ⟨.ref h'.objs.size, _, I2, rfl, q _ (I1.hok.fresh (Nat.le_refl _))⟩
  · obtain ⟨its, r', pl, hz⟩ := I.tuple hq
    exact call_tuple_same pl ⟨.ref p, H, I, rfl, q⟩
def tyV (K : PySem.W.Frag) (T : String) (x : V) (H : Hp) : Prop := match x with
  | .str _ => T = "str"
  | .int _ => T = "int"
  | .ref p => (T = "list" ∧ ∃ xs, SqL K H p xs) ∨ (T = "tuple" ∧ ∃ o, K.lookup p = some o ∧ o.cls = .type "tuple" ∧ o.dict = none) ∨
      (T = "dict" ∧ ((∃ kvs, H p = some (.dK kvs)) ∨ ∃ kvs, H p = some (.dT kvs))) ∨ (T = "set" ∧ ∃ S n, H p = some (.set S n))
  | _ => False
theorem tyV_is {pins : List (Addr × Obj)} {σ : St} {H : Hp} {s : Shared} {T : String} {x : V} {v : Value} (I : Inv X pins σ H s) (r : RelV x v) (ty : tyV X.K T x H) :
    s.TypeIs v T ∧ ∀ a, v = .ref a → ∃ ob, s.heap.get? a = some ob ∧ ob.dict = none := by
  cases x with
  | str z =>
    obtain ⟨t, rfl⟩ := r
    cases (show T = "str" from ty)
    exact ⟨typeIs_str s z t, fun _ e => nomatch e⟩
  | int i =>
    obtain ⟨t, rfl⟩ := r
    cases (show T = "int" from ty)
    exact ⟨typeIs_int s i t, fun _ e => nomatch e⟩
  | ref p =>
    cases r
    rcases ty with ⟨rfl, xs, hq⟩ | ⟨rfl, o, hk, hc, hd⟩ | ⟨rfl, hk⟩ | ⟨rfl, S, n, hk⟩
    · obtain ⟨its, _, pl, _⟩ := I.list hq
      refine ⟨pl.isList.typeIs, fun a e => ?_⟩
      cases e
      obtain ⟨o, n, e, c, hd, _⟩ := pl
      exact ⟨o, e, hd⟩
    · refine ⟨⟨o, I.kIn p o hk, hc⟩, fun a e => ?_⟩
      cases e
      exact ⟨o, I.kIn _ o hk, hd⟩
    · have z : ∃ o, s.heap.get? p = some o ∧ o.ExactDict := by
        rcases hk with ⟨kvs, hk⟩ | ⟨kvs, hk⟩
        · obtain ⟨_, _, _, _, o, _, _, e, ex, _⟩ := I.hok p _ hk
          exact ⟨o, e, ex⟩
        · obtain ⟨_, _, _, _, o, _, _, e, ex, _⟩ := I.hok p _ hk
          exact ⟨o, e, ex⟩
      obtain ⟨o, e, ex⟩ := z
      refine ⟨⟨o, e, ex.1⟩, fun a e2 => ?_⟩
      cases e2
      exact ⟨o, e, ex.2.1⟩
    · obtain ⟨o, _, _, _, e, ex, _⟩ := I.hok p _ hk
      refine ⟨⟨o, e, ex.1⟩, fun a e2 => ?_⟩
      cases e2
      exact ⟨o, e, ex.2.1⟩
  | _ => exact False.elim ty
def tBM (K : PySem.W.Frag) (T : String) (r : V → List V → Hp → VK → Prop) (to : TE) (t : TA) : TE := fun σ H Q => to σ H fun x H1 => tyV K T x H1 ∧ t σ H1 fun xs H2 => r x xs H2 Q
variable {o e : Expr} {es : List Expr} {to : TE} {t : TA} {name : Str} {apos cpos : Pos} {T id : String} {r : V → List V → Hp → VK → Prop}
theorem pe_bm (pa : PlainAttrs T) (slot : Slot T name id) (hty : typeOf (.builtin id) = pure (.type "method_descriptor")) (hm : MtR X id r) (ho : PE X o to) (ha : PA X (e :: es) t)
    (hbase : attributeBase o name X.env (eval o X.env) = eval o X.env := by rfl)
    (hfew : ((backTo cpos (starEach (e :: es) X.env)).all (fun x => !x.1) && (backToKw cpos (keywordEach [] X.env)).all (fun x => x.1.isSome)
      && decide ((e :: es).length + ([] : List Keyword).length + (if ([] : List Keyword).isEmpty then 0 else 1) < 30)) = true := by rfl)
    (hline : (apos.endLine == cpos.line) = true := by rfl) (hs : starEach (e :: es) X.env = (false, eval e X.env) :: starEach es X.env := by rfl) (hplain : (backTo cpos (starEach es X.env)).any (·.1) = false := by rfl) :
    PE X (.Call (.Attribute o name apos) (e :: es) [] cpos) (tBM X.K T r to t) := by
  intro pins s σ H Q I h
  refine wpAny_Call_method_late hbase hfew hline rfl (thn (ho pins s σ H _ I h) fun v s1 ⟨x, H1, I1, r1, ty, q1⟩ => ?_)
  obtain ⟨h1, h2⟩ := tyV_is I1 r1 ty
  refine ⟨T, id, pa, slot, hty, h1, h2, ?_⟩
  have hA := ha cpos pins s1 σ H1 _ I1 q1
  rw [hs] at hA ⊢
  refine Calls.callWith_builtin (by show (false || (backTo cpos (starEach es X.env)).any (·.1)) = false; rw [hplain] <;> rfl) (Calls.evalArgs_plain ?_)
  exact thn hA fun us s2 ⟨vs, H2, I2, r2, q2⟩ => hm pins s2 σ H2 x vs v us Q I2 r1 r2 q2
end
end L2
namespace L2
open PySem PySem.Spec PyProof.Rows
def MtM (X : Cx) (id : String) (r : V → List V → Hp → VK → Prop) : Prop :=
  ∀ (pins : List (Addr × Obj)) (s : Shared) (σ : St) (H : Hp) (x : V) (xs : List V) (v : Value) (us : List Value) (Q : VK), Inv X pins σ H s → RelV x v → Vals xs us → r x xs H Q →
    wpAny (model X.prog X.w) X.A (call (.builtin id) (v :: us)) (EP X pins σ Q) X.xe s
theorem Vals.one : ∀ {x : V} {us : List Value}, Vals [x] us → ∃ u, us = [u] ∧ RelV x u
  | _, _, .cons r .nil => ⟨_, rfl, r⟩
theorem Vals.two : ∀ {x y : V} {us : List Value}, Vals [x, y] us → ∃ u v, us = [u, v] ∧ RelV x u ∧ RelV y v
  | _, _, _, .cons r (.cons q .nil) => ⟨_, _, rfl, r, q⟩
theorem Vals.zero : ∀ {us : List Value}, Vals [] us → us = []
  | _, .nil => rfl
theorem Vals.eraseIdx : ∀ {xs : List V} {us : List Value} (i : Nat), Vals xs us → Vals (xs.eraseIdx i) (us.eraseIdx i)
  | _, _, _, .nil => .nil
  | _, _, 0, .cons _ t => t
  | _, _, i + 1, .cons r t => .cons r (Vals.eraseIdx i t)
theorem Vals.rep {xs : List V} {us : List Value} (h : Vals xs us) : ∀ k : Nat, Vals (List.replicate k xs).flatten (List.replicate k us).flatten
  | 0 => .nil
  | k + 1 => by
    rw [List.replicate_succ, List.replicate_succ, List.flatten_cons, List.flatten_cons]
    exact Vals.append h (Vals.rep h k)
theorem len_erase {α : Type} : ∀ (l : List α) (i : Nat), (l.eraseIdx i).length ≤ l.length
  | [], _ => Nat.le_refl _
  | _ :: _, 0 => Nat.le_succ _
  | _ :: r, i + 1 => Nat.succ_le_succ (len_erase r i)
section
variable {X : Cx} {pins : List (Addr × Obj)} {σ : St} {H : Hp} {s : Shared} {l b : Addr} {xs ys zs : List V}
theorem Inv.lset {its its' : List Value} {n : Nat} {f : Array Value → Array Value} {t' : Nat} (I : Inv X pins σ H s) (hH : H l = some (.lst xs))
    (e : s.heap.get? l = some { cls := .type "list", data := .seq its.toArray n }) (hf : f its.toArray = its'.toArray) (hv : Vals ys its') (hz : ys.length ≤ sizeLine) :
    Inv X pins σ (upd H l (.lst ys)) { s with heap := s.heap.update l (Obj.mapSeq f), toks := t' } := by
  have q := PySem.IsL.update e f
  rw [hf] at q
  refine I.write (x := l) (e := l) (by rw [hH]; exact trivial) (.inl rfl) (fun b' u hb hu => (Heap.get?_update_other s.heap (Obj.mapSeq f) (Ne.symm hb)).trans hu) ⟨_, q⟩ ?_
  exact ⟨hz, its', _, hv, q⟩
theorem Inv.lnew {its : List Value} {t' : Nat} (I : Inv X pins σ H s) (hv : Vals ys its) (hz : ys.length ≤ sizeLine) :
    Inv X pins σ (upd H s.heap.objs.size (.lst ys)) { s with heap := s.heap.push { cls := .type "list", data := .seq its.toArray }, toks := t' } :=
  I.laid (fun _ _ q => Heap.get?_push_of_some _ q) (Nat.le_refl _) ⟨hz, its, 0, hv, Heap.get?_push_size _ rfl⟩
theorem Inv.fresh (I : Inv X pins σ H s) : H s.heap.objs.size = none := I.hok.fresh (Nat.le_refl _)
theorem Inv.lstM (I : Inv X pins σ H s) (hH : H l = some (.lst xs)) : xs.length ≤ sizeLine ∧ ∃ (its : List Value) (n : Nat), Vals xs its ∧ xs.length = its.length ∧ s.heap.get? l = some { cls := .type "list", data := .seq its.toArray n } := by
  obtain ⟨z, its, n, r, e⟩ := I.hok l _ hH
  exact ⟨z, its, n, r, r.length, e⟩
end
section
variable {X : Cx}
def rAppend : V → List V → Hp → VK → Prop := fun x vs H Q => ∃ l xs y, x = .ref l ∧ vs = [y] ∧ H l = some (.lst xs) ∧ xs.length < sizeLine ∧ Q .non (upd H l (.lst (xs ++ [y])))
theorem mt_append : MtM X "list.append" rAppend := by
  intro pins s σ H x vs v us Q I rx rv h
  obtain ⟨l, xs, y, rfl, rfl, hH, hz, q⟩ := h
  cases rx
  obtain ⟨u, rfl, ru⟩ := rv.one
  obtain ⟨z, its, n, r, hl, e⟩ := I.lstM hH
  refine call_meets F.slot_list_append ⟨_, e, rfl⟩ F.entry_list_append (F.args_list_append_2 _ _) (PySem.list_append l its.toArray n u (by rw [List.size_toArray]; omega)) ⟨e, ?_⟩
  refine ⟨.non, _, I.lset (its' := its ++ [u]) hH e (by simp) (r.append (.cons ru .nil)) ?_, rfl, q⟩
  rw [List.length_append, List.length_singleton]
  omega
def rPopAt : V → List V → Hp → VK → Prop := fun x vs H Q => ∃ l xs i k y, x = .ref l ∧ vs = [.int i] ∧ H l = some (.lst xs) ∧ -(2 ^ 63) ≤ i ∧ i < 2 ^ 63 ∧ seqIndex? i xs.length = some k ∧ xs[k]? = some y ∧ Q y (upd H l (.lst (xs.eraseIdx k)))
theorem mt_popAt : MtM X "list.pop" rPopAt := by
  intro pins s σ H x vs v us Q I rx rv h
  obtain ⟨l, xs, i, k, y, rfl, rfl, hH, h1, h2, hk, hy, q⟩ := h
  cases rx
  obtain ⟨u, rfl, ru⟩ := rv.one
  obtain ⟨t, rfl⟩ := ru
  obtain ⟨z, its, n, r, hl, e⟩ := I.lstM hH
  obtain ⟨w, hw, rw'⟩ := r.get hy
  refine call_meets F.slot_list_pop ⟨_, e, rfl⟩ F.entry_list_pop (F.args_list_pop_2 _ _)
    (MeetsSeq.list_pop_at l its.toArray n i t k w (fitsIndex_both h1 h2) (by rw [List.size_toArray, ← hl]; exact hk) (by rw [← Array.getElem?_toList]; exact hw) (by rw [List.size_toArray]; omega)) ⟨e, ?_⟩
  refine ⟨y, _, I.lset (its' := its.eraseIdx k) hH e ?_ (r.eraseIdx k) ?_, rw', q⟩
  · show its.toArray.eraseIdxIfInBounds k = (its.eraseIdx k).toArray
    rw [List.eraseIdxIfInBounds_toArray]
  · have := len_erase xs k
    omega
def rCat : R2 := fun x y H Q => ∃ l b xs zs, x = .ref l ∧ y = .ref b ∧ H l = some (.lst xs) ∧ H b = some (.lst zs) ∧ xs.length + zs.length ≤ sizeLine ∧ ∀ p, H p = none → Q (.ref p) (upd H p (.lst (xs ++ zs)))
theorem op_cat : OpR X (binaryOp .Add) rCat := by
  intro pins s σ H x y v u Q I rx ry h
  obtain ⟨l, b, xs, zs, rfl, rfl, hH, hB, hz, q⟩ := h
  cases rx
  cases ry
  obtain ⟨z, its, n, r, hl, e⟩ := I.lstM hH
  obtain ⟨z2, its2, n2, r2, hl2, e2⟩ := I.lstM hB
  refine PySem.P.add_list e e2 ?_ (by rw [List.size_toArray, List.size_toArray]; omega)
  have ea : its.toArray ++ its2.toArray = (its ++ its2).toArray := by simp
  rw [ea]
  exact ⟨.ref _, _, I.lnew (t' := s.toks) (r.append r2) (by rw [List.length_append]; omega), rfl, q _ I.fresh⟩
end
section
variable {prog : Program} {w : World} {A : Around} {E : Value → Shared → Prop} {s : Shared}
end
section
variable {X : Cx}
end
end L2
namespace L2
open PySem PySem.Spec PyProof.Rows
section
variable {κ : Type} [DecidableEq κ]
def valV (kvs : List (κ × V)) (k : κ) : Option V := (kvs.find? fun kv => decide (kv.1 = k)).map (·.2)
def putK (kvs : List (κ × V)) (k : κ) (v : V) : List (κ × V) :=
  if (kvs.any fun kv => decide (kv.1 = k)) = true then kvs.map (fun kv => if kv.1 = k then (kv.1, v) else kv) else kvs ++ [(k, v)]
def dropK (kvs : List (κ × V)) (k : κ) : List (κ × V) := kvs.filter fun kv => decide (kv.1 ≠ k)
theorem valV_pos {p : κ × V} {r : List (κ × V)} {k : κ} (e : p.1 = k) : valV (p :: r) k = some p.2 := by simp [valV, List.find?_cons, e]
theorem valV_neg {p : κ × V} {r : List (κ × V)} {k : κ} (e : ¬ p.1 = k) : valV (p :: r) k = valV r k := by simp [valV, List.find?_cons, e]
theorem valV_any (k : κ) : ∀ kvs : List (κ × V), (kvs.any fun kv => decide (kv.1 = k)) = (valV kvs k).isSome
  | [] => rfl
  | p :: r => by
    rw [List.any_cons]
    by_cases e : p.1 = k
    · simp only [valV_pos e, decide_eq_true e, Bool.true_or, Option.isSome_some]
    · rw [valV_neg e, decide_eq_false e, Bool.false_or]; exact valV_any k r
theorem length_putK (kvs : List (κ × V)) (k : κ) (v : V) : (putK kvs k v).length ≤ kvs.length + 1 := by
  unfold putK
  split
  · rw [List.length_map]; omega
  · rw [List.length_append, List.length_cons, List.length_nil]; omega
theorem RelO.isSome_eq {o : Option V} {u : Option Value} (r : RelO o u) : o.isSome = u.isSome := by
  cases o with
  | none => cases u with
    | none => rfl
    | some _ => exact (show False from r).elim
  | some _ => cases u with
    | none => exact (show False from r).elim
    | some _ => rfl
theorem RelO.getD {o : Option V} {u : Option Value} {d : V} {d' : Value} (r : RelO o u) (rd : RelV d d') : RelV (o.getD d) (u.getD d') := by
  cases o with
  | none => cases u with
    | none => exact rd
    | some _ => exact (show False from r).elim
  | some _ => cases u with
    | none => exact (show False from r).elim
    | some _ => exact r
theorem KV.val {kvs : List (κ × V)} {vs : List (κ × Value)} (r : KV kvs vs) (k : κ) : RelO (valV kvs k) (valueAt vs k) := by
  unfold KV at r
  induction r with
  | nil => exact True.intro
  | @cons p q ps qs h t ih =>
    obtain ⟨h1, h2⟩ := h
    by_cases e : p.1 = k
    · have e' : q.1 = k := h1.symm.trans e
      have b : valueAt (q :: qs) k = some q.2 := by simp [valueAt, List.find?_cons, e']
      rw [valV_pos e, b]; exact h2
    · have e' : ¬ q.1 = k := fun z => e (h1.trans z)
      have b : valueAt (q :: qs) k = valueAt qs k := by simp [valueAt, List.find?_cons, e']
      rw [valV_neg e, b]; exact ih
theorem KV.any {kvs : List (κ × V)} {vs : List (κ × Value)} (r : KV kvs vs) (k : κ) : (kvs.any fun kv => decide (kv.1 = k)) = vs.any fun kv => decide (kv.1 = k) := by
  unfold KV at r
  induction r with
  | nil => rfl
  | cons h t ih => rw [List.any_cons, List.any_cons, ih, h.1]
theorem KV.repl {kvs : List (κ × V)} {vs : List (κ × Value)} (r : KV kvs vs) (k : κ) {y : V} {u : Value} (ry : RelV y u) :
    KV (kvs.map fun kv => if kv.1 = k then (kv.1, y) else kv) (vs.map fun kv => if kv.1 = k then (kv.1, u) else kv) := by
  unfold KV at r ⊢
  induction r with
  | nil => exact .nil
  | @cons p q ps qs h t ih =>
    rw [List.map_cons, List.map_cons]
    refine .cons ?_ ih
    obtain ⟨h1, h2⟩ := h
    by_cases e : p.1 = k
    · rw [if_pos e, if_pos (h1.symm.trans e)]; exact ⟨h1, ry⟩
    · rw [if_neg e, if_neg (fun z => e (h1.trans z))]; exact ⟨h1, h2⟩
theorem KV.put {kvs : List (κ × V)} {vs : List (κ × Value)} (r : KV kvs vs) (k : κ) {y : V} {u : Value} (ry : RelV y u) : KV (putK kvs k y) (stored vs k u) := by
  unfold putK stored
  rw [r.any k]
  by_cases e : (vs.any fun kv => decide (kv.1 = k)) = true
  · rw [if_pos e, if_pos e]; exact r.repl k ry
  · rw [if_neg e, if_neg e]; exact Paired.snoc r ⟨rfl, ry⟩
theorem KV.drop {kvs : List (κ × V)} {vs : List (κ × Value)} (r : KV kvs vs) (k : κ) : KV (dropK kvs k) (without vs k) := by
  unfold KV at r ⊢
  unfold dropK without
  induction r with
  | nil => exact .nil
  | @cons p q ps qs h t ih =>
    obtain ⟨h1, h2⟩ := h
    rw [List.filter_cons, List.filter_cons]
    by_cases e : p.1 = k
    · have a : ¬ decide (p.1 ≠ k) = true := by simp [e]
      have b : ¬ decide (q.1 ≠ k) = true := by simp [h1.symm.trans e]
      rw [if_neg a, if_neg b]; exact ih
    · have e' : ¬ q.1 = k := fun z => e (h1.trans z)
      have a : decide (p.1 ≠ k) = true := by simp [e]
      have b : decide (q.1 ≠ k) = true := by simp [e']
      rw [if_pos a, if_pos b]; exact .cons ⟨h1, h2⟩ ih
theorem KV.keys {kvs : List (κ × V)} {vs : List (κ × Value)} (r : KV kvs vs) : kvs.map (·.1) = vs.map (·.1) := by
  unfold KV at r
  induction r with
  | nil => rfl
  | cons h t ih => rw [List.map_cons, List.map_cons, ih, h.1]
theorem KV.length {kvs : List (κ × V)} {vs : List (κ × Value)} (r : KV kvs vs) : kvs.length = vs.length := Paired.length r
end
theorem kV_is {P : Program} {w : World} {k : Key} {u : Value} (r : RelV (kV k) u) : (mixKind P w).is k u = true := by
  cases k with
  | inl i => obtain ⟨t, e⟩ := (show ∃ t, u = Value.int i t from r); subst e; exact mixKind_int P w i t
  | inr x => obtain ⟨t, e⟩ := (show ∃ t, u = Value.str x t from r); subst e; exact mixKind_str P w x t
theorem items_are {P : Program} {w : World} : ∀ {ks : List Key} {us : List Value}, Vals (ks.map kV) us → ItemsAre (mixKind P w) ks us
  | [], _, r => by rw [List.map_nil] at r; cases r; exact .nil
  | k :: ks, _, r => by
    rw [List.map_cons] at r
    cases r with
    | cons h t => exact .cons (kV_is h) (items_are t)
abbrev KT (H : Hp) : List (List Key × V) → List (List Key × Addr × Value) → Prop := Paired fun p q => p.1 = q.1 ∧ H q.2.1 = some (.tup (p.1.map kV)) ∧ RelV p.2 q.2.2
theorem KT.val {H : Hp} {kvs : List (List Key × V)} {xs : List (List Key × Addr × Value)} (r : KT H kvs xs) (k : List Key) : RelO (valV kvs k) ((atKey xs k).map (·.2)) := by
  induction r with
  | nil => exact True.intro
  | @cons p q ps qs h t ih =>
    obtain ⟨h1, _, h2⟩ := h
    by_cases e : p.1 = k
    · have e' : q.1 = k := h1.symm.trans e
      have b : atKey (q :: qs) k = some q.2 := by simp [atKey, List.find?_cons, e']
      rw [valV_pos e, b]; exact h2
    · have e' : ¬ q.1 = k := fun z => e (h1.trans z)
      have b : atKey (q :: qs) k = atKey qs k := by simp [atKey, List.find?_cons, e']
      rw [valV_neg e, b]; exact ih
theorem KT.repl {H : Hp} {kvs : List (List Key × V)} {xs : List (List Key × Addr × Value)} (r : KT H kvs xs) (k : List Key) {y : V} {u : Value} (ry : RelV y u) :
    KT H (kvs.map fun kv => if kv.1 = k then (kv.1, y) else kv) (xs.map (putAt k u)) := by
  induction r with
  | nil => exact .nil
  | @cons p q ps qs h t ih =>
    rw [List.map_cons, List.map_cons]
    refine .cons ?_ ih
    obtain ⟨h1, h2, h3⟩ := h
    unfold putAt
    by_cases e : p.1 = k
    · rw [if_pos e, if_pos (h1.symm.trans e)]; exact ⟨h1, h2, ry⟩
    · rw [if_neg e, if_neg (fun z => e (h1.trans z))]; exact ⟨h1, h2, h3⟩
theorem KT.put {H : Hp} {kvs : List (List Key × V)} {xs : List (List Key × Addr × Value)} (r : KT H kvs xs) (k : List Key) {b : Addr} {y : V} {u : Value} (hb : H b = some (.tup (k.map kV))) (ry : RelV y u) :
    KT H (putK kvs k y) (storedH xs k b u) := by
  have e : (kvs.any fun kv => decide (kv.1 = k)) = (atKey xs k).isSome := by
    rw [valV_any, (r.val k).isSome_eq, Option.isSome_map]
  unfold putK storedH
  rw [e]
  by_cases q : (atKey xs k).isSome = true
  · rw [if_pos q, if_pos q]; exact r.repl k ry
  · rw [if_neg q, if_neg q]; exact Paired.snoc r ⟨rfl, hb, ry⟩
theorem KT.keeps {H H' : Hp} {kvs : List (List Key × V)} {xs : List (List Key × Addr × Value)} (r : KT H kvs xs) (ht : ∀ b ys, H b = some (.tup ys) → H' b = some (.tup ys)) : KT H' kvs xs :=
  Paired.mapP r fun _ _ z => ⟨z.1, ht _ _ z.2.1, z.2.2⟩
section
variable {P : Program} {w : World} {H : Hp} {h : Heap} {a : Addr}
theorem rd_of {u : HO} (ok : HOk P w H h) (e : Rd H a u) : ObjOk P w H h a u := e.ok ok
theorem dk_rd {kvs : List (Key × V)} (ok : HOk P w H h) (e : Rd H a (.dK kvs)) : kvs.length ≤ sizeLine ∧ (a == sysModules) = false ∧ ∃ vs, KV kvs vs ∧ h.DictOf (mixKind P w) a vs :=
  show ObjOk P w H h a (.dK kvs) from rd_of ok e
theorem dk_of {kvs : List (Key × V)} (ok : HOk P w H h) (e : H a = some (.dK kvs)) : kvs.length ≤ sizeLine ∧ (a == sysModules) = false ∧ ∃ vs, KV kvs vs ∧ h.DictOf (mixKind P w) a vs := dk_rd ok (.inl e)
theorem key_of {ks : List Key} (ok : HOk P w H h) (e : H a = some (.tup (ks.map kV))) : (tupleKind (mixKind P w)).is h ks a := by
  obtain ⟨_, its, r, o, h1, h2, n, h3⟩ := (show ObjOk P w H h a (.tup (ks.map kV)) from ok a _ e)
  exact ⟨o, its.toArray, n, h1, h2, h3, by simpa using items_are r⟩
theorem dt_rd {kvs : List (List Key × V)} (ok : HOk P w H h) (e : Rd H a (.dT kvs)) : kvs.length ≤ sizeLine ∧ (a == sysModules) = false ∧
    ∃ xs, KT H kvs xs ∧ h.DictOfH (tupleKind (mixKind P w)) a xs := by
  obtain ⟨z, y, xs, r, o, es, ep, h1, h2, h3, h4, h5⟩ := (show ObjOk P w H h a (.dT kvs) from rd_of ok e)
  refine ⟨z, y, xs, r, o, es, ep, h1, h2, h3, h4, fun x hx => ?_, h5⟩
  have all : ∀ {l : List (List Key × V)} {m : List (List Key × Addr × Value)}, KT H l m → ∀ x ∈ m, (tupleKind (mixKind P w)).is h x.1 x.2.1 := by
    intro l m q
    induction q with
    | nil => intro x hx; exact nomatch hx
    | @cons p q ps qs hq t ih =>
      intro x hx
      rcases List.mem_cons.mp hx with e | hx
      · subst e
        exact key_of ok (by rw [← hq.1]; exact hq.2.1)
      · exact ih x hx
  exact all r x hx
end
def DGet (H : Hp) (a : Addr) (y : V) (r : Option V) : Prop :=
  (∃ kvs k, Rd H a (.dK kvs) ∧ y = kV k ∧ r = valV kvs k) ∨ ∃ kvs k b, Rd H a (.dT kvs) ∧ y = .ref b ∧ H b = some (.tup (k.map kV)) ∧ r = valV kvs k
def DPut (H : Hp) (a : Addr) (y v : V) (H' : Hp) : Prop :=
  (∃ kvs k, H a = some (.dK kvs) ∧ y = kV k ∧ kvs.length < sizeLine ∧ H' = upd H a (.dK (putK kvs k v))) ∨
  ∃ kvs k b, H a = some (.dT kvs) ∧ y = .ref b ∧ H b = some (.tup (k.map kV)) ∧ kvs.length < sizeLine ∧ H' = upd H a (.dT (putK kvs k v))
theorem DGet.k {H : Hp} {a : Addr} {kvs : List (Key × V)} {k : Key} (e : H a = some (.dK kvs)) : DGet H a (kV k) (valV kvs k) := .inl ⟨kvs, k, .inl e, rfl, rfl⟩
theorem DGet.t {H : Hp} {a b : Addr} {kvs : List (List Key × V)} {k : List Key} (e : H a = some (.dT kvs)) (eb : H b = some (.tup (k.map kV))) : DGet H a (.ref b) (valV kvs k) := .inr ⟨kvs, k, b, .inl e, rfl, eb, rfl⟩
theorem DPut.k {H : Hp} {a : Addr} {kvs : List (Key × V)} {k : Key} {v : V} (e : H a = some (.dK kvs)) (hl : kvs.length < sizeLine) : DPut H a (kV k) v (upd H a (.dK (putK kvs k v))) := .inl ⟨kvs, k, e, rfl, hl, rfl⟩
theorem DPut.t {H : Hp} {a b : Addr} {kvs : List (List Key × V)} {k : List Key} {v : V} (e : H a = some (.dT kvs)) (eb : H b = some (.tup (k.map kV))) (hl : kvs.length < sizeLine) :
    DPut H a (.ref b) v (upd H a (.dT (putK kvs k v))) := .inr ⟨kvs, k, b, e, rfl, eb, hl, rfl⟩
section
variable {X : Cx} {pins : List (Addr × Obj)} {σ : St} {H : Hp} {s : Shared} {a : Addr} {y v : V} {u r : Value} {o : Option V} {A : Around} {E : Value → Shared → Prop}
theorem Inv.big (I : Inv X pins σ H s) : sysModules < s.heap.objs.size := by
  have h : mainGlobals < s.heap.objs.size := (I.mod.glob.keeps I.bk).lt
  exact Nat.lt_trans (by decide) h
theorem d_getItem {Q : Value → Shared → Prop} (hu : A.units + 1 < cLine) (I : Inv X pins σ H s) (g : DGet H a y (some v)) (ry : RelV y u) (h : ∀ w' s', Inv X pins σ H s' → RelV v w' → Q w' s') :
    wpAny (model X.prog X.w) A (getItem (.ref a) u) Q E s := by
  rcases g with ⟨kvs, k, e, ey, l⟩ | ⟨kvs, k, b, e, ey, eb, l⟩
  · subst ey
    obtain ⟨z, hd, vs, rel, dd⟩ := dk_rd I.hok e
    obtain ⟨w', hw, rw'⟩ := RelO.some_of (v := v) (o := valueAt vs k) (by rw [l]; exact rel.val k)
    exact wpAny_getItem_of (kV_is ry) dd.mapOf hw (h w' _ (I.tok _) rw')
  · subst ey
    cases (show u = Value.ref b from ry)
    obtain ⟨z, hd, xs, rel, dd⟩ := dt_rd I.hok e
    obtain ⟨w', hw, rw'⟩ := RelO.some_of (v := v) (o := (atKey xs k).map (·.2)) (by rw [l]; exact rel.val k)
    obtain ⟨p, hp, hp2⟩ := Option.map_eq_some_iff.mp hw
    refine wpAny_getItem_heap (tupleKind_room_in1 hu) (key_of I.hok eb) dd hp ?_
    rw [hp2]
    exact h w' _ (I.tok _) rw'
theorem d_write {h' : Heap} {t' : Nat} {ob : HO} (I : Inv X pins σ H s) (mu : Mut (H a)) (hs : Heap.SameBut a s.heap h') (he : ∃ q, h'.get? a = some q) (new : ObjOk X.prog X.w (upd H a ob) h' a ob) :
    Inv X pins σ (upd H a ob) { s with heap := h', toks := t' } :=
  I.write (x := a) (e := a) mu (.inl rfl) (fun b q hb z => (hs.2 b hb).trans z) he new
theorem dk_new {P : Program} {w : World} {H' : Hp} {h' : Heap} {kvs : List (Key × V)} {vs : List (Key × Value)} (z : kvs.length ≤ sizeLine) (hd : (a == sysModules) = false) (rel : KV kvs vs) (dd : h'.DictOf (mixKind P w) a vs) :
    ObjOk P w H' h' a (.dK kvs) := ⟨z, hd, vs, rel, dd⟩
end
section
variable {X : Cx} {pins : List (Addr × Obj)} {σ : St} {H : Hp} {s : Shared} {a : Addr} {kvs : List (Key × V)} {k : Key} {u : Value} {A : Around} {E : Value → Shared → Prop}
theorem d_len {Q : Value → Shared → Prop} (I : Inv X pins σ H s) (e : Rd H a (.dK kvs)) (h : ∀ t s', Inv X pins σ H s' → Q (.int kvs.length t) s') : wpAny (model X.prog X.w) A (call (.builtin "len") [.ref a]) Q E s := by
  obtain ⟨z, hd, vs, rel, dd⟩ := dk_rd I.hok e
  refine call_len_dict hd dd (by rw [← rel.length]; rw [sizeLine_eq] at z; omega) ?_
  rw [← rel.length]
  exact h _ _ (I.tok _)
end
def NoSl (i : Expr) : Prop := ∀ ov iv, subscripted i false ov iv = operate [ov, iv] (getItem ov iv)
theorem subD_of {prog : Program} {w : World} {A : Around} {E : Value → Shared → Prop} {s : Shared} {env : Env} {value slice : Expr} {pos : Pos} {T id : String} {Q : Value → Shared → Prop}
    (hl : typeLookup (.type T) "__getitem__" = pure (some (.builtin id))) (hs : NoSl slice)
    (h : wpAny (model prog w) A (eval value env) (fun o s₁ => wpAny (model prog w) A (eval slice env) (fun i s₂ => s₂.TypeIs o T ∧ wpAny (model prog w) A (getItem o i) Q E s₂) E s₁) E s) :
    wpAny (model prog w) A (eval (.Subscript value slice pos) env) Q E s := by
  refine Subscript_ (wpAny_mono h (fun o s₁ h₁ => wpAny_mono h₁ (fun i s₂ h₂ => ?_) fun _ _ x => x) fun _ _ x => x)
  obtain ⟨hT, h₂⟩ := h₂
  unfold subscriptTail
  refine wpAny_bind ?_
  rw [getitemInPython_of_ne hT.not_modules]
  refine wpAny_bind (wpAny_specialOf hT hl ?_)
  have fin : wpAny (model prog w) A (subscripted slice false o i) (fun r s₃ => wpAny (model prog w) A (letTemporaryGo value o r >>= fun _ => pure r) Q E s₃) E s₂ := by
    rw [hs o i]
    exact wpAny_operating (wpAny_mono h₂ (fun r s₃ h₃ => wpAny_bind (wpAny_letTemporaryGo (wpAny_pure h₃))) fun _ _ x => x)
  first
    | exact wpAny_pure (wpAny_bind fin)
    | exact wpAny_bind (wpAny_pure (wpAny_bind fin))
    | exact wpAny_bind fin
theorem dict_typeIs {X : Cx} {pins : List (Addr × Obj)} {σ : St} {H : Hp} {s : Shared} {a : Addr} {y : V} {o : Option V} (I : Inv X pins σ H s) (g : DGet H a y o) : s.TypeIs (.ref a) "dict" := by
  rcases g with ⟨kvs, k, e, _, _⟩ | ⟨kvs, k, b, e, _, _, _⟩
  · obtain ⟨_, _, vs, _, dd⟩ := dk_rd I.hok e
    exact dd.typeIs
  · obtain ⟨_, _, xs, _, dd⟩ := dt_rd I.hok e
    exact dd.typeIs
def tDGet (td ty : TE) : TE := fun σ H Q => td σ H fun x H1 => ty σ H1 fun y H2 => ∃ a v, x = .ref a ∧ DGet H2 a y (some v) ∧ Q v H2
section
variable {X : Cx} {o i e value : Expr} {pos pos' tpos : Pos} {td ty tv : TE}
theorem pe_dget (hu : X.A.units + 1 < cLine) (ho : PE X o td) (hi : PE X i ty) (hs : NoSl i) : PE X (.Subscript o i pos) (tDGet td ty) := by
  intro pins s σ H Q I h
  refine subD_of PySem.F.slot_dict_getitem.lookup hs (thn (ho pins s σ H _ I h) fun u s1 ⟨x, H1, I1, rx, q1⟩ => thn (hi pins s1 σ H1 _ I1 q1) fun iv s2 ⟨y, H2, I2, ry, a, v, ex, g, q2⟩ => ?_)
  subst ex
  obtain rfl : u = Value.ref a := rx
  exact ⟨dict_typeIs I2 g, d_getItem hu I2 g ry fun w' s3 I3 rw' => ⟨v, H2, I3, rw', q2⟩⟩
end
theorem dk_empty {P : Program} {w : World} {H : Hp} (h : Heap) (hb : sysModules < h.objs.size) : ObjOk P w H (h.push { cls := .type "dict", data := .dict #[] }) h.objs.size (.dK []) :=
  ⟨Nat.zero_le _, beq_eq_false_iff_ne.mpr (Ne.symm (Nat.ne_of_lt hb)), [], .nil, Heap.DictOf.new h⟩
section
variable {X : Cx} {pos : Pos}
end
def tPairs : List (TE × TE) → St → Hp → (List (V × V) → Hp → Prop) → Prop
  | [], _, H, Q => Q [] H
  | (tk, tv) :: r, σ, H, Q => tk σ H fun x H1 => tv σ H1 fun y H2 => tPairs r σ H2 fun ps H3 => Q ((x, y) :: ps) H3
abbrev VV : List (V × V) → List (Value × Value) → Prop := Paired fun p q => RelV p.1 q.1 ∧ RelV p.2 q.2
def PPs (X : Cx) (pos : Pos) (keys : List (Option Expr)) (values : List Expr) (trs : List (TE × TE)) : Prop :=
  ∀ (pins : List (Addr × Obj)) (s : Shared) (σ : St) (H : Hp) (Q : List (V × V) → Hp → Prop), Inv X pins σ H s → tPairs trs σ H Q →
    wpAny (model X.prog X.w) X.A (evalPairs (pairTrees keys values X.env pos)) (fun vs s' => ∃ ps H', Inv X pins σ H' s' ∧ VV ps vs ∧ Q ps H') X.xe s
theorem pps_nil {X : Cx} {pos : Pos} : PPs X pos [] [] [] := fun pins s σ H Q I h => pairTrees_nil_walk ⟨[], H, I, .nil, h⟩
theorem pps_cons {X : Cx} {pos : Pos} {k v : Expr} {ks : List (Option Expr)} {vs : List Expr} {tk tv : TE} {trs : List (TE × TE)} (hk : PE X k tk) (hv : PE X v tv) (hr : PPs X pos ks vs trs) :
    PPs X pos (some k :: ks) (v :: vs) ((tk, tv) :: trs) := fun pins s σ H Q I h =>
  pairTrees_cons_walk (thn (hk pins s σ H _ I h) fun u s1 ⟨x, H1, I1, rx, q1⟩ => thn (hv pins s1 σ H1 _ I1 q1) fun w2 s2 ⟨y, H2, I2, ry, q2⟩ =>
    thn (hr pins s2 σ H2 _ I2 q2) fun ws s3 ⟨ps, H3, I3, rel, q3⟩ => ⟨(x, y) :: ps, H3, I3, .cons ⟨rx, ry⟩ rel, q3⟩)
def mergeK (kvs more : List (Key × V)) : List (Key × V) := more.foldl (fun acc kv => putK acc kv.1 kv.2) kvs
theorem KV.merge : ∀ {more : List (Key × V)} {rs : List (Key × Value)} {kvs : List (Key × V)} {vs : List (Key × Value)}, KV more rs → KV kvs vs → KV (mergeK kvs more) (merged vs rs) := by
  intro more rs kvs vs r
  unfold KV at r
  induction r generalizing kvs vs with
  | nil => intro q; exact q
  | @cons p q ps qs h t ih =>
    intro r0
    have e : KV (putK kvs p.1 p.2) (stored vs q.1 q.2) := by
      have := r0.put p.1 h.2
      rw [← h.1]; exact this
    exact ih e
theorem length_mergeK : ∀ (more kvs : List (Key × V)), (mergeK kvs more).length ≤ kvs.length + more.length
  | [], kvs => by show kvs.length ≤ kvs.length + 0; omega
  | p :: r, kvs => by
    have h1 := length_mergeK r (putK kvs p.1 p.2)
    have h2 := length_putK kvs p.1 p.2
    show (mergeK (putK kvs p.1 p.2) r).length ≤ _
    rw [List.length_cons]; omega
theorem carries_of {P : Program} {w : World} : ∀ {kvs : List (Key × V)} {ws : List (Value × Value)}, VV (kvs.map fun kv => (kV kv.1, kv.2)) ws → ∃ rs, Carries (mixKind P w) ws rs ∧ KV kvs rs
  | [], _, r => by rw [List.map_nil] at r; cases r; exact ⟨[], True.intro, .nil⟩
  | p :: kvs, _, r => by
    rw [List.map_cons] at r
    cases r with
    | @cons a b as bs h t =>
      obtain ⟨rs, c, q⟩ := carries_of (P := P) (w := w) t
      obtain ⟨b1, b2⟩ := b
      exact ⟨(p.1, b2) :: rs, ⟨kV_is h.1, rfl, c⟩, .cons ⟨rfl, h.2⟩ q⟩
def tDisp (trs : List (TE × TE)) : TE := fun σ H Q => ∀ p, H p = none → tPairs trs σ (upd H p (.dK [])) fun ps H2 => H2 p = some (.dK []) ∧ ∃ kvs : List (Key × V), ps = kvs.map (fun kv => (kV kv.1, kv.2)) ∧ kvs.length ≤ 15 ∧ Q (.ref p) (upd H2 p (.dK (mergeK [] kvs)))
theorem pe_disp {X : Cx} {pos : Pos} {keys : List (Option Expr)} {values : List Expr} {trs : List (TE × TE)} (h : PPs X pos keys values trs) (hall : keys.all (·.isSome) = true) (hl : keys.length = values.length) (h0 : keys ≠ [])
    (h15 : keys.length ≤ 15) : PE X (.Dict keys values pos) (tDisp trs) := by
  intro pins s σ H Q I q
  have hn := I.hok.fresh (Nat.le_refl s.heap.objs.size)
  have I1 := I.laid (a := s.heap.objs.size) (o := .dK []) (h' := s.heap.push { cls := .type "dict", data := .dict #[] }) (t' := s.toks) (fun _ _ q => Heap.get?_push_of_some _ q) (Nat.le_refl _) (dk_empty s.heap I.big)
  refine wpAny_Dict_walk (knd := mixKind X.prog X.w) hall hl h0 h15 (thn (h pins _ σ _ _ I1 (q _ hn)) fun ws s2 ⟨ps, H2, I2, rel, e, kvs, ep, lk, q2⟩ => ?_)
  subst ep
  obtain ⟨rs, c, rk⟩ := carries_of (P := X.prog) (w := X.w) rel
  obtain ⟨z, hd, vs0, r0, dd⟩ := dk_of I2.hok e
  cases r0
  refine ⟨rs, c, dd, fun h' dd' hs => ⟨.ref s.heap.objs.size, _, ?_, rfl, q2⟩⟩
  have hz : (mergeK [] kvs).length ≤ sizeLine := by
    have h1 := length_mergeK kvs []
    rw [List.length_nil] at h1
    rw [sizeLine_eq]; omega
  have he : ∃ q, h'.get? s.heap.objs.size = some q := let ⟨q, _, _, hq, _⟩ := dd'; ⟨q, hq⟩
  exact d_write I2 (by rw [e]; exact True.intro) hs he (dk_new hz hd (rk.merge .nil) dd')
section
variable {X : Cx} {pins : List (Addr × Obj)} {σ : St} {H : Hp} {s : Shared} {a : Addr} {y d : V} {u r : Value} {o : Option V} {A : Around} {E : Value → Shared → Prop}
end
section
variable {X : Cx} {o e f : Expr} {apos cpos : Pos} {td ty tx : TE}
end
section
variable {X : Cx} {pins : List (Addr × Obj)} {σ : St} {H : Hp} {s : Shared} {a : Addr} {kvs : List (Key × V)} {A : Around} {E : Value → Shared → Prop}
end
section
variable {X : Cx} {pins : List (Addr × Obj)} {σ : St} {H : Hp} {s : Shared} {a : Addr} {y : V} {u : Value} {A : Around} {E : Value → Shared → Prop}
end
end L2
namespace Att
open PySem PySem.W PySem.Calls PyProof.Rows
theorem ints_of_wellAll {P : Params} {h : Heap} : ∀ (ns : List Int) (vs : List Value), WellAll P h vs (ns.map WData.int) → IntsAre vs ns := by
  intro ns
  induction ns with
  | nil =>
    intro vs w
    rw [List.map_nil] at w
    cases w
    exact .nil
  | cons n ns ih =>
    intro vs w
    rw [List.map_cons] at w
    cases w with
    | cons a b =>
      cases a
      exact .cons _ _ (ih _ b)
theorem script_of {l : OpenLaw} {n : Nat} (hn : l.most = some n) {P : Params} {h : Heap} {args : List WData} {vals : List Value}
    (hpre : l.row.toRowW.claim.pre args = true) (hwl : WellAll P h vals args) :
    ∃ a vs ns, vals = [Value.ref a] ∧ args = [WData.list (ns.map WData.int)] ∧ h.get? a = some { cls := .type "list", data := .seq vs.toArray } ∧ IntsAre vs ns ∧ ns.length ≤ n := by
  have hsh : WShape.hasAll [] args [.list .int] = true := (pre_splitW hpre).1
  have hc : l.pre.holds [] { args := args } = true := (pre_splitW hpre).2
  obtain ⟨d, r, rfl, h1, h2⟩ := hasAllW_cons hsh
  obtain rfl := hasAllW_nil h2
  obtain ⟨xs, rfl, h3⟩ := hasW_list h1
  obtain ⟨ns, rfl⟩ := items_int h3
  have hlen : ns.length ≤ n := by
    unfold OpenLaw.pre at hc
    have h4 : (WTm.not (.lt (.lit (.int (n : Int))) (.len (.arg 0)))).holds [] { args := [.list (ns.map .int)] } = true := by
      have h4 := (holds_andW hc).1
      rw [hn] at h4
      exact h4
    have h5 := condW_of h4 (w_not (w_lt w_lit (w_len_list (w_arg rfl))))
    rw [List.length_map] at h5
    refine Nat.le_of_not_lt fun q => ?_
    have q' : (n : Int) < ((ns.length : Nat) : Int) := by omega
    first
      | (rw [decide_eq_true q'] at h5; exact absurd h5 (by decide))
      | (simp at h5; omega)
  cases hwl with
  | cons w1 w2 =>
    cases w2
    cases w1 with
    | list ho hall => exact ⟨_, _, ns, rfl, rfl, ho, ints_of_wellAll ns _ hall, hlen⟩
theorem post_true (l : OpenLaw) (args : List WData) : l.row.toRowW.claim.post args (.bool true) args = true :=
  postW_of (r := l.row.toRowW) (X := (true == true))
    (show WShape.has [] (.bool true) .bool = true by first | rfl | decide | simp [WShape.has, WShape.arms, WShape.armsAll])
    (show (WTm.eq .res (.lit (.bool true))).value [] { args := args, res := some (.bool true), after := args } = some (.bool (true == true)) from w_eq_bool (w_res rfl) w_lit) rfl
theorem attach_call {l : OpenLaw} {n : Nat} {q : Program} {loose : List Str} {XP : (Str → Option Value) → Heap → Prop} {YP : World → Heap → Prop} {d : DefRec}
    (hn : l.most = some n) (hdf : d.params.defaults = [])
    (call : ∀ (w : World) (s₀ s₁ : Shared) (mg mb : Str → Option Value) (fa : Addr) (o : Obj) (pm cd doc : Value) (a : Addr) (vs : List Value) (ns : List Int),
      Ground q loose [] XP w s₀ mg mb s₁.heap → YP w s₁.heap →
      s₁.heap.get? fa = some o → o.data = .func (docDef d.name d.params d.body d.scope pm cd doc) → s₁.heap.CodeRec cd d.name → mg d.name = some (.ref fa) →
      s₁.heap.get? a = some { cls := .type "list", data := .seq vs.toArray } → IntsAre vs ns → ns.length ≤ n → s₁.gens = #[] →
      codeAny (model l.prog w) callerA (.call (.ref fa) ⟨[.ref a], []⟩) (fun r s' => r = .ok (.ret (.bool true)) ∧ OldK s₁.heap s'.heap ∧ s'.os = s₁.os ∧ AllBare s'.gens) s₁) :
    WalkO q loose XP YP l.row.toRowW d [] (fun f vs => PySem.call f vs) := by
  intro w s₀ s₁ mg mb G Y fa o pm cd doc dV kV ho hd hcd hD hmg hg args vals as hpre hlay hrd hwl hlo
  obtain rfl : dV = .none := Dflts.none hD hdf
  obtain rfl : kV = .none := Dflts.noKw hD
  obtain ⟨a, vs, ns, rfl, rfl, hobj, hints, hlen⟩ := script_of hn hpre hwl
  refine enter_call (codeAny_mono (call w s₀ s₁ mg mb fa o pm cd doc a vs ns G Y ho (fd_plain hd) hcd hmg hobj hints hlen hg) fun r s' hq => ?_)
  obtain ⟨rfl, h2, h3, h4⟩ := hq
  exact ⟨.inl ⟨.bool true, .bool true, [], rfl, fun _ => rfl, .bool true, post_true l _, fun _ => ⟨List.Pairwise.nil, fun _ hm => (nomatch hm)⟩⟩, h2, h3, h4⟩
section
variable {prog : Program} {w : World} {A : Around} {E : Value → Shared → Prop} {s : Shared} {K : Frag}
end
end Att
namespace L2
open PySem PySem.Spec PyProof.Rows
theorem vals_ints : ∀ {vs : List Value} {ns : List Int}, IntsAre vs ns → Vals (ns.map V.int) vs
  | _, _, .nil => .nil
  | _, _, .cons n t h => .cons ⟨t, rfl⟩ (vals_ints h)
def Only (H : Hp) : Prop := ∀ b, H b = none ∨ ∃ o xs, H b = some (.frz o (.lst xs))
theorem law_call {P : Program} {w : World} {K : PySem.W.Frag} {mg mb : Str → Option Value} {CX : CXT} {k : Nat} {fa a : Addr} {fd : FuncData} {x : Str} {sp : Sp} {s₁ : Shared} {vs : List Value} {ns : List Int}
    (KX : K.In s₁.heap) (hns : s₁.heap.Ns mainGlobals mg) (hb : s₁.heap.Ns builtinsNs mb) (hbb : ∀ x : Str, x ≠ "__name__" → mb x = bootBuiltins x) (hlim : s₁.heap.NoLimit) (hg : s₁.gens = #[])
    (ha : s₁.heap.get? a = some { cls := .type "list", data := .seq vs.toArray }) (hi : IntsAre vs ns) (hl : ns.length ≤ sizeLine) (hr : Room k callerA)
    (F : ∀ base : Heap, K.In base → base.Ns mainGlobals mg → FnOk P w K mg base CX k fa fd [x] sp) (hbind : ∀ (s : Shared) (u : Value), BindsTo s fd ⟨[u], []⟩ [(x, u)])
    (hsp : ∀ H : Hp, Only H → SqL K H a (ns.map V.int) → sp [.ref a] H (fun v _ => v = .bl true) fun _ _ _ => False)
    (hCX : ∀ H e s', CX [] H s₁ (fun _ _ _ => False) e s' → False) :
    codeAny (model P w) callerA (.call (.ref fa) ⟨[.ref a], []⟩) (fun r s' => r = .ok (.ret (.bool true)) ∧ OldK s₁.heap s'.heap ∧ s'.os = s₁.os ∧ AllBare s'.gens) s₁ := by
  have rv := vals_ints hi
  have lenV := hi.length
  have core : ∀ H : Hp, Only H → SqL K H a (ns.map V.int) → HOk P w H s₁.heap → (∀ b, H b ≠ none → b = a) → (H a ≠ none → K.lookup a = none) →
      codeAny (model P w) callerA (.call (.ref fa) ⟨[.ref a], []⟩) (fun r s' => r = .ok (.ret (.bool true)) ∧ OldK s₁.heap s'.heap ∧ s'.os = s₁.os ∧ AllBare s'.gens) s₁ := by
    intro H hO hS hok hA hK
    have base_of : ∀ {b : Addr} {o : Obj}, s₁.heap.get? b = some o → H b = none → (hidT s₁.heap H).get? b = some o := fun e n => hidT_get e n
    have noA : ∀ {b : Addr} {o : Obj} {es : Array DictEntry} {ep : Nat}, s₁.heap.get? b = some o → o.data = .dict es ep → H b = none := fun {b o es ep} e d => by
      cases q : H b with
      | none => rfl
      | some u =>
        have e' : b = a := hA b (by rw [q]; simp)
        subst e'
        rw [ha] at e; cases e
        have d' : Data.seq vs.toArray _ = Data.dict es ep := d
        cases d'
    have nsK : ∀ {b : Addr} {m : Str → Option Value}, s₁.heap.Ns b m → (hidT s₁.heap H).Ns b m := fun {b m} ⟨o, es, ep, e, d, r⟩ => ⟨o, es, ep, base_of e (noA e d), d, r⟩
    have hKb : K.In (hidT s₁.heap H) := fun b o e => base_of (KX b o e) (by
      cases q : H b with
      | none => rfl
      | some u =>
        have e' : b = a := hA b (by rw [q]; simp)
        subst e'
        rw [hK (by rw [q]; simp)] at e; cases e)
    have hM : Mod K mg (hidT s₁.heap H) := ⟨hKb, nsK hns, ⟨mb, nsK hb, hbb⟩, let ⟨mc, h1, h2⟩ := hlim; ⟨mc, nsK h1, h2⟩⟩
    have e0 : Env0 P w K mg (hidT s₁.heap H) callerA [] s₁ H := ⟨rfl, hM, fun b o e => of_hidT e, Nat.le_of_eq (hidT_size _ _), trivial, fun b hb => absurd (show b ∈ ([] : List Addr) from hb) (by simp), hok, .of_eq hg⟩
    refine codeAny_mono ((F _ hKb (nsK hns)).run callerA [] s₁ H ⟨[.ref a], []⟩ [.ref a] [.ref a] _ _ hr e0 (hbind s₁ (.ref a)) (.cons rfl .nil) (hsp H hO hS)) fun r s' h => ?_
    cases r with
    | error e => exact (hCX H e s' h).elim
    | ok fl =>
      cases fl with
      | next => exact False.elim h
      | brk => exact False.elim h
      | cont => exact False.elim h
      | ret u =>
        obtain ⟨v, H', os, bare, un, hok', r', q⟩ := h
        have q' : v = .bl true := q
        subst q'
        obtain rfl : u = Value.bool true := r'
        refine ⟨rfl, OldK.of_keep fun b o e => ?_, os, bare⟩
        cases q : H b with
        | none => exact un.keep b o e q (by intro z; exact absurd (show b ∈ ([] : List Addr) from z) (by simp)) (by simp)
        | some u =>
          rcases hO b with z | ⟨ob, xs, z⟩
          · rw [q] at z; cases z
          · have z2 := un.frzs b ob _ z
            obtain ⟨e1, _⟩ := hok b _ z
            obtain ⟨e2, _⟩ := hok' b _ z2
            rw [e] at e1; cases e1
            exact e2
  cases hk : K.lookup a with
  | some o =>
    have e := KX a o hk
    rw [ha] at e
    cases e
    refine core (fun _ => none) (fun _ => .inl rfl) (.inr ⟨_, vs.toArray, _, hk, rfl, rfl, rfl, by rw [List.size_toArray, lenV]; exact hl, by simpa using rv⟩) (fun b u z => by have z' : (none : Option HO) = some u := z; cases z') (fun b z => absurd rfl z) fun z => absurd rfl z
  | none =>
    refine core (fun b => if b = a then some (.frz { cls := .type "list", data := .seq vs.toArray } (.lst (ns.map V.int))) else none) (fun b => ?_) (.inl (.inr ⟨{ cls := .type "list", data := .seq vs.toArray }, if_pos rfl⟩)) (fun b u z => ?_) (fun b z => ?_) fun _ => hk
    · by_cases hb : b = a
      · exact .inr ⟨_, _, if_pos hb⟩
      · exact .inl (if_neg hb)
    · by_cases hb : b = a
      · have z' := (if_pos hb).symm.trans z
        cases z'
        subst hb
        exact ⟨ha, by rw [List.length_map]; exact hl, vs, _, rv, ha⟩
      · have z' := (if_neg hb).symm.trans z
        cases z'
    · by_cases hb : b = a
      · exact hb
      · exact absurd (if_neg hb) z
end L2
namespace L2
open PySem PySem.Spec PyProof.Rows
theorem walk_of {l : PySem.W.OpenLaw} {n k : Nat} {q : Program} {loose : List Str} {XP : (Str → Option Value) → Heap → Prop} {YP : World → Heap → Prop} {d : DefRec} {K : Params → PySem.W.Frag} {CX : World → CXT} {sp : World → Sp} {x : Str}
    (hn : l.most = some n) (hn2 : n ≤ sizeLine) (hdf : d.params.defaults = []) (hr : Room k callerA)
    (hY : ∀ (w : World) (h : Heap), YP w h → (K w.params).In h)
    (F : ∀ (w : World) (mg : Str → Option Value) (fa : Addr) (h : Heap), (K w.params).In h → h.Ns mainGlobals mg → mg d.name = some (.ref fa) →
      ∃ fd : FuncData, (∀ (s : Shared) (u : Value), BindsTo s fd ⟨[u], []⟩ [(x, u)]) ∧
        ∀ base : Heap, (K w.params).In base → base.Ns mainGlobals mg → FnOk l.prog w (K w.params) mg base (CX w) k fa fd [x] (sp w))
    (hsp : ∀ (w : World) (H : Hp) (a : Addr) (ns : List Int), ns.length ≤ n → Only H → SqL (K w.params) H a (ns.map V.int) → sp w [.ref a] H (fun v _ => v = .bl true) fun _ _ _ => False)
    (hCX : ∀ (w : World) (H : Hp) (s : Shared) (e : Value) (s' : Shared), CX w [] H s (fun _ _ _ => False) e s' → False) :
    PySem.W.WalkO q loose XP YP l.row.toRowW d [] (fun f vs => PySem.call f vs) := by
  refine Att.attach_call hn hdf fun w s₀ s₁ mg mb fa o pm cd doc a vs ns G Y ho hd hcd hmg hobj hints hlen hg => ?_
  have KX := hY w _ Y
  obtain ⟨fd, hb, hF⟩ := F w mg fa _ KX G.T.g hmg
  exact law_call KX G.T.g G.T.b G.T.builtins G.T.nolimit hg hobj hints (Nat.le_trans hlen hn2) hr hF hb (fun H hO hS => hsp w H a ns hlen hO hS) fun H e s' => hCX w H s₁ e s'
end L2
namespace L2
open PySem PySem.Spec PyProof.Rows
def defArgs (s : Stmt) : Arguments := match s with
  | .FunctionDef _ a _ _ _ _ _ _ _ _ => a
  | _ => { posonlyargs := [], args := [], vararg := none, kwonlyargs := [], kw_defaults := [], kwarg := none, defaults := [] }
def defBody (s : Stmt) : List Stmt := match s with
  | .FunctionDef _ _ b _ _ _ _ _ _ _ => b
  | _ => []
def defScope (s : Stmt) : Scope := match s with
  | .FunctionDef _ _ _ _ _ _ sc _ _ _ => sc
  | _ => { kind := .function, names := [], isGenerator := false, isCoroutine := false }
abbrev CX0 : CXT := fun _ _ _ _ _ _ => False
abbrev E0 : XK := fun _ _ _ => False
theorem pass0 {X : Cx} : Passes CX0 X E0 := fun _ _ _ _ _ _ _ h => h.elim
structure Fun (K : PySem.W.Frag) (x qual : Str) (st : Stmt) (f : Addr) (fd : FuncData) : Prop where
  ex : ∃ (oc : Value) (od : Option Addr) (kV doc pm : Value) (an : Option Addr) (cdv ct : Value) (osl : Array (Option Value)),
    fd = PySem.W.fnOf x qual (defArgs st) (defBody st) (defScope st) .none kV doc pm an cdv ct ∧ K.lookup f = some ⟨oc, od, .func fd, osl⟩ ∧ PySem.W.codeIn K cdv qual = true
  kp : PySem.W.keepIn K (.ref f) = true
section
variable {P : Program} {w : World} {K : PySem.W.Frag} {mg : Str → Option Value} {base : Heap}
theorem Fun.ok {x qual : Str} {st : Stmt} {f : Addr} {fd : FuncData} {N ps : List Str} {k : Nat} {sp : Sp} (F : Fun K x qual st f fd) (S : FnScope N ps (defScope st)) (len : ∀ vs H Q E, sp vs H Q E → vs.length = ps.length)
    (hbody : ∀ (cdv : Value) (A : Around) (outer : List Env) (s : Shared) (H : Hp) (vs : List V) (Q : VK) (E : XK), Room k (A.deeper (envOfC qual (defScope st) s.heap.objs.size f cdv)) → sp vs H Q E →
      ∃ t, PSs (cxOf CX0 P w K mg base N qual (defScope st) f cdv A outer s H E).nox (defBody st) t ∧ t { nx := fun _ H' => Q .non H', rt := Q } (start N vs) H) : FnOk P w K mg base CX0 (k + 1) f fd ps sp := by
  obtain ⟨oc, od, kV, doc, pm, an, cdv, ct, osl, rfl, lk, hcd⟩ := F.ex
  refine fn_of lk hcd S len fun A outer s H vs Q E hr hsp => ?_
  obtain ⟨t, h, q⟩ := hbody cdv A outer s H vs Q E hr hsp
  exact ⟨t, h.nox, q⟩
theorem Fun.binds {x qual : Str} {st : Stmt} {f : Addr} {fd : FuncData} {ps : List Str} (F : Fun K x qual st f fd)
    (h : ∀ (kV doc pm : Value) (an : Option Addr) (cdv ct : Value) (us : List Value), us.length = ps.length → bindArgs (PySem.W.fnOf x qual (defArgs st) (defBody st) (defScope st) .none kV doc pm an cdv ct) ⟨us, []⟩ = pure (ps.zip us)) : Binds K fd ps [] := by
  obtain ⟨oc, od, kV, doc, pm, an, cdv, ct, osl, rfl, lk, hcd⟩ := F.ex
  exact .all (h kV doc pm an cdv ct)
theorem fun_mk {x qual : Str} {st : Stmt} {f : Addr} {oc : Value} {od an : Option Addr} {osl : Array (Option Value)} {kV doc pm cdv ct : Value} (l : K.lookup f = some ⟨oc, od, .func (PySem.W.fnOf x qual (defArgs st) (defBody st) (defScope st) .none kV doc pm an cdv ct), osl⟩)
    (c : PySem.W.codeIn K cdv qual = true) (k : PySem.W.keepIn K (.ref f) = true) : Fun K x qual st f (PySem.W.fnOf x qual (defArgs st) (defBody st) (defScope st) .none kV doc pm an cdv ct) := ⟨⟨oc, od, kV, doc, pm, an, cdv, ct, osl, rfl, l, c⟩, k⟩
end
theorem hu_of {A : Around} {k : Nat} (hr : Room k A) : A.units + 1 < cLine := Nat.lt_of_le_of_lt (Nat.add_le_add_left (by decide : 1 ≤ 64) _) hr.units
theorem small1000 {n : Nat} (h : n ≤ 1000) : n < sizeLine := Nat.lt_of_le_of_lt h (by decide)
section
variable {X : Cx}
theorem pv (i : Nat) {x : Str} {pos : Pos} (hN : X.N[i]? = some x := by rfl) (hv : Vis X.env.scope x := by first | exact Or.inl rfl | exact Or.inr (Or.inl rfl) | exact Or.inr (Or.inr rfl)) (hd : (x == ("__debug__" : Str)) = false := by decide)
    (hcd : (x == ("__classdict__" : Str)) = false := by decide) : PE X (.Name x pos) (tVar i) := pe_var hN hv hd hcd
theorem call_lenD : CallR X (.builtin "len") (fun xs H Q => ∃ a kvs, xs = [V.ref a] ∧ H a = some (.dK kvs) ∧ Q (.int kvs.length) H) := by
  intro pins s σ H xs us Q I r h
  obtain ⟨a, kvs, rfl, ha, q⟩ := h
  obtain ⟨u, rfl, ru⟩ := vals1 r
  cases ru
  exact d_len I (.inl ha) fun t s' I' => ⟨.int kvs.length, H, I', ⟨t, rfl⟩, q⟩
end
def Same (H H' : Hp) : Prop := ∀ b o, H b = some o → H' b = some o
theorem Same.refl (H : Hp) : Same H H := fun _ _ h => h
theorem Same.trans {H H1 H2 : Hp} (a : Same H H1) (b : Same H1 H2) : Same H H2 := fun c o h => b c o (a c o h)
theorem Same.free {H H' : Hp} (e : Same H H') {l : Addr} (h : H' l = Option.none) : H l = Option.none := by
  cases q : H l with
  | none => rfl
  | some o =>
    rw [e l o q] at h
    cases h
theorem Same.seq {K : PySem.W.Frag} {H H' : Hp} {a : Addr} {xs : List V} (e : Same H H') (h : SqL K H a xs) : SqL K H' a xs := by
  rcases h with (h | ⟨o, h⟩) | h
  · exact .inl (.inl (e _ _ h))
  · exact .inl (.inr ⟨o, e _ _ h⟩)
  · exact .inr h
section
variable {κ : Type} [DecidableEq κ]
end
end L2
set_option maxHeartbeats 4000000
namespace L2
open PySem
def clOf (cells : List (Str × Addr)) : List (Str × NameKind) → List (Str × Addr) → List (Str × Addr)
  | [], acc => acc
  | (n, k) :: r, acc => if k = NameKind.free then clOf cells r ((n, (cells.lookup n).getD 0) :: acc) else clOf cells r acc
theorem closureFor_of {scope : Scope} {env : Env} (h : ∀ x ∈ scope.names, x.2 = .free → ∃ c, env.cells.lookup x.1 = some c) :
    closureFor scope env = pure (clOf env.cells scope.names []) := by
  have key : ∀ (names : List (Str × NameKind)) (acc : List (Str × Addr)), (∀ x ∈ names, x.2 = .free → ∃ c, env.cells.lookup x.1 = some c) →
      (do let mut cs := acc
          for (name, kind) in names do
            if kind == .free then cs := (name, ← cellOf env name) :: cs
          return cs : Sem (List (Str × Addr))) = pure (clOf env.cells names acc) := by
    intro names
    induction names with
    | nil => intro acc _; rfl
    | cons x r ih =>
      intro acc h
      obtain ⟨n, k⟩ := x
      have hr : ∀ y ∈ r, y.2 = .free → ∃ c, env.cells.lookup y.1 = some c := fun y hy => h y (List.mem_cons_of_mem _ hy)
      by_cases hk : k = .free
      · subst hk
        obtain ⟨c, hc⟩ := h (n, .free) List.mem_cons_self rfl
        have e : cellOf env n = pure c := by unfold cellOf; rw [hc]
        have q := ih ((n, c) :: acc) hr
        simp only [List.forIn_cons, beq_self_eq_true, if_true, e]
        unfold clOf
        rw [if_pos rfl, hc]
        exact q
      · have hb : (k == NameKind.free) = false := by simpa using hk
        have q := ih acc hr
        simp only [List.forIn_cons, hb, Bool.false_eq_true, if_false]
        unfold clOf
        rw [if_neg hk]
        exact q
  exact key scope.names [] h
theorem clOf_sub {cells : List (Str × Addr)} : ∀ {names : List (Str × NameKind)} {acc : List (Str × Addr)},
    (∀ x ∈ names, x.2 = .free → ∃ c, cells.lookup x.1 = some c) → (∀ x c, acc.lookup x = some c → cells.lookup x = some c) →
    ∀ x c, (clOf cells names acc).lookup x = some c → cells.lookup x = some c
  | [], _, _, h, x, c, e => h x c e
  | (n, k) :: r, acc, hf, h, x, c, e => by
    unfold clOf at e
    have hr : ∀ y ∈ r, y.2 = .free → ∃ c, cells.lookup y.1 = some c := fun y hy => hf y (List.mem_cons_of_mem _ hy)
    by_cases hk : k = .free
    · rw [if_pos hk] at e
      refine clOf_sub hr (fun y d q => ?_) x c e
      obtain ⟨c', hc'⟩ := hf (n, k) List.mem_cons_self hk
      have hc' : cells.lookup n = some c' := hc'
      rw [List.lookup_cons] at q
      cases hy : y == n with
      | true =>
        rw [hy, hc'] at q
        have e1 : y = n := by simpa using hy
        rw [e1, hc']
        exact q
      | false => rw [hy] at q; exact h y d q
    · rw [if_neg hk] at e
      exact clOf_sub hr h x c e
theorem clOf_keeps {cells : List (Str × Addr)} {x : Str} : ∀ {names : List (Str × NameKind)} {acc : List (Str × Addr)},
    (∃ c, acc.lookup x = some c) → ∃ c, (clOf cells names acc).lookup x = some c
  | [], _, h => h
  | (n, k) :: r, acc, ⟨c, h⟩ => by
    unfold clOf
    split
    · refine clOf_keeps ?_
      rw [List.lookup_cons]
      cases x == n with
      | true => exact ⟨_, rfl⟩
      | false => exact ⟨c, h⟩
    · exact clOf_keeps ⟨c, h⟩
theorem clOf_has {cells : List (Str × Addr)} {x : Str} : ∀ {names : List (Str × NameKind)} {acc : List (Str × Addr)},
    (x, NameKind.free) ∈ names → ∃ c, (clOf cells names acc).lookup x = some c
  | (n, k) :: r, acc, h => by
    unfold clOf
    rcases List.mem_cons.mp h with e | e
    · cases e
      rw [if_pos rfl]
      refine clOf_keeps ?_
      rw [List.lookup_cons, beq_self_eq_true]
      exact ⟨_, rfl⟩
    · split
      · exact clOf_has e
      · exact clOf_has e
end L2
namespace PySem
open Sem (wp)
section
variable {prog : Program} {w : World} {A : Around} {E : Value → Shared → Prop} {R : Result → Shared → Prop} {s : Shared}
theorem L2_compLoop {elt target iter : Expr} {ifs : List Expr} {scope : Scope} {pos : Pos} {it acc : Value} {env : Env} (I : Nat → Shared → Prop)
    (turn : ∀ n s, I n s → wpAny (model prog w) A (pyNext it) (fun r s₁ => match r with
      | none => R (.ok .next) s₁
      | some v => wpAny (model prog w) A (letOwnedTupleGo target it v) (fun _ s₁' => wpAny (model prog w) A (assign target env v) (fun _ s₂ =>
          wpAny (model prog w) A (forIn ifs true fun c r => if r = true then do let ok ← isTrue c env (eval c env); pure (ForInStep.yield ok) else pure (ForInStep.yield r)) (fun ok s₃ =>
            if ok = true then wpAny (model prog w) A (eval elt env) (fun x s₄ =>
              wpAny (model prog w) A (call (.builtin "list.append") [acc, x]) (fun _ s₅ => ∃ m, m < n ∧ I m s₅) (fun _ _ => False) s₄) (fun _ _ => False) s₃
            else ∃ m, m < n ∧ I m s₃) (fun _ _ => False) s₂) (fun _ _ => False) s₁') (fun _ _ => False) s₁) (fun _ _ => False) s)
    (n : Nat) (h : I n s) :
    codeAny (model prog w) A (.compLoop (.ListComp elt [⟨target, iter, ifs, 0⟩] scope pos) 0 it acc env) R s := by
  refine codeAny_loop rfl I (fun n s hI => ?_) n h
  show wpAny _ A ((compTurn (.ListComp elt [⟨target, iter, ifs, 0⟩] scope pos) 0 it acc env).onRaise (fun x => do noteFrame x env; theTreesLotGoes x)) _ _ s
  refine wpAny_noted ?_
  rw [compTurn_list]
  refine wpAny_bind (wpAny_standAt (wpAny_bind (wpAny_mono (turn n s hI) (fun r s₁ h₁ => ?_) fun _ _ h' => h'.elim)))
  cases r with
  | none => exact wpAny_pure h₁
  | some v =>
    refine wpAny_bind (wpAny_mono h₁ (fun _ s₁' h₁' => ?_) fun _ _ h' => h'.elim)
    refine wpAny_bind (wpAny_mono h₁' (fun _ s₂ h₂ => wpAny_bind (wpAny_mono h₂ (fun ok s₃ h₃ => ?_) fun _ _ h' => h'.elim)) fun _ _ h' => h'.elim)
    cases ok with
    | false => exact wpAny_pure ⟨rfl, h₃⟩
    | true =>
      exact wpAny_bind (wpAny_bind (wpAny_mono h₃ (fun x s₄ h₄ => wpAny_bind (wpAny_mono h₄ (fun _ s₅ h₅ => wpAny_pure (wpAny_pure ⟨rfl, h₅⟩)) fun _ _ h' => h'.elim)) fun _ _ h' => h'.elim))
end
end PySem
namespace L2
open PySem PySem.Spec PyProof.Rows
def subS (mp : List (Option Nat)) (σ : St) : St := mp.map fun o => match o with | some i => (σ[i]?).join | none => none
def visB (pn : List (Str × NameKind)) (x : Str) : Bool := decide (pn.lookup x = some .cell) || decide (pn.lookup x = some .free)
def compOk (N : List Str) (pn cn : List (Str × NameKind)) (N' : List Str) (mp : List (Option Nat)) : Bool :=
  decide (N'.length = mp.length) && decide N'.Nodup &&
  (List.range N'.length).all (fun k => match mp[k]?, N'[k]? with
    | some (some i), some x => decide (N[i]? = some x) && visB pn x && decide ((x, NameKind.free) ∈ cn) && decide (cn.lookup x = some .free)
    | _, _ => true) &&
  cn.all (fun p => decide (p.2 ≠ .cell)) && cn.all (fun p => decide (p.2 ≠ .free) || visB pn p.1) && cn.all (fun p => decide (p.2 ≠ .local) || decide (cn.lookup p.1 = some .local))
structure CompOk (N : List Str) (pn cn : List (Str × NameKind)) (N' : List Str) (mp : List (Option Nat)) : Prop where
  len : N'.length = mp.length
  nd : N'.Nodup
  map : ∀ (k i : Nat) (x : Str), mp[k]? = some (some i) → N'[k]? = some x → N[i]? = some x ∧ (pn.lookup x = some .cell ∨ pn.lookup x = some .free) ∧ (x, NameKind.free) ∈ cn ∧ cn.lookup x = some .free
  nocell : ∀ p ∈ cn, p.2 ≠ .cell
  free : ∀ p ∈ cn, p.2 = .free → (pn.lookup p.1 = some .cell ∨ pn.lookup p.1 = some .free)
  loc : ∀ p ∈ cn, p.2 = .local → cn.lookup p.1 = some .local
theorem visB_iff {pn : List (Str × NameKind)} {x : Str} (h : visB pn x = true) : pn.lookup x = some .cell ∨ pn.lookup x = some .free := by
  unfold visB at h
  rcases (Bool.or_eq_true _ _).mp h with h | h
  · exact .inl (of_decide_eq_true h)
  · exact .inr (of_decide_eq_true h)
theorem compOk_of {N : List Str} {pn cn : List (Str × NameKind)} {N' : List Str} {mp : List (Option Nat)} (h : compOk N pn cn N' mp = true) : CompOk N pn cn N' mp := by
  unfold compOk at h
  obtain ⟨h, h6⟩ := (Bool.and_eq_true _ _).mp h
  obtain ⟨h, h5⟩ := (Bool.and_eq_true _ _).mp h
  obtain ⟨h, h4⟩ := (Bool.and_eq_true _ _).mp h
  obtain ⟨h, h3⟩ := (Bool.and_eq_true _ _).mp h
  obtain ⟨h1, h2⟩ := (Bool.and_eq_true _ _).mp h
  refine ⟨of_decide_eq_true h1, of_decide_eq_true h2, fun k i x e1 e2 => ?_, fun p hp => of_decide_eq_true (List.all_eq_true.mp h4 p hp), fun p hp e => ?_, fun p hp e => ?_⟩
  · have hk : k < N'.length := (List.getElem?_eq_some_iff.mp e2).1
    have q := List.all_eq_true.mp h3 k (List.mem_range.mpr hk)
    simp only [e1, e2] at q
    obtain ⟨q, q4⟩ := (Bool.and_eq_true _ _).mp q
    obtain ⟨q, q3⟩ := (Bool.and_eq_true _ _).mp q
    obtain ⟨q1, q2⟩ := (Bool.and_eq_true _ _).mp q
    exact ⟨of_decide_eq_true q1, visB_iff q2, of_decide_eq_true q3, of_decide_eq_true q4⟩
  · rcases (Bool.or_eq_true _ _).mp (List.all_eq_true.mp h5 p hp) with z | z
    · exact absurd e (of_decide_eq_true z)
    · exact visB_iff z
  · rcases (Bool.or_eq_true _ _).mp (List.all_eq_true.mp h6 p hp) with z | z
    · exact absurd e (of_decide_eq_true z)
    · exact of_decide_eq_true z
theorem relabel_free {env : Env} : ∀ {names : List (Str × NameKind)} {x : Str}, names.lookup x = some .free →
    (names.map fun (n, k) => if (k == NameKind.free && env.scope.kind == .function && env.kindOf n == some .cell) then (n, NameKind.cell) else (n, k)).lookup x = some .cell ∨
    (names.map fun (n, k) => if (k == NameKind.free && env.scope.kind == .function && env.kindOf n == some .cell) then (n, NameKind.cell) else (n, k)).lookup x = some .free
  | [], _, h => by simp at h
  | (n, k) :: r, x, h => by
    have ih := @relabel_free env r x
    rw [List.map_cons]
    cases hx : x == n with
    | true =>
      simp only [List.lookup_cons, hx] at h
      cases h
      by_cases hc : (NameKind.free == NameKind.free && env.scope.kind == .function && env.kindOf n == some .cell) = true
      · refine .inl ?_
        simp only [hc, if_true, List.lookup_cons, hx]
      · refine .inr ?_
        simp only [if_neg hc, List.lookup_cons, hx]
    | false =>
      simp only [List.lookup_cons, hx] at h
      by_cases hc : (k == NameKind.free && env.scope.kind == .function && env.kindOf n == some .cell) = true
      · simp only [hc, if_true, List.lookup_cons, hx]; exact ih h
      · simp only [if_neg hc, List.lookup_cons, hx]; exact ih h
theorem relabel_back {env : Env} : ∀ {names : List (Str × NameKind)} {x : Str}, (∀ p ∈ names, p.2 ≠ .cell) →
    ((names.map fun (n, k) => if (k == NameKind.free && env.scope.kind == .function && env.kindOf n == some .cell) then (n, NameKind.cell) else (n, k)).lookup x = some .cell ∨
    (names.map fun (n, k) => if (k == NameKind.free && env.scope.kind == .function && env.kindOf n == some .cell) then (n, NameKind.cell) else (n, k)).lookup x = some .free) → (x, NameKind.free) ∈ names
  | [], _, _, h => by simp at h
  | (n, k) :: r, x, hn, h => by
    have ih := @relabel_back env r x fun p hp => hn p (List.mem_cons_of_mem _ hp)
    rw [List.map_cons] at h
    cases hx : x == n with
    | true =>
      have e : x = n := by simpa using hx
      subst e
      have hk := hn (x, k) List.mem_cons_self
      by_cases hc : (k == NameKind.free && env.scope.kind == .function && env.kindOf x == some .cell) = true
      · have : k = .free := by
          simp only [Bool.and_eq_true] at hc
          simpa using hc.1.1
        rw [this]; exact List.mem_cons_self
      · simp only [if_neg hc, List.lookup_cons, hx] at h
        rcases h with h | h
        · exact absurd (Option.some.inj h) hk
        · rw [Option.some.inj h]; exact List.mem_cons_self
    | false =>
      by_cases hc : (k == NameKind.free && env.scope.kind == .function && env.kindOf n == some .cell) = true
      · simp only [hc, if_true, List.lookup_cons, hx] at h; exact List.mem_cons_of_mem _ (ih h)
      · simp only [if_neg hc, List.lookup_cons, hx] at h; exact List.mem_cons_of_mem _ (ih h)
end L2
namespace PySem
open Sem (wp)
section
variable {prog : Program} {w : World} {A : Around} {E : Value → Shared → Prop} {R : Result → Shared → Prop} {s : Shared}
variable {I : Addr} {fp wr : List Addr} {G : Array GenState → Array GenState → Prop} {n : Nat} {P : Nat → Value → Prop} {St : Nat → Shared → Prop}
end
end PySem
namespace L2
open PySem PySem.Spec PyProof.Rows
def cxComp (X : Cx) (N' : List Str) (scope : Scope) (C : Addr) (s : Shared) (H : Hp) (fp : List Addr) : Cx :=
  { X with N := N', s₀ := s, H₀ := H, env := compEnvC scope (clOf X.env.cells scope.names []) C X.env, outer := X.stack, stack := X.stack, ex := fp, fn := fun _ => false, pn := [], xe := fun _ _ => False }
def PIfs (X : Cx) (ifs : List Expr) (t : TT) : Prop :=
  ∀ (pins : List (Addr × Obj)) (s : Shared) (σ : St) (H : Hp) (Q : Bool → Hp → Prop), Inv X pins σ H s → t σ H Q →
    wpAny (model X.prog X.w) X.A (forIn ifs true fun c r => if r = true then do let ok ← isTrue c X.env (eval c X.env); pure (ForInStep.yield ok) else pure (ForInStep.yield r)) (TP X pins σ Q) X.xe s
def tYes : TT := fun _ H Q => Q true H
theorem pifs_nil {X : Cx} : PIfs X [] tYes := fun _ _ _ H _ I h => wpAny_tests_nil ⟨H, I, h⟩
def CompW (p : Addr) (J : It) (g : TG) (tst : TT) (te : TE) (Q : Hp → Prop) (σ : St) (H : Hp) : Prop :=
  ∃ W : Nat → Nat → List V → St → Hp → Prop, (∃ m, W 0 m [] σ H) ∧ ∀ i m acc σ' H', W i m acc σ' H' →
    (J.stop i H' ∧ Q H') ∨ (J.go i H' ∧ ∃ N : List V → St → Hp → Prop, (∀ acc σ H, N acc σ H → ∃ m', m' < m ∧ W (i + 1) m' acc σ H) ∧ ∀ x H2, J.yld i H' x H2 → g x σ' H2 fun σ3 H3 => tst σ3 H3 fun b H4 =>
      if b = true then te σ3 H4 fun v H5 => ∃ ac, H5 p = some (.lst ac) ∧ ac.length < sizeLine ∧ N (ac ++ [v]) σ3 (upd H5 p (.lst (ac ++ [v])))
      else N acc σ3 H4)
def tComp (mp : List (Option Nat)) (wi : TI) (g : TG) (tst : TT) (te : TE) : TE := fun σ H Q => wi σ H fun J H1 => ∀ p, H1 p = none →
  CompW p J g tst te (fun H' => Q (.ref p) H') (subS mp σ) (upd H1 p (.lst []))
section
variable {X : Cx} {N' : List Str} {mp : List (Option Nat)} {elt tg iter : Expr} {ifs : List Expr} {scope : Scope} {pos : Pos} {wi : TI} {g : TG} {tst : TT} {te : TE}
theorem Inv.comp0 {pins : List (Addr × Obj)} {σ : St} {H : Hp} {s : Shared} {fp : List Addr} {tn : Heap → Prop} {h₁ : Heap} {tk : Nat} {C : Addr} (ok : CompOk X.N X.env.scope.names scope.names N' mp) (hk : scope.kind = .function)
    (I : Inv X pins σ H s) (hf : ∀ b ∈ fp, FpOk X pins H b) (hob : ∀ b ∈ fp, ∃ o, s.heap.get? b = some o) (hC : C = s.heap.objs.size + 1)
    (hns : ∃ m, h₁.Ns C m) (keep : ∀ b o, s.heap.get? b = some o → h₁.get? b = some o) (hacc : ∃ n, h₁.get? s.heap.objs.size = some { cls := .type "list", data := .seq #[] n }) :
    Inv (cxComp X N' scope C s H fp) [] (subS mp σ) (upd H s.heap.objs.size (.lst [])) { s with heap := h₁, toks := tk } := by
  subst hC
  have hcl : ∀ x ∈ scope.names, x.2 = .free → ∃ c, X.env.cells.lookup x.1 = some c := fun x hx e => I.ok.has x.1 (ok.free x hx e)
  have sub : ∀ x c, (clOf X.env.cells scope.names []).lookup x = some c → X.env.cells.lookup x = some c := clOf_sub hcl (fun x c e => by simp at e)
  have hlt : ∀ b ∈ fp, b < s.heap.objs.size := fun b hb => let ⟨_, e⟩ := hob b hb; Heap.lt_size e
  have hnC : H (s.heap.objs.size + 1) = none := I.hok.fresh (Nat.le_succ _)
  have hnp : H s.heap.objs.size = none := I.hok.fresh (Nat.le_refl _)
  have fpfs : ∀ b ∈ fp, b ∉ frs X.stack := fun b hb z => by
    obtain ⟨_, f1, f2, _⟩ := hf b hb
    rcases List.mem_cons.mp (I.stkSub b z) with e | e
    · exact f1 e
    · exact f2 e
  refine ⟨⟨I.ok.mod, hk, I.ok.glob, I.ok.blt, Nat.le_succ _, fun x y c e1 e2 => I.ok.inj x y c (sub x c e1) (sub y c e2), fun x e => ?_, fun x c e => (nomatch e), I.ok.hd, I.ok.frames, .inl rfl, fun b hb => ⟨?_, fun x c e => ?_⟩, I.bs, Nat.le_trans I.ok.bsz I.sz, fun b o e hb => ?_, fpfs, I.stack, I.stkFree⟩,
    rfl, I.bare, Un.laid keep (Nat.le_refl _) hnp, ?_, fun x c e => ?_, ?_, fun x c e => ?_, fun p hp => (nomatch hp), I.hok.laid keep (Nat.le_refl _) ?_, ?_⟩
  · exact clOf_has (relabel_back ok.nocell e)
  · exact Nat.ne_of_lt (Nat.lt_succ_of_lt (hlt b hb))
  · exact (hf b hb).2.2.2.2.1 x c (sub x c e)
  · rcases (hf b hb).2.2.2.1 with z | z
    · exact I.ok.noex b o e z
    · exact absurd (Nat.lt_of_lt_of_le (Heap.lt_size e) (Nat.le_trans I.ok.bsz z)) (Nat.lt_irrefl _)
  · obtain ⟨m, hm⟩ := hns
    refine ⟨m, hm, fun i x v e1 e2 e3 => ?_⟩
    have e2' : (subS mp σ)[i]? = some (some v) := e2
    unfold subS at e2'
    rw [List.getElem?_map] at e2'
    cases hmp : mp[i]? with
    | none => rw [hmp] at e2'; cases e2'
    | some o =>
      rw [hmp] at e2'
      cases o with
      | none => cases e2'
      | some j =>
        have e4 : σ[j]? = some (some v) := by
          have q : (σ[j]?).join = some v := Option.some.inj e2'
          cases hj : σ[j]? with
          | none => rw [hj] at q; cases q
          | some y => rw [hj] at q; exact congrArg some q
        obtain ⟨a1, a2, a3, a4⟩ := ok.map i j x hmp e1
        obtain ⟨m0, hn0, hl0⟩ := I.loc
        obtain ⟨u, r, l⟩ := hl0 j x v a1 e4 (a2.elim (fun z => .inr (.inl z)) fun z => .inr (.inr z))
        refine ⟨u, r, .inr ⟨?_, ?_⟩⟩
        · exact relabel_free a4
        · rcases l with ⟨l1, _⟩ | ⟨_, c, l2, l3⟩
          · have l1 : X.env.scope.names.lookup x = some .local := l1
            rcases a2 with a2 | a2 <;> rw [a2] at l1 <;> cases l1
          · obtain ⟨c', hc'⟩ : ∃ c', (clOf X.env.cells scope.names []).lookup x = some c' := clOf_has a3
            have : c' = c := Option.some.inj ((sub x c' hc').symm.trans l2)
            subst this
            exact ⟨c', hc', l3.keeps keep⟩
  · obtain ⟨v, z⟩ := I.cell x c (sub x c e)
    exact ⟨v, z.keeps keep⟩
  · show upd H s.heap.objs.size (.lst []) (s.heap.objs.size + 1) = none
    rw [upd_ne (Nat.succ_ne_self _)]; exact hnC
  · obtain ⟨v, z⟩ := I.cell x c (sub x c e)
    show upd H s.heap.objs.size (.lst []) c = none
    rw [upd_ne (Nat.ne_of_lt z.lt)]; exact I.freeC x c (sub x c e)
  · obtain ⟨n, e⟩ := hacc
    exact ⟨Nat.zero_le _, [], n, .nil, e⟩
  · show (subS mp σ).length = N'.length
    unfold subS
    rw [List.length_map, ok.len]
theorem comp_run {pins : List (Addr × Obj)} {σ : St} {H : Hp} {s : Shared} {it : Addr} {fp : List Addr} {tn : Nat → Heap → Prop} {J : It} {Q : Addr → Hp → Prop} {E : Value → Shared → Prop} {RR : Value → Addr → Result → Shared → Prop}
    (ok : CompOk X.N X.env.scope.names scope.names N' mp) (hk : scope.kind = .function) (hc : X.calm = true) (I : Inv X pins σ H s) (T : Turn X.prog X.w X.K tg J fp it tn) (st : tn 0 s.heap) (hf : ∀ b ∈ fp, FpOk X pins H b)
    (hg : ∀ C s H fp, PG (cxComp X N' scope C s H fp) tg g) (ht : ∀ C s H fp, PIfs (cxComp X N' scope C s H fp) ifs tst) (he : ∀ C s H fp, PE (cxComp X N' scope C s H fp) elt te)
    (h : ∀ p, H p = none → CompW p J g tst te (Q p) (subS mp σ) (upd H p (.lst [])))
    (hRR : ∀ C s' H', Inv X pins σ H' s' → (∃ m, s'.heap.Ns C m) → H' C = none → X.s₀.heap.objs.size ≤ C → C ≠ X.env.locals → (∀ x c, X.env.cells.lookup x = some c → c ≠ C) → (∀ q ∈ X.pn ++ pins, q.1 ≠ C) → Q s.heap.objs.size H' → RR (.ref s.heap.objs.size) C (.ok .next) s') :
    wpAny (model X.prog X.w) X.A (newList []) (fun acc s₃ => wpAny (model X.prog X.w) X.A (newFunctionEnv scope X.env.globals (clOf X.env.cells scope.names []) [] X.env.qual none .none (some X.env)) (fun cenv s₄ =>
      codeAny (model X.prog X.w) X.A (.compStart (.ListComp elt [⟨tg, iter, ifs, 0⟩] scope pos) 0 (.ref it) acc { cenv with scope := relabel scope X.env }) (RR acc cenv.locals) s₄) E s₃) E s := by
  refine wpAny_newObj_type (wpAny_newFunctionEnv ok.nocell (by intro y hy; simp at hy) (fun h₁ hns₁ hsb₁ => ?_) hk)
  dsimp only at hns₁ hsb₁ ⊢
  generalize hH2 : s.heap.push { cls := .type "list", dict := none, data := .seq ([] : List Value).toArray } = H2 at hns₁ hsb₁ ⊢
  have hC : H2.objs.size = s.heap.objs.size + 1 := by rw [← hH2, Heap.size_push]
  have keep : ∀ b o, s.heap.get? b = some o → h₁.get? b = some o := fun b o e =>
    hsb₁.extBut b o (by rw [hC]; exact Nat.ne_of_lt (Nat.lt_succ_of_lt (Heap.lt_size e))) (Heap.get?_push_of_some _ (hH2 ▸ Heap.get?_push_of_some _ e))
  have hacc : ∃ n, h₁.get? s.heap.objs.size = some { cls := .type "list", data := .seq #[] n } :=
    ⟨_, hsb₁.extBut _ _ (by rw [hC]; exact Nat.ne_of_lt (Nat.lt_succ_self _)) (Heap.get?_push_of_some _ (hH2 ▸ Heap.get?_push_size _ rfl))⟩
  have hob : ∀ b ∈ fp, ∃ o, s.heap.get? b = some o := fun b hb => let ⟨o, e, _⟩ := T.obj _ _ st b hb; ⟨o, e⟩
  have hltC : s.heap.objs.size ≤ H2.objs.size := by rw [hC]; exact Nat.le_succ _
  have I0 := I.comp0 (tn := tn 0) (C := H2.objs.size) (tk := s.toks + ([] : List (Str × Value)).length) ok hk hf hob hC ⟨_, hns₁⟩ keep hacc
  have st0 : tn 0 h₁ := T.keep _ _ _ st fun b hb o e => keep b o e
  obtain ⟨W, ⟨m0, w0⟩, turn⟩ := h _ (I.hok.fresh (Nat.le_refl _))
  have fpfs : ∀ b ∈ fp, b ∉ frs X.stack := I0.ok.exfs
  have stat : ∀ {H' : Hp}, (∀ b ∈ fp, H' b = none) → ∀ b ∈ fp, FpOk (cxComp X N' scope H2.objs.size s H fp) [] H' b := fun hn b hb =>
    ⟨hn b hb, (I0.ok.exf b hb).1, fpfs b hb, .inl hb, (I0.ok.exf b hb).2, fun q hq => (nomatch hq)⟩
  have loop : ∀ s₃ : Shared, s₃ = { s with heap := h₁, toks := s.toks + ([] : List (Str × Value)).length } →
      codeAny (model X.prog X.w) X.A (.compLoop (.ListComp elt [⟨tg, iter, ifs, 0⟩] scope pos) 0 (.ref it) (.ref s.heap.objs.size) (compEnvC scope (clOf X.env.cells scope.names []) H2.objs.size X.env)) (RR (.ref s.heap.objs.size) H2.objs.size) s₃ := by
    rintro s₃ rfl
    refine L2_compLoop (fun n s' => ∃ i acc σ' H', Inv (cxComp X N' scope H2.objs.size s H fp) [] σ' H' s' ∧ tn i s'.heap ∧ (∀ b ∈ fp, H' b = none) ∧ W i n acc σ' H') ?_ m0
      ⟨0, [], _, _, I0, st0, fun b hb => by rw [upd_ne (Nat.ne_of_lt (let ⟨_, e⟩ := hob b hb; Heap.lt_size e))]; exact (hf b hb).1, w0⟩
    rintro n s3 ⟨i, acc, σ3, H3, I3, st3, fr3, w3⟩
    rcases turn i n acc σ3 H3 w3 with ⟨stop, qn⟩ | ⟨go, N, hN, step⟩
    · refine thn (T.done (cxComp X N' scope H2.objs.size s H fp) rfl rfl rfl hc i [] s3 σ3 H3 _ I3 (stat fr3) st3 stop) fun r s4 ⟨hr, I4⟩ => ?_
      subst hr
      refine hRR _ s4 H3 ?_ (let ⟨m, hm, _⟩ := I4.loc; ⟨m, hm⟩) I4.free (Nat.le_trans I.sz hltC) (Nat.ne_of_gt (Nat.lt_of_lt_of_le I.lt hltC)) (fun x c e => ?_) (fun q hq => ?_) qn
      · exact I.call' I4.os I4.base I4.hok I4.bare fun b hb => let ⟨_, f1, _, f3, f4, f5⟩ := hf b hb; ⟨f3, f1, f4, f5⟩
      · obtain ⟨v, z⟩ := I.cell x c e
        exact Nat.ne_of_lt (Nat.lt_of_lt_of_le z.lt hltC)
      · exact Nat.ne_of_lt (Nat.lt_of_lt_of_le (Heap.lt_size (I.pin q hq).1) hltC)
    · refine thn (T.item (cxComp X N' scope H2.objs.size s H fp) rfl rfl rfl hc i [] s3 σ3 H3 _ I3 (stat fr3) st3 go) fun r s4 ⟨u, hr, h4⟩ => ?_
      subst hr
      refine thn h4 fun _ s5 ⟨x, H5, I5, r5, y5, st5, fr5⟩ => ?_
      have I5' := I5.pinned (stat fr5) (T.obj _ _ st5)
      refine thn (hg _ _ _ _ _ s5 σ3 H5 x u _ I5' r5 (step x H5 y5)) fun _ s6 ⟨σ6, H6, I6, q6⟩ => ?_
      refine thn (ht _ _ _ _ _ s6 σ6 H6 _ I6 q6) fun b s7 ⟨H7, I7, q7⟩ => ?_
      have again : ∀ {σ8 : St} {H8 : Hp} {acc8 : List V} {s8 : Shared}, Inv (cxComp X N' scope H2.objs.size s H fp) ([] ++ pinsAt fp s5.heap) σ8 H8 s8 → (∃ m', m' < n ∧ W (i + 1) m' acc8 σ8 H8) →
          ∃ m, m < n ∧ ∃ i acc σ' H', Inv (cxComp X N' scope H2.objs.size s H fp) [] σ' H' s8 ∧ tn i s8.heap ∧ (∀ b ∈ fp, H' b = none) ∧ W i m acc σ' H' := fun {σ8 H8 acc8 s8} I8 hw => by
        obtain ⟨m', hm, w8⟩ := hw
        refine ⟨m', hm, i + 1, acc8, σ8, H8, I8.unpinned, T.keep _ _ _ st5 fun b hb o e => (I8.pin (b, o) (List.mem_append_right _ (List.mem_append_right _ (mem_pinsAt hb e)))).1, fun b hb => ?_, w8⟩
        obtain ⟨o, e, d⟩ := T.obj _ _ st5 b hb
        exact (I8.pin (b, o) (List.mem_append_right _ (List.mem_append_right _ (mem_pinsAt hb e)))).2.1
      cases b with
      | false =>
        rw [if_neg Bool.false_ne_true]
        rw [if_neg Bool.false_ne_true] at q7
        exact again I7 (hN _ _ _ q7)
      | true =>
        rw [if_pos rfl]
        rw [if_pos rfl] at q7
        refine thn (he _ _ _ _ _ s7 σ6 H7 _ I7 q7) fun y s8 ⟨v, H8, I8, r8, ac, e8, z8, w8⟩ => ?_
        refine thn (mt_append (X := cxComp X N' scope H2.objs.size s H fp) _ s8 σ6 H8 (.ref s.heap.objs.size) [v] (.ref s.heap.objs.size) [y] (fun _ H9 => H9 = upd H8 s.heap.objs.size (.lst (ac ++ [v]))) I8 rfl (.cons r8 .nil) ⟨_, ac, v, rfl, rfl, e8, z8, rfl⟩) fun _ s9 ⟨_, H9, I9, _, e9⟩ => ?_
        subst e9
        exact again I9 (hN _ _ _ w8)
  exact codeAny_compStart_list (loop _ rfl) (T.self _ 0 _ _ _ st0 (loop _ rfl))
theorem Inv.letgo {pins : List (Addr × Obj)} {σ : St} {H : Hp} {s : Shared} {C : Addr} {h' : Heap} (I : Inv X pins σ H s) (hn : H C = none) (h1 : X.s₀.heap.objs.size ≤ C) (hL : C ≠ X.env.locals) (h2 : ∀ x c, X.env.cells.lookup x = some c → c ≠ C)
    (h3 : ∀ q ∈ X.pn ++ pins, q.1 ≠ C) (hs : Heap.SameBut C s.heap h') : Inv X pins σ H { s with heap := h' } :=
  I.turned (t' := s.toks) (fun b o hb e => (hs.2 b hb).trans e) hn hL (.inr h1) h2 h3
theorem pe_comp (hc : X.calm = true) (hi : PI X tg iter wi) (hg : ∀ C s H fp, PG (cxComp X N' scope C s H fp) tg g) (ht : ∀ C s H fp, PIfs (cxComp X N' scope C s H fp) ifs tst) (he : ∀ C s H fp, PE (cxComp X N' scope C s H fp) elt te)
    (ok : CompOk X.N X.env.scope.names scope.names N' mp) (hk : scope.kind = .function := by rfl) (hs : ∀ x, foldedSetIterable iter X.env x = pure x := by intro _; rfl) :
    PE X (.ListComp elt [⟨tg, iter, ifs, 0⟩] scope pos) (tComp mp wi g tst te) := by
  intro pins s σ H Q I h
  rw [eval_ListComp]
  refine wpAny_comprehension_free (use := none) rfl hs (closureFor_of fun x hx e => I.ok.has x.1 (ok.free x hx e)) hk ok.loc (thn (hi pins s σ H _ I h) fun v s1 h1 => thn h1 fun itv s2 h2 => ?_)
  obtain ⟨it, fp, tn, J, H2, e, I2, T, st2, f2, hw⟩ := h2
  subst e
  refine comp_run (Q := fun p H' => Q (.ref p) H') (RR := fun acc C => compPost (model X.prog X.w) X.A X.xe none (EP X pins σ Q) acc C) ok hk hc I2 T st2 f2 hg ht he hw ?_
  intro C s' H' I' hns hn h1 hL hcl hpin q
  obtain ⟨m, hm⟩ := hns
  exact ⟨m, hm, fun h' hs' => ⟨.ref s2.heap.objs.size, H', I'.letgo hn h1 hL hcl hpin hs', rfl, q⟩⟩
theorem ps_setC {i : Nat} {y : Str} {py spos : Pos} (hc : X.calm = true) (hN : X.N.Nodup) (hi' : X.N[i]? = some y) (hy : X.env.scope.names.lookup y = some .local)
    (hi : PI X tg iter wi) (hg : ∀ C s H fp, PG (cxComp X N' scope C s H fp) tg g) (ht : ∀ C s H fp, PIfs (cxComp X N' scope C s H fp) ifs tst) (he : ∀ C s H fp, PE (cxComp X N' scope C s H fp) elt te)
    (ok : CompOk X.N X.env.scope.names scope.names N' mp) (hsw : swapsWith (.ListComp elt [⟨tg, iter, ifs, 0⟩] scope pos) (some (.Name y py)) spos.line X.env = pure true := by rfl)
    (hk : scope.kind = .function := by rfl) (hs : ∀ x, foldedSetIterable iter X.env x = pure x := by intro _; rfl) :
    PS X (.Assign [.Name y py] (.ListComp elt [⟨tg, iter, ifs, 0⟩] scope pos) spos) (tAsg (tComp mp wi g tst te) (gName i)) := by
  intro pins s σ H D I h
  rw [exec_Assign_Name_used _ _ _ _ hsw]
  refine wpAny_bind (wpAny_standAt (wpAny_bind ?_))
  show wpAny _ _ (do let _ ← comprehension (.ListComp elt [⟨tg, iter, ifs, 0⟩] scope pos) scope X.env _ (newList []) false (eval iter X.env) (some (assign (.Name y py) X.env))) _ _ s
  refine wpAny_bind (wpAny_mono (wpAny_comprehension_free (use := some (assign (.Name y py) X.env)) (Q := fun _ s' => SP X pins D .next s') rfl hs (closureFor_of fun x hx e => I.ok.has x.1 (ok.free x hx e)) hk ok.loc
    (thn (hi pins s σ H _ I h) fun v s1 h1 => thn h1 fun itv s2 h2 => ?_)) (fun _ s' hq => wpAny_pure (wpAny_pure hq)) fun _ _ e => e)
  obtain ⟨it, fp, tn, J, H2, e, I2, T, st2, f2, hw⟩ := h2
  subst e
  refine comp_run (Q := fun p H' => D.nx (σ.set i (some (.ref p))) H') (RR := fun acc C => compPost (model X.prog X.w) X.A X.xe (some (assign (.Name y py) X.env)) (fun _ s' => SP X pins D .next s') acc C) ok hk hc I2 T st2 f2 hg ht he hw ?_
  intro C s' H' I' hns hn h1 hL hcl hpin q
  obtain ⟨m, hm⟩ := hns
  show wpAny _ _ (assign (.Name y py) X.env (.ref s2.heap.objs.size)) _ _ s'
  refine wpAny_assign_Name (store_ok2 I' hN hi' (.inl hy) (v := .ref s2.heap.objs.size) rfl (fun s'' I'' hch => ?_) (.inr hy))
  obtain ⟨a, hsb, ha⟩ := hch
  have hCa : C ≠ a := by
    rcases ha with rfl | ha
    · exact hL
    · exact (hcl _ _ ha).symm
  refine ⟨m, hm.sameBut hsb hCa, fun h' hs' => ?_⟩
  exact ⟨_, H', I''.letgo hn h1 hL hcl hpin hs', q⟩
end
section
variable {K : PySem.W.Frag} {a p : Addr} {xs : List V} {g : TG} {tst : TT} {te : TE} {Q : Hp → Prop} {σ : St} {H : Hp}
theorem comp_of {J : It} (n : Nat) (Pv : Nat → List V → St → Hp → Prop) (h0 : Pv 0 [] σ H)
    (hgo : ∀ i acc σ H, i < n → Pv i acc σ H → J.go i H) (hstop : ∀ acc σ H, Pv n acc σ H → J.stop n H ∧ Q H)
    (hs : ∀ i x acc σ H H2, i < n → Pv i acc σ H → J.yld i H x H2 → g x σ H2 fun σ3 H3 => tst σ3 H3 fun b H4 =>
      if b = true then te σ3 H4 fun v H5 => ∃ ac, H5 p = some (.lst ac) ∧ ac.length < sizeLine ∧ Pv (i + 1) (ac ++ [v]) σ3 (upd H5 p (.lst (ac ++ [v]))) else Pv (i + 1) acc σ3 H4) :
    CompW p J g tst te Q σ H := by
  refine ⟨fun i m acc σ H => m = n - i ∧ i ≤ n ∧ Pv i acc σ H, ⟨n, by simp, Nat.zero_le _, h0⟩, ?_⟩
  rintro i m acc σ H ⟨rfl, hi, pv⟩
  by_cases hlt : i < n
  · exact .inr ⟨hgo i acc σ H hlt pv, Pv (i + 1), fun acc σ H q => ⟨n - (i + 1), by omega, rfl, hlt, q⟩, fun x H2 y => hs i x acc σ H H2 hlt pv y⟩
  · have e : i = n := by omega
    subst e
    exact .inl (hstop acc σ H pv)
end
end L2
namespace L2
open PySem PySem.Spec PyProof.Rows
section
variable {X : Cx}
def rSlS : V → Option Int → Option Int → Hp → VK → Prop := fun x lo hi H Q => ∃ z, x = .str z ∧ z.length ≤ sizeLine ∧ Q (.str (Txt.slice z lo hi)) H
theorem sl_str : SlR X rSlS := by
  intro pins s σ H x v vl vu lo hi sl Q I rx hs pl pu h
  obtain ⟨z, rfl, hz, q⟩ := h
  obtain ⟨t, rfl⟩ := rx
  refine ⟨"str", _, F.slot_str_getitem.lookup, typeIs_str _ _ _, ?_⟩
  have fin : ∀ t' k, EP X pins σ Q (.str (Txt.slice z lo hi) t') { s with toks := k } := fun t' k => ⟨.str _, H, I.tok _, ⟨_, rfl⟩, q⟩
  cases pl with
  | none =>
    cases pu with
    | none => exact wpAny_getItem_str_slice (l := none) (u := none) (st := none) hs rfl (post_val_or_str ⟨Nat.le_trans (Txt.slice_le z _ _) hz, fin⟩)
    | int j tj => exact wpAny_getItem_str_slice (l := none) (u := some (j, tj)) (st := none) hs rfl (post_val_or_str ⟨Nat.le_trans (Txt.slice_le z _ _) hz, fin⟩)
  | int i ti =>
    cases pu with
    | none => exact wpAny_getItem_str_slice (l := some (i, ti)) (u := none) (st := none) hs rfl (post_val_or_str ⟨Nat.le_trans (Txt.slice_le z _ _) hz, fin⟩)
    | int j tj => exact wpAny_getItem_str_slice (l := some (i, ti)) (u := some (j, tj)) (st := none) hs rfl (post_val_or_str ⟨Nat.le_trans (Txt.slice_le z _ _) hz, fin⟩)
theorem call_all (hc : X.calm = true) : CallR X (.builtin "all") (fun xs H Q => ∃ (p : Addr) (bs : List Bool), xs = [.ref p] ∧ SqL X.K H p (bs.map V.bl) ∧ Q (.bl (bs.all id)) H) := by
  intro pins s σ H xs us Q I r h
  obtain ⟨p, bs, rfl, hq, q⟩ := h
  obtain ⟨u, rfl, rx⟩ := vals1 r
  cases rx
  obtain ⟨its, r', pl, hz⟩ := I.list hq
  have hlen := r'.length
  rw [List.length_map] at hlen
  refine call_all_walk (wpAny_pyIter_list pl.isList ?_)
  have hne : p ≠ s.heap.objs.size := Nat.ne_of_lt (let ⟨_, ho, _⟩ := pl.isList; Heap.lt_size ho)
  refine ⟨s.heap.objs.size, _, _, _, _, _, fun i => bs.getD i true, rfl, Walks.list (show X.A.in1.handled = none from I.ok.hd hc) s.heap.objs.size p hne its.toArray, ?_, ?_, fun h' tk k => ?_⟩
  · exact ⟨⟨_, Heap.get?_push_size _ rfl, rfl, rfl⟩, pl.isList.at fun o e => Heap.get?_push_of_some _ e⟩
  · intro i v s' Q' E' hP hQ'
    have hv : its[i]? = some v := by simpa using hP
    have hi : i < bs.length := by rw [hlen]; exact (List.getElem?_eq_some_iff.mp hv).1
    obtain ⟨u, hu, ru⟩ := r'.get (i := i) (x := V.bl bs[i]) (by simp [hi])
    rw [hv] at hu
    cases hu
    cases (show v = Value.bool bs[i] from ru)
    refine wpAny_truthy_bool ?_
    have e : bs.getD i true = bs[i] := by simp [hi]
    have hQ2 : Q' (bs.getD i true) s' := hQ'
    rw [e] at hQ2
    exact hQ2
  · have e : (List.range its.toArray.size).all (fun i => bs.getD i true) = bs.all id := by
      rw [List.size_toArray, ← hlen]
      rw [Bool.eq_iff_iff, List.all_eq_true, List.all_eq_true]
      constructor
      · intro a x hx
        obtain ⟨i, hi, rfl⟩ := List.mem_iff_getElem.mp hx
        have := a i (List.mem_range.mpr hi)
        simpa [hi] using this
      · intro a i hi
        have hi := List.mem_range.mp hi
        have := a bs[i] (List.getElem_mem hi)
        simpa [hi] using this
    rw [e]
    exact ⟨.bl _, H, I.kept fun b o e => k b o (by
      intro hb
      have : b = s.heap.objs.size := by simpa using hb
      exact absurd (Heap.lt_size e) (by rw [this]; exact Nat.lt_irrefl _)) (Heap.get?_push_of_some _ e), rfl, q⟩
end
end L2
namespace L2
open PySem PySem.Spec PyProof.Rows
def Sd (d l : Addr) (H H' : Hp) : Prop := ∀ b o, b ≠ d → b ≠ l → H b = some o → H' b = some o
theorem Sd.refl {d l : Addr} {H : Hp} : Sd d l H H := fun _ _ _ _ h => h
theorem Sd.trans {d l : Addr} {H H1 H2 : Hp} (a : Sd d l H H1) (b : Sd d l H1 H2) : Sd d l H H2 := fun c o h1 h2 h => b c o h1 h2 (a c o h1 h2 h)
theorem Sd.of {d l : Addr} {H H' : Hp} (a : Same H H') : Sd d l H H' := fun b o _ _ h => a b o h
theorem Sd.new {d l p : Addr} {H : Hp} {o : HO} (hp : H p = none) : Sd d l H (upd H p o) := fun b u _ _ h => by rw [upd_ne (ne_of_none h hp)]; exact h
theorem same_new' {H : Hp} {p : Addr} (h : H p = none) (o : HO) : Same H (upd H p o) := fun b u q => by rw [upd_ne (ne_of_none q h)]; exact q
theorem Same.tup {K : PySem.W.Frag} {H H' : Hp} {a : Addr} {xs : List V} (e : Same H H') (h : SqT K H a xs) : SqT K H' a xs := by
  rcases h with (h | ⟨o, h⟩) | h
  · exact .inl (.inl (e _ _ h))
  · exact .inl (.inr ⟨o, e _ _ h⟩)
  · exact .inr h
def dkv (s n : Int) (l : Addr) : List (Key × V) := [(.inr "seed", .int s), (.inr "number", .int n), (.inr "left", .ref l)]
structure Deal (H : Hp) (d l : Addr) (s n : Int) (ns : List Int) : Prop where
  d : H d = some (.dK (dkv s n l))
  l : H l = some (.lst (ns.map V.int))
  s0 : 0 ≤ s
  s1 : s < 2147483647
  n0 : 0 ≤ n
  ns0 : ∀ x ∈ ns, 0 ≤ x
def IsDeal (H : Hp) (d l : Addr) : Prop := ∃ s n ns, Deal H d l s n ns
section
variable {H H' : Hp} {d l p : Addr} {s n : Int} {ns : List Int} {o : HO}
theorem Deal.ne (D : Deal H d l s n ns) : d ≠ l := ne_of D.d D.l (by intro z; cases z)
theorem Deal.seed (D : Deal H d l s n ns) : DGet H d (.str "seed") (some (.int s)) := DGet.k (k := .inr "seed") D.d
theorem Deal.left (D : Deal H d l s n ns) : DGet H d (.str "left") (some (.ref l)) := DGet.k (k := .inr "left") D.d
theorem Deal.keep (D : Deal H d l s n ns) (e : Same H H') : Deal H' d l s n ns := ⟨e _ _ D.d, e _ _ D.l, D.s0, D.s1, D.n0, D.ns0⟩
theorem IsDeal.keep (D : IsDeal H d l) (e : Same H H') : IsDeal H' d l := let ⟨s, n, ns, D⟩ := D; ⟨s, n, ns, D.keep e⟩
theorem IsDeal.new (D : IsDeal H d l) (hp : H p = none) : IsDeal (upd H p o) d l := D.keep (same_new' hp o)
end
theorem seven {n : Nat} (h : n ≤ 1000) : n ≤ sizeLine := Nat.le_of_lt (small1000 h)
end L2
namespace PySem
open Sem (wp)
open AutoSeq1 (wpAny_loadPart')
set_option maxRecDepth 100000
section
variable {prog : Program} {w : World} {A : Around} {E : Value → Shared → Prop} {s : Shared}
theorem L2_nextOf_tuple_item {it t : Addr} {i : Nat} {items} {x : Value} {Q : Value → Shared → Prop} (hit : s.heap.IsTupleIter it t i)
    (ht : s.heap.IsTuple t items) (hx : items[i]? = some x)
    (hQ : ∀ h', h'.IsTupleIter it t (i + 1) → Heap.SameBut it s.heap h' → Q x { s with heap := h' }) :
    wpAny (model prog w) A (Builtin.SmallTypes.nextOf (.ref it)) Q E s := by
  obtain ⟨o, ho, hc, hd⟩ := id hit
  obtain ⟨ol, hol, _, nl, hdl⟩ := ht
  unfold Builtin.SmallTypes.nextOf
  refine wpAny_bind (wpAny_callSpecial?_slot (name := Str.ofString "__next__") hit.typeIs F.slot_tuple_iterator_next
    (wpAny_call_entry F.slot_tuple_iterator_next hit.typeIs F.entry_tuple_iterator_next ?_ (F.args_tuple_iterator_next_1 _)))
  show wpAny _ _ (field (.ref it) 0 >>= _) _ _ s
  refine wpAny_bind (wpAny_field ho hd (x := .ref t) rfl ?_)
  show wpAny _ _ (if (Value.ref t == Value.none) = true then _ else _) _ _ s
  rw [if_neg (show ¬ ((Value.ref t == Value.none) = true) from Bool.false_ne_true)]
  show wpAny _ _ (field (.ref it) 1 >>= _) _ _ s
  refine wpAny_bind (wpAny_field ho hd (x := .int i 0) rfl ?_)
  show wpAny _ _ (seqItems? (.ref t) >>= _) _ _ s
  refine wpAny_bind (wpAny_seqItems hol hdl ?_)
  simp only [Int.toNat_natCast, hx]
  refine wpAny_bind (wpAny_setField ho hd (by simp) (wpAny_pure ⟨x, rfl, wpAny_pure (hQ _ ?_ (Heap.SameBut.update ..))⟩))
  exact ⟨_, Heap.get?_update_self _ ho (Obj.isFreed_of_fields (Obj.data_mapFields hd _)), (Obj.cls_mapFields ..).trans hc, by
    rw [Obj.data_mapFields hd]; simp [rawInt]⟩
theorem L2_nextOf_tuple_end {it t : Addr} {i : Nat} {items} {Q : Value → Shared → Prop} (hh : A.handled = none)
    (hit : s.heap.IsTupleIter it t i) (ht : s.heap.IsTuple t items) (hx : items[i]? = none)
    (hE : ∀ h' e, Heap.ExtBut it s.heap h' → (∃ o, h'.get? e = some o ∧ o.cls = .type "StopIteration") → E (.ref e) { s with heap := h' }) :
    wpAny (model prog w) A (Builtin.SmallTypes.nextOf (.ref it)) Q E s := by
  obtain ⟨o, ho, hc, hd⟩ := id hit
  obtain ⟨ol, hol, _, nl, hdl⟩ := ht
  unfold Builtin.SmallTypes.nextOf
  refine wpAny_bind (wpAny_callSpecial?_slot (name := Str.ofString "__next__") hit.typeIs F.slot_tuple_iterator_next
    (wpAny_call_entry F.slot_tuple_iterator_next hit.typeIs F.entry_tuple_iterator_next ?_ (F.args_tuple_iterator_next_1 _)))
  show wpAny _ _ (field (.ref it) 0 >>= _) _ _ s
  refine wpAny_bind (wpAny_field ho hd (x := .ref t) rfl ?_)
  show wpAny _ _ (if (Value.ref t == Value.none) = true then _ else _) _ _ s
  rw [if_neg (show ¬ ((Value.ref t == Value.none) = true) from Bool.false_ne_true)]
  show wpAny _ _ (field (.ref it) 1 >>= _) _ _ s
  refine wpAny_bind (wpAny_field ho hd (x := .int i 0) rfl ?_)
  show wpAny _ _ (seqItems? (.ref t) >>= _) _ _ s
  refine wpAny_bind (wpAny_seqItems hol hdl ?_)
  simp only [Int.toNat_natCast, hx]
  refine wpAny_bind (wpAny_rule (wpAny_bind (wpAny_setField ho hd (by simp) ?_)))
  show wpAny _ _ (newExc (.type "StopIteration") [] >>= _) _ _ _
  refine wpAny_bind ?_
  simp only [newExc, newTuple]
  refine wpAny_bind (wpAny_newObj_type ?_ (by size_fits))
  refine wpAny_bind (m := firstArgMember _ _) (wpAny_of_eq (a := Value.none) (by first | rfl | (simp only [firstArgMember]; rfl)) ?_)
  refine wpAny_newObj_type ?_ (by size_fits)
  simp only [raiseNew]
  refine wpAny_bind (wpAny_handled ?_)
  first | rw [show A.in1.handled = none from hh] | rw [hh]
  refine wpAny_bind (wpAny_pure (wpAny_throw ?_))
  exact hE _ _ (((Heap.SameBut.update ..).extBut.push _).push _) ⟨_, Heap.get?_push_size _ rfl, rfl⟩
end
theorem L2_draws_tuple {prog : Program} {w : World} {A : Around} (hh : A.handled = none) (it l : Addr) (hne : l ≠ it) (items : Array Value) :
    Draws prog w A it [it, l] items.size (fun i v => items[i]? = some v) (fun i h => h.IsTupleIter it l i ∧ h.IsTuple l items) where
  live := fun _ _ st => let ⟨o, ho, _⟩ := st.1; ⟨o, ho⟩
  frame := fun _ _ _ st hk => ⟨st.1.at fun o e => hk it (by simp) o e, st.2.at fun o e => hk l (by simp) o e⟩
  item := fun i s Q E hi st hQ => by
    refine L2_nextOf_tuple_item st.1 st.2 (x := items[i]) (by simp [hi]) fun h' hit' hs' => ?_
    exact hQ _ h' s.toks (by simp [hi]) ⟨hit', st.2.extBut hs'.extBut hne⟩ hs'
  done := fun s Q E st hE => L2_nextOf_tuple_end hh st.1 st.2 (by simp) hE
theorem L2_meets_enum_tuple (l : Addr) (items : Array Value) (n : Nat) (dct : Option Addr) (sl : Array (Option Value)) :
    Meets (Builtin.«enumerate.__new__» ⟨[.type "enumerate", .ref l], []⟩) (fun _ R s => s.heap.get? l = some { cls := .type "tuple", dict := dct, data := .seq items n, slots := sl } ∧
      R (.ok (.ret (.ref (s.heap.push { cls := .type "tuple_iterator", data := .fields #[.ref l, .int 0 0] }).objs.size)))
        { s with heap := (s.heap.push { cls := .type "tuple_iterator", data := .fields #[.ref l, .int 0 0] }).push { cls := .type "enumerate", data := .fields #[.none, .bool false, .ref s.heap.objs.size, rawInt 0, .none, .none] } }) :=
  .of_wp fun prog w A R s h => by
    obtain ⟨hp, g, d, tk, os⟩ := s; obtain ⟨hl, h⟩ := h
    have hsub := sub_enumerate
    have hL : Heap.IsTuple (Shared.heap ⟨hp, g, d, tk, os⟩) l items := ⟨_, hl, rfl, n, rfl⟩
    wp_walk using wpAny_loadPart' hl
    refine wpAny_stack_any fun st => wpAny_pure ?_
    split
    · rename_i c _ _ _ _ _
      cases (c == Value.type "enumerate")
      · wp_walk using wpAny_loadPart' hl, wpAny_pyIter_tuple hL
        exact ⟨_, rfl, h⟩
      · wp_walk using wpAny_loadPart' hl, wpAny_pyIter_tuple hL
        exact ⟨_, rfl, h⟩
    · wp_walk using wpAny_loadPart' hl, wpAny_pyIter_tuple hL
      exact ⟨_, rfl, h⟩
section
variable {prog : Program} {w : World} {A : Around} {E : Value → Shared → Prop} {s : Shared}
theorem L2_call_enum_tuple {l : Addr} {items : Array Value} {Q : Value → Shared → Prop} (hL : s.heap.IsTuple l items)
    (h : ∀ h', IsEnum h' (s.heap.objs.size + 1) s.heap.objs.size 0 .none → h'.IsTupleIter s.heap.objs.size l 0 → h'.objs.size = s.heap.objs.size + 2 →
      (∀ b o, s.heap.get? b = some o → h'.get? b = some o) → Q (.ref (s.heap.objs.size + 1)) { s with heap := h' }) :
    wpAny (model prog w) A (call (.type "enumerate") [.ref l]) Q E s := by
  obtain ⟨⟨c, dct, dt, sl⟩, hl, hc, n, hd⟩ := hL
  replace hc : c = .type "tuple" := hc
  replace hd : dt = .seq items n := hd
  subst hc hd
  refine callType_new F.called_enumerate (by decide) (F.typeCall_enumerate_1 _) (F.newCall_enumerate_1 _) (fun obj => F.args_object_init_2 obj _) F.entry_enumerate_new
    (L2_meets_enum_tuple l items n dct sl) ⟨hl, ?_⟩
  have hz : (s.heap.push { cls := .type "tuple_iterator", data := .fields #[.ref l, .int 0 0] }).objs.size = s.heap.objs.size + 1 := Heap.size_push ..
  show _ ∧ _
  rw [hz]
  have he : IsEnum ((s.heap.push { cls := .type "tuple_iterator", data := .fields #[.ref l, .int 0 0] }).push
      { cls := .type "enumerate", data := .fields #[.none, .bool false, .ref s.heap.objs.size, rawInt 0, .none, .none] }) (s.heap.objs.size + 1) s.heap.objs.size 0 .none := by
    have := Heap.get?_push_size (s.heap.push { cls := .type "tuple_iterator", data := .fields #[.ref l, .int 0 0] })
      (o := { cls := .type "enumerate", data := .fields #[.none, .bool false, .ref s.heap.objs.size, rawInt 0, .none, .none] }) rfl
    rw [hz] at this; exact this
  refine ⟨⟨_, he, rfl⟩, h _ he ⟨_, Heap.get?_push_of_some _ (Heap.get?_push_size _ rfl), rfl, rfl⟩ (by rw [Heap.size_push, hz]) fun b o x => Heap.get?_push_of_some _ (Heap.get?_push_of_some _ x)⟩
end
end PySem
namespace L2
open PySem PySem.Spec PyProof.Rows
mutual
def Dt (H : Hp) : PyData → V → Prop
  | .none, x => x = .non
  | .bool b, x => x = .bl b
  | .int i, x => x = .int i
  | .str z, x => x = .str z
  | .list ds, x => ∃ a xs, x = .ref a ∧ H a = some (.lst xs) ∧ DtAll H ds xs
  | .tuple ds, x => ∃ a xs, x = .ref a ∧ H a = some (.tup xs) ∧ DtAll H ds xs
  | .dict _, _ => False
def DtAll (H : Hp) : List PyData → List V → Prop
  | [], xs => xs = []
  | d :: ds, xs => ∃ x r, xs = x :: r ∧ Dt H d x ∧ DtAll H ds r
end
def SameT (H H' : Hp) : Prop := ∀ b xs, H b = some (.tup xs) → H' b = some (.tup xs)
theorem SameT.of {H H' : Hp} (S : Same H H') : SameT H H' := fun b xs h => S b _ h
theorem SameT.refl {H : Hp} : SameT H H := fun _ _ h => h
theorem SameT.trans {H H1 H2 : Hp} (a : SameT H H1) (b : SameT H1 H2) : SameT H H2 := fun c xs h => b c xs (a c xs h)
theorem SameT.new {H : Hp} {p : Addr} (h : H p = none) (o : HO) : SameT H (upd H p o) := SameT.of (same_new' h o)
mutual
theorem Dt.mono {H H' : Hp} (S : Same H H') : ∀ (d : PyData) (x : V), Dt H d x → Dt H' d x
  | .none, x, h => by simp only [Dt] at h ⊢; exact h
  | .bool b, x, h => by simp only [Dt] at h ⊢; exact h
  | .int i, x, h => by simp only [Dt] at h ⊢; exact h
  | .str z, x, h => by simp only [Dt] at h ⊢; exact h
  | .list ds, x, h => by
    simp only [Dt] at h ⊢
    obtain ⟨a, xs, e, q, r⟩ := h
    exact ⟨a, xs, e, S _ _ q, DtAll.mono S ds xs r⟩
  | .tuple ds, x, h => by
    simp only [Dt] at h ⊢
    obtain ⟨a, xs, e, q, r⟩ := h
    exact ⟨a, xs, e, S _ _ q, DtAll.mono S ds xs r⟩
  | .dict _, x, h => by simp only [Dt] at h
theorem DtAll.mono {H H' : Hp} (S : Same H H') : ∀ (ds : List PyData) (xs : List V), DtAll H ds xs → DtAll H' ds xs
  | [], xs, h => by simp only [DtAll] at h ⊢; exact h
  | d :: ds, xs, h => by
    simp only [DtAll] at h ⊢
    obtain ⟨x, r, e, h1, h2⟩ := h
    exact ⟨x, r, e, Dt.mono S d x h1, DtAll.mono S ds r h2⟩
end
theorem Dt.tup {H : Hp} {x : V} {ds : List PyData} (h : Dt H (.tuple ds) x) : ∃ a xs, x = .ref a ∧ H a = some (.tup xs) ∧ DtAll H ds xs := by
  simp only [Dt] at h; exact h
theorem Dt.lst {H : Hp} {x : V} {ds : List PyData} (h : Dt H (.list ds) x) : ∃ a xs, x = .ref a ∧ H a = some (.lst xs) ∧ DtAll H ds xs := by
  simp only [Dt] at h; exact h
theorem Dt.int {H : Hp} {x : V} {i : Int} (h : Dt H (.int i) x) : x = .int i := by simp only [Dt] at h; exact h
theorem Dt.str {H : Hp} {x : V} {z : Str} (h : Dt H (.str z) x) : x = .str z := by simp only [Dt] at h; exact h
theorem dts_nil {H : Hp} : DtAll H [] [] := by simp only [DtAll]
theorem dts_cons {H : Hp} {d : PyData} {ds : List PyData} {x : V} {xs : List V} (h : Dt H d x) (r : DtAll H ds xs) : DtAll H (d :: ds) (x :: xs) := by
  simp only [DtAll]; exact ⟨x, xs, rfl, h, r⟩
theorem DtAll.cons {H : Hp} {d : PyData} {ds : List PyData} {xs : List V} (h : DtAll H (d :: ds) xs) : ∃ x r, xs = x :: r ∧ Dt H d x ∧ DtAll H ds r := by
  simp only [DtAll] at h; exact h
theorem DtAll.nil {H : Hp} {xs : List V} (h : DtAll H [] xs) : xs = [] := by simp only [DtAll] at h; exact h
theorem DtAll.length {H : Hp} : ∀ {ds : List PyData} {xs : List V}, DtAll H ds xs → xs.length = ds.length
  | [], _, h => by rw [h.nil]; rfl
  | _ :: ds, _, h => by
    obtain ⟨x, r, rfl, _, h2⟩ := h.cons
    rw [List.length_cons, List.length_cons, DtAll.length h2]
theorem DtAll.get {H : Hp} : ∀ {ds : List PyData} {xs : List V} {i : Nat} {d : PyData}, DtAll H ds xs → ds[i]? = some d → ∃ x, xs[i]? = some x ∧ Dt H d x
  | [], _, _, _, _, e => by simp at e
  | _ :: ds, _, 0, d, h, e => by
    obtain ⟨x, r, rfl, h1, _⟩ := h.cons
    simp at e; subst e
    exact ⟨x, rfl, h1⟩
  | _ :: ds, _, i + 1, d, h, e => by
    obtain ⟨x, r, rfl, _, h2⟩ := h.cons
    obtain ⟨y, e1, e2⟩ := DtAll.get (i := i) (d := d) h2 (by simpa using e)
    exact ⟨y, by simpa using e1, e2⟩
theorem DtAll.append {H : Hp} : ∀ {ds es : List PyData} {xs ys : List V}, DtAll H ds xs → DtAll H es ys → DtAll H (ds ++ es) (xs ++ ys)
  | [], _, _, _, h, k => by rw [h.nil]; exact k
  | _ :: ds, _, _, _, h, k => by
    obtain ⟨x, r, rfl, h1, h2⟩ := h.cons
    exact dts_cons h1 (DtAll.append h2 k)
theorem DtAll.snoc {H : Hp} {ds : List PyData} {xs : List V} {d : PyData} {x : V} (h : DtAll H ds xs) (k : Dt H d x) : DtAll H (ds ++ [d]) (xs ++ [x]) := h.append (dts_cons k dts_nil)
theorem DtAll.drop {H : Hp} : ∀ (n : Nat) {ds : List PyData} {xs : List V}, DtAll H ds xs → DtAll H (ds.drop n) (xs.drop n)
  | 0, _, _, h => h
  | _ + 1, [], _, h => by rw [h.nil]; exact dts_nil
  | n + 1, _ :: ds, _, h => by
    obtain ⟨x, r, rfl, _, h2⟩ := h.cons
    exact DtAll.drop n h2
theorem DtAll.take {H : Hp} : ∀ (n : Nat) {ds : List PyData} {xs : List V}, DtAll H ds xs → DtAll H (ds.take n) (xs.take n)
  | 0, _, _, _ => dts_nil
  | _ + 1, [], _, h => by rw [h.nil]; exact dts_nil
  | n + 1, _ :: ds, _, h => by
    obtain ⟨x, r, rfl, h1, h2⟩ := h.cons
    exact dts_cons h1 (DtAll.take n h2)
def cutD (ds : List PyData) (lo hi : Option Int) : List PyData := (ds.drop (HT.sIx ds.length 0 lo)).take (HT.sIx ds.length ds.length hi - HT.sIx ds.length 0 lo)
theorem DtAll.cut {H : Hp} {ds : List PyData} {xs : List V} (h : DtAll H ds xs) (lo hi : Option Int) : DtAll H (cutD ds lo hi) (cutV xs lo hi) := by
  unfold cutD cutV
  rw [h.length]
  exact (h.drop _).take _
mutual
theorem Dt.reads {X : Cx} {pins : List (Addr × Obj)} {σ : St} {H : Hp} {s : Shared} (I : Inv X pins σ H s) : ∀ (d : PyData) (x : V) (u : Value), Dt H d x → RelV x u → ∃ as, Reads s.heap u d as
  | .none, x, u, h, r => by simp only [Dt] at h; subst h; cases r; exact ⟨_, .none⟩
  | .bool b, x, u, h, r => by simp only [Dt] at h; subst h; cases r; exact ⟨_, .bool b⟩
  | .int i, x, u, h, r => by simp only [Dt] at h; subst h; obtain ⟨t, rfl⟩ := r; exact ⟨_, .int i t⟩
  | .str z, x, u, h, r => by simp only [Dt] at h; subst h; obtain ⟨t, rfl⟩ := r; exact ⟨_, .str z t⟩
  | .list ds, x, u, h, r => by
    obtain ⟨a, xs, rfl, q, k⟩ := h.lst
    cases r
    obtain ⟨z, its, n, rv, e⟩ := I.hok a _ q
    obtain ⟨as, ra⟩ := DtAll.reads I ds xs its k rv
    exact ⟨_, .list e rfl rfl (by simpa using ra)⟩
  | .tuple ds, x, u, h, r => by
    obtain ⟨a, xs, rfl, q, k⟩ := h.tup
    cases r
    obtain ⟨z, its, rv, o, e, c, n, d⟩ := I.hok a _ q
    obtain ⟨as, ra⟩ := DtAll.reads I ds xs its k rv
    exact ⟨_, .tuple e c d (by simpa using ra)⟩
  | .dict _, x, u, h, _ => by simp only [Dt] at h
theorem DtAll.reads {X : Cx} {pins : List (Addr × Obj)} {σ : St} {H : Hp} {s : Shared} (I : Inv X pins σ H s) : ∀ (ds : List PyData) (xs : List V) (us : List Value), DtAll H ds xs → Vals xs us → ∃ as, ReadsAll s.heap us ds as
  | [], xs, us, h, r => by
    have e := h.nil
    subst e
    cases r
    exact ⟨_, .nil⟩
  | d :: ds, xs, us, h, r => by
    obtain ⟨x, xr, rfl, h1, h2⟩ := h.cons
    cases r with
    | cons r1 r2 =>
      obtain ⟨as, ra⟩ := Dt.reads I d x _ h1 r1
      obtain ⟨bs, rb⟩ := DtAll.reads I ds xr _ h2 r2
      exact ⟨_, .cons ra rb⟩
end
structure OkB (dep wt : Nat) (d : PyData) : Prop where
  lay : d.canLay0 = true
  dp : d.depth ≤ dep
  wt : d.weight ≤ wt
  sh : d.intsShort 13 = true
  sw : d.showable = true
structure OkBs (dep wt : Nat) (ds : List PyData) : Prop where
  lay : PyData.canLayAll0 ds = true
  dp : PyData.depthAll ds ≤ dep
  wt : PyData.weightAll ds ≤ wt
  sh : PyData.intsShortAll 13 ds = true
  sw : PyData.showableAll ds = true
theorem OkBs.nil {dep wt : Nat} : OkBs dep wt [] := ⟨rfl, by simp [PyData.depthAll], by simp [PyData.weightAll], rfl, rfl⟩
theorem OkBs.cons {dep w1 w2 : Nat} {d : PyData} {ds : List PyData} (h : OkB dep w1 d) (r : OkBs dep w2 ds) : OkBs dep (w1 + 1 + w2) (d :: ds) := by
  refine ⟨?_, ?_, ?_, ?_, ?_⟩
  · simp only [PyData.canLayAll0, h.lay, r.lay, Bool.and_self]
  · simp only [PyData.depthAll]; exact Nat.max_le.mpr ⟨h.dp, r.dp⟩
  · simp only [PyData.weightAll]; have := h.wt; have := r.wt; omega
  · simp only [PyData.intsShortAll, h.sh, r.sh, Bool.and_self]
  · simp only [PyData.showableAll, h.sw, r.sw, Bool.and_self]
theorem OkBs.mono {dep wt d' w' : Nat} {ds : List PyData} (h : OkBs dep wt ds) (h1 : dep ≤ d') (h2 : wt ≤ w') : OkBs d' w' ds := ⟨h.lay, Nat.le_trans h.dp h1, Nat.le_trans h.wt h2, h.sh, h.sw⟩
theorem OkB.mono {dep wt d' w' : Nat} {d : PyData} (h : OkB dep wt d) (h1 : dep ≤ d') (h2 : wt ≤ w') : OkB d' w' d := ⟨h.lay, Nat.le_trans h.dp h1, Nat.le_trans h.wt h2, h.sh, h.sw⟩
theorem OkBs.cons' {dep w1 w2 w3 : Nat} {d : PyData} {ds : List PyData} (h : OkB dep w1 d) (r : OkBs dep w2 ds) (e : w1 + 1 + w2 ≤ w3) : OkBs dep w3 (d :: ds) := (OkBs.cons h r).mono (Nat.le_refl _) e
theorem OkBs.all {dep w n : Nat} {ds : List PyData} (h : ∀ d ∈ ds, OkB dep w d) (hn : ds.length ≤ n) : OkBs dep (n * (w + 1)) ds := by
  induction ds generalizing n with
  | nil => exact OkBs.nil
  | cons d ds ih =>
    cases n with
    | zero => simp at hn
    | succ m =>
      refine OkBs.cons' (h d List.mem_cons_self) (ih (n := m) (fun e he => h e (List.mem_cons_of_mem _ he)) (by simp at hn; omega)) ?_
      rw [Nat.succ_mul]; omega
theorem OkBs.tup {dep w : Nat} {ds : List PyData} (h : OkBs dep w ds) : OkB (dep + 1) w (.tuple ds) :=
  ⟨by simp only [PyData.canLay0, h.lay], by simp only [PyData.depth]; exact Nat.succ_le_succ h.dp, by simp only [PyData.weight]; exact h.wt, by simp only [PyData.intsShort, h.sh], by simp only [PyData.showable, h.sw]⟩
theorem OkBs.lst {dep w : Nat} {ds : List PyData} (h : OkBs dep w ds) : OkB (dep + 1) w (.list ds) :=
  ⟨by simp only [PyData.canLay0, h.lay], by simp only [PyData.depth]; exact Nat.succ_le_succ h.dp, by simp only [PyData.weight]; exact h.wt, by simp only [PyData.intsShort, h.sh], by simp only [PyData.showable, h.sw]⟩
structure OkD (d : PyData) : Prop where
  lay : d.layable0 = true
  sh : d.intsShort 13 = true
  sw : d.showable = true
theorem OkB.ok {dep w : Nat} {d : PyData} (h : OkB dep w d) (h1 : dep ≤ 64) (h2 : w ≤ 1048576) : OkD d := by
  refine ⟨?_, h.sh, h.sw⟩
  show (d.canLay0 && decide (d.depth ≤ 64) && decide (d.weight ≤ 2 ^ 20)) = true
  rw [h.lay, decide_eq_true (Nat.le_trans h.dp h1), decide_eq_true (Nat.le_trans h.wt (show w ≤ 2 ^ 20 by simpa using h2))]
  rfl
theorem OkD.depth {d : PyData} (h : OkD d) : d.depth ≤ 64 := SeqAt.depth_of_layable h.lay
section
variable {X : Cx} {k : Nat}
noncomputable def eqR (h : Heap) (e : PyData) (u : Value) : Bool := @decide (∃ d as, Reads h u d as ∧ d.canLay0 = true ∧ PyData.eqv d e = true) (Classical.propDecidable _)
theorem eqR_of {h : Heap} {e d : PyData} {u : Value} {as : List Addr} (r : Reads h u d as) (c : d.canLay0 = true) : eqR h e u = PyData.eqv d e := by
  unfold eqR
  cases q : PyData.eqv d e with
  | true => exact @decide_eq_true _ (Classical.propDecidable _) ⟨d, as, r, c, q⟩
  | false =>
    refine @decide_eq_false _ (Classical.propDecidable _) fun ⟨d', as', r', _, q'⟩ => ?_
    rw [SeqAt.Reads.unique d d' u as as' c r r', q'] at q
    cases q
theorem items_eqR {A : Around} {s : Shared} {e : PyData} {v : Value} {bs : List Addr} (rv : Reads s.heap v e bs) (ce : e.canLay0 = true) (hu : A.units + 64 < cLine) : ∀ {ds : List PyData} {us : List Value} {as : List Addr}, ReadsAll s.heap us ds as →
    PyData.canLayAll0 ds = true → PyData.depthAll ds ≤ 64 → (∀ u ∈ us, SeqAt.EqAt A s u v (eqR s.heap e u)) ∧ us.any (eqR s.heap e) = ds.any fun d => PyData.eqv d e
  | [], _, _, r, _, _ => by
    cases r
    exact ⟨(fun _ z => nomatch z), rfl⟩
  | d :: ds, _, _, r, c, dp => by
    cases r with
    | cons r1 r2 =>
      simp only [PyData.canLayAll0, Bool.and_eq_true] at c
      simp only [PyData.depthAll] at dp
      obtain ⟨i1, i2⟩ := items_eqR rv ce hu r2 c.2 (by omega)
      have e1 := eqR_of (e := e) r1 c.1
      refine ⟨fun u hu' => ?_, ?_⟩
      · rcases List.mem_cons.mp hu' with rfl | z
        · rw [e1]
          exact SeqAt.eqAt_reads d e A s _ v _ _ r1 rv c.1 ce (by omega)
        · exact i1 u z
      · rw [List.any_cons, List.any_cons, e1, i2]
end
end L2
namespace L2
open PySem PySem.Spec PyProof.Rows
section
variable {X : Cx} {pins : List (Addr × Obj)} {σ : St} {H : Hp} {s : Shared} {h' : Heap}
theorem Inv.turnedL {t' : Nat} {fp : List Addr} (I : Inv X pins σ H s) (k : ∀ b o, b ∉ fp → s.heap.get? b = some o → h'.get? b = some o) (hf : ∀ b ∈ fp, FpOk X pins H b) : Inv X pins σ H { s with heap := h', toks := t' } := by
  have nit : ∀ b u, H b = some u → b ∉ fp := fun b u e z => by rw [(hf b z).1] at e; cases e
  have nL : X.env.locals ∉ fp := fun z => (hf _ z).2.1 rfl
  refine I.step (g' := s.gens) (d' := s.drawn) (ch := fp) (fun b hb => ?_) (fun b o _ _ hc e _ => k b o hc e) (fun b o _ _ hc e _ => ⟨o.slots, k b o hc e⟩) (fun _ _ _ _ n => n)
    (fun b o hc e => ⟨o, k b o hc e⟩) (fun _ _ e => e) (fun _ _ _ e => e) (fun b ps e => ⟨#[], by rw [e]; simp⟩) (fun m hm => ?_) (fun b u e => ?_) I.bare
  · obtain ⟨_, f1, _, f3, f4, f5⟩ := hf b hb
    exact ⟨f3, f1, f4, f5⟩
  · obtain ⟨o, es, ep, ho, r⟩ := hm
    exact ⟨o, es, ep, k _ o nL ho, r⟩
  · refine (I.hok b u e).stay (fun c v hc q => k c v ?_ q) (fun _ q => q) fun _ _ q => q
    rcases hc with z | z
    · rw [z]; exact nit b u e
    · exact nit c _ z
theorem Inv.track {T : Addr} {o : HO} (I : Inv X pins σ H s) (hT : FpOk X pins H T) (new : ObjOk X.prog X.w (upd H T o) s.heap T o) : Inv X pins σ (upd H T o) s := by
  obtain ⟨f0, f1, _, f3, f4, f5⟩ := hT
  have nT : ∀ b u, H b = some u → b ≠ T := fun b u e z => by rw [z, f0] at e; cases e
  refine I.step (H' := upd H T o) (h' := s.heap) (g' := s.gens) (d' := s.drawn) (t' := s.toks) (ch := [T]) (fun b hb => ?_) (fun b o _ _ _ e _ => e) (fun b o _ _ _ e _ => ⟨o.slots, e⟩)
    (fun b u hc _ n => by rw [upd_ne (fun z => hc (by simp [z]))]; exact n) (fun b o _ e => ⟨o, e⟩) (fun b xs e => by rw [upd_ne (nT b _ e)]; exact e) (fun b u v e => by rw [upd_ne (nT b _ e)]; exact e)
    (fun b ps e => ⟨#[], by rw [upd_ne (nT b _ e), e]; simp⟩) (fun m hm => hm) (fun b u e => ?_) I.bare
  · have e : b = T := by simpa using hb
    subst e
    exact ⟨f3, f1, f4, f5⟩
  · by_cases hb : b = T
    · subst hb
      rw [upd_same] at e
      cases e
      exact new
    · rw [upd_ne hb] at e
      exact (I.hok b u e).stay (fun _ _ _ q => q) (fun c q => by rw [upd_ne (nT c _ q)]; exact q) fun c xs q => by rw [upd_ne (nT c _ q)]; exact q
end
def Ien (K : PySem.W.Frag) (a : Addr) : It :=
  ⟨fun i H => ∃ xs x, SqT K H a xs ∧ xs[i]? = some x,
   fun i H v H' => ∃ T x, H T = none ∧ v = .ref T ∧ H' = upd H T (.tup [.int i, x]) ∧ ∀ xs, SqT K H a xs → xs[i]? = some x,
   fun i H => ∃ xs, SqT K H a xs ∧ xs.length = i⟩
theorem turn_enum {P : Program} {w : World} {K : PySem.W.Frag} {elts : List Expr} {k : Nat} {pos : Pos} (a e it : Addr) (hei : e ≠ it) :
    Turn P w K (.Tuple elts k pos) (Ien K a) [e, it] e (fun i h => (∃ old, IsEnum h e it i old) ∧ h.IsTupleIter it a i) where
  mem := by simp
  obj := fun i h st b hb => by
    rcases List.mem_cons.mp hb with rfl | hb
    · obtain ⟨⟨old, he⟩, _⟩ := st
      exact ⟨_, he, fun v z => nomatch z⟩
    · have q : b = it := by simpa using hb
      subst q
      obtain ⟨_, o, e, c, d⟩ := st
      exact ⟨o, e, fun v z => by rw [d] at z; cases z⟩
  keep := fun i h h' st k => ⟨let ⟨old, he⟩ := st.1; ⟨old, k e (by simp) _ he⟩, st.2.at fun o q => k it (by simp) o q⟩
  item := by
    intro X hP hw hK hc i pins s σ H E I hf st hg
    subst hP hw hK
    obtain ⟨xs, x, hq, hx⟩ := hg
    obtain ⟨its, rv, p, hz⟩ := I.tuple hq
    obtain ⟨u, hu, ru⟩ := rv.get hx
    obtain ⟨⟨old, he⟩, hit⟩ := id st
    have hae : a ≠ e := by
      intro z; subst z
      obtain ⟨o, ho, hcl, _⟩ := p
      rw [he] at ho; cases ho
      exact absurd hcl (by intro z; injection z with z; exact absurd z (by decide))
    have hai : a ≠ it := by
      intro z; subst z
      obtain ⟨o, ho, hcl, _⟩ := p
      obtain ⟨o', ho', hcl', _⟩ := hit
      rw [ho] at ho'; cases ho'
      rw [hcl] at hcl'
      exact absurd hcl' (by intro z; injection z with z; exact absurd z (by decide))
    have W := WalksT.enumerateD (prog := X.prog) (w := X.w) (A := X.A) (L2_draws_tuple (A := X.A.in1) (I.ok.hd hc) it a hai its.toArray) e hei (by simp [hei, Ne.symm hae]) (by simp)
    refine W.item i s _ _ (by rw [List.size_toArray]; exact (List.getElem?_eq_some_iff.mp hu).1) ⟨⟨old, he⟩, hit, p⟩ fun T vals h' tk hv hT ht hm kk => ?_
    have apart := W.apart i T h' hm
    refine ⟨_, rfl, W.go elts k pos i T _ _ _ hm fun h'' st'' kk'' => ?_⟩
    obtain ⟨t, x', hx', rfl⟩ := hv
    have hxu : x' = u := by
      have : its[i]? = some x' := by simpa using hx'
      rw [hu] at this; exact (Option.some.inj this).symm
    subst hxu
    have I1 : Inv X pins σ H { s with heap := h', toks := tk } := I.turnedL kk hf
    have I2 : Inv X pins σ H { s with heap := h'', toks := tk } := I1.turnedL (s := { s with heap := h', toks := tk }) (t' := tk) kk'' hf
    have fT : FpOk X pins H T := I.fpOk hT (I.hok.fresh hT)
    have ht'' : IsTup h'' T #[.int i t, x'] := let ⟨o, ho, r⟩ := ht; ⟨o, kk'' T o apart ho, r⟩
    refine ⟨.ref T, upd H T (.tup [.int i, x]), I2.track fT ⟨by show 2 ≤ sizeLine; decide, [.int i t, x'], .cons ⟨t, rfl⟩ (.cons ru .nil), ht''⟩, rfl, ⟨T, x, fT.1, rfl, rfl, fun ys hy => by rw [I.tuple_inj hy hq]; exact hx⟩, ⟨st''.1, st''.2.1⟩, fun b hb => ?_⟩
    have hb' : b ≠ T := by
      rcases List.mem_cons.mp hb with rfl | hb
      · exact Nat.ne_of_lt (Nat.lt_of_lt_of_le (Heap.lt_size he) hT)
      · have q : b = it := by simpa using hb
        subst q
        obtain ⟨o, ho, _⟩ := hit
        exact Nat.ne_of_lt (Nat.lt_of_lt_of_le (Heap.lt_size ho) hT)
    rw [upd_ne hb']
    exact (hf b hb).1
  done := by
    intro X hP hw hK hc i pins s σ H E I hf st hg
    subst hP hw hK
    obtain ⟨xs, hq, hl⟩ := hg
    obtain ⟨its, rv, p, hz⟩ := I.tuple hq
    obtain ⟨⟨old, he⟩, hit⟩ := id st
    have hae : a ≠ e := by
      intro z; subst z
      obtain ⟨o, ho, hcl, _⟩ := p
      rw [he] at ho; cases ho
      exact absurd hcl (by intro z; injection z with z; exact absurd z (by decide))
    have hai : a ≠ it := by
      intro z; subst z
      obtain ⟨o, ho, hcl, _⟩ := p
      obtain ⟨o', ho', hcl', _⟩ := hit
      rw [ho] at ho'; cases ho'
      rw [hcl] at hcl'
      exact absurd hcl' (by intro z; injection z with z; exact absurd z (by decide))
    have W := WalksT.enumerateD (prog := X.prog) (w := X.w) (A := X.A) (L2_draws_tuple (A := X.A.in1) (I.ok.hd hc) it a hai its.toArray) e hei (by simp [hei, Ne.symm hae]) (by simp)
    have hn : its.toArray.size = i := by rw [List.size_toArray, ← rv.length]; exact hl
    subst hn
    exact W.done s _ _ ⟨⟨old, he⟩, hit, p⟩ fun h' tk kk => ⟨rfl, I.turnedL kk hf⟩
  self := fun A i s Q E st h => let ⟨⟨_, he⟩, _⟩ := st; wpAny_pyIter_enum he h
section
variable {X : Cx}
theorem for_of {J : It} {g : TG} {tb : TS} {D : Ends} {σ : St} {H : Hp} (n : Nat) (Pv : Nat → St → Hp → Prop) (h0 : Pv 0 σ H) (hgo : ∀ i σ H, i < n → Pv i σ H → J.go i H) (hstop : ∀ σ H, Pv n σ H → J.stop n H ∧ D.nx σ H)
    (hs : ∀ i x σ H H2, i < n → Pv i σ H → J.yld i H x H2 → g x σ H2 fun σ2 H3 => tb { D with nx := Pv (i + 1), ct := Pv (i + 1), bk := D.nx } σ2 H3) :
    ∃ W : Nat → Nat → St → Hp → Prop, (∃ m, W 0 m σ H) ∧ ∀ i m σ H, W i m σ H →
      (J.stop i H ∧ D.nx σ H) ∨ (J.go i H ∧ ∃ N : St → Hp → Prop, (∀ σ' H', N σ' H' → ∃ m', m' < m ∧ W (i + 1) m' σ' H') ∧ ∀ x H', J.yld i H x H' → g x σ H' fun σ2 H2 => tb { D with nx := N, ct := N, bk := D.nx } σ2 H2) := by
  refine ⟨fun i m σ H => m = n - i ∧ i ≤ n ∧ Pv i σ H, ⟨n, by simp, Nat.zero_le _, h0⟩, ?_⟩
  rintro i m σ H ⟨rfl, hi, p⟩
  by_cases hlt : i < n
  · exact .inr ⟨hgo i σ H hlt p, Pv (i + 1), fun σ' H' p' => ⟨n - (i + 1), by omega, rfl, hlt, p'⟩, fun x H' y => hs i x σ H H' hlt p y⟩
  · have e : i = n := by omega
    subst e
    exact .inl (hstop σ H p)
theorem op_mul_str01 : OpR X (binaryOp .Mult) (fun x y H Q => ∃ z n, x = .str z ∧ y = .int n ∧ (n = 0 ∨ n = 1) ∧ Q (.str (if n = 0 then Str.empty else z)) H) := by
  intro pins s σ H x y v u Q I rx ry h
  obtain ⟨z, n, rfl, rfl, hn, q⟩ := h
  obtain ⟨t, rfl⟩ := rx
  obtain ⟨t', rfl⟩ := ry
  rcases hn with rfl | rfl
  · exact P.mul_str_none (by decide) (by decide) ⟨.str Str.empty, H, I.tok _, ⟨_, rfl⟩, by simpa using q⟩
  · refine P.mul_str (by decide) (fun _ z => by simp at z) (fun _ z => by simp at z) ?_
    rw [if_neg (by decide), if_pos (by simp)]
    exact ⟨.str z, H, I, ⟨_, rfl⟩, by simpa using q⟩
end
theorem Same.tr {H H1 H2 : Hp} (a : Same H H1) (b : Same H1 H2) : Same H H2 := fun c o h => b c o (a c o h)
end L2
namespace L2
open PySem PySem.Spec PyProof.Rows
section
variable {X : Cx}
end
end L2
namespace HT
open PySem PySem.Spec PyProof.Rows
section
variable {prog : Program} {w : World} {A : Around} {E : Value → Shared → Prop} {s : Shared}
theorem getItem_tuple_all {t sl : Addr} {items : Array Value} {vl vu : Value} {lo hi : Option Int} {Q : Value → Shared → Prop} (ht : IsTup s.heap t items) (hs : s.heap.IsSliceOf sl vl vu .none) (pl : IsPart vl lo) (pu : IsPart vu hi)
    (hw : sIx items.size 0 lo = 0 ∧ sIx items.size items.size hi = items.size)
    (h : Q (.ref t) s) : wpAny (model prog w) A (getItem (.ref t) (.ref sl)) Q E s := by
  obtain ⟨os, hos, hcs, hds⟩ := id hs
  have hTs : s.TypeIs (.ref sl) "slice" := ⟨os, hos, hcs⟩
  unfold getItem
  try with_reducible refine wpAny_holding ?_
  first | refine wpAny_bind (wpAny_pure ?_) | skip
  refine wpAny_bind (wpAny_sequenceKey ht.typeIs (by decide) ?_)
  refine wpAny_bind (wpAny_callSpecial?_slot (name := Str.ofString "__getitem__") ht.typeIs PyProof.Rows.slot_tuple_getitem
    (wpAny_call_entry PyProof.Rows.slot_tuple_getitem ht.typeIs entry_tuple_getitem ?_ (args_tuple_getitem _ _)))
  show wpAny _ _ (Builtin.Tuple.tupleItemsOf (.ref t) >>= _) _ _ s
  refine wpAny_bind (tupleItemsOf_ ht ?_)
  refine wpAny_bind (wpAny_typeOf hTs ?_)
  rw [if_pos (by decide)]
  refine wpAny_bind (sliceApplied_gen hs pl pu ?_)
  have hyes : (((sIx items.size 0 lo : Nat) : Int) == 0 && (1 : Int) == 1 && (sIx items.size items.size hi - sIx items.size 0 lo) == items.size) = true := by
    rw [hw.1, hw.2]; simp
  show wpAny _ _ (if (((sIx items.size 0 lo : Nat) : Int) == 0 && (1 : Int) == 1 && (sIx items.size items.size hi - sIx items.size 0 lo) == items.size) = true then _ else _) _ _ s
  rw [if_pos hyes]
  unfold Builtin.Tuple.tupleIsExact
  refine wpAny_bind (wpAny_bind (wpAny_typeOf ht.typeIs (wpAny_pure ?_)))
  rw [if_pos (by decide)]
  refine wpAny_bind (wpAny_rule ?_)
  first
    | exact wpAny_pure ⟨_, rfl, wpAny_pure h⟩
    | exact wpAny_bind (wpAny_pure (wpAny_pure ⟨_, rfl, wpAny_pure h⟩))
    | exact wpAny_bind (wpAny_pure ⟨_, rfl, wpAny_pure h⟩)
end
end HT
namespace L2
open PySem PySem.Spec PyProof.Rows
section
variable {X : Cx}
theorem cutD_all {ds : List PyData} {lo hi : Option Int} (h : HT.sIx ds.length 0 lo = 0 ∧ HT.sIx ds.length ds.length hi = ds.length) : cutD ds lo hi = ds := by
  unfold cutD
  rw [h.1, h.2, List.drop_zero, Nat.sub_zero, List.take_of_length_le (Nat.le_refl _)]
end
end L2
namespace L2
open PySem PySem.Spec PyProof.Rows
section
variable {X : Cx}
def Iel (K : PySem.W.Frag) (a : Addr) : It :=
  ⟨fun i H => ∃ xs x, SqL K H a xs ∧ xs[i]? = some x,
   fun i H v H' => ∃ T x, H T = none ∧ v = .ref T ∧ H' = upd H T (.tup [.int i, x]) ∧ ∀ xs, SqL K H a xs → xs[i]? = some x,
   fun i H => ∃ xs, SqL K H a xs ∧ xs.length = i⟩
theorem turn_enumL {P : Program} {w : World} {K : PySem.W.Frag} {elts : List Expr} {k : Nat} {pos : Pos} (a e it : Addr) (hei : e ≠ it) :
    Turn P w K (.Tuple elts k pos) (Iel K a) [e, it] e (fun i h => (∃ old, IsEnum h e it i old) ∧ h.IsListIter it a i) where
  mem := by simp
  obj := fun i h st b hb => by
    rcases List.mem_cons.mp hb with rfl | hb
    · obtain ⟨⟨old, he⟩, _⟩ := st
      exact ⟨_, he, fun v z => nomatch z⟩
    · have q : b = it := by simpa using hb
      subst q
      obtain ⟨_, o, e, c, d⟩ := st
      exact ⟨o, e, fun v z => by rw [d] at z; cases z⟩
  keep := fun i h h' st k => ⟨let ⟨old, he⟩ := st.1; ⟨old, k e (by simp) _ he⟩, st.2.at fun o q => k it (by simp) o q⟩
  item := by
    intro X hP hw hK hc i pins s σ H E I hf st hg
    subst hP hw hK
    obtain ⟨xs, x, hq, hx⟩ := hg
    obtain ⟨its, rv, p, hz⟩ := I.list hq
    obtain ⟨u, hu, ru⟩ := rv.get hx
    obtain ⟨⟨old, he⟩, hit⟩ := id st
    have hae : a ≠ e := by
      intro z; subst z
      obtain ⟨o, ho, hcl, _⟩ := p.isList
      rw [he] at ho; cases ho
      exact absurd hcl (by intro z; injection z with z; exact absurd z (by decide))
    have hai : a ≠ it := by
      intro z; subst z
      obtain ⟨o, ho, hcl, _⟩ := p.isList
      obtain ⟨o', ho', hcl', _⟩ := hit
      rw [ho] at ho'; cases ho'
      rw [hcl] at hcl'
      exact absurd hcl' (by intro z; injection z with z; exact absurd z (by decide))
    have W := WalksT.enumerateD (prog := X.prog) (w := X.w) (A := X.A) (Draws.list (A := X.A.in1) (I.ok.hd hc) it a hai its.toArray) e hei (by simp [hei, Ne.symm hae]) (by simp)
    refine W.item i s _ _ (by rw [List.size_toArray]; exact (List.getElem?_eq_some_iff.mp hu).1) ⟨⟨old, he⟩, hit, p.isList⟩ fun T vals h' tk hv hT ht hm kk => ?_
    have apart := W.apart i T h' hm
    refine ⟨_, rfl, W.go elts k pos i T _ _ _ hm fun h'' st'' kk'' => ?_⟩
    obtain ⟨t, x', hx', rfl⟩ := hv
    have hxu : x' = u := by
      have : its[i]? = some x' := by simpa using hx'
      rw [hu] at this; exact (Option.some.inj this).symm
    subst hxu
    have I1 : Inv X pins σ H { s with heap := h', toks := tk } := I.turnedL kk hf
    have I2 : Inv X pins σ H { s with heap := h'', toks := tk } := I1.turnedL (s := { s with heap := h', toks := tk }) (t' := tk) kk'' hf
    have fT : FpOk X pins H T := I.fpOk hT (I.hok.fresh hT)
    have ht'' : IsTup h'' T #[.int i t, x'] := let ⟨o, ho, r⟩ := ht; ⟨o, kk'' T o apart ho, r⟩
    refine ⟨.ref T, upd H T (.tup [.int i, x]), I2.track fT ⟨by show 2 ≤ sizeLine; decide, [.int i t, x'], .cons ⟨t, rfl⟩ (.cons ru .nil), ht''⟩, rfl, ⟨T, x, fT.1, rfl, rfl, fun ys hy => by rw [I.list_inj hy hq]; exact hx⟩, ⟨st''.1, st''.2.1⟩, fun b hb => ?_⟩
    have hb' : b ≠ T := by
      rcases List.mem_cons.mp hb with rfl | hb
      · exact Nat.ne_of_lt (Nat.lt_of_lt_of_le (Heap.lt_size he) hT)
      · have q : b = it := by simpa using hb
        subst q
        obtain ⟨o, ho, _⟩ := hit
        exact Nat.ne_of_lt (Nat.lt_of_lt_of_le (Heap.lt_size ho) hT)
    rw [upd_ne hb']
    exact (hf b hb).1
  done := by
    intro X hP hw hK hc i pins s σ H E I hf st hg
    subst hP hw hK
    obtain ⟨xs, hq, hl⟩ := hg
    obtain ⟨its, rv, p, hz⟩ := I.list hq
    obtain ⟨⟨old, he⟩, hit⟩ := id st
    have hae : a ≠ e := by
      intro z; subst z
      obtain ⟨o, ho, hcl, _⟩ := p.isList
      rw [he] at ho; cases ho
      exact absurd hcl (by intro z; injection z with z; exact absurd z (by decide))
    have hai : a ≠ it := by
      intro z; subst z
      obtain ⟨o, ho, hcl, _⟩ := p.isList
      obtain ⟨o', ho', hcl', _⟩ := hit
      rw [ho] at ho'; cases ho'
      rw [hcl] at hcl'
      exact absurd hcl' (by intro z; injection z with z; exact absurd z (by decide))
    have W := WalksT.enumerateD (prog := X.prog) (w := X.w) (A := X.A) (Draws.list (A := X.A.in1) (I.ok.hd hc) it a hai its.toArray) e hei (by simp [hei, Ne.symm hae]) (by simp)
    have hn : its.toArray.size = i := by rw [List.size_toArray, ← rv.length]; exact hl
    subst hn
    exact W.done s _ _ ⟨⟨old, he⟩, hit, p.isList⟩ fun h' tk kk => ⟨rfl, I.turnedL kk hf⟩
  self := fun A i s Q E st h => let ⟨⟨_, he⟩, _⟩ := st; wpAny_pyIter_enum he h
end
end L2
namespace PySem
open Sem (wp)
open AutoSeq1 (wpAny_loadPart')
set_option maxRecDepth 100000
section
variable {prog : Program} {w : World} {K : Type} [DecidableEq K]
end
end PySem
namespace L2
open PySem PySem.Spec PyProof.Rows
section
variable {X : Cx}
end
end L2
namespace L2
open PySem PySem.Spec PyProof.Rows
section
variable {X : Cx} {K : PySem.W.Frag}
variable {o e : Expr} {es : List Expr} {to : TE} {t : TA} {name : Str} {apos cpos : Pos} {T id : String} {r : V → List V → Hp → VK → Prop}
end
end L2
namespace L2
open PySem PySem.Spec PyProof.Rows
def Cal (P : Program) (w : World) (K : PySem.W.Frag) (mg : Str → Option Value) (base : Heap) (n : Nat) (x : Str) (ps : List Str) (sp : Sp) : Prop :=
  ∃ g gd, FnOk P w K mg base CX0 n g gd ps sp ∧ Binds K gd ps [] ∧ PySem.W.keepIn K (.ref g) = true ∧ mg x = some (.ref g)
theorem Cal.mono {P : Program} {w : World} {K : PySem.W.Frag} {mg : Str → Option Value} {base : Heap} {n m : Nat} {x : Str} {ps : List Str} {sp : Sp} (c : Cal P w K mg base n x ps sp) (h : n ≤ m) : Cal P w K mg base m x ps sp :=
  let ⟨g, gd, G, r⟩ := c; ⟨g, gd, G.mono h, r⟩
end L2
namespace L2
open PySem PySem.Spec PySem.Calls PyProof.Rows
section
variable {prog : Program} {w : World} {A : Around} {E : Value → Shared → Prop} {s : Shared} {K : PySem.W.Frag} {x C : Addr} {ox : Obj} {od : Option Obj} {name : Str}
theorem xga_call {tk : Tok} {R : Result → Shared → Prop} (X : K.In s.heap) (I : PySem.W.InstAt s.heap x ox C od) (hm : PySem.W.mroIn K C (.type "BaseException") = some true)
    (h : wpAny (model prog w) A.in1 (Builtin.«object.__getattribute__» ⟨[.ref x, .str name tk], []⟩)
      (fun fin s' => match fin with | .done f => R (.ok f) s' | .again c' => c'.quiet = true ∧ codeAny (model prog w) A c' R s') (fun e s' => R (.error e) s') s) :
    codeAny (model prog w) A (.call (.builtin "BaseException.__getattribute__") ⟨[.ref x, .str name tk], []⟩) R s := by
  have hk : builtinKind "BaseException.__getattribute__" = some .slot := by decide +kernel
  have hs : splitId "BaseException.__getattribute__" = some ("BaseException", "__getattribute__") := by decide +kernel
  have sub : PySem.W.Looks (model prog w) s.heap (isInstance (.ref x) (.type "BaseException")) true := I.type.andThen (PySem.W.looks_mroIn X hm)
  exact codeAny_call_builtin F.excAttr_ValueError.ga.plain F.entry_bexc_ga (@PySem.W.check_slot (model prog w) _ _ s "BaseException.__getattribute__" "BaseException" "__getattribute__" (.ref x) [.str name tk] [] _ hk hs sub (F.args_bexc_ga _ _) h)
theorem xga_value {tk : Tok} {v : Value} {R : Result → Shared → Prop} (X : K.In s.heap) (I : PySem.W.InstAt s.heap x ox C od) (hm : PySem.W.mroIn K C (.type "BaseException") = some true)
    (hf : PySem.W.findObj K C od name = some (.value v)) (h : R (.ok (.ret v)) s) :
    codeAny (model prog w) A (.call (.builtin "BaseException.__getattribute__") ⟨[.ref x, .str name tk], []⟩) R s := by
  refine xga_call X I hm ?_
  obtain ⟨hh, g, d, t, os⟩ := s
  have L0 := I.type (M := model prog w)
  have L1 := PySem.W.looks_find (M := model prog w) X I hf
  refine wpAny_bind (wpAny_pure (wpAny_bind (wpAny_pure (wpAny_bind (L0.at (wpAny_bind (L1.at ?_)))))))
  exact wpAny_pure h
theorem xga_bind {tk : Tok} {g a : Value} {R : Result → Shared → Prop} (X : K.In s.heap) (I : PySem.W.InstAt s.heap x ox C od) (hm : PySem.W.mroIn K C (.type "BaseException") = some true)
    (hf : PySem.W.findObj K C od name = some (.bind g a)) (h : wpAny (model prog w) A.in1 (call g [a, .ref x, .ref C]) (fun v s' => R (.ok (.ret v)) s') (fun e s' => R (.error e) s') s) :
    codeAny (model prog w) A (.call (.builtin "BaseException.__getattribute__") ⟨[.ref x, .str name tk], []⟩) R s := by
  refine xga_call X I hm ?_
  obtain ⟨hh, gg, d, t, os⟩ := s
  have L0 := I.type (M := model prog w)
  have L1 := PySem.W.looks_find (M := model prog w) X I hf
  refine wpAny_bind (wpAny_pure (wpAny_bind (wpAny_pure (wpAny_bind (L0.at (wpAny_bind (L1.at ?_)))))))
  show wpAny _ _ (holding [a] (call g [a, .ref x, .ref C]) >>= ret) _ _ _
  exact wpAny_bind (wpAny_holding (wpAny_mono h (fun v s' z => wpAny_pure z) fun _ _ z => z))
theorem xget_by {tk : Tok} {fill expr : Bool} {Q : Value → Shared → Prop} (X : K.In s.heap) (I : PySem.W.InstAt s.heap x ox C od)
    (hga : PySem.W.findIn K (.ref C) "__getattribute__" = some (some (.builtin "BaseException.__getattribute__"))) (hgn : PySem.W.findIn K (.ref C) "__getattr__" = some none)
    (h : codeAny (model prog w) A (.call (.builtin "BaseException.__getattribute__") ⟨[.ref x, .str name tk], []⟩) (fun r s' => match r with | .ok (.ret v) => wpAny (model prog w) A (handedOut v) Q E s' | _ => False) s) :
    wpAny (model prog w) A (getAttrBy (.ref x) (.str name tk) fill expr) Q E s := by
  obtain ⟨hh, g, d, t, os⟩ := s
  have L0 := I.type (M := model prog w)
  have L1 := PySem.W.looks_findIn (M := model prog w) X hga
  have L2 := PySem.W.looks_findIn (M := model prog w) X hgn
  have f3 := F.excAttr_ValueError.ga.bind (.ref x)
  have hx2 : (Value.builtin "BaseException.__getattribute__" == Value.builtin "object.__getattribute__") = false := by decide +kernel
  unfold getAttrBy
  refine wpAny_holding (wpAny_bind (L0.at (wpAny_bind (L1.at ?_))))
  show wpAny _ _ (if (onTheHeap (Value.ref C) && Value.builtin "BaseException.__getattribute__" == Value.builtin "object.__getattribute__") = true then _ else _) _ _ _
  rw [hx2, Bool.and_false, if_neg Bool.false_ne_true]
  unfold getAttrByItsOwn
  refine wpAny_bind (L2.at (wpAny_bind (wpAny_attempt (wpAny_holding ?_))))
  unfold callGetattribute boundAndCalled
  rw [show (expr && onTheHeap (Value.builtin "BaseException.__getattribute__")) = false by cases expr <;> rfl, if_neg Bool.false_ne_true, f3]
  refine wpAny_bind (wpAny_pure (wpAny_call (codeAny_mono h fun r s' z => ?_)))
  rcases r with e | (v | _ | _ | _) <;> first | exact z | exact z.elim
theorem xget_value {expr : Bool} {v : Value} {Q : Value → Shared → Prop} (X : K.In s.heap) (I : PySem.W.InstAt s.heap x ox C od) (hm : PySem.W.mroIn K C (.type "BaseException") = some true)
    (hga : PySem.W.findIn K (.ref C) "__getattribute__" = some (some (.builtin "BaseException.__getattribute__"))) (hgn : PySem.W.findIn K (.ref C) "__getattr__" = some none)
    (hf : PySem.W.findObj K C od name = some (.value v)) (hh : PySem.W.handedIn v = true) (h : Q v { s with toks := s.toks + 1 }) : wpAny (model prog w) A (getAttr (.ref x) name expr) Q E s := by
  unfold getAttr
  refine wpAny_bind (wpAny_mkText ?_)
  exact xget_by (s := { s with toks := s.toks + 1 }) X I hga hgn (xga_value (s := { s with toks := s.toks + 1 }) X I hm hf (PySem.W.handed_on hh h))
end
end L2
namespace L2
open PySem PySem.Spec PySem.Calls PyProof.Rows
abbrev bmV : List Value := [.type "ValueError", .type "Exception", .type "BaseException", .type "object"]
def xcIn (K : PySem.W.Frag) (C : Addr) : Bool := match K.lookup C with
  | some ⟨.type "type", _, .cls cd, sl⟩ => (match cd.mro, sl.toList with
    | .ref C' :: bm, [_, _, _, _, some (.builtin n), _] => C' == C && n == "ValueError.__new__" && !cd.hasDel && PySem.W.tailIn K bmV bm
    | _, _ => false)
  | _ => false
theorem xc_of {K : PySem.W.Frag} {h : Heap} {C : Addr} (X : K.In h) (q : xcIn K C = true) : ∃ nm qn N bs bm hdct sn sub ab col dd k0 k1 k2 k3 k5,
    h.get? C = some (excClassObj nm qn C N bs bm hdct sn sub ab col dd k0 k1 k2 k3 k5 "ValueError.__new__") ∧ OwnTail h bmV bm := by
  unfold xcIn at q
  split at q
  · rename_i dd cd sl ho
    split at q
    · rename_i C' bm k0 k1 k2 k3 n k5 hm hs
      simp only [Bool.and_eq_true, beq_iff_eq, Bool.not_eq_true'] at q
      obtain ⟨⟨⟨rfl, rfl⟩, hdel⟩, ht⟩ := q
      obtain ⟨nm, bs, mro, ns, qn, hd, sn, sub, ab, col, del⟩ := cd
      dsimp only at hm hdel
      subst hm hdel
      have hsl : sl = #[k0, k1, k2, k3, some (.builtin "ValueError.__new__"), k5] := by
        obtain ⟨l⟩ := sl
        simp only at hs
        rw [hs]
      subst hsl
      exact ⟨nm, qn, ns, bs, bm, hd, sn, sub, ab, col, dd, k0, k1, k2, k3, k5, X _ _ ho, PySem.W.tail_of_in X ht⟩
    · cases q
  · cases q
def excObj (C t : Addr) (d : Option Addr) : Obj := { cls := .ref C, dict := d, data := .fields #[.ref t, .none, .none, .none, .bool false, .none] }
def excHeap (h : Heap) (C : Addr) (rest : List Value) : Heap := (h.push { cls := .type "tuple", data := .seq rest.toArray }).push (excObj C h.objs.size none)
section
variable {prog : Program} {w : World} {A : Around} {E : Value → Shared → Prop} {h : Heap} {g : Array GenState} {d : Drawn} {t : Nat} {os : OsState} {K : PySem.W.Frag} {C : Addr}
theorem xtype_call {rest : List Value} {fI : Addr} {Q : Fin → Shared → Prop} (X : K.In h) (q : xcIn K C = true) (hi : PySem.W.findIn K (.ref C) "__init__" = some (some (.ref fI))) (hf : PySem.W.typeIn K (.ref fI) = some (.type "function"))
    (hq : wpAny (model prog w) A (call (.ref fI) (.ref (h.objs.size + 1) :: rest)) (fun r s' => r = .none ∧ Q (.done (.ret (.ref (h.objs.size + 1)))) s') E ⟨excHeap h C rest, g, d, t, os⟩) (hrest : rest.length ≤ sizeLine) :
    wpAny (model prog w) A (Builtin.«type.__call__» ⟨.ref C :: rest, []⟩) Q E ⟨h, g, d, t, os⟩ := by
  obtain ⟨nm, qn, N, bs, bm, hdct, sn, sub, ab, col, dd, k0, k1, k2, k3, k5, hC, T⟩ := xc_of X q
  have Fn := F.excBase_ValueError
  repeat (first | with_reducible refine wpAny_loadPart_at hC ?_ | with_reducible refine wpAny_madeBy_exc hC ?_ | wp_step)
  refine codeAny_call_builtin_code (Code.quiet_builtin _ Fn.quiet) (wpAny_check_new_subU (bmB := bmV) Fn (by decide +kernel) T hC ?_)
  refine codeAny_exc_new_subU (bmB := bmV) Fn (by decide +kernel) Fn T hC ?_ hrest
  show wpAny _ _ _ _ _ ⟨excHeap h C rest, g, d, t, os⟩
  have kk : ∀ b o, h.get? b = some o → (excHeap h C rest).get? b = some o := fun b o e => Heap.get?_push_of_some _ (Heap.get?_push_of_some _ e)
  have hC₁ := kk _ _ hC
  have hget : (excHeap h C rest).get? (h.objs.size + 1) = some (excObj C h.objs.size none) := by
    unfold excHeap
    exact Heap.get?_push_at (by simp only [Heap.size_push]) rfl
  have hcC : (Value.ref C :: bm).contains (.ref C) = true := by simp
  have X₁ : K.In (excHeap h C rest) := fun b o e => kk b o (X b o e)
  have L1 := PySem.W.looks_findIn (M := model prog w) X₁ hi
  have L2 := PySem.W.bind_fn (M := model prog w) X₁ (.ref (h.objs.size + 1)) hf
  generalize excHeap h C rest = h₁ at hC₁ hget L1 L2 hq ⊢
  unfold isInstance
  have hcl : (excObj C h.objs.size none).cls = .ref C := rfl
  repeat (first | (with_reducible refine wpAny_loadPart_at hget ?_; rw [hcl]) | (with_reducible refine wpAny_isSubtype_exc hC₁ ?_; rw [hcC]) | wp_step)
  show wpAny _ _ (typeLookup (.ref C) _) _ _ _
  refine L1.at ?_
  refine wpAny_holding (wpAny_bind (L2.at ?_))
  refine wpAny_bind (wpAny_mono hq (fun r s' hr => ?_) fun _ _ x => x)
  obtain ⟨rfl, hQ⟩ := hr
  wp_walk
  exact hQ
theorem xmake {rest : List Value} {fI : Addr} {Q : Value → Shared → Prop} (X : K.In h) (q : xcIn K C = true) (hi : PySem.W.findIn K (.ref C) "__init__" = some (some (.ref fI))) (hf : PySem.W.typeIn K (.ref fI) = some (.type "function"))
    (hq : wpAny (model prog w) (A.under (.builtin "type.__call__" ⟨.ref C :: rest, []⟩)) (call (.ref fI) (.ref (h.objs.size + 1) :: rest)) (fun r s' => r = .none ∧ Q (.ref (h.objs.size + 1)) s') E ⟨excHeap h C rest, g, d, t, os⟩) (hrest : rest.length ≤ sizeLine) :
    wpAny (model prog w) A (call (.ref C) rest) Q E ⟨h, g, d, t, os⟩ := by
  obtain ⟨nm, qn, N, bs, bm, hdct, sn, sub, ab, col, dd, k0, k1, k2, k3, k5, hC, T⟩ := xc_of X q
  have f1 := tc_lookup
  have f2 := tc_bind (.ref C)
  have hT : (⟨h, g, d, t, os⟩ : Shared).TypeIs (.ref C) "type" := ⟨_, hC, rfl⟩
  refine wpAny_call (codeAny_of_tree ?_)
  show wpAny _ _ (callAny (.ref C) _) _ _ _
  repeat (any_goals (first | assumption | with_reducible refine wpAny_loadPart_at hC ?_ | wp_step))
  refine ⟨rfl, ?_⟩
  exact codeAny_call_builtin_at (Code.quiet_builtin _ (by decide +kernel)) entry_typeCall (wpAny_check_type_call_sub hC (xtype_call X q hi hf hq hrest))
end
def isRf : Value → Bool
  | .ref _ => true
  | _ => false
theorem refuse_drop (self : Value) (what : Str) : ∀ l : List Value, refuseLoop self what l = refuseLoop self what (l.dropWhile isRf)
  | [] => rfl
  | v :: r => by
    cases v with
    | ref c =>
      rw [refuseLoop_ref, refuse_drop self what r]
      rfl
    | _ => rfl
def veOver (K : PySem.W.Frag) (C : Addr) : Bool := (PySem.W.clsIn K C).any fun cd => cd.mro.dropWhile isRf == bmV && !cd.mro.isEmpty && cd.mro.contains (.type "object")
section
open Builtin Builtin.ObjectAttr
variable {prog : Program} {w : World} {A : Around} {E : Value → Shared → Prop} {s : Shared} {K : PySem.W.Frag} {x C : Addr} {ox : Obj} {od : Option Obj} {name : Str} {v : Value} {R : Result → Shared → Prop}
theorem xset_open {tk : Tok} (X : K.In s.heap) (I : PySem.W.InstAt s.heap x ox C od) (hp : veOver K C = true) (ha : PySem.W.findIn K (.ref C) name = some none)
    (h : wpAny (model prog w) A.in1 (storeInOwnDict (.ref x) (.ref C) (.str name tk) name v false)
      (fun fin s' => match fin with | .done f => R (.ok f) s' | .again c' => c'.quiet = true ∧ codeAny (model prog w) A c' R s') (fun e s' => R (.error e) s') s) :
    codeAny (model prog w) A (.call (.builtin "object.__setattr__") ⟨[.ref x, .str name tk, v], []⟩) R s := by
  have SF := PySem.F.store_object
  obtain ⟨cd, hc, ho⟩ := PySem.W.any_some hp
  simp only [Bool.and_eq_true, beq_iff_eq, Bool.not_eq_true'] at ho
  obtain ⟨⟨h1, ne⟩, h3⟩ := ho
  have sub : PySem.W.Looks (model prog w) s.heap (isInstance (.ref x) (.type "object")) true := I.type.andThen (PySem.W.looks_mroIn X (by unfold PySem.W.mroIn; rw [hc, Option.bind_some, if_neg (by rw [ne]; decide), h3]))
  refine codeAny_call_builtin SF.slot.plain SF.entry (@PySem.W.check_slot (model prog w) _ _ s "object.__setattr__" "object" "__setattr__" (.ref x) [.str name tk, v] [] _ SF.kind SF.split sub (SF.args (.ref x) (.str name tk) v) ?_)
  have hm : PySem.W.Looks (model prog w) s.heap (mroOf (.ref C)) cd.mro := (PySem.W.looks_clsIn X hc).andThen .now
  rw [PySem.W.osa_eq, refuse_eq]
  refine wpAny_bind (wpAny_bind (I.type.here (wpAny_bind (hm.here ?_))))
  rw [refuse_drop, h1, F.store_ValueError.passes]
  refine wpAny_pure (wpAny_bind (I.type.here (wpAny_bind ((PySem.W.looks_findIn X ha).here (wpAny_bind (wpAny_pure ?_))))))
  exact h
end
end L2
namespace L2
open PySem PySem.Spec PySem.Calls PyProof.Rows
def XO (e C t : Addr) (d : Option Addr) : HO := .ext fun h => h.get? e = some (excObj C t d)
def XD (dx : Addr) (fs : List (Str × V)) : HO := .ext fun h => ∃ mA, h.Ns1 dx mA ∧ (∀ f, RelO (fs.lookup f) (mA f)) ∧ PySem.Within mA (fs.map (·.1))
section
variable {P : Program} {w : World} {H : Hp} {h : Heap} {e C t dx : Addr} {d : Option Addr} {fs : List (Str × V)}
theorem xo_ok (hx : h.get? e = some (excObj C t d)) : ObjOk P w H h e (XO e C t d) := ⟨hx, ⟨_, hx⟩, fun _ _ p k => k _ p⟩
theorem xo_get (ok : HOk P w H h) (q : H e = some (XO e C t d)) : h.get? e = some (excObj C t d) := (show ObjOk P w H h e (XO e C t d) from ok e _ q).1
theorem xd_ok {mA : Str → Option Value} (n : h.Ns1 dx mA) (r : ∀ f, RelO (fs.lookup f) (mA f)) (wi : PySem.Within mA (fs.map (·.1))) : ObjOk P w H h dx (XD dx fs) :=
  ⟨⟨mA, n, r, wi⟩, (let ⟨o, _, _, q, _⟩ := n; ⟨o, q⟩), fun _ _ ⟨mB, n, r⟩ k => ⟨mB, n.at k, r⟩⟩
theorem xd_get (ok : HOk P w H h) (q : H dx = some (XD dx fs)) : ∃ mA, h.Ns1 dx mA ∧ (∀ f, RelO (fs.lookup f) (mA f)) ∧ PySem.Within mA (fs.map (·.1)) := (show ObjOk P w H h dx (XD dx fs) from ok dx _ q).1
theorem xo_inst (hx : h.get? e = some (excObj C t none)) : PySem.W.InstAt h e (excObj C t none) C none := ⟨hx, rfl, rfl, trivial⟩
theorem xo_instD {mA : Str → Option Value} (hx : h.get? e = some (excObj C t (some dx))) (n : h.Ns1 dx mA) : ∃ od, PySem.W.InstAt h e (excObj C t (some dx)) C (some od) ∧ ∀ name, PySem.W.lookIn name od = some (mA name) :=
  let ⟨od, ho, hl⟩ := lookIn_ns n
  ⟨od, ⟨hx, rfl, rfl, ho⟩, hl⟩
end
structure XCls (K : PySem.W.Frag) (C : Addr) : Prop where
  ga : PySem.W.findIn K (.ref C) "__getattribute__" = some (some (.builtin "BaseException.__getattribute__"))
  gn : PySem.W.findIn K (.ref C) "__getattr__" = some none
  sa : PySem.W.findIn K (.ref C) "__setattr__" = some (some (.builtin "object.__setattr__"))
  hd : PySem.W.hasDictIn K C = true
  mb : PySem.W.mroIn K C (.type "BaseException") = some true
  mo : PySem.W.mroIn K C (.type "object") = some true
  ve : veOver K C = true
section
variable {X : Cx} {pins : List (Addr × Obj)} {σ : St} {H : Hp} {s : Shared} {e C t dx : Addr} {fs : List (Str × V)} {f : Str} {v : V} {A : Around} {E : Value → Shared → Prop}
theorem upd3 {H : Hp} {a b : Addr} {o1 o2 o3 : HO} : upd (upd (upd H a o1) b o2) a o3 = upd (upd H b o2) a o3 := by
  funext c
  unfold upd
  by_cases h : c = a
  · rw [if_pos h, if_pos h]
  · rw [if_neg h, if_neg h, if_neg h]
theorem xset1 {y : V} {u : Value} {Q : Unit → Shared → Prop} (I : Inv X pins σ H s) (he : H e = some (XO e C t none)) (c : XCls X.K C) (n : NoAttr X.K C f) (ry : RelV y u)
    (h : ∀ dx s', H dx = none → dx ≠ e → Inv X pins σ (upd (upd H e (XO e C t (some dx))) dx (XD dx [(f, y)])) s' → Q () s') : wpAny (model X.prog X.w) A (setAttr (.ref e) f u) Q E s := by
  have hx := xo_get I.hok he
  have J := xo_inst hx
  refine PySem.W.set_plain I.kIn J c.sa (xset_open (s := { s with toks := s.toks + 1 }) I.kIn J c.ve n ?_)
  obtain ⟨cd, hc, hd'⟩ := PySem.W.any_some c.hd
  have hx' : s.heap.get? e = some ⟨.ref C, none, .fields #[.ref t, .none, .none, .none, .bool false, .none], #[]⟩ := hx
  refine wpAny_bind (wpAny_pure (wpAny_bind (wpAny_bind (wpAny_loadPart hx' (wpAny_bind (PySem.W.Looks.here (s := { s with toks := s.toks + 1 }) (PySem.W.looks_clsIn I.kIn hc) ?_))))))
  rw [hd']
  have hx1 : (s.heap.push { cls := .type "dict", data := .dict #[] }).get? e = some (excObj C t none) := Heap.get?_push_of_some _ hx
  have hes : e ≠ s.heap.objs.size := Nat.ne_of_lt (Heap.lt_size hx)
  show wpAny _ _ (if (!true || !typeHasDict (Value.ref C)) = true then _ else _) _ _ _
  rw [if_neg (by simp [typeHasDict])]
  refine wpAny_bind (wpAny_alloc' ?_)
  refine wpAny_bind (wpAny_update' hx1 ?_)
  refine wpAny_pure ?_
  have hx2 : ((s.heap.push { cls := .type "dict", data := .dict #[] }).update e fun o => { cls := o.cls, dict := some s.heap.objs.size, data := o.data, slots := o.slots }).get? e = some (excObj C t (some s.heap.objs.size)) := Heap.get?_update_self _ hx1 rfl
  have hgd : ((s.heap.push { cls := .type "dict", data := .dict #[] }).update e fun o => { cls := o.cls, dict := some s.heap.objs.size, data := o.data, slots := o.slots }).get? s.heap.objs.size
      = some { cls := .type "dict", data := .dict #[] } := (Heap.get?_update_ne _ _ _ _ hes.symm).trans (Heap.get?_push_at rfl rfl)
  have hnd : ((s.heap.push { cls := .type "dict", data := .dict #[] }).update e fun o => { cls := o.cls, dict := some s.heap.objs.size, data := o.data, slots := o.slots }).Ns s.heap.objs.size (fun _ => none) :=
    ⟨_, #[], _, hgd, rfl, fun e he => absurd he (by simp), fun _ => rfl⟩
  have hkeep : ∀ b o, b ≠ e → (s.heap.push { cls := .type "dict", data := .dict #[] }).get? b = some o → ((s.heap.push { cls := .type "dict", data := .dict #[] }).update e fun o => { cls := o.cls, dict := some s.heap.objs.size, data := o.data, slots := o.slots }).get? b = some o :=
    fun b o hb q => (Heap.get?_update_ne _ _ _ _ hb).trans q
  have hn0 : (s.heap.push { cls := .type "dict", data := .dict #[] }).Ns s.heap.objs.size (fun _ => none) := ⟨_, #[], _, Heap.get?_push_at rfl rfl, rfl, fun e he => absurd he (by simp), fun _ => rfl⟩
  have fr := I.hok.fresh (Nat.le_refl s.heap.objs.size)
  have I1 := I.laid (a := s.heap.objs.size) (o := XD s.heap.objs.size []) (h' := s.heap.push { cls := .type "dict", data := .dict #[] }) (t' := s.toks) (fun b u q => Heap.get?_push_of_some _ q) (Nat.le_refl _) (xd_ok (Heap.Ns1.of_empty hn0) (fun _ => True.intro) fun y hy => absurd rfl hy)
  generalize hH2 : (s.heap.push { cls := .type "dict", data := .dict #[] }).update e (fun o => { cls := o.cls, dict := some s.heap.objs.size, data := o.data, slots := o.slots }) = h2 at hx2 hgd hnd hkeep ⊢
  have I2 := I1.write (x := e) (e := e) (o := XO e C t (some s.heap.objs.size)) (h' := h2) (t' := s.toks) (by rw [upd_ne hes, he]; exact True.intro) (.inl rfl) hkeep ⟨_, hx2⟩ (xo_ok hx2)
  show wpAny _ _ (Builtin.ObjectAttr.storeInDict s.heap.objs.size (.str f s.toks) f u) _ _ _
  unfold Builtin.ObjectAttr.storeInDict Builtin.ObjectAttr.newKeyGuard
  refine wpAny_bind (wpAny_pure (wpAny_bind (wpAny_nsSet1 (Heap.Ns1.of_empty hnd) fun h' hn' hs => ?_)))
  obtain ⟨oD, esD, epD, hoD, hdD, hcD⟩ := hn'.count (PySem.Within.cons f u PySem.Within.nil)
  refine wpAny_bind (wpAny_lookBehind hoD (by rw [hdD]; exact pastItsLine_dict (Nat.le_trans hcD (by rw [List.length_cons, List.length_nil, sizeLine_eq]; omega))) ?_)
  refine wpAny_pure ?_
  refine h s.heap.objs.size _ fr hes.symm ?_
  rw [← upd3 (o1 := XD s.heap.objs.size [])]
  refine I2.write (x := s.heap.objs.size) (e := s.heap.objs.size) (by rw [upd_ne hes.symm, upd_same]; exact True.intro) (.inl rfl) (fun b o hb q => (hs.2 b hb).trans q) ⟨_, hoD⟩ (xd_ok hn' (fun g => ?_) fun g hg => ?_)
  · show RelO (List.lookup g [(f, y)]) (if g = f then some u else none)
    by_cases q : g = f
    · rw [if_pos q, q]
      show RelO (List.lookup f [(f, y)]) (some u)
      have hb : (f == f) = true := beq_iff_eq.mpr rfl
      simp only [List.lookup, hb]
      exact ry
    · rw [if_neg q]
      have hb : (g == f) = false := beq_eq_false_iff_ne.mpr q
      simp only [List.lookup, hb]
      exact True.intro
  · by_cases q : g = f
    · rw [q]; exact List.mem_cons_self
    · exact absurd (show (if g = f then some u else none) = none by rw [if_neg q]) hg
theorem xset2 {y : V} {u : Value} {Q : Unit → Shared → Prop} (I : Inv X pins σ H s) (he : H e = some (XO e C t (some dx))) (hd : H dx = some (XD dx fs)) (hl : fs.length < 1000) (c : XCls X.K C) (n : NoAttr X.K C f) (ry : RelV y u)
    (h : ∀ s', Inv X pins σ (upd H dx (XD dx (putF f y fs))) s' → Q () s') : wpAny (model X.prog X.w) A (setAttr (.ref e) f u) Q E s := by
  have hx := xo_get I.hok he
  obtain ⟨mA, N, r, wi⟩ := xd_get I.hok hd
  obtain ⟨od, J, hlk⟩ := xo_instD hx N
  have hne : dx ≠ e := fun z => by
    subst z
    obtain ⟨o, es, ep, q, hd', _⟩ := N
    rw [hx] at q
    cases q
    cases hd'
  refine PySem.W.set_plain I.kIn J c.sa (xset_open (s := { s with toks := s.toks + 1 }) I.kIn J c.ve n ?_)
  obtain ⟨cd, hc, hd'⟩ := PySem.W.any_some c.hd
  have hx' : s.heap.get? e = some ⟨.ref C, some dx, .fields #[.ref t, .none, .none, .none, .bool false, .none], #[]⟩ := hx
  refine wpAny_bind (wpAny_pure (wpAny_bind (wpAny_bind (wpAny_loadPart hx' (wpAny_bind (PySem.W.Looks.here (s := { s with toks := s.toks + 1 }) (PySem.W.looks_clsIn I.kIn hc) ?_))))))
  rw [hd']
  refine wpAny_pure (a := some dx) (wpAny_bind (wpAny_pure (wpAny_bind ?_)))
  refine wpAny_nsSet1 (s := { s with toks := s.toks + 1 }) N fun h' hn' hs => ?_
  have hz : (fs.map (·.1)).length ≤ sizeLine := by rw [List.length_map, sizeLine_eq]; omega
  obtain ⟨oD, esD, epD, hoD, hdD, hcD⟩ := hn'.count (PySem.Within.cons f u wi)
  refine wpAny_bind (wpAny_lookBehind hoD (by rw [hdD]; exact pastItsLine_dict (Nat.le_trans hcD (by rw [List.length_cons, List.length_map, sizeLine_eq]; omega))) ?_)
  refine wpAny_pure (h _ ?_)
  refine I.write (x := dx) (e := dx) (by rw [hd]; exact True.intro) (.inl rfl) (fun b o hb q => (hs.2 b hb).trans q) ⟨_, hoD⟩ (xd_ok hn' (fun g => ?_) fun g hg => ?_)
  · show RelO ((putF f y fs).lookup g) (if g = f then some u else mA g)
    rw [lookup_putF]
    by_cases q : g = f
    · rw [if_pos q, if_pos q]; exact ry
    · rw [if_neg q, if_neg q]; exact r g
  · by_cases q : g = f
    · rw [q]; exact (keys_putF f y fs).1
    · refine (keys_putF f y fs).2 g (wi g fun z => hg ?_)
      show (if g = f then some u else mA g) = none
      rw [if_neg q]; exact z
end
end L2
namespace L2
open PySem PySem.Spec PySem.Calls PyProof.Rows
structure XMk (K : PySem.W.Frag) (C f : Addr) : Prop where
  xc : xcIn K C = true
  init : PySem.W.findIn K (.ref C) "__init__" = some (some (.ref f))
  fn : PySem.W.isFn K (.ref f) = true
  kp : PySem.W.keepIn K (.ref C) = true
def tXMake (C : Addr) (sp : Sp) (E : XK) (t : TA) : TE := fun σ H Q => t σ H fun vs H1 => vs.length ≤ 1000 ∧ ∀ x tp, H1 x = none → sp (.ref x :: vs) (upd H1 x (XO x C tp none)) (fun v H2 => v = .non ∧ Q (.ref x) H2) E
section
variable {X : Cx} {CX : CXT} {k : Nat} {f C : Addr} {fd : FuncData} {ps : List Str} {sp : Sp} {E : XK} {x : Str} {p pos pos' apos : Pos} {e o value : Expr} {es : List Expr} {t : TA} {ta tv : TE} {fl : Str}
theorem run_xmake {pins : List (Addr × Obj)} {σ : St} {H : Hp} {s : Shared} {Q : VK} {us : List Value} {vs : List V} (M : XMk X.K C f) (F : FnOk X.prog X.w X.K X.mg X.base CX k f fd ps sp) (hr : Room (k + 1) X.A) (hb : Binds X.K fd ps [])
    (hx : Passes CX X E) (I : Inv X pins σ H s) (r : Vals vs us) (hl : vs.length ≤ 1000)
    (h : ∀ x tp, H x = none → sp (.ref x :: vs) (upd H x (XO x C tp none)) (fun v H2 => v = .non ∧ Q (.ref x) H2) E) :
    wpAny (model X.prog X.w) X.A (call (.ref C) us) (EP X pins σ Q) X.xe s := by
  have hq := h (s.heap.objs.size + 1) s.heap.objs.size (I.hok.fresh (Nat.le_succ _))
  have I1 : Inv X pins σ H { s with heap := s.heap.push { cls := .type "tuple", data := .seq us.toArray } } := I.kept (t' := s.toks) fun b u q => Heap.get?_push_of_some _ q
  have hget : (excHeap s.heap C us).get? (s.heap.objs.size + 1) = some (excObj C s.heap.objs.size none) := by
    unfold excHeap
    exact Heap.get?_push_at (by simp only [Heap.size_push]) rfl
  have I2 : Inv X pins σ (upd H (s.heap.objs.size + 1) (XO (s.heap.objs.size + 1) C s.heap.objs.size none)) { s with heap := excHeap s.heap C us } :=
    I1.laid (a := s.heap.objs.size + 1) (t' := s.toks) (fun b u q => Heap.get?_push_of_some _ q) (Nat.le_of_eq (Heap.size_push _ _)) (xo_ok hget)
  have r2 : Vals (V.ref (s.heap.objs.size + 1) :: vs) (Value.ref (s.heap.objs.size + 1) :: us) := .cons rfl r
  have hl2 : (Value.ref (s.heap.objs.size + 1) :: us ++ []).length = ps.length := by
    have e := r2.length
    rw [F.len _ _ _ _ hq] at e
    rw [List.append_nil]
    exact e.symm
  have hrun := F.run _ X.stack _ _ ⟨Value.ref (s.heap.objs.size + 1) :: us, []⟩ (Value.ref (s.heap.objs.size + 1) :: us ++ []) _ _ E (hr.make C us []) (I2.env0.make C us []) (hb _ (Value.ref (s.heap.objs.size + 1) :: us) I2.kIn hl2) (by rw [List.append_nil]; exact r2) hq
  have hus : us.length ≤ sizeLine := by have := r.length; exact Nat.le_trans (by omega) (show 1000 ≤ sizeLine by decide)
  obtain ⟨hh, g, d, tt, os⟩ := s
  refine xmake I.kIn M.xc M.init (beq_iff_eq.mp M.fn) (wpAny_call (codeAny_mono hrun fun r s' hq' => ?_)) hus
  cases r with
  | error e => exact hx pins σ _ _ e s' I2 hq'
  | ok fl =>
    cases fl with
    | ret u =>
      obtain ⟨v, H', I3, rv, ev, q3⟩ := I2.after hq'
      subst ev
      exact ⟨rv, ⟨V.ref (hh.objs.size + 1), H', I3, rfl, q3⟩⟩
    | next => exact False.elim hq'
    | brk => exact False.elim hq'
    | cont => exact False.elim hq'
theorem pe_xmake (M : XMk X.K C f) (F : FnOk X.prog X.w X.K X.mg X.base CX k f fd ps sp) (hr : Room (k + 1) X.A) (hg : Gl X x) (hm : X.mg x = some (.ref C)) (hb : Binds X.K fd ps []) (hx : Passes CX X E)
    (ha : PA X (e :: es) t) (hdb : (x == ("__debug__" : Str)) = false := by decide) (he : starEach (e :: es) X.env = (false, eval e X.env) :: starEach es X.env := by rfl) (hpl : (backTo pos (starEach es X.env)).any (·.1) = false := by rfl) :
    PE X (.Call (.Name x p) (e :: es) [] pos) (tXMake C sp E t) := by
  intro pins s σ H Q I h
  refine wpAny_Call_Name_kw (ld_glob I hg hm ?_ hdb)
  refine PySem.W.callWith_K (h₀ := X.base) I.ok.mod.kin M.kp (thn (ha pos pins s σ H _ I h) fun us s1 ⟨vs, H1, I1, r, hl, q⟩ => ⟨I1.kIn, ?_⟩) he hpl
  exact run_xmake M F hr hb hx I1 r hl q
def sX1 (K : PySem.W.Frag) (ta tv : TE) (f : Str) : TS := fun D σ H => tv σ H fun y H1 => ta σ H1 fun x H2 => ∃ e C t, x = .ref e ∧ H2 e = some (XO e C t none) ∧ XCls K C ∧ NoAttr K C f ∧
  ∀ dx, H2 dx = none → dx ≠ e → D.nx σ (upd (upd H2 e (XO e C t (some dx))) dx (XD dx [(f, y)]))
def sX2 (K : PySem.W.Frag) (ta tv : TE) (f : Str) : TS := fun D σ H => tv σ H fun y H1 => ta σ H1 fun x H2 => ∃ e C t dx fs, x = .ref e ∧ H2 e = some (XO e C t (some dx)) ∧ H2 dx = some (XD dx fs) ∧ fs.length < 1000 ∧ XCls K C ∧ NoAttr K C f ∧
  D.nx σ (upd H2 dx (XD dx (putF f y fs)))
theorem ps_x1 (ha : PE X o ta) (hv : PE X value tv) (hs : swapsWith value (some (.Attribute o fl pos')) pos.line X.env = pure false) : PS X (.Assign [.Attribute o fl pos'] value pos) (sX1 X.K ta tv fl) := by
  intro pins s σ H D I h
  refine plainObj_wpAny_Assign_Attribute (thn (hv pins s σ H _ I h) fun u s1 ⟨y, H1, I1, ry, q⟩ => thn (ha pins s1 σ H1 _ I1 q) fun ov s2 ⟨x, H2, I2, rx, e, C, t, ex, ea, c, n, q2⟩ => ?_) hs
  subst ex
  obtain rfl : ov = Value.ref e := rx
  exact xset1 I2 ea c n ry fun dx s3 hdx hne I3 => ⟨σ, _, I3, q2 dx hdx hne⟩
theorem ps_x2 (ha : PE X o ta) (hv : PE X value tv) (hs : swapsWith value (some (.Attribute o fl pos')) pos.line X.env = pure false) : PS X (.Assign [.Attribute o fl pos'] value pos) (sX2 X.K ta tv fl) := by
  intro pins s σ H D I h
  refine plainObj_wpAny_Assign_Attribute (thn (hv pins s σ H _ I h) fun u s1 ⟨y, H1, I1, ry, q⟩ => thn (ha pins s1 σ H1 _ I1 q) fun ov s2 ⟨x, H2, I2, rx, e, C, t, dx, fs, ex, ea, ed, hl, c, n, q2⟩ => ?_) hs
  subst ex
  obtain rfl : ov = Value.ref e := rx
  exact xset2 I2 ea ed hl c n ry fun s3 I3 => ⟨σ, _, I3, q2⟩
end
structure XIs (K : PySem.W.Frag) (C : Addr) : Prop extends XCls K C where
  ca : PySem.W.findIn K (.ref C) "__class__" = some (some (.builtin "object.__class__"))
  cg : PySem.W.specialIn K (.builtin "object.__class__") "__get__" = some (some (.builtin "getset_descriptor.__get__"))
  ct : PySem.W.takesIn K (.builtin "object.__class__") = some true
theorem findObj_dataO {K : PySem.W.Frag} {C : Addr} {od : Option Obj} {name : Str} {a g : Value} (hc : (PySem.W.clsIn K C).isSome = true) (ha : PySem.W.findIn K (.ref C) name = some (some a)) (hg : PySem.W.specialIn K a "__get__" = some (some g)) (ht : PySem.W.takesIn K a = some true) : PySem.W.findObj K C od name = some (.bind g a) := by
  obtain ⟨cd, hc⟩ := Option.isSome_iff_exists.mp hc
  unfold PySem.W.findObj
  rw [hc, Option.bind_some, ha, Option.bind_some]
  dsimp only
  rw [hg, Option.bind_some]
  dsimp only
  rw [ht, Option.bind_some]
theorem xget_classO {prog : Program} {w : World} {A : Around} {E : Value → Shared → Prop} {s : Shared} {K : PySem.W.Frag} {x C : Addr} {ox : Obj} {od : Option Obj} {Q : Option Value → Shared → Prop} (X : K.In s.heap) (I : PySem.W.InstAt s.heap x ox C od) (c : XIs K C)
    (h : Q (some (.ref C)) { s with toks := s.toks + 1 }) : wpAny (model prog w) A (getAttr? (.ref x) "__class__") Q E s := by
  have hc : (PySem.W.clsIn K C).isSome = true := by obtain ⟨cd, hc, _⟩ := PySem.W.any_some c.hd; rw [hc]; rfl
  have hf : PySem.W.findObj K C od "__class__" = some (.bind (.builtin "getset_descriptor.__get__") (.builtin "object.__class__")) := findObj_dataO hc c.ca c.cg c.ct
  unfold getAttr? getAttrBy?
  refine wpAny_bind (wpAny_mkText (wpAny_bind (wpAny_attempt ?_)))
  refine xget_by (s := { s with toks := s.toks + 1 }) X I c.ga c.gn (xga_bind (s := { s with toks := s.toks + 1 }) X I c.mb hf ?_)
  exact wpAny_call (PySem.W.class_get (s := { s with toks := s.toks + 1 }) (ox := ox) (od := od) X I c.mo (PySem.W.handed_on rfl (wpAny_pure h)))
theorem kitx_exc {K : PySem.W.Frag} {x C : Addr} (c : XIs K C) : PySem.W.KitX K (.ref x) (.ref C) (fun h => ∃ ox od, PySem.W.InstAt h x ox C od) where
  ty := fun _ _ _ ⟨_, _, I⟩ => I.type
  it := fun _ _ X _ => by
    obtain ⟨cdD, hcD, _⟩ := PySem.W.any_some c.hd
    unfold PySem.W.clsIn at hcD
    split at hcD
    · rename_i c' d' cd' sl' ho
      intro A' Q' E' s' k q
      unfold isType loadHead
      exact wpAny_bind (wpAny_loadPart (k _ _ (X _ _ ho)) (wpAny_pure q))
    · cases hcD
  ne := fun h tp dd its n sl X htp => by
    obtain ⟨cdD, hcD, _⟩ := PySem.W.any_some c.hd
    refine Bool.eq_false_iff.mpr fun q => ?_
    have e : C = tp := Value.ref.inj (beq_iff_eq.mp q)
    subst e
    unfold PySem.W.clsIn at hcD
    split at hcD
    · rename_i c' d' cd' sl' ho
      have z := (X _ _ ho).symm.trans htp
      cases z
    · cases hcD
  ca := fun X ⟨_, _, I⟩ k => xget_classO X I c k
section
variable {X : Cx}
end
end L2
namespace L2
open PySem PySem.Spec PySem.Calls PyProof.Rows
structure ExcRec (h : Heap) (e : Addr) (cls : Value) (d : Option Addr) (vs : Array Value) : Prop where
  at_ : h.get? e = some ⟨cls, d, .fields vs, #[]⟩
  six : vs.size = 6
  tb : vs[1]? = some .none ∨ ∃ T oT ts, vs[1]? = some (.ref T) ∧ T ≠ e ∧ h.get? T = some oT ∧ oT.data = .fields ts ∧ ts[3]? = some .none
structure LeftBy (fs : List Addr) (e : Addr) (cls : Value) (d : Option Addr) (h h' : Heap) : Prop where
  size : h.objs.size ≤ h'.objs.size
  keep : ∀ b o, b ∉ fs → b ≠ e → h.get? b = some o → h'.get? b = some o
  slot : ∀ b o, b ∈ fs → h.get? b = some o → ∃ sl, h'.get? b = some { o with slots := sl }
  rc : ∃ vs, ExcRec h' e cls d vs ∧ vs[1]? ≠ some .none
  old : ∃ T, (∀ vs, ExcRec h' e cls d vs → vs[1]? = some (.ref T)) ∧ h.get? T = none
section
variable {M : Model} {A : Around} {E : Value → Shared → Prop} {s : Shared} {base : Heap} {env : Env} {outer : List Env} {L e : Addr} {cls : Value} {d : Option Addr} {vs : Array Value}
theorem mapF_at {o : Obj} (hd : o.data = .fields vs) (g : Array Value → Array Value) : o.mapFields g = ⟨o.cls, o.dict, .fields (g vs), o.slots⟩ := by
  obtain ⟨c, di, dt, sl⟩ := o
  dsimp only at hd
  subst hd; rfl
theorem leave_entry {head : Value} {hadNext : Bool} {Q : Unit → Shared → Prop} (hfr : A.frames = some (env :: outer)) (hl : s.heap.FunFrames base (env :: outer)) (hf : env.frame = some L) (he : s.heap.get? e = some ⟨cls, d, .fields vs, #[]⟩) (h6 : vs.size = 6)
    (h : ∀ h', LeftBy (frs (env :: outer)) e cls d s.heap h' → Q () { s with heap := h' }) :
    wpAny M A (do let fr ← frameOf env; let place ← entryPlaceOf L hadNext; let x ← EntryCells.newEntry head fr .none (rawInt L) .none place; setField (.ref e) 1 x) (fun _ s' => wpAny M A (setFlight (.ref e) none) Q E s') E s := by
  have hef : e ∉ frs (env :: outer) := fun hm => by
    obtain ⟨_, o, q, nf⟩ := hl.mem hm
    rw [he] at q; cases q
    exact nf vs rfl
  refine wpAny_bind (wpAny_frameOf_fun hfr hl hf fun h1 S1 => ?_)
  refine wpAny_bind (wpAny_entryPlaceOf fun pl ip => ?_)
  unfold EntryCells.newEntry newFields
  have he1 : h1.get? e = some ⟨cls, d, .fields vs, #[]⟩ := (S1.2.1 e hef).trans he
  have hT : h1.objs.size ≠ e := Nat.ne_of_gt (Heap.lt_size he1)
  refine wpAny_bind (wpAny_newObj_type ?_ (ip.sizeOk5 _ _ _ _ _))
  generalize hts : ([head, Value.ref L, Value.none, rawInt L, Value.none] ++ if pl.isEmpty = true then List.replicate 6 Value.none else pl).toArray = ts
  have hts5 : 5 ≤ ts.size := by rw [← hts]; simp
  have he2 := Heap.get?_push_of_some (h := h1) { cls := .type "traceback", dict := none, data := .fields ts } he1
  refine wpAny_setField he2 rfl (by rw [h6]; decide) ?_
  dsimp only
  have hd3 := Heap.get?_update_self (Obj.mapFields (·.setIfInBounds 1 (Value.ref h1.objs.size))) he2 rfl
  have hT3 : ((h1.push { cls := .type "traceback", dict := none, data := .fields ts }).update e (Obj.mapFields (·.setIfInBounds 1 (Value.ref h1.objs.size)))).get? h1.objs.size = some { cls := .type "traceback", dict := none, data := .fields ts } :=
    (Heap.get?_update_other _ _ hT.symm).trans (Heap.get?_push_size h1 rfl)
  unfold setFlight
  refine wpAny_bind (wpAny_field hd3 rfl (x := .ref h1.objs.size) (by simp [h6]) ?_)
  rw [if_pos (by simp)]
  refine wpAny_setField hT3 rfl (by omega) (h _ ?_)
  generalize hh3 : (h1.push { cls := .type "traceback", dict := none, data := .fields ts }).update e (Obj.mapFields (·.setIfInBounds 1 (Value.ref h1.objs.size))) = h3 at hd3 hT3
  have eT := Heap.get?_update_self (Obj.mapFields (·.setIfInBounds 3 ((none : Option Addr).elim Value.none fun f => rawInt f))) hT3 rfl
  have oth : ∀ b o, b ≠ e → h1.get? b = some o → (h3.update h1.objs.size (Obj.mapFields (·.setIfInBounds 3 ((none : Option Addr).elim Value.none fun f => rawInt f)))).get? b = some o := fun b o hb q => by
    have hbT : h1.objs.size ≠ b := Nat.ne_of_gt (Heap.lt_size q)
    rw [Heap.get?_update_other _ _ hbT, ← hh3, Heap.get?_update_other _ _ (Ne.symm hb)]
    exact Heap.get?_push_of_some _ q
  have exc : (h3.update h1.objs.size (Obj.mapFields (·.setIfInBounds 3 ((none : Option Addr).elim Value.none fun f => rawInt f)))).get? e = some ⟨cls, d, .fields (vs.setIfInBounds 1 (.ref h1.objs.size)), #[]⟩ := by
    rw [Heap.get?_update_other _ _ hT]; exact hd3
  refine ⟨?_, fun b o hb hbe q => oth b o hbe ((S1.2.1 b hb).trans q), fun b o hb q => ?_, ⟨_, ⟨exc, by simp [h6], .inr ⟨h1.objs.size, _, _, by simp [h6], hT, eT, rfl, ?_⟩⟩, by simp [h6]⟩, ⟨h1.objs.size, fun vs' R => ?_, ?_⟩⟩
  · rw [Heap.size_update, ← hh3, Heap.size_update, Heap.size_push, S1.1]; exact Nat.le_succ _
  · obtain ⟨sl, q1⟩ := S1.2.2 b o q
    exact ⟨sl, oth b _ (fun z => hef (z ▸ hb)) q1⟩
  · show (ts.setIfInBounds 3 Value.none)[3]? = some Value.none
    rw [Array.getElem?_setIfInBounds, if_pos rfl, if_pos (by omega)]
  · have := R.at_.symm.trans exc
    cases this
    simp [h6]
  · exact Heap.get?_none_of_le (by rw [S1.1]; exact Nat.le_refl _)
theorem leave_ok {Q : Unit → Shared → Prop} (hfr : A.frames = some (env :: outer)) (hl : s.heap.FunFrames base (env :: outer)) (hf : env.frame = some L) (R : ExcRec s.heap e cls d vs)
    (h : ∀ h', LeftBy (frs (env :: outer)) e cls d s.heap h' → Q () { s with heap := h' }) : wpAny M A («leaving» env (.ref e)) Q E s := by
  unfold «leaving» noteFrame
  simp only [hf]
  rcases R.tb with h1 | ⟨T, oT, ts, h1, hTe, hT, hd, h3⟩
  · refine wpAny_bind (wpAny_bind (wpAny_field R.at_ rfl h1 ?_))
    rw [if_neg (by decide)]
    exact leave_entry hfr hl hf R.at_ R.six h
  · refine wpAny_bind (wpAny_bind (wpAny_field R.at_ rfl h1 ?_))
    rw [if_pos (by simp)]
    refine wpAny_bind (wpAny_field hT hd h3 ?_)
    rw [if_neg (by simp [rawInt])]
    have h3s : 3 < ts.size := (Array.getElem?_eq_some_iff.mp h3).1
    refine wpAny_bind (wpAny_setField hT hd h3s ?_)
    have same : s.heap.update T (Obj.mapFields (·.setIfInBounds 3 Value.none)) = s.heap ∨ True := .inr trivial
    have eT : (s.heap.update T (Obj.mapFields (·.setIfInBounds 3 Value.none))).get? T = some oT := by
      have q := Heap.get?_update_self (Obj.mapFields (·.setIfInBounds 3 Value.none)) hT (Obj.isFreed_of_fields (Obj.data_mapFields hd _))
      rw [q, mapF_at hd]
      have : ts.setIfInBounds 3 Value.none = ts := by
        apply Array.ext_getElem?
        intro k
        rw [Array.getElem?_setIfInBounds]
        by_cases hk : 3 = k
        · subst hk; rw [if_pos rfl, if_pos h3s, h3]
        · rw [if_neg hk]
      rw [this, ← hd]
    have oth : ∀ b o, s.heap.get? b = some o → (s.heap.update T (Obj.mapFields (·.setIfInBounds 3 Value.none))).get? b = some o := fun b o q => by
      by_cases hb : T = b
      · subst hb; rw [eT, ← q, hT]
      · rw [Heap.get?_update_other _ _ hb]; exact q
    refine leave_entry (s := { s with heap := s.heap.update T (Obj.mapFields (·.setIfInBounds 3 Value.none)) }) hfr (hl.of_keeps fun b o q _ => ⟨o, oth b o q, rfl⟩) hf (oth _ _ R.at_) R.six fun h' ⟨x1, x2, x3, x4, x5⟩ => h h' ⟨?_, fun b o hb hbe q => x2 b o hb hbe (oth b o q), fun b o hb q => x3 b o hb (oth b o q), x4, ?_⟩
    · rw [Heap.size_update] at x1; exact x1
    · obtain ⟨T', y1, y2⟩ := x5
      refine ⟨T', y1, ?_⟩
      cases z : s.heap.get? T' with
      | none => rfl
      | some o => rw [oth _ _ z] at y2; cases y2
end
end L2
namespace L2
open PySem PySem.Spec PySem.Calls PyProof.Rows
section
variable {prog : Program} {w : World} {A : Around} {E : Value → Shared → Prop} {s : Shared} {K : PySem.W.Frag} {env : Env} {e C : Addr} {d : Option Addr} {vs : Array Value}
theorem raise_at {x : Sem Value} {Q : Flow → Shared → Prop} (hh : A.handled = none)
    (h : wpAny (model prog w) A x (fun v s1 => ∃ e C d vs, v = .ref e ∧ K.In s1.heap ∧ s1.heap.get? e = some ⟨.ref C, d, .fields vs, #[]⟩ ∧ vs[1]? = some .none ∧ xcIn K C = true ∧ PySem.W.mroIn K C (.type "BaseException") = some true ∧ E (.ref e) s1) E s) :
    wpAny (model prog w) A (raiseStmt env (some x) none) Q E s := by
  unfold raiseStmt
  refine wpAny_bind (wpAny_mono h (fun v s1 h1 => ?_) fun _ _ z => z)
  obtain ⟨e, C, d, vs, rfl, X, he, h1, hc, hm, hE⟩ := h1
  obtain ⟨nm, qn, N, bs, bm, hdct, sn, sub, ab, col, dd, k0, k1, k2, k3, k5, hC, _⟩ := xc_of X hc
  obtain ⟨hp, g, dr, tk, os⟩ := s1
  have Lt : PySem.W.Looks (model prog w) hp (typeOf (.ref e)) (.ref C) := (PySem.W.Looks.ld he).andThen .now
  have Lc : PySem.W.Looks (model prog w) hp (typeOf (.ref C)) (.type "type") := (PySem.W.Looks.ld hC).andThen .now
  have Li : PySem.W.Looks (model prog w) hp (isType (.ref e)) false := (PySem.W.Looks.ld he).andThen .now
  have Ls : PySem.W.Looks (model prog w) hp (isInstance (.ref e) (.type "BaseException")) true := Lt.andThen (PySem.W.looks_mroIn X hm)
  refine wpAny_bind (wpAny_pure ?_)
  refine wpAny_bind (wpAny_holding ?_)
  unfold excFromValue isExcClass
  refine wpAny_bind (wpAny_bind (Li.at (wpAny_pure ?_)))
  rw [if_neg (by decide)]
  refine wpAny_bind (Ls.at ?_)
  rw [if_pos rfl]
  refine wpAny_pure ?_
  refine wpAny_bind (Li.at ?_)
  dsimp only
  rw [if_neg (by decide)]
  unfold raisedInstance
  refine wpAny_bind (wpAny_bind (Lt.at (wpAny_bind (Lc.at ?_))))
  rw [if_pos (by decide)]
  refine wpAny_pure ?_
  unfold setFlight
  refine wpAny_bind (wpAny_bind (wpAny_field he rfl h1 ?_))
  rw [if_neg (by decide)]
  exact wpAny_pure (wpAny_raiseNew_none hh hE)
theorem exec_raise {ex : Expr} {pos : Pos} {Q : Flow → Shared → Prop} (hh : A.handled = none)
    (h : wpAny (model prog w) A (eval ex env) (fun v s1 => ∃ e C d vs, v = .ref e ∧ K.In s1.heap ∧ s1.heap.get? e = some ⟨.ref C, d, .fields vs, #[]⟩ ∧ vs[1]? = some .none ∧ xcIn K C = true ∧ PySem.W.mroIn K C (.type "BaseException") = some true ∧ E (.ref e) s1) E s) :
    wpAny (model prog w) A (exec (.Raise (some ex) none pos) env) Q E s := by
  rw [arm_exec_Raise]
  refine wpAny_bind (wpAny_standAt ?_)
  show wpAny (model prog w) A (raiseStmt env (some (do let v ← eval ex env; standAt pos; pure v)) none) Q E s
  refine raise_at (K := K) hh (wpAny_bind (wpAny_mono h (fun v s1 h1 => wpAny_bind (wpAny_standAt (wpAny_pure h1))) fun _ _ z => z))
end
end L2
namespace L2
open PySem PySem.Spec PySem.Calls PyProof.Rows
def XR (e C : Addr) (d : Option Addr) : HO := .ext fun h => ∃ vs : Array Value, h.get? e = some ⟨.ref C, d, .fields vs, #[]⟩ ∧ vs.size = 6
theorem xr_ok {P : Program} {w : World} {H : Hp} {h : Heap} {e C : Addr} {d : Option Addr} {vs : Array Value} (hx : h.get? e = some ⟨.ref C, d, .fields vs, #[]⟩) (h6 : vs.size = 6) : ObjOk P w H h e (XR e C d) :=
  ⟨⟨vs, hx, h6⟩, ⟨_, hx⟩, fun _ _ ⟨vs, p, q⟩ k => ⟨vs, k _ p, q⟩⟩
theorem xr_get {P : Program} {w : World} {H : Hp} {h : Heap} {e C : Addr} {d : Option Addr} (ok : HOk P w H h) (q : H e = some (XR e C d)) : ∃ vs : Array Value, h.get? e = some ⟨.ref C, d, .fields vs, #[]⟩ ∧ vs.size = 6 := (show ObjOk P w H h e (XR e C d) from ok e _ q).1
def CX1 (P : Program) (w : World) : CXT := fun outer H s E e s' => ∃ a C d H', e = .ref a ∧ s'.os = s.os ∧ AllBare s'.gens ∧ Un (frs outer) [] H H' s.heap s'.heap ∧ HOk P w H' s'.heap ∧ (∃ vs, ExcRec s'.heap a (.ref C) d vs) ∧ H' a = some (XR a C d) ∧ E (.ref C) (some a) H'
section
variable {X : Cx} {pins : List (Addr × Obj)} {σ : St} {H : Hp} {s : Shared} {a C : Addr} {d : Option Addr} {h' : Heap}
theorem Inv.left (I : Inv X pins σ H s) (hx : H a = some (XR a C d)) (L : LeftBy (frs X.stack) a (.ref C) d s.heap h') : Inv X pins σ H { s with heap := h' } := by
  have nf : ∀ b u, H b = some u → b ∉ frs X.stack := fun b u q z => by rw [I.stkFree b z] at q; cases q
  obtain ⟨vs, R, _⟩ := id L.rc
  have un : Un (frs X.stack) [] H H s.heap h' := by
    refine ⟨fun b o q n hb _ => L.keep b o hb (fun z => by rw [z, hx] at n; cases n) q, fun b o q n hb _ => L.slot b o hb q, fun _ _ _ n _ => n, fun b o q _ => ?_, fun _ _ q => q, fun _ _ _ q => q, fun _ ps q => ⟨#[], by rw [q]; simp⟩⟩
    by_cases h1 : b ∈ frs X.stack
    · obtain ⟨sl, q2⟩ := L.slot b o h1 q
      exact ⟨_, q2⟩
    · by_cases h2 : b = a
      · subst h2; exact ⟨_, R.at_⟩
      · exact ⟨o, L.keep b o h1 h2 q⟩
  refine I.call (ch := []) (g' := s.gens) (d' := s.drawn) (t' := s.toks) un (fun b u q => ?_) I.bare (fun b z => absurd z (by simp))
  by_cases hb : b = a
  · subst hb
    rw [hx] at q; cases q
    exact xr_ok R.at_ R.six
  · refine (I.hok b u q).stay (fun c v hc r => L.keep c v ?_ ?_ r) (fun _ q => q) fun _ _ q => q
    · rcases hc with rfl | hc
      · exact nf _ _ q
      · exact nf _ _ hc
    · rintro rfl
      rcases hc with z | hc
      · exact hb z.symm
      · rw [hx] at hc; cases hc
def XeOk (X : Cx) (EX : XK) : Prop := ∀ (pins : List (Addr × Obj)) (σ : St) (H : Hp) (s : Shared) (a C : Addr) (d : Option Addr) (vs : Array Value), Inv X pins σ H s → H a = some (XR a C d) → ExcRec s.heap a (.ref C) d vs → EX (.ref C) (some a) H → X.xe (.ref a) s
theorem XeOk.passes {EX E1 : XK} (h : XeOk X EX) (i : ∀ c d H, E1 c d H → EX c d H) : Passes (CX1 X.prog X.w) X E1 := by
  rintro pins σ H s e s' I ⟨a, C, d, H', rfl, os, bare, un, hok, ⟨vs, R⟩, hx, hE⟩
  exact h pins σ H' s' a C d vs (I.call' os un hok bare (fun b z => absurd z (by simp))) hx R (i _ _ _ hE)
end
theorem xeOk_cx {P : Program} {w : World} {K : PySem.W.Frag} {mg : Str → Option Value} {base : Heap} {N : List Str} {qual : Str} {scope : Scope} {f : Addr} {cd : Value} {A : Around} {outer : List Env} {s : Shared} {H : Hp} {E : XK} :
    XeOk (cxOf (CX1 P w) P w K mg base N qual scope f cd A outer s H E) E := by
  intro pins σ H1 s1 a C d vs I hx R hE
  show wpAny (model P w) _ («leaving» (envOfC qual scope s.heap.objs.size f cd) (.ref a)) _ _ s1
  refine leave_ok (base := base) (outer := outer) I.ok.frames I.stack rfl R fun h' L => ?_
  have J := I.left hx L
  obtain ⟨vs', R', _⟩ := L.rc
  exact ⟨a, C, d, H1, rfl, J.os, J.bare, J.base, J.hok, ⟨vs', R'⟩, hx, hE⟩
end L2
namespace L2
open PySem PySem.Spec PySem.Calls PyProof.Rows
section
variable {M : Model} {A : Around} {E : Value → Shared → Prop} {s : Shared} {base : Heap} {env : Env} {outer : List Env} {L e : Addr} {cls : Value} {d : Option Addr} {vs : Array Value}
theorem flight_same {h : Heap} {T : Addr} {oT : Obj} {ts : Array Value} (hT : h.get? T = some oT) (hd : oT.data = .fields ts) (h3 : ts[3]? = some .none) :
    ∀ b o, h.get? b = some o → (h.update T (Obj.mapFields (·.setIfInBounds 3 Value.none))).get? b = some o := by
  have h3s : 3 < ts.size := (Array.getElem?_eq_some_iff.mp h3).1
  have eT : (h.update T (Obj.mapFields (·.setIfInBounds 3 Value.none))).get? T = some oT := by
    have q := Heap.get?_update_self (Obj.mapFields (·.setIfInBounds 3 Value.none)) hT (Obj.isFreed_of_fields (Obj.data_mapFields hd _))
    rw [q, mapF_at hd]
    have : ts.setIfInBounds 3 Value.none = ts := by
      apply Array.ext_getElem?
      intro k
      rw [Array.getElem?_setIfInBounds]
      by_cases hk : 3 = k
      · subst hk; rw [if_pos rfl, if_pos h3s, h3]
      · rw [if_neg hk]
    rw [this, ← hd]
  intro b o q
  by_cases hb : T = b
  · subst hb; rw [eT, ← q, hT]
  · rw [Heap.get?_update_other _ _ hb]; exact q
theorem leave_two {Q : Unit → Shared → Prop} (hfr : A.frames = some (env :: outer)) (hl : s.heap.FunFrames base (env :: outer)) (hf : env.frame = some L) (R : ExcRec s.heap e cls d vs)
    (h : ∀ h', LeftBy (frs (env :: outer)) e cls d s.heap h' → Q () { s with heap := h' }) : wpAny M A (noteFrame (.ref e) env) (fun _ s₂ => wpAny M A (setFlight (.ref e) none) Q E s₂) E s := by
  unfold noteFrame
  simp only [hf]
  rcases R.tb with h1 | ⟨T, oT, ts, h1, hTe, hT, hd, h3⟩
  · refine wpAny_bind (wpAny_field R.at_ rfl h1 ?_)
    rw [if_neg (by decide)]
    exact leave_entry hfr hl hf R.at_ R.six h
  · refine wpAny_bind (wpAny_field R.at_ rfl h1 ?_)
    rw [if_pos (by simp)]
    refine wpAny_bind (wpAny_field hT hd h3 ?_)
    rw [if_neg (by simp [rawInt])]
    have h3s : 3 < ts.size := (Array.getElem?_eq_some_iff.mp h3).1
    refine wpAny_bind (wpAny_setField hT hd h3s ?_)
    have oth := flight_same hT hd h3
    refine leave_entry (s := { s with heap := s.heap.update T (Obj.mapFields (·.setIfInBounds 3 Value.none)) }) hfr (hl.of_keeps fun b o q _ => ⟨o, oth b o q, rfl⟩) hf (oth _ _ R.at_) R.six fun h' ⟨x1, x2, x3, x4, x5⟩ => h h' ⟨?_, fun b o hb hbe q => x2 b o hb hbe (oth b o q), fun b o hb q => x3 b o hb (oth b o q), x4, ?_⟩
    · rw [Heap.size_update] at x1; exact x1
    · obtain ⟨T', y1, y2⟩ := x5
      refine ⟨T', y1, ?_⟩
      cases z : s.heap.get? T' with
      | none => rfl
      | some o => rw [oth _ _ z] at y2; cases y2
theorem flight_ok {Q : Unit → Shared → Prop} (R : ExcRec s.heap e cls d vs) (h : ∀ h', (∀ b o, s.heap.get? b = some o → h'.get? b = some o) → Q () { s with heap := h' }) : wpAny M A (setFlight (.ref e) none) Q E s := by
  unfold setFlight
  rcases R.tb with h1 | ⟨T, oT, ts, h1, hTe, hT, hd, h3⟩
  · refine wpAny_bind (wpAny_field R.at_ rfl h1 ?_)
    rw [if_neg (by decide)]
    exact wpAny_pure (h _ fun _ _ q => q)
  · refine wpAny_bind (wpAny_field R.at_ rfl h1 ?_)
    rw [if_pos (by simp)]
    exact wpAny_setField hT hd (Array.getElem?_eq_some_iff.mp h3).1 (h _ (flight_same hT hd h3))
end
section
variable {prog : Program} {w : World} {A : Around} {E : Value → Shared → Prop} {s : Shared} {K : PySem.W.Frag} {e C D : Addr} {d : Option Addr} {vs : Array Value}
theorem matches_own {b : Bool} {Q : Bool → Shared → Prop} (X : K.In s.heap) (hD : xcIn K D = true) (he : s.heap.get? e = some ⟨.ref C, d, .fields vs, #[]⟩) (hb : PySem.W.mroIn K D (.type "BaseException") = some true)
    (hm : PySem.W.mroIn K C (.ref D) = some b) (h : Q b s) : wpAny (model prog w) A (excMatches (.ref e) (.ref D)) Q E s := by
  obtain ⟨nm, qn, N, bs, bm, hdct, sn, sub, ab, col, dd, k0, k1, k2, k3, k5, hDo, _⟩ := xc_of X hD
  obtain ⟨hp, g, dr, tk, os⟩ := s
  have Lt : PySem.W.Looks (model prog w) hp (typeOf (.ref e)) (.ref C) := (PySem.W.Looks.ld he).andThen .now
  have Lc : PySem.W.Looks (model prog w) hp (typeOf (.ref D)) (.type "type") := (PySem.W.Looks.ld hDo).andThen .now
  have Li : PySem.W.Looks (model prog w) hp (isType (.ref D)) true := (PySem.W.Looks.ld hDo).andThen .now
  have f1 : isSubtype (.type "type") (.type "tuple") = pure false := isSubtype_of_subB rfl
  unfold excMatches isExcClass isInstance
  refine wpAny_bind (wpAny_bind (Lc.at ?_))
  rw [f1]
  refine wpAny_pure ?_
  rw [if_neg (by decide)]
  refine wpAny_bind (wpAny_pure ?_)
  simp only [List.forIn_cons, List.forIn_nil]
  refine wpAny_bind (wpAny_bind (wpAny_bind (wpAny_bind (Li.at ?_))))
  rw [if_pos rfl]
  refine (PySem.W.looks_mroIn X hb).at ?_
  simp only [Bool.not_true, Bool.false_eq_true, if_false]
  refine wpAny_pure ?_
  refine wpAny_pure ?_
  refine wpAny_bind (Lt.at ?_)
  refine wpAny_bind (wpAny_bind (wpAny_bind ((PySem.W.looks_mroIn X hm).at ?_)))
  cases b with
  | true =>
    simp only [if_true]
    exact wpAny_pure (wpAny_pure (wpAny_pure h))
  | false =>
    simp only [Bool.false_eq_true, if_false]
    exact wpAny_pure (wpAny_pure (wpAny_pure h))
end
end L2
namespace L2
open PySem PySem.Spec PySem.Calls PyProof.Rows
section
variable {X : Cx} {pins : List (Addr × Obj)} {σ : St} {H : Hp} {s : Shared}
theorem Inv.retype {a : Addr} {φ : Heap → Prop} {o : HO} (I : Inv X pins σ H s) (q : H a = some (.ext φ)) (new : ObjOk X.prog X.w (upd H a o) s.heap a o) : Inv X pins σ (upd H a o) s :=
  I.write (x := a) (e := a) (t' := s.toks) (h' := s.heap) (by rw [q]; exact True.intro) (.inl rfl) (fun _ _ _ z => z) (let ⟨_, q, _⟩ := (show ObjOk X.prog X.w H s.heap a (.ext φ) from I.hok a _ q); q) new
def tRaise (K : PySem.W.Frag) (EX : XK) (te : TE) : TS := fun _ σ H => te σ H fun x H1 => ∃ a C t d, x = .ref a ∧ H1 a = some (XO a C t d) ∧ xcIn K C = true ∧ PySem.W.mroIn K C (.type "BaseException") = some true ∧ EX (.ref C) (some a) (upd H1 a (XR a C d))
theorem ps_raise {ex : Expr} {pos : Pos} {te : TE} {EX : XK} (hc : X.calm = true) (hx : XeOk X EX) (he : PE X ex te) : PS X (.Raise (some ex) none pos) (tRaise X.K EX te) := by
  intro pins s σ H D I h
  refine exec_raise (K := X.K) (I.ok.hd hc) (thn (he pins s σ H _ I h) fun v s1 ⟨x, H1, I1, r, a, C, t, d, ex, ha, xc, mr, hE⟩ => ?_)
  subst ex
  obtain rfl : v = Value.ref a := r
  have hg := xo_get I1.hok ha
  exact ⟨a, C, d, _, rfl, I1.kIn, hg, rfl, xc, mr, hx pins σ _ s1 a C d _ (I1.retype ha (xr_ok hg rfl)) upd_same ⟨hg, rfl, .inl rfl⟩ hE⟩
abbrev Cx.suite (X : Cx) (e : Addr) : Cx := { X with A := X.A.mark (some (.ref e)), calm := false, xe := fun _ _ => False }
theorem Inv.suite {e : Addr} (I : Inv X pins σ H s) : Inv (X.suite e) pins σ H s :=
  ⟨⟨I.ok.mod, I.ok.kind, I.ok.glob, I.ok.blt, I.ok.above, I.ok.inj, I.ok.has, I.ok.cab, fun z => (nomatch z), I.ok.frames, I.ok.stk, I.ok.exf, I.ok.bs, I.ok.bsz, I.ok.noex, I.ok.exfs, I.ok.funs, I.ok.frf⟩, I.os, I.bare, I.base, I.loc, I.cell, I.free, I.freeC, I.pin, I.hok, I.len⟩
theorem Inv.unsuite {e : Addr} (ok : X.Ok) (I : Inv (X.suite e) pins σ H s) : Inv X pins σ H s := ⟨ok, I.os, I.bare, I.base, I.loc, I.cell, I.free, I.freeC, I.pin, I.hok, I.len⟩
theorem gone_ok {M : Model} {A : Around} {E : Value → Shared → Prop} {i : Nat} {n : Str} {pos : Pos} {Q : Unit → Shared → Prop} (I : Inv X pins σ H s) (hN : X.N.Nodup) (hi : X.N[i]? = some n) (hk : X.env.scope.names.lookup n = some .local)
    (h : ∀ s', Inv X pins (σ.set i none) H s' → Q () s') : wpAny M A (do bindName X.env n .none; unbindBehindTheSuite X.env n pos) Q E s := by
  obtain ⟨m, hn, hl⟩ := id I.loc
  have hcls : (X.env.scope.kind == .class || (X.env.scope.kind == .module && X.env.locals != X.env.globals)) = false := by rw [I.ok.kind]; rfl
  refine wpAny_nameGoes_keeps hk hn hcls fun h' v hn' hs => ?_
  have nl : ∀ b o, X.s₀.heap.get? b = some o → b ≠ X.env.locals := fun b o e => Nat.ne_of_lt (Nat.lt_of_lt_of_le (Heap.lt_size e) I.ok.above)
  refine h _ ⟨I.ok, I.os, I.bare, ⟨fun b o e z hb hx => (hs.2 b (nl b o e)).trans (I.base.keep b o e z hb hx), fun b o e z hb hx => ?_, I.base.free, fun b o e hx => ?_, I.base.tups, I.base.frzs, I.base.tbls⟩, ⟨_, hn', fun j y v' e1 e2 e3 => ?_⟩, fun y c e => ?_, I.free, I.freeC, fun p hp => ?_, fun b ob e => ?_, by rw [List.length_set]; exact I.len⟩
  · obtain ⟨sl, e1⟩ := I.base.slot b o e z hb hx
    exact ⟨sl, (hs.2 b (nl b o e)).trans e1⟩
  · obtain ⟨o', e1⟩ := I.base.there b o e hx
    exact ⟨o', (hs.2 b (nl b o e)).trans e1⟩
  · have hj : j ≠ i := by
      rintro rfl
      rw [List.getElem?_set] at e2
      simp only [if_true] at e2
      split at e2 <;> cases e2
    rw [List.getElem?_set_ne (Ne.symm hj)] at e2
    obtain ⟨u', r', q⟩ := hl j y v' e1 e2 e3
    refine ⟨u', r', ?_⟩
    have ny : y ≠ n := fun z => hj (nodup_ix hN e1 (z ▸ hi))
    rcases q with ⟨k, e⟩ | ⟨k, c, e, z⟩
    · exact .inl ⟨k, by show (if y = n then v else m y) = _; rw [if_neg ny]; exact e⟩
    · exact .inr ⟨k, c, e, z.sameBut hs (I.cne y c e)⟩
  · obtain ⟨w', z⟩ := I.cell y c e
    exact ⟨w', z.sameBut hs (I.cne y c e)⟩
  · obtain ⟨e, z, ne, nf, d⟩ := I.pin p hp
    exact ⟨(hs.2 p.1 ne).trans e, z, ne, nf, d⟩
  · refine (I.hok b ob e).stay (fun c w' hc q => (hs.2 c ?_).trans q) (fun _ q => q) fun _ _ q => q
    rintro rfl
    rcases hc with z | z
    · rw [← z, I.free] at e; cases e
    · rw [I.free] at z; cases z
abbrev Cx.taking (X : Cx) (xe : Value → Shared → Prop) (pn : List (Addr × Obj)) : Cx := { X with xe := xe, pn := pn }
theorem Inv.take {xe : Value → Shared → Prop} (I : Inv X pins σ H s) : Inv (X.taking xe (X.pn ++ pins)) [] σ H s :=
  ⟨⟨I.ok.mod, I.ok.kind, I.ok.glob, I.ok.blt, I.ok.above, I.ok.inj, I.ok.has, I.ok.cab, I.ok.hd, I.ok.frames, I.ok.stk, I.ok.exf, I.ok.bs, I.ok.bsz, I.ok.noex, I.ok.exfs, I.ok.funs, I.ok.frf⟩, I.os, I.bare, I.base, I.loc, I.cell, I.free, I.freeC, fun p hp => I.pin p (by rw [List.append_nil] at hp; exact hp), I.hok, I.len⟩
theorem Inv.untake {xe : Value → Shared → Prop} {pins' : List (Addr × Obj)} (ok : X.Ok) (I : Inv (X.taking xe (X.pn ++ pins)) pins' σ H s) : Inv X pins σ H s :=
  ⟨ok, I.os, I.bare, I.base, I.loc, I.cell, I.free, I.freeC, fun p hp => I.pin p (List.mem_append_left _ hp), I.hok, I.len⟩
end
end L2
namespace L2
open PySem PySem.Spec PyProof.Rows
inductive AV where
  | D (d : PyData) | R (a : Addr) | C (ds : List PyData) | X (C : Addr) (fs : List (Str × PyData))
  deriving Inhabited
def FzL (K : PySem.W.Frag) (H : Hp) (a : Addr) (xs : List V) : Prop :=
  (∃ o, H a = some (.frz o (.lst xs))) ∨
    ∃ (o : Obj) (its : Array Value) (n : Nat), K.lookup a = some o ∧ o.cls = .type "list" ∧ o.dict = none ∧ o.data = .seq its n ∧ its.size ≤ sizeLine ∧ Vals xs its.toList
theorem FzL.sq {K : PySem.W.Frag} {H : Hp} {a : Addr} {xs : List V} (h : FzL K H a xs) : SqL K H a xs := by
  rcases h with ⟨o, h⟩ | h
  · exact .inl (.inr ⟨o, h⟩)
  · exact .inr h
mutual
def Dk (K : PySem.W.Frag) (H : Hp) : PyData → V → Prop
  | .none, x => x = .non
  | .bool b, x => x = .bl b
  | .int i, x => x = .int i
  | .str z, x => x = .str z
  | .list ds, x => ∃ a xs, x = .ref a ∧ FzL K H a xs ∧ DkAll K H ds xs
  | .tuple ds, x => ∃ a xs, x = .ref a ∧ H a = some (.tup xs) ∧ DkAll K H ds xs
  | .dict _, _ => False
def DkAll (K : PySem.W.Frag) (H : Hp) : List PyData → List V → Prop
  | [], xs => xs = []
  | d :: ds, xs => ∃ x r, xs = x :: r ∧ Dk K H d x ∧ DkAll K H ds r
end
structure Kp (H H' : Hp) : Prop where
  t : ∀ b xs, H b = some (.tup xs) → H' b = some (.tup xs)
  f : ∀ b o u, H b = some (.frz o u) → H' b = some (.frz o u)
theorem Kp.refl {H : Hp} : Kp H H := ⟨fun _ _ h => h, fun _ _ _ h => h⟩
theorem Kp.trans {H H1 H2 : Hp} (a : Kp H H1) (b : Kp H1 H2) : Kp H H2 := ⟨fun c xs h => b.t c xs (a.t c xs h), fun c o u h => b.f c o u (a.f c o u h)⟩
theorem Kp.new {H : Hp} {p : Addr} (h : H p = none) (o : HO) : Kp H (upd H p o) :=
  ⟨fun b xs e => by rw [upd_ne (ne_of_none e h)]; exact e, fun b o' u e => by rw [upd_ne (ne_of_none e h)]; exact e⟩
def Mt : HO → Prop
  | .lst _ => True
  | .dK _ => True
  | .dT _ => True
  | _ => False
theorem Kp.put {H : Hp} {p : Addr} {o0 : HO} (h : H p = some o0) (m : Mt o0) (o : HO) : Kp H (upd H p o) :=
  ⟨fun b xs e => by rw [upd_ne (ne_of e h (by intro z; subst z; exact m))]; exact e, fun b o' u e => by rw [upd_ne (ne_of e h (by intro z; subst z; exact m))]; exact e⟩
theorem SqT.kp {K : PySem.W.Frag} {H H' : Hp} {a : Addr} {xs : List V} (S : Kp H H') (h : SqT K H a xs) : SqT K H' a xs := by
  rcases h with (h | ⟨o, h⟩) | h
  · exact .inl (.inl (S.t _ _ h))
  · exact .inl (.inr ⟨o, S.f _ _ _ h⟩)
  · exact .inr h
theorem FzL.kp {K : PySem.W.Frag} {H H' : Hp} {a : Addr} {xs : List V} (S : Kp H H') (h : FzL K H a xs) : FzL K H' a xs := by
  rcases h with ⟨o, h⟩ | h
  · exact .inl ⟨o, S.f _ _ _ h⟩
  · exact .inr h
section
variable {K : PySem.W.Frag} {H H' : Hp}
mutual
theorem Dk.kp (S : Kp H H') : ∀ (d : PyData) (x : V), Dk K H d x → Dk K H' d x
  | .none, x, h => by simp only [Dk] at h ⊢; exact h
  | .bool b, x, h => by simp only [Dk] at h ⊢; exact h
  | .int i, x, h => by simp only [Dk] at h ⊢; exact h
  | .str z, x, h => by simp only [Dk] at h ⊢; exact h
  | .list ds, x, h => by
    simp only [Dk] at h ⊢
    obtain ⟨a, xs, e, q, r⟩ := h
    exact ⟨a, xs, e, q.kp S, DkAll.kp S ds xs r⟩
  | .tuple ds, x, h => by
    simp only [Dk] at h ⊢
    obtain ⟨a, xs, e, q, r⟩ := h
    exact ⟨a, xs, e, S.t _ _ q, DkAll.kp S ds xs r⟩
  | .dict _, x, h => by simp only [Dk] at h
theorem DkAll.kp (S : Kp H H') : ∀ (ds : List PyData) (xs : List V), DkAll K H ds xs → DkAll K H' ds xs
  | [], xs, h => by simp only [DkAll] at h ⊢; exact h
  | d :: ds, xs, h => by
    simp only [DkAll] at h ⊢
    obtain ⟨x, r, e, h1, h2⟩ := h
    exact ⟨x, r, e, Dk.kp S d x h1, DkAll.kp S ds r h2⟩
end
theorem dk_int {i : Int} : Dk K H (.int i) (.int i) := by simp only [Dk]
theorem dk_bl {b : Bool} : Dk K H (.bool b) (.bl b) := by simp only [Dk]
theorem dk_str {z : Str} : Dk K H (.str z) (.str z) := by simp only [Dk]
theorem dk_non : Dk K H .none .non := by simp only [Dk]
theorem Dk.int {x : V} {i : Int} (h : Dk K H (.int i) x) : x = .int i := by simp only [Dk] at h; exact h
theorem Dk.bl {x : V} {i : Bool} (h : Dk K H (.bool i) x) : x = .bl i := by simp only [Dk] at h; exact h
theorem Dk.str {x : V} {i : Str} (h : Dk K H (.str i) x) : x = .str i := by simp only [Dk] at h; exact h
theorem Dk.non {x : V} (h : Dk K H .none x) : x = .non := by simp only [Dk] at h; exact h
theorem Dk.tup {x : V} {ds : List PyData} (h : Dk K H (.tuple ds) x) : ∃ a xs, x = .ref a ∧ H a = some (.tup xs) ∧ DkAll K H ds xs := by simp only [Dk] at h; exact h
theorem Dk.lst {x : V} {ds : List PyData} (h : Dk K H (.list ds) x) : ∃ a xs, x = .ref a ∧ FzL K H a xs ∧ DkAll K H ds xs := by simp only [Dk] at h; exact h
theorem dk_tup {a : Addr} {xs : List V} {ds : List PyData} (h : H a = some (.tup xs)) (r : DkAll K H ds xs) : Dk K H (.tuple ds) (.ref a) := by simp only [Dk]; exact ⟨a, xs, rfl, h, r⟩
theorem dk_lst {a : Addr} {xs : List V} {ds : List PyData} (h : FzL K H a xs) (r : DkAll K H ds xs) : Dk K H (.list ds) (.ref a) := by simp only [Dk]; exact ⟨a, xs, rfl, h, r⟩
theorem dks_nil : DkAll K H [] [] := by simp only [DkAll]
theorem dks_cons {d : PyData} {ds : List PyData} {x : V} {xs : List V} (h : Dk K H d x) (r : DkAll K H ds xs) : DkAll K H (d :: ds) (x :: xs) := by simp only [DkAll]; exact ⟨x, xs, rfl, h, r⟩
theorem DkAll.cons {d : PyData} {ds : List PyData} {xs : List V} (h : DkAll K H (d :: ds) xs) : ∃ x r, xs = x :: r ∧ Dk K H d x ∧ DkAll K H ds r := by simp only [DkAll] at h; exact h
theorem DkAll.nil {xs : List V} (h : DkAll K H [] xs) : xs = [] := by simp only [DkAll] at h; exact h
theorem DkAll.length : ∀ {ds : List PyData} {xs : List V}, DkAll K H ds xs → xs.length = ds.length
  | [], _, h => by rw [h.nil]; rfl
  | _ :: ds, _, h => by
    obtain ⟨x, r, rfl, _, h2⟩ := h.cons
    rw [List.length_cons, List.length_cons, DkAll.length h2]
theorem DkAll.get : ∀ {ds : List PyData} {xs : List V} {i : Nat} {d : PyData}, DkAll K H ds xs → ds[i]? = some d → ∃ x, xs[i]? = some x ∧ Dk K H d x
  | [], _, _, _, _, e => by simp at e
  | _ :: ds, _, 0, d, h, e => by
    obtain ⟨x, r, rfl, h1, _⟩ := h.cons
    simp at e; subst e
    exact ⟨x, rfl, h1⟩
  | _ :: ds, _, i + 1, d, h, e => by
    obtain ⟨x, r, rfl, _, h2⟩ := h.cons
    obtain ⟨y, e1, e2⟩ := DkAll.get (i := i) (d := d) h2 (by simpa using e)
    exact ⟨y, by simpa using e1, e2⟩
theorem DkAll.append : ∀ {ds es : List PyData} {xs ys : List V}, DkAll K H ds xs → DkAll K H es ys → DkAll K H (ds ++ es) (xs ++ ys)
  | [], _, _, _, h, k => by rw [h.nil]; exact k
  | _ :: ds, _, _, _, h, k => by
    obtain ⟨x, r, rfl, h1, h2⟩ := h.cons
    exact dks_cons h1 (DkAll.append h2 k)
theorem DkAll.drop : ∀ (n : Nat) {ds : List PyData} {xs : List V}, DkAll K H ds xs → DkAll K H (ds.drop n) (xs.drop n)
  | 0, _, _, h => h
  | _ + 1, [], _, h => by rw [h.nil]; exact dks_nil
  | n + 1, _ :: ds, _, h => by
    obtain ⟨x, r, rfl, _, h2⟩ := h.cons
    exact DkAll.drop n h2
theorem DkAll.take : ∀ (n : Nat) {ds : List PyData} {xs : List V}, DkAll K H ds xs → DkAll K H (ds.take n) (xs.take n)
  | 0, _, _, _ => dks_nil
  | _ + 1, [], _, h => by rw [h.nil]; exact dks_nil
  | n + 1, _ :: ds, _, h => by
    obtain ⟨x, r, rfl, h1, h2⟩ := h.cons
    exact dks_cons h1 (DkAll.take n h2)
theorem DkAll.cut {ds : List PyData} {xs : List V} (h : DkAll K H ds xs) (lo hi : Option Int) : DkAll K H (cutD ds lo hi) (cutV xs lo hi) := by
  unfold cutD cutV
  rw [h.length]
  exact (h.drop _).take _
theorem DkAll.atI {ds : List PyData} {xs : List V} {i : Int} {d : PyData} (h : DkAll K H ds xs) (e : atI ds i = some d) : ∃ x, L2.atI xs i = some x ∧ Dk K H d x := by
  unfold L2.atI at e ⊢
  rw [h.length]
  cases q : ixN ds.length i with
  | none => rw [q] at e; cases e
  | some j =>
    rw [q] at e
    obtain ⟨x, hx, hd⟩ := h.get (show ds[j]? = some d from e)
    exact ⟨x, hx, hd⟩
def FsOk (K : PySem.W.Frag) (H : Hp) : List (Str × PyData) → List (Str × V) → Prop := Paired fun p q => p.1 = q.1 ∧ Dk K H p.2 q.2
theorem FsOk.kp {fs : List (Str × PyData)} {vs : List (Str × V)} (S : Kp H H') (h : FsOk K H fs vs) : FsOk K H' fs vs := Paired.mapP h fun p q r => ⟨r.1, Dk.kp S _ _ r.2⟩
def XFs (K : PySem.W.Frag) (H : Hp) (d : Option Addr) (fs : List (Str × PyData)) : Prop := match d with
  | none => fs = []
  | some d => ∃ od kvs, H d = some (.frz od (XD d kvs)) ∧ FsOk K H fs kvs
theorem XFs.kp {d : Option Addr} {fs : List (Str × PyData)} (S : Kp H H') (h : XFs K H d fs) : XFs K H' d fs := by
  cases d with
  | none => exact h
  | some d => obtain ⟨od, kvs, q, r⟩ := h; exact ⟨od, kvs, S.f _ _ _ q, r.kp S⟩
def RelA (K : PySem.W.Frag) (H : Hp) : AV → V → Prop
  | .D d, v => Dk K H d v
  | .R a, v => v = .ref a
  | .C ds, v => ∃ a xs, v = .ref a ∧ (∀ H, SqT K H a xs) ∧ DkAll K H ds xs
  | .X C fs, v => ∃ a o d, v = .ref a ∧ H a = some (.frz o (XR a C d)) ∧ XFs K H d fs
theorem ra_int {i : Int} : RelA K H (.D (.int i)) (.int i) := dk_int (K := K) (H := H)
theorem ra_bl {i : Bool} : RelA K H (.D (.bool i)) (.bl i) := dk_bl (K := K) (H := H)
theorem ra_str {i : Str} : RelA K H (.D (.str i)) (.str i) := dk_str (K := K) (H := H)
theorem ra_non : RelA K H (.D .none) .non := dk_non (K := K) (H := H)
theorem RelA.int {x : V} {i : Int} (h : RelA K H (.D (.int i)) x) : x = .int i := Dk.int (K := K) (H := H) h
theorem RelA.bl {x : V} {i : Bool} (h : RelA K H (.D (.bool i)) x) : x = .bl i := Dk.bl (K := K) (H := H) h
theorem RelA.str {x : V} {i : Str} (h : RelA K H (.D (.str i)) x) : x = .str i := Dk.str (K := K) (H := H) h
theorem RelA.non {x : V} (h : RelA K H (.D .none) x) : x = .non := Dk.non (K := K) (H := H) h
theorem RelA.tup {x : V} {ds : List PyData} (h : RelA K H (.D (.tuple ds)) x) : ∃ a xs, x = .ref a ∧ H a = some (.tup xs) ∧ DkAll K H ds xs := Dk.tup (K := K) (H := H) h
theorem RelA.lst {x : V} {ds : List PyData} (h : RelA K H (.D (.list ds)) x) : ∃ a xs, x = .ref a ∧ FzL K H a xs ∧ DkAll K H ds xs := Dk.lst (K := K) (H := H) h
theorem RelA.ref {x : V} {a : Addr} (h : RelA K H (.R a) x) : x = .ref a := h
theorem ra_ref {a : Addr} : RelA K H (.R a) (.ref a) := rfl
theorem ra_D {d : PyData} {v : V} (h : Dk K H d v) : RelA K H (.D d) v := h
theorem ra_tup {a : Addr} {xs : List V} {ds : List PyData} (h : H a = some (.tup xs)) (r : DkAll K H ds xs) : RelA K H (.D (.tuple ds)) (.ref a) := dk_tup (K := K) (H := H) h r
abbrev RelAs (K : PySem.W.Frag) (H : Hp) : List AV → List V → Prop := Paired (RelA K H)
theorem RelA.kp (S : Kp H H') : ∀ {x : AV} {v : V}, RelA K H x v → RelA K H' x v
  | .D d, v, h => Dk.kp S d v h
  | .R a, _, h => h
  | .C ds, v, ⟨a, xs, e, q, r⟩ => ⟨a, xs, e, q, DkAll.kp S ds xs r⟩
  | .X C fs, v, ⟨a, o, d, e, q, r⟩ => ⟨a, o, d, e, S.f _ _ _ q, r.kp S⟩
theorem RelAs.kp (S : Kp H H') {xs : List AV} {vs : List V} (h : RelAs K H xs vs) : RelAs K H' xs vs := Paired.mapP h fun _ _ q => q.kp S
theorem RelAs.length {xs : List AV} {vs : List V} (h : RelAs K H xs vs) : xs.length = vs.length := Paired.length h
theorem RelAs.append : ∀ {xs ys : List AV} {us ws : List V}, RelAs K H xs us → RelAs K H ys ws → RelAs K H (xs ++ ys) (us ++ ws)
  | _, _, _, _, .nil, s => s
  | _, _, _, _, .cons r t, s => .cons r (RelAs.append t s)
theorem RelAs.get : ∀ {xs : List AV} {us : List V} {i : Nat} {x : AV}, RelAs K H xs us → xs[i]? = some x → ∃ u, us[i]? = some u ∧ RelA K H x u
  | _, _, _, _, .nil, e => by simp at e
  | _, _, 0, _, .cons r _, e => by simp at e; subst e; exact ⟨_, rfl, r⟩
  | _, _, i + 1, x, .cons _ t, e => by
    obtain ⟨u, h1, h2⟩ := RelAs.get (i := i) (x := x) t (by simpa using e)
    exact ⟨u, by simpa using h1, h2⟩
theorem RelAs.set {x : AV} {u : V} (r : RelA K H x u) : ∀ {xs : List AV} {us : List V} (i : Nat), RelAs K H xs us → RelAs K H (xs.set i x) (us.set i u)
  | _, _, _, .nil => .nil
  | _, _, 0, .cons _ t => .cons r t
  | _, _, i + 1, .cons q t => .cons q (RelAs.set r i t)
theorem RelAs.drop : ∀ {xs : List AV} {us : List V} (n : Nat), RelAs K H xs us → RelAs K H (xs.drop n) (us.drop n)
  | _, _, 0, r => r
  | _, _, _ + 1, .nil => .nil
  | _, _, n + 1, .cons _ t => RelAs.drop n t
theorem RelAs.take : ∀ {xs : List AV} {us : List V} (n : Nat), RelAs K H xs us → RelAs K H (xs.take n) (us.take n)
  | _, _, 0, _ => .nil
  | _, _, _ + 1, .nil => .nil
  | _, _, n + 1, .cons r t => .cons r (RelAs.take n t)
theorem RelAs.eraseIdx : ∀ {xs : List AV} {us : List V} (n : Nat), RelAs K H xs us → RelAs K H (xs.eraseIdx n) (us.eraseIdx n)
  | _, _, _, .nil => by simp; exact .nil
  | _, _, 0, .cons _ t => t
  | _, _, n + 1, .cons r t => .cons r (RelAs.eraseIdx n t)
def cutA (xs : List AV) (lo hi : Option Int) : List AV := (xs.drop (HT.sIx xs.length 0 lo)).take (HT.sIx xs.length xs.length hi - HT.sIx xs.length 0 lo)
theorem RelAs.cut {xs : List AV} {us : List V} (h : RelAs K H xs us) (lo hi : Option Int) : RelAs K H (cutA xs lo hi) (cutV us lo hi) := by
  unfold cutA cutV
  rw [h.length]
  exact (h.drop _).take _
theorem RelAs.atI {xs : List AV} {us : List V} {i : Int} {x : AV} (h : RelAs K H xs us) (e : atI xs i = some x) : ∃ u, L2.atI us i = some u ∧ RelA K H x u := by
  unfold L2.atI at e ⊢
  rw [← h.length]
  cases q : ixN xs.length i with
  | none => rw [q] at e; cases e
  | some j =>
    rw [q] at e
    obtain ⟨x, hx, hd⟩ := h.get (show xs[j]? = some x from e)
    exact ⟨x, hx, hd⟩
def dats : List AV → Option (List PyData)
  | [] => some []
  | .D d :: r => match dats r with
    | some ds => some (d :: ds)
    | none => none
  | .R _ :: _ => none
  | .C _ :: _ => none
  | .X _ _ :: _ => none
@[simp] theorem dats_nil : dats [] = some [] := rfl
theorem dats_map : ∀ (ds : List PyData), dats (ds.map .D) = some ds
  | [] => rfl
  | d :: ds => by simp only [List.map_cons, dats, dats_map ds]
theorem dats_eq : ∀ {xs : List AV} {ds : List PyData}, dats xs = some ds → xs = ds.map .D
  | [], ds, h => by cases h; rfl
  | .D d :: r, ds, h => by
    simp only [dats] at h
    cases q : dats r with
    | none => rw [q] at h; cases h
    | some es => rw [q] at h; cases h; rw [dats_eq q]; rfl
  | .R _ :: _, _, h => by simp [dats] at h
  | .C _ :: _, _, h => by simp [dats] at h
  | .X _ _ :: _, _, h => by simp [dats] at h
theorem RelAs.dk : ∀ {ds : List PyData} {vs : List V}, RelAs K H (ds.map .D) vs → DkAll K H ds vs
  | [], _, h => by cases h; exact dks_nil
  | _ :: _, _, h => by
    rw [List.map_cons] at h
    cases h with
    | cons r t => exact dks_cons r (RelAs.dk t)
theorem DkAll.rel : ∀ {ds : List PyData} {vs : List V}, DkAll K H ds vs → RelAs K H (ds.map .D) vs
  | [], _, h => by rw [h.nil]; exact .nil
  | _ :: _, _, h => by
    obtain ⟨x, r, rfl, h1, h2⟩ := h.cons
    exact .cons h1 (DkAll.rel h2)
theorem RelAs.dats {xs : List AV} {vs : List V} {ds : List PyData} (h : RelAs K H xs vs) (e : dats xs = some ds) : DkAll K H ds vs := by rw [dats_eq e] at h; exact h.dk
inductive MO where
  | lst (xs : List AV) | dk (kvs : List (Key × AV)) | dt (kvs : List (List Key × AV))
abbrev M := Addr → Option MO
def updM (μ : M) (a : Addr) (m : MO) : M := fun b => if b = a then some m else μ b
theorem updM_same {μ : M} {a : Addr} {m : MO} : updM μ a m a = some m := by unfold updM; rw [if_pos rfl]
theorem updM_ne {μ : M} {a b : Addr} {m : MO} (h : b ≠ a) : updM μ a m b = μ b := by unfold updM; rw [if_neg h]
theorem updM_updM {μ : M} {a : Addr} {m n : MO} : updM (updM μ a m) a n = updM μ a n := by funext b; unfold updM; split <;> rfl
def RelK {κ : Type} (K : PySem.W.Frag) (H : Hp) : List (κ × AV) → List (κ × V) → Prop := Paired fun p q => p.1 = q.1 ∧ RelA K H p.2 q.2
theorem RelK.kp {κ : Type} (S : Kp H H') {xs : List (κ × AV)} {vs : List (κ × V)} (h : RelK K H xs vs) : RelK K H' xs vs := Paired.mapP h fun _ _ q => ⟨q.1, q.2.kp S⟩
def RelM (K : PySem.W.Frag) (H : Hp) : MO → HO → Prop
  | .lst xs, o => ∃ vs, o = .lst vs ∧ RelAs K H xs vs
  | .dk kvs, o => ∃ vs, o = .dK vs ∧ RelK K H kvs vs
  | .dt kvs, o => ∃ vs, o = .dT vs ∧ RelK K H kvs vs
theorem RelM.kp (S : Kp H H') {m : MO} {o : HO} (h : RelM K H m o) : RelM K H' m o := by
  cases m with
  | lst xs => obtain ⟨vs, e, r⟩ := h; exact ⟨vs, e, r.kp S⟩
  | dk xs => obtain ⟨vs, e, r⟩ := h; exact ⟨vs, e, r.kp S⟩
  | dt xs => obtain ⟨vs, e, r⟩ := h; exact ⟨vs, e, r.kp S⟩
theorem rm_lst {xs : List AV} {vs : List V} (h : RelAs K H xs vs) : RelM K H (.lst xs) (.lst vs) := ⟨vs, rfl, h⟩
theorem RelM.mt {m : MO} {o : HO} (h : RelM K H m o) : Mt o := by
  cases m with
  | lst xs => obtain ⟨vs, rfl, r⟩ := h; trivial
  | dk xs => obtain ⟨vs, rfl, r⟩ := h; trivial
  | dt xs => obtain ⟨vs, rfl, r⟩ := h; trivial
def Cn (K : PySem.W.Frag) (μ : M) (H : Hp) : Prop := ∀ a m, μ a = some m → ∃ o, H a = some o ∧ RelM K H m o
theorem Cn.none {μ : M} {p : Addr} (c : Cn K μ H) (h : H p = none) : μ p = none := by
  cases q : μ p with
  | none => rfl
  | some m => obtain ⟨o, e, _⟩ := c p m q; rw [h] at e; cases e
theorem Cn.over {μ : M} {p : Addr} {o : HO} (c : Cn K μ H) (h : H p = Option.none) : Cn K μ (upd H p o) := fun a m e => by
  obtain ⟨o', e', r⟩ := c a m e
  exact ⟨o', by rw [upd_ne (ne_of_none e' h)]; exact e', r.kp (Kp.new h o)⟩
theorem Cn.new {μ : M} {p : Addr} {m : MO} {o : HO} (c : Cn K μ H) (h : H p = Option.none) (r : RelM K H m o) : Cn K (updM μ p m) (upd H p o) := fun a m' e => by
  by_cases ha : a = p
  · subst ha; rw [updM_same] at e; cases e; exact ⟨o, upd_same, r.kp (Kp.new h o)⟩
  · rw [updM_ne ha] at e; exact c.over h a m' e
theorem Cn.put {μ : M} {p : Addr} {m : MO} {o o0 : HO} (c : Cn K μ H) (h : H p = some o0) (hm : Mt o0) (r : RelM K H m o) : Cn K (updM μ p m) (upd H p o) := fun a m' e => by
  by_cases ha : a = p
  · subst ha; rw [updM_same] at e; cases e; exact ⟨o, upd_same, r.kp (Kp.put h hm o)⟩
  · rw [updM_ne ha] at e
    obtain ⟨o', e', r'⟩ := c a m' e
    exact ⟨o', by rw [upd_ne ha]; exact e', r'.kp (Kp.put h hm o)⟩
def Sub (μ ν : M) : Prop := ∀ a m, μ a = some m → ν a = some m
theorem Sub.refl {μ : M} : Sub μ μ := fun _ _ h => h
theorem Sub.trans {μ ν ρ : M} (h : Sub μ ν) (k : Sub ν ρ) : Sub μ ρ := fun a m e => k a m (h a m e)
theorem Sub.new {μ ν : M} {p : Addr} {m : MO} (h : Sub μ ν) (e : μ p = none) : Sub μ (updM ν p m) := fun a m' e' => by
  rw [updM_ne (by intro z; subst z; rw [e] at e'; cases e')]; exact h a m' e'
theorem Sub.put {μ ν : M} {p : Addr} {m : MO} (h : Sub μ ν) : Sub (updM μ p m) (updM ν p m) := fun a m' e => by
  by_cases ha : a = p
  · subst ha; rw [updM_same] at e ⊢; exact e
  · rw [updM_ne ha] at e ⊢; exact h a m' e
theorem Sub.none {μ ν : M} {p : Addr} (h : Sub μ ν) (e : ν p = none) : μ p = none := by
  cases q : μ p with
  | none => rfl
  | some m => rw [h p m q] at e; cases e
theorem Cn.sub {μ ν : M} (c : Cn K ν H) (h : Sub μ ν) : Cn K μ H := fun a m e => c a m (h a m e)
abbrev ASt := List (Option AV)
def RelSl (K : PySem.W.Frag) (H : Hp) (a : Option AV) (b : Option V) : Prop := ∀ x, a = some x → ∃ v, b = some v ∧ RelA K H x v
abbrev StA (K : PySem.W.Frag) (H : Hp) : ASt → St → Prop := Paired (RelSl K H)
theorem RelSl.kp {a : Option AV} {b : Option V} (S : Kp H H') (h : RelSl K H a b) : RelSl K H' a b := fun x e => let ⟨v, e2, r⟩ := h x e; ⟨v, e2, r.kp S⟩
theorem StA.kp {τ : ASt} {σ : St} (S : Kp H H') (h : StA K H τ σ) : StA K H' τ σ := Paired.mapP h fun _ _ q => q.kp S
theorem StA.get : ∀ {τ : ASt} {σ : St} {i : Nat} {x : AV}, StA K H τ σ → τ[i]? = some (some x) → ∃ v, σ[i]? = some (some v) ∧ RelA K H x v
  | _, _, _, _, .nil, e => by simp at e
  | _, _, 0, _, .cons r _, e => by simp at e; subst e; obtain ⟨v, rfl, q⟩ := r _ rfl; exact ⟨v, rfl, q⟩
  | _, _, i + 1, x, .cons _ t, e => by
    obtain ⟨u, h1, h2⟩ := StA.get (i := i) (x := x) t (by simpa using e)
    exact ⟨u, by simpa using h1, h2⟩
theorem relSl_some {x : AV} {v : V} (r : RelA K H x v) : RelSl K H (some x) (some v) := fun y e => by cases e; exact ⟨v, rfl, r⟩
theorem relSl_none {b : Option V} : RelSl K H none b := fun y e => nomatch e
theorem StA.set {x : AV} {v : V} (r : RelA K H x v) : ∀ {τ : ASt} {σ : St} (i : Nat), StA K H τ σ → StA K H (τ.set i (some x)) (σ.set i (some v))
  | _, _, _, .nil => .nil
  | _, _, 0, .cons _ t => .cons (relSl_some r) t
  | _, _, i + 1, .cons q t => .cons q (StA.set r i t)
def startA (N : List Str) (xs : List AV) : ASt := xs.map some ++ List.replicate (N.length - xs.length) none
theorem StA.rep : ∀ (n : Nat), StA K H (List.replicate n none) (List.replicate n none)
  | 0 => .nil
  | n + 1 => .cons relSl_none (StA.rep n)
theorem StA.somes : ∀ {xs : List AV} {vs : List V}, RelAs K H xs vs → StA K H (xs.map some) (vs.map some)
  | _, _, .nil => .nil
  | _, _, .cons r t => .cons (relSl_some r) (StA.somes t)
theorem StA.append : ∀ {τ τ' : ASt} {σ σ' : St}, StA K H τ σ → StA K H τ' σ' → StA K H (τ ++ τ') (σ ++ σ')
  | _, _, _, _, .nil, s => s
  | _, _, _, _, .cons r t, s => .cons r (StA.append t s)
theorem StA.begin {N : List Str} {xs : List AV} {vs : List V} (h : RelAs K H xs vs) : StA K H (startA N xs) (start N vs) := by
  unfold startA start
  rw [h.length]
  exact (StA.somes h).append (StA.rep _)
def subA (mp : List (Option Nat)) (τ : ASt) : ASt := mp.map fun o => match o with
  | none => none
  | some j => match τ[j]? with
    | some x => x
    | none => none
theorem StA.sub {τ : ASt} {σ : St} (h : StA K H τ σ) : ∀ (mp : List (Option Nat)), StA K H (subA mp τ) (subS mp σ)
  | [] => .nil
  | none :: mp => .cons relSl_none (StA.sub h mp)
  | some j :: mp => by
    refine .cons (fun x e => ?_) (StA.sub h mp)
    have e' : τ[j]? = some (some x) := by
      dsimp only at e
      cases q : τ[j]? with
      | none => rw [q] at e; cases e
      | some y => rw [q] at e; exact congrArg some e
    obtain ⟨v, hv, r⟩ := h.get e'
    refine ⟨v, ?_, r⟩
    show (σ[j]?).join = some v
    rw [hv]; rfl
end
end L2
namespace L2
open PySem PySem.Spec PyProof.Rows
abbrev AE := ASt → M → (AV → M → Prop) → Prop
abbrev AT := ASt → M → (Bool → M → Prop) → Prop
abbrev AA := ASt → M → (List AV → M → Prop) → Prop
abbrev AO := ASt → M → (Option Int → M → Prop) → Prop
abbrev AS := (ASt → M → Prop) → (AV → M → Prop) → (ASt → M → Prop) → (ASt → M → Prop) → ASt → M → Prop
abbrev AG := AV → ASt → M → (ASt → M → Prop) → Prop
abbrev AGs := List AV → ASt → M → (ASt → M → Prop) → Prop
abbrev A2 := AV → AV → M → (AV → M → Prop) → Prop
abbrev AC := List AV → M → (AV → M → Prop) → Prop
@[irreducible] def brP (b : Bool) (T F : Prop) : Prop := match b with
  | true => T
  | false => F
@[irreducible] def opt {α : Type} (o : Option α) (k : α → Prop) : Prop := match o with
  | some x => k x
  | none => False
theorem br {b : Bool} {T F : Prop} (h1 : b = true → T) (h2 : b = false → F) : brP b T F := by
  unfold brP; cases b with
  | true => exact h1 rfl
  | false => exact h2 rfl
theorem brT {b : Bool} {T F : Prop} (hb : b = true) (h : T) : brP b T F := by subst hb; unfold brP; exact h
theorem brF {b : Bool} {T F : Prop} (hb : b = false) (h : F) : brP b T F := by subst hb; unfold brP; exact h
theorem brP_true {T F : Prop} : brP true T F = T := by unfold brP; rfl
theorem br_e {b : Bool} {T F : Prop} (h : brP b T F) : (b = true ∧ T) ∨ (b = false ∧ F) := by
  unfold brP at h; cases b with
  | true => exact .inl ⟨rfl, h⟩
  | false => exact .inr ⟨rfl, h⟩
theorem opt_i {α : Type} {o : Option α} {x : α} {k : α → Prop} (h : o = some x) (q : k x) : opt o k := by subst h; unfold opt; exact q
theorem opt_e {α : Type} {o : Option α} {k : α → Prop} (h : opt o k) : ∃ x, o = some x ∧ k x := by
  unfold opt at h; cases o with
  | none => exact h.elim
  | some x => exact ⟨x, rfl, h⟩
theorem dif {p : Prop} [Decidable p] {T F : Prop} (h1 : p → T) (h2 : ¬ p → F) : brP (decide p) T F := br (fun h => h1 (of_decide_eq_true h)) (fun h => h2 (of_decide_eq_false h))
def LV (K : PySem.W.Frag) (H : Hp) (R : AV → M → Prop) (Q : VK) : Prop := ∀ x μ v H', Kp H H' → Cn K μ H' → RelA K H' x v → R x μ → Q v H'
def LB (K : PySem.W.Frag) (H : Hp) (R : Bool → M → Prop) (Q : Bool → Hp → Prop) : Prop := ∀ b μ H', Kp H H' → Cn K μ H' → R b μ → Q b H'
def LA (K : PySem.W.Frag) (n : Nat) (H : Hp) (R : List AV → M → Prop) (Q : List V → Hp → Prop) : Prop := ∀ xs μ vs H', Kp H H' → Cn K μ H' → RelAs K H' xs vs → xs.length = n → R xs μ → Q vs H'
def LO (K : PySem.W.Frag) (H : Hp) (R : Option Int → M → Prop) (Q : Option Int → Hp → Prop) : Prop := ∀ b μ H', Kp H H' → Cn K μ H' → R b μ → Q b H'
def LS (K : PySem.W.Frag) (H : Hp) (R : ASt → M → Prop) (Q : St → Hp → Prop) : Prop := ∀ τ μ σ H', Kp H H' → StA K H' τ σ → Cn K μ H' → R τ μ → Q σ H'
theorem LV.kp {K : PySem.W.Frag} {H H' : Hp} {R : AV → M → Prop} {Q : VK} (h : LV K H R Q) (S : Kp H H') : LV K H' R Q := fun x μ v H2 S2 => h x μ v H2 (S.trans S2)
theorem LB.kp {K : PySem.W.Frag} {H H' : Hp} {R : Bool → M → Prop} {Q : Bool → Hp → Prop} (h : LB K H R Q) (S : Kp H H') : LB K H' R Q := fun x μ H2 S2 => h x μ H2 (S.trans S2)
theorem LA.kp {K : PySem.W.Frag} {n : Nat} {H H' : Hp} {R : List AV → M → Prop} {Q : List V → Hp → Prop} (h : LA K n H R Q) (S : Kp H H') : LA K n H' R Q := fun x μ v H2 S2 => h x μ v H2 (S.trans S2)
theorem LO.kp {K : PySem.W.Frag} {H H' : Hp} {R : Option Int → M → Prop} {Q : Option Int → Hp → Prop} (h : LO K H R Q) (S : Kp H H') : LO K H' R Q := fun x μ H2 S2 => h x μ H2 (S.trans S2)
theorem LS.kp {K : PySem.W.Frag} {H H' : Hp} {R : ASt → M → Prop} {Q : St → Hp → Prop} (h : LS K H R Q) (S : Kp H H') : LS K H' R Q := fun x μ v H2 S2 => h x μ v H2 (S.trans S2)
structure LE' (K : PySem.W.Frag) (H : Hp) (k : ASt → M → Prop) (r : AV → M → Prop) (b c : ASt → M → Prop) (D : Ends) : Prop where
  nx : LS K H k D.nx
  rt : LV K H r D.rt
  bk : LS K H b D.bk
  ct : LS K H c D.ct
theorem LE'.kp {K : PySem.W.Frag} {H H' : Hp} {k : ASt → M → Prop} {r : AV → M → Prop} {b c : ASt → M → Prop} {D : Ends} (h : LE' K H k r b c D) (S : Kp H H') : LE' K H' k r b c D := ⟨h.nx.kp S, h.rt.kp S, h.bk.kp S, h.ct.kp S⟩
def cE (K : PySem.W.Frag) (t : AE) : TE := fun σ H Q => ∃ τ μ R, StA K H τ σ ∧ Cn K μ H ∧ t τ μ R ∧ LV K H R Q
def cT (K : PySem.W.Frag) (t : AT) : TT := fun σ H Q => ∃ τ μ R, StA K H τ σ ∧ Cn K μ H ∧ t τ μ R ∧ LB K H R Q
def cA (K : PySem.W.Frag) (n : Nat) (t : AA) : TA := fun σ H Q => ∃ τ μ R, StA K H τ σ ∧ Cn K μ H ∧ t τ μ R ∧ LA K n H R Q
def cO (K : PySem.W.Frag) (t : AO) : TO := fun σ H Q => ∃ τ μ R, StA K H τ σ ∧ Cn K μ H ∧ t τ μ R ∧ LO K H R Q
def cS (K : PySem.W.Frag) (t : AS) : TS := fun D σ H => ∃ τ μ k r b c, StA K H τ σ ∧ Cn K μ H ∧ t k r b c τ μ ∧ LE' K H k r b c D
def cG (K : PySem.W.Frag) (t : AG) : TG := fun v σ H Q => ∃ x τ μ R, RelA K H x v ∧ StA K H τ σ ∧ Cn K μ H ∧ t x τ μ R ∧ LS K H R Q
def cGs (K : PySem.W.Frag) (t : AGs) : TGs := fun vs σ H Q => ∃ xs τ μ R, RelAs K H xs vs ∧ StA K H τ σ ∧ Cn K μ H ∧ t xs τ μ R ∧ LS K H R Q
def cR (K : PySem.W.Frag) (r : A2) : R2 := fun x y H Q => ∃ a b μ R, RelA K H a x ∧ RelA K H b y ∧ Cn K μ H ∧ r a b μ R ∧ LV K H R Q
def cC (K : PySem.W.Frag) (r : AC) : List V → Hp → VK → Prop := fun xs H Q => ∃ as μ R, RelAs K H as xs ∧ Cn K μ H ∧ r as μ R ∧ LV K H R Q
def cM (K : PySem.W.Frag) (r : AV → AC) : V → List V → Hp → VK → Prop := fun x xs H Q => ∃ a as μ R, RelA K H a x ∧ RelAs K H as xs ∧ Cn K μ H ∧ r a as μ R ∧ LV K H R Q
def VE (X : Cx) (e : Expr) (t : AE) : Prop := PE X e (cE X.K t)
def VT (X : Cx) (e : Expr) (t : AT) : Prop := PT X e (cT X.K t)
def VW (X : Cx) (e : Expr) (t : AT) : Prop := PW X e (cT X.K t)
def VA (X : Cx) (es : List Expr) (t : AA) : Prop := PA X es (cA X.K es.length t)
def VO (X : Cx) (e : Option Expr) (t : AO) : Prop := PO X e (cO X.K t)
def VS (X : Cx) (st : Stmt) (t : AS) : Prop := PS X st (cS X.K t)
def VSs (X : Cx) (st : List Stmt) (t : AS) : Prop := PSs X st (cS X.K t)
def VG (X : Cx) (e : Expr) (t : AG) : Prop := PG X e (cG X.K t)
def VGs (X : Cx) (es : List Expr) (t : AGs) : Prop := PGs X es (cGs X.K t)
def VOp (X : Cx) (f : Value → Value → Sem Value) (r : A2) : Prop := OpR X f (cR X.K r)
def VIx (X : Cx) (r : A2) : Prop := IxR X (cR X.K r)
def VCall (X : Cx) (f : Value) (r : AC) : Prop := CallR X f (cC X.K r)
def VMt (X : Cx) (id : String) (r : AV → AC) : Prop := MtR X id (cM X.K r)
section
variable {X : Cx}
theorem PE.imp {e : Expr} {t u : TE} (h : PE X e t) (i : ∀ σ H Q, u σ H Q → t σ H Q) : PE X e u := fun pins s σ H Q I q => h pins s σ H Q I (i σ H Q q)
theorem PT.imp {e : Expr} {t u : TT} (h : PT X e t) (i : ∀ σ H Q, u σ H Q → t σ H Q) : PT X e u := fun pins s σ H Q I q => h pins s σ H Q I (i σ H Q q)
theorem PW.imp {e : Expr} {t u : TT} (h : PW X e t) (i : ∀ σ H Q, u σ H Q → t σ H Q) : PW X e u := fun wh pins s σ H Q I q => h wh pins s σ H Q I (i σ H Q q)
theorem PA.imp {e : List Expr} {t u : TA} (h : PA X e t) (i : ∀ σ H Q, u σ H Q → t σ H Q) : PA X e u := fun pos pins s σ H Q I q => h pos pins s σ H Q I (i σ H Q q)
theorem PO.imp {e : Option Expr} {t u : TO} (h : PO X e t) (i : ∀ σ H Q, u σ H Q → t σ H Q) : PO X e u := fun pins s σ H Q I q => h pins s σ H Q I (i σ H Q q)
theorem PS.imp {e : Stmt} {t u : TS} (h : PS X e t) (i : ∀ D σ H, u D σ H → t D σ H) : PS X e u := fun pins s σ H D I q => h pins s σ H D I (i D σ H q)
theorem PSs.imp {e : List Stmt} {t u : TS} (h : PSs X e t) (i : ∀ D σ H, u D σ H → t D σ H) : PSs X e u := fun pins s σ H D I q => h pins s σ H D I (i D σ H q)
theorem PG.imp {e : Expr} {t u : TG} (h : PG X e t) (i : ∀ v σ H Q, u v σ H Q → t v σ H Q) : PG X e u := fun pins s σ H v w Q I r q => h pins s σ H v w Q I r (i v σ H Q q)
theorem PGs.imp {e : List Expr} {t u : TGs} (h : PGs X e t) (i : ∀ v σ H Q, u v σ H Q → t v σ H Q) : PGs X e u := fun pins s σ H v w Q I r q => h pins s σ H v w Q I r (i v σ H Q q)
def vVar (i : Nat) : AE := fun τ μ R => match τ[i]? with
  | some (some x) => R x μ
  | _ => False
theorem vVar_imp {K : PySem.W.Frag} {i : Nat} {σ : St} {H : Hp} {Q : VK} (h : cE K (vVar i) σ H Q) : tVar i σ H Q := by
  obtain ⟨τ, μ, R, hs, hc, h, hq⟩ := h
  unfold vVar at h
  split at h
  · rename_i x e
    obtain ⟨v, ev, r⟩ := hs.get e
    exact ⟨v, ev, hq _ _ _ _ Kp.refl hc r h⟩
  · exact h.elim
theorem vv (i : Nat) {x : Str} {pos : Pos} (hN : X.N[i]? = some x := by rfl) (hv : Vis X.env.scope x := by first | exact Or.inl rfl | exact Or.inr (Or.inl rfl) | exact Or.inr (Or.inr rfl)) (hd : (x == ("__debug__" : Str)) = false := by decide)
    (hcd : (x == ("__classdict__" : Str)) = false := by decide) : VE X (.Name x pos) (vVar i) := (pe_var hN hv hd hcd).imp fun _ _ _ h => vVar_imp h
def vC (x : AV) : AE := fun _ μ R => R x μ
theorem ve_const {e : Expr} {v : V} {d : PyData} (h : PE X e (tC v)) (r : ∀ H, Dk X.K H d v) : VE X e (vC (.D d)) := h.imp fun σ H Q ⟨τ, μ, R, hs, hc, h, hq⟩ => hq _ _ _ _ Kp.refl hc (ra_D (r H)) h
theorem ve_int {i j pos} : VE X (.Constant (.int i) j pos) (vC (.D (.int i))) := ve_const pe_int fun _ => dk_int
theorem ve_bl {b j pos} : VE X (.Constant (.bool b) j pos) (vC (.D (.bool b))) := ve_const pe_bl fun _ => dk_bl
theorem ve_non {j pos} : VE X (.Constant .none j pos) (vC (.D .none)) := ve_const pe_non fun _ => dk_non
theorem ve_str {x j pos} : VE X (.Constant (.str x) j pos) (vC (.D (.str x))) := ve_const pe_str fun _ => dk_str
theorem ve_globC {x : Str} {a : Addr} {xs : List V} {ds : List PyData} {pos : Pos} (hg : Gl X x) (hm : X.mg x = some (.ref a)) (hq : ∀ H, SqT X.K H a xs) (hd : ∀ H, DkAll X.K H ds xs) (h1 : (x == ("__debug__" : Str)) = false := by decide) : VE X (.Name x pos) (vC (.C ds)) :=
  (pe_glob (v := .ref a) hg hm rfl h1).imp fun σ H Q ⟨τ, μ, R, hs, hc, h, hq'⟩ => hq' (.C ds) _ _ _ Kp.refl hc ⟨a, xs, rfl, hq, hd H⟩ h
theorem ve_glob {x : Str} {v : V} {u : Value} {d : PyData} {pos : Pos} (hg : Gl X x) (hm : X.mg x = some u) (r : RelV v u) (hd : ∀ H, Dk X.K H d v) (h1 : (x == ("__debug__" : Str)) = false := by decide) : VE X (.Name x pos) (vC (.D d)) := ve_const (pe_glob hg hm r h1) hd
def vOp (r : A2) (ta tb : AE) : AE := fun τ μ R => ta τ μ fun x μ1 => tb τ μ1 fun y μ2 => r x y μ2 R
theorem vOp_imp {K : PySem.W.Frag} {r : A2} {ta tb : AE} {σ : St} {H : Hp} {Q : VK} (h : cE K (vOp r ta tb) σ H Q) : tOp (cR K r) (cE K ta) (cE K tb) σ H Q := by
  obtain ⟨τ, μ, R, hs, hc, h, hq⟩ := h
  exact ⟨τ, μ, _, hs, hc, h, fun x μ1 v H1 S1 c1 rx hx => ⟨τ, μ1, _, hs.kp S1, c1, hx, fun y μ2 u H2 S2 c2 ry hy => ⟨x, y, μ2, R, rx.kp S2, ry, c2, hy, hq.kp (S1.trans S2)⟩⟩⟩
variable {a b c : Expr} {ta tb tc : AE} {pos : Pos}
theorem ve_op {op : Operator} {r : A2} (ho : VOp X (binaryOp op) r) (ha : VE X a ta) (hb : VE X b tb) : VE X (.BinOp a op b pos) (vOp r ta tb) := (pe_op ho ha hb).imp fun _ _ _ h => vOp_imp h
theorem ve_cmp {op : CmpOp} {r : A2} (ho : VOp X (compareOp op) r) (ha : VE X a ta) (hb : VE X b tb) (hm : behindInMarks op b = false) : VE X (.Compare a [op] [b] pos) (vOp r ta tb) := (pe_cmpR ho ha hb hm).imp fun _ _ _ h => vOp_imp h
def vTest (t : AE) : AT := fun τ μ R => t τ μ fun x μ1 => match x with
  | .D (.bool k) => R k μ1
  | _ => False
theorem vTest_imp {K : PySem.W.Frag} {t : AE} {u : TE} (hu : ∀ σ H Q, cE K t σ H Q → u σ H Q) {σ : St} {H : Hp} {Q : Bool → Hp → Prop} (h : cT K (vTest t) σ H Q) : tTest u σ H Q := by
  obtain ⟨τ, μ, R, hs, hc, h, hq⟩ := h
  refine hu _ _ _ ⟨τ, μ, _, hs, hc, h, fun x μ1 v H1 S1 c1 rx hx => ?_⟩
  split at hx
  · cases RelA.bl rx
    exact ⟨_, rfl, hq _ _ _ S1 c1 hx⟩
  · exact hx.elim
theorem vt_cmp {op : CmpOp} {r : A2} (ho : VOp X (compareOp op) r) (ha : VE X a ta) (hb : VE X b tb) (hm : behindInMarks op b = false) : VT X (.Compare a [op] [b] pos) (vTest (vOp r ta tb)) :=
  (pt_cmpR ho ha hb hm).imp fun _ _ _ h => vTest_imp (fun _ _ _ q => vOp_imp q) h
def vChain (r r' : A2) (ta tb tc : AE) : AE := fun τ μ R => ta τ μ fun x μ1 => tb τ μ1 fun y μ2 => r x y μ2 fun z μ3 => match z with
  | .D (.bool k) => brP k (tc τ μ3 fun w μ4 => r' y w μ4 R) (R (.D (.bool false)) μ3)
  | _ => False
theorem vChain_imp {K : PySem.W.Frag} {r r' : A2} {ta tb tc : AE} {σ : St} {H : Hp} {Q : VK} (h : cE K (vChain r r' ta tb tc) σ H Q) : tChain (cR K r) (cR K r') (cE K ta) (cE K tb) (cE K tc) σ H Q := by
  obtain ⟨τ, μ, R, hs, hc, h, hq⟩ := h
  refine ⟨τ, μ, _, hs, hc, h, fun x μ1 v H1 S1 c1 rx hx => ⟨τ, μ1, _, hs.kp S1, c1, hx, fun y μ2 u H2 S2 c2 ry hy => ⟨x, y, μ2, _, rx.kp S2, ry, c2, hy, fun z μ3 q H3 S3 c3 rz hz => ?_⟩⟩⟩
  split at hz
  · cases RelA.bl rz
    rcases br_e hz with ⟨rfl, hz'⟩ | ⟨rfl, hz'⟩
    · exact ⟨true, rfl, by
        first
          | exact ⟨τ, μ3, _, hs.kp (S1.trans (S2.trans S3)), c3, hz', fun w μ4 p H4 S4 c4 rw hw => ⟨y, w, μ4, R, ry.kp (S3.trans S4), rw, c4, hw, hq.kp (S1.trans (S2.trans (S3.trans S4)))⟩⟩
          | (rw [if_pos rfl]; exact ⟨τ, μ3, _, hs.kp (S1.trans (S2.trans S3)), c3, hz', fun w μ4 p H4 S4 c4 rw hw => ⟨y, w, μ4, R, ry.kp (S3.trans S4), rw, c4, hw, hq.kp (S1.trans (S2.trans (S3.trans S4)))⟩⟩)⟩
    · exact ⟨false, rfl, by
        first
          | exact hq _ _ _ _ (S1.trans (S2.trans S3)) c3 ra_bl hz'
          | (rw [if_neg Bool.false_ne_true]; exact hq _ _ _ _ (S1.trans (S2.trans S3)) c3 ra_bl hz')⟩
  · exact hz.elim
theorem ve_chain {op op' : CmpOp} {r r' : A2} (ho : VOp X (compareOp op) r) (ho' : VOp X (compareOp op') r') (ha : VE X a ta) (hb : VE X b tb) (hc : VE X c tc) (hm : lastMarks [op, op'] [b, c] = false := by rfl) : VE X (.Compare a [op, op'] [b, c] pos) (vChain r r' ta tb tc) :=
  (pe_chain ho ho' ha hb hc hm).imp fun _ _ _ h => vChain_imp h
theorem vt_chain {op op' : CmpOp} {r r' : A2} (ho : VOp X (compareOp op) r) (ho' : VOp X (compareOp op') r') (ha : VE X a ta) (hb : VE X b tb) (hc : VE X c tc) (hm : lastMarks [op, op'] [b, c] = false := by rfl) : VT X (.Compare a [op, op'] [b, c] pos) (vTest (vChain r r' ta tb tc)) :=
  (pt_chain ho ho' ha hb hc hm).imp fun _ _ _ h => vTest_imp (fun _ _ _ q => vChain_imp q) h
theorem vt_val {e : Expr} {t : AE} (h : VE X e t) (he : ∀ whole, isTrue e X.env whole = (do let v ← whole; standAt e.pos; holding [v] (truthy v)) := by intro _; rfl) : VT X e (vTest t) :=
  (pt_val h he).imp fun _ _ _ h => by
    have h := vTest_imp (fun _ _ _ q => q) h
    exact h
def vAnd (t u : AT) : AT := fun τ μ R => t τ μ fun k μ1 => brP k (u τ μ1 R) (R false μ1)
def vOr (t u : AT) : AT := fun τ μ R => t τ μ fun k μ1 => brP k (R true μ1) (u τ μ1 R)
def vNot (t : AT) : AT := fun τ μ R => t τ μ fun k μ1 => R (!k) μ1
theorem VW.pt {e : Expr} {t : AT} (h : VW X e t) : VT X e t := PW.pt h
variable {rest : List Expr} {tA tB' : AT}
theorem vw_and1 (ha : VT X a tA) : VW X (.BoolOp .And [a] pos) tA := pw_and1 ha
theorem vw_or1 (ha : VT X a tA) : VW X (.BoolOp .Or [a] pos) tA := pw_or1 ha
theorem vw_and (ha : VT X a tA) (hb : VW X (.BoolOp .And (b :: rest) pos) tB') : VW X (.BoolOp .And (a :: b :: rest) pos) (vAnd tA tB') :=
  (pw_and ha hb).imp fun σ H Q ⟨τ, μ, R, hs, hc, h, hq⟩ => ⟨τ, μ, _, hs, hc, h, fun k μ1 H1 S1 c1 hk => by
    rcases br_e hk with ⟨rfl, hk'⟩ | ⟨rfl, hk'⟩
    · exact ⟨τ, μ1, R, hs.kp S1, c1, hk', hq.kp S1⟩
    · exact hq _ _ _ S1 c1 hk'⟩
theorem vw_or (ha : VT X a tA) (hb : VW X (.BoolOp .Or (b :: rest) pos) tB') : VW X (.BoolOp .Or (a :: b :: rest) pos) (vOr tA tB') :=
  (pw_or ha hb).imp fun σ H Q ⟨τ, μ, R, hs, hc, h, hq⟩ => ⟨τ, μ, _, hs, hc, h, fun k μ1 H1 S1 c1 hk => by
    rcases br_e hk with ⟨rfl, hk'⟩ | ⟨rfl, hk'⟩
    · exact hq _ _ _ S1 c1 hk'
    · exact ⟨τ, μ1, R, hs.kp S1, c1, hk', hq.kp S1⟩⟩
theorem vt_not (ha : VT X a tA) : VT X (.UnaryOp .Not a pos) (vNot tA) := (pt_not ha).imp fun σ H Q ⟨τ, μ, R, hs, hc, h, hq⟩ => ⟨τ, μ, _, hs, hc, h, fun k μ1 H1 S1 c1 hk => hq _ _ _ S1 c1 hk⟩
theorem ve_one {op} {t : AE} (h : VE X a t) : VE X (.BoolOp op [a] pos) t := pe_one h
def vAndV (ta tb : AE) : AE := fun τ μ R => ta τ μ fun x μ1 => match x with
  | .D (.bool k) => brP k (tb τ μ1 R) (R (.D (.bool false)) μ1)
  | _ => False
def vNotV (ta : AE) : AE := fun τ μ R => ta τ μ fun x μ1 => match x with
  | .D (.bool k) => R (.D (.bool (!k))) μ1
  | _ => False
theorem ve_and (ha : VE X a ta) (hb : VE X (.BoolOp .And (b :: rest) pos) tb) : VE X (.BoolOp .And (a :: b :: rest) pos) (vAndV ta tb) :=
  (pe_and ha hb).imp fun σ H Q ⟨τ, μ, R, hs, hc, h, hq⟩ => ⟨τ, μ, _, hs, hc, h, fun x μ1 v H1 S1 c1 rx hk => by
    split at hk
    · cases RelA.bl rx
      rcases br_e hk with ⟨rfl, hk'⟩ | ⟨rfl, hk'⟩
      · exact ⟨true, rfl, ⟨τ, μ1, R, hs.kp S1, c1, hk', hq.kp S1⟩⟩
      · exact ⟨false, rfl, hq _ _ _ _ S1 c1 ra_bl hk'⟩
    · exact hk.elim⟩
theorem ve_not (ha : VE X a ta) : VE X (.UnaryOp .Not a pos) (vNotV ta) :=
  (pe_not ha).imp fun σ H Q ⟨τ, μ, R, hs, hc, h, hq⟩ => ⟨τ, μ, _, hs, hc, h, fun x μ1 v H1 S1 c1 rx hk => by
    split at hk
    · cases RelA.bl rx
      exact ⟨_, rfl, hq _ _ _ _ S1 c1 ra_bl hk⟩
    · exact hk.elim⟩
def vNil : AA := fun _ μ R => R [] μ
def vCons (ta : AE) (tr : AA) : AA := fun τ μ R => ta τ μ fun x μ1 => tr τ μ1 fun xs μ2 => R (x :: xs) μ2
theorem va_nil : VA X [] vNil := pa_nil.imp fun σ H Q ⟨τ, μ, R, hs, hc, h, hq⟩ => hq [] μ [] H Kp.refl hc .nil rfl h
theorem va_cons {e : Expr} {es : List Expr} {te : AE} {t : AA} (ha : VE X e te) (hr : VA X es t) (hs : starEach (e :: es) X.env = (false, eval e X.env) :: starEach es X.env := by rfl) : VA X (e :: es) (vCons te t) :=
  (pa_cons ha hr hs).imp fun σ H Q ⟨τ, μ, R, hs, hc, h, hq⟩ => ⟨τ, μ, _, hs, hc, h, fun x μ1 v H1 S1 c1 rx hx => ⟨τ, μ1, _, hs.kp S1, c1, hx, fun xs μ2 vs H2 S2 c2 rs hl hxs =>
    hq (x :: xs) μ2 (v :: vs) H2 (S1.trans S2) c2 (.cons (rx.kp S2) rs) (by rw [List.length_cons, hl]; rfl) hxs⟩⟩
def vTup (t : AA) : AE := fun τ μ R => t τ μ fun xs μ1 => match dats xs with
  | some ds => R (.D (.tuple ds)) μ1
  | none => False
def vLst (t : AA) : AE := fun τ μ R => t τ μ fun xs μ1 => ∀ p, μ1 p = none → R (.R p) (updM μ1 p (.lst xs))
variable {es : List Expr} {t : AA}
theorem ve_tup {k : Nat} (h : VA X es t) (hn : es.length ≤ sizeLine := by decide) : VE X (.Tuple es k pos) (vTup t) :=
  (pe_tup h).imp fun σ H Q ⟨τ, μ, R, hs, hc, h, hq⟩ => ⟨τ, μ, _, hs, hc, h, fun xs μ1 vs H1 S1 c1 rs hl hx => ⟨by rw [← rs.length, hl]; exact hn, fun p hp => by
    split at hx
    · rename_i ds e
      refine hq _ _ _ _ (S1.trans (Kp.new hp _)) (c1.over hp) ?_ hx
      exact dk_tup upd_same (DkAll.kp (Kp.new hp _) _ _ (rs.dats e))
    · exact hx.elim⟩⟩
theorem ve_lst (h : VA X es t) (hn : es.length ≤ sizeLine := by decide) : VE X (.List es pos) (vLst t) :=
  (pe_lst h).imp fun σ H Q ⟨τ, μ, R, hs, hc, h, hq⟩ => ⟨τ, μ, _, hs, hc, h, fun xs μ1 vs H1 S1 c1 rs hl hx => ⟨by rw [← rs.length, hl]; exact hn, fun p hp =>
    hq _ _ _ _ (S1.trans (Kp.new hp _)) (c1.new hp (rm_lst (rs))) ra_ref (hx p (c1.none hp))⟩⟩
mutual
theorem Dk.reads {pins : List (Addr × Obj)} {σ : St} {H : Hp} {s : Shared} (I : Inv X pins σ H s) : ∀ (d : PyData) (x : V) (u : Value), Dk X.K H d x → RelV x u → ∃ as, Reads s.heap u d as
  | .none, x, u, h, r => by cases h.non; cases r; exact ⟨_, .none⟩
  | .bool b, x, u, h, r => by cases h.bl; cases r; exact ⟨_, .bool b⟩
  | .int i, x, u, h, r => by cases h.int; obtain ⟨t, rfl⟩ := r; exact ⟨_, .int i t⟩
  | .str z, x, u, h, r => by cases h.str; obtain ⟨t, rfl⟩ := r; exact ⟨_, .str z t⟩
  | .list ds, x, u, h, r => by
    obtain ⟨a, xs, rfl, q, k⟩ := h.lst
    cases r
    obtain ⟨its, rv, ⟨o, n, e, c, _, d⟩, _⟩ := I.list q.sq
    obtain ⟨as, ra⟩ := DkAll.reads I ds xs its k rv
    exact ⟨_, .list e c d (by simpa using ra)⟩
  | .tuple ds, x, u, h, r => by
    obtain ⟨a, xs, rfl, q, k⟩ := h.tup
    cases r
    obtain ⟨its, rv, ⟨o, e, c, n, d⟩, _⟩ := I.tuple (SqT.of q)
    obtain ⟨as, ra⟩ := DkAll.reads I ds xs its k rv
    exact ⟨_, .tuple e c d (by simpa using ra)⟩
  | .dict _, x, u, h, _ => by simp only [Dk] at h
theorem DkAll.reads {pins : List (Addr × Obj)} {σ : St} {H : Hp} {s : Shared} (I : Inv X pins σ H s) : ∀ (ds : List PyData) (xs : List V) (us : List Value), DkAll X.K H ds xs → Vals xs us → ∃ as, ReadsAll s.heap us ds as
  | [], xs, us, h, r => by
    have e := h.nil
    subst e
    cases r
    exact ⟨_, .nil⟩
  | d :: ds, xs, us, h, r => by
    obtain ⟨x, xr, rfl, h1, h2⟩ := h.cons
    cases r with
    | cons r1 r2 =>
      obtain ⟨as, ra⟩ := Dk.reads I d x _ h1 r1
      obtain ⟨bs, rb⟩ := DkAll.reads I ds xr _ h2 r2
      exact ⟨_, .cons ra rb⟩
end
def see (μ : M) : AV → Option PyData
  | .X _ _ => none
  | .D d => some d
  | .C ds => some (.tuple ds)
  | .R a => match μ a with
    | some (.lst xs) => match dats xs with
      | some ds => some (.list ds)
      | none => none
    | _ => none
@[simp] theorem see_D {μ : M} {d : PyData} : see μ (.D d) = some d := rfl
theorem see_reads {pins : List (Addr × Obj)} {σ : St} {H : Hp} {s : Shared} {μ : M} {x : AV} {v : V} {u : Value} {d : PyData} (I : Inv X pins σ H s) (hc : Cn X.K μ H) (rx : RelA X.K H x v) (r : RelV v u) (e : see μ x = some d) : ∃ as, Reads s.heap u d as := by
  cases x with
  | X C fs => cases e
  | D d' => cases e; exact Dk.reads I _ _ _ rx r
  | C ds =>
    cases e
    obtain ⟨a, xs, rfl, q, k⟩ := rx
    cases r
    obtain ⟨its, rv, ⟨o, e, c, n, d⟩, _⟩ := I.tuple (q H)
    obtain ⟨as, ra⟩ := DkAll.reads I ds xs its k rv
    exact ⟨_, .tuple e c d (by simpa using ra)⟩
  | R a =>
    dsimp only [see] at e
    split at e
    · rename_i xs ex
      split at e
      · rename_i ds ed
        cases e
        cases (show v = .ref a from rx)
        cases r
        obtain ⟨o, ho, vs, rfl, rs⟩ := hc a _ ex
        obtain ⟨its, rv, ⟨o, n, e, c, _, dd⟩, _⟩ := I.list (SqL.of ho)
        obtain ⟨as, ra⟩ := DkAll.reads I ds vs its (rs.dats ed) rv
        exact ⟨_, .list e c dd (by simpa using ra)⟩
      · cases e
    · cases e
def EqOk (d : PyData) : Prop := d.canLay0 = true ∧ d.depth ≤ 64
def aEq : A2 := fun x y μ R => match x, y with
  | .D d, .D e => EqOk d ∧ EqOk e ∧ R (.D (.bool (PyData.eqv d e))) μ
  | x, y => opt (see μ x) fun d => opt (see μ y) fun e => EqOk d ∧ EqOk e ∧ R (.D (.bool (PyData.eqv d e))) μ
theorem aEq_opt {x y : AV} {μ : M} {R : AV → M → Prop} (h : aEq x y μ R) : ∃ d e, see μ x = some d ∧ see μ y = some e ∧ EqOk d ∧ EqOk e ∧ R (.D (.bool (PyData.eqv d e))) μ := by
  unfold aEq at h
  split at h
  · exact ⟨_, _, rfl, rfl, h⟩
  · obtain ⟨d, ed, h⟩ := opt_e h
    obtain ⟨e, ee, h⟩ := opt_e h
    exact ⟨d, e, ed, ee, h⟩
variable {k : Nat}
theorem o_eq (hr : Room k X.A) : VOp X (compareOp .Eq) aEq := by
  intro pins s σ H x y v u Q I rx ry ⟨a, b, μ, R, ra, rb, hc, h, hq⟩
  obtain ⟨d, e, ed, ee, h⟩ := aEq_opt h
  · obtain ⟨as, r1⟩ := see_reads I hc ra rx ed
    obtain ⟨bs, r2⟩ := see_reads I hc rb ry ee
    have hu := hr.un
    have := h.1.2
    exact SeqAt.compareEq_reads r1 r2 h.1.1 h.2.1.1 (by omega) ⟨.bl _, H, I, rfl, hq _ _ _ _ Kp.refl hc ra_bl h.2.2⟩
def keyOf : PyData → Option Key
  | .int i => some (.inl i)
  | .str z => some (.inr z)
  | _ => none
def items (μ : M) : AV → Option (List AV)
  | .D (.tuple ds) => some (ds.map .D)
  | .C ds => some (ds.map .D)
  | .D (.list ds) => some (ds.map .D)
  | .R a => match μ a with
    | some (.lst xs) => some xs
    | _ => none
  | _ => none
theorem items_seq {H : Hp} {μ : M} {x : AV} {v : V} {xs : List AV} (hc : Cn X.K μ H) (rx : RelA X.K H x v) (e : items μ x = some xs) : ∃ p vs, v = .ref p ∧ (SqL X.K H p vs ∨ SqT X.K H p vs) ∧ RelAs X.K H xs vs := by
  unfold items at e
  split at e
  · cases e; obtain ⟨a, vs, rfl, q, r⟩ := RelA.tup rx; exact ⟨a, vs, rfl, .inr (SqT.of q), r.rel⟩
  · cases e; obtain ⟨a, vs, rfl, q, r⟩ := rx; exact ⟨a, vs, rfl, .inr (q H), r.rel⟩
  · cases e; obtain ⟨a, vs, rfl, q, r⟩ := RelA.lst rx; exact ⟨a, vs, rfl, .inl q.sq, r.rel⟩
  · split at e
    · rename_i ys ey
      cases e
      obtain ⟨o, ho, vs, rfl, rs⟩ := hc _ _ ey
      exact ⟨_, vs, rx, .inl (SqL.of ho), rs⟩
    · cases e
  · cases e
def isT : AV → Bool
  | .D (.tuple _) => true
  | .C _ => true
  | _ => false
theorem items_kind {H : Hp} {μ : M} {x : AV} {v : V} {xs : List AV} (hc : Cn X.K μ H) (rx : RelA X.K H x v) (e : items μ x = some xs) : ∃ p vs, v = .ref p ∧ ((isT x = false ∧ SqL X.K H p vs) ∨ (isT x = true ∧ SqT X.K H p vs)) ∧ RelAs X.K H xs vs := by
  unfold items at e
  split at e
  · cases e; obtain ⟨a, vs, rfl, q, r⟩ := RelA.tup rx; exact ⟨a, vs, rfl, .inr ⟨rfl, SqT.of q⟩, r.rel⟩
  · cases e; obtain ⟨a, vs, rfl, q, r⟩ := rx; exact ⟨a, vs, rfl, .inr ⟨rfl, q H⟩, r.rel⟩
  · cases e; obtain ⟨a, vs, rfl, q, r⟩ := RelA.lst rx; exact ⟨a, vs, rfl, .inl ⟨rfl, q.sq⟩, r.rel⟩
  · split at e
    · rename_i ys ey
      cases e
      obtain ⟨o, ho, vs, rfl, rs⟩ := hc _ _ ey
      exact ⟨_, vs, rx, .inl ⟨rfl, SqL.of ho⟩, rs⟩
    · cases e
  · cases e
def aIn (nb : Bool → Bool) : A2 := fun x y μ R => match y with
  | .D (.str j) => match x with
    | .D (.str i) => R (.D (.bool (nb (!(Builtin.Str.occurrences j i 0 j.length 1).isEmpty)))) μ
    | _ => False
  | .C ds => opt (see μ x) fun d => EqOk d ∧ EqOk (.tuple ds) ∧ R (.D (.bool (nb (ds.any fun e => PyData.eqv e d)))) μ
  | .D (.tuple ds) => opt (see μ x) fun d => EqOk d ∧ EqOk (.tuple ds) ∧ R (.D (.bool (nb (ds.any fun e => PyData.eqv e d)))) μ
  | y => opt (see μ x) fun d => opt (items μ y) fun ys => opt (dats ys) fun ds => EqOk d ∧ EqOk (.tuple ds) ∧ R (.D (.bool (nb (ds.any fun e => PyData.eqv e d)))) μ
theorem aIn_opt {nb : Bool → Bool} {x y : AV} {μ : M} {R : AV → M → Prop} (h : aIn nb x y μ R) (hn : ∀ z, y ≠ .D (.str z)) : ∃ d ys ds, see μ x = some d ∧ items μ y = some ys ∧ dats ys = some ds ∧ EqOk d ∧ EqOk (.tuple ds) ∧ R (.D (.bool (nb (ds.any fun e => PyData.eqv e d)))) μ := by
  unfold aIn at h
  split at h
  · exact absurd rfl (hn _)
  · obtain ⟨d, ed, h⟩ := opt_e h
    exact ⟨d, _, _, ed, rfl, dats_map _, h⟩
  · obtain ⟨d, ed, h⟩ := opt_e h
    exact ⟨d, _, _, ed, rfl, dats_map _, h⟩
  · obtain ⟨d, ed, h⟩ := opt_e h
    obtain ⟨ys, ey, h⟩ := opt_e h
    obtain ⟨ds, eds, h⟩ := opt_e h
    exact ⟨d, ys, ds, ed, ey, eds, h⟩
theorem eqOk_all {ds : List PyData} (h : EqOk (.tuple ds)) : PyData.canLayAll0 ds = true ∧ PyData.depthAll ds ≤ 64 := by
  obtain ⟨h1, h2⟩ := h
  simp only [PyData.canLay0] at h1
  simp only [PyData.depth] at h2
  exact ⟨h1, by omega⟩
theorem o_in (hr : Room k X.A) : VOp X (compareOp .In) (aIn fun b => b) := by
  intro pins s σ H x y v u Q I rx ry ⟨a, b, μ, R, ra, rb, hc, h, hq⟩
  by_cases hb : ∃ z, b = .D (.str z)
  · obtain ⟨z, rfl⟩ := hb
    unfold aIn at h
    dsimp only at h
    split at h
    · cases RelA.str ra; cases RelA.str rb
      exact op_in_str pins s σ H _ _ v u Q I rx ry ⟨_, _, rfl, rfl, hq _ _ _ _ Kp.refl hc ra_bl h⟩
    · exact h.elim
  · obtain ⟨d, ys, ds, ed, ey, eds, h⟩ := aIn_opt h fun z e => hb ⟨z, e⟩
    · skip
      obtain ⟨ok1, ok2, h⟩ := h
      obtain ⟨as, r1⟩ := see_reads I hc ra rx ed
      obtain ⟨p, vs, rfl, hp, rs⟩ := items_seq hc rb ey
      cases ry
      obtain ⟨c1, c2⟩ := eqOk_all ok2
      have hs := rs.dats eds
      have hu := hr.un
      have q := hq _ _ _ _ Kp.refl hc ra_bl h
      rcases hp with hp | hp
      · obtain ⟨its, r, pl, hz⟩ := I.list hp
        obtain ⟨bs, rb⟩ := DkAll.reads I ds vs its hs r
        have e := fun A => items_eqR (A := A) r1 ok1.1
        refine SeqAt.in_listAt (eqR s.heap d) pl.isList (fun w hw => (e _ (by first | (show X.A.units + 64 < _; omega) | (show X.A.units + 1 + 64 < _; omega) | (show X.A.units + 1 + 1 + 64 < _; omega)) rb c1 c2).1 w (by simpa using hw)) ⟨.bl _, H, I, rfl, ?_⟩
        rw [show its.toArray.any (eqR s.heap d) = its.any (eqR s.heap d) by simp, (e X.A (by omega) rb c1 c2).2]
        exact q
      · obtain ⟨its, r, pl, hz⟩ := I.tuple hp
        obtain ⟨bs, rb⟩ := DkAll.reads I ds vs its hs r
        have e := fun A => items_eqR (A := A) r1 ok1.1
        refine SeqAt.in_tupleAt (eqR s.heap d) pl (fun w hw => (e _ (by first | (show X.A.units + 64 < _; omega) | (show X.A.units + 1 + 64 < _; omega) | (show X.A.units + 1 + 1 + 64 < _; omega)) rb c1 c2).1 w (by simpa using hw)) ⟨.bl _, H, I, rfl, ?_⟩
        rw [show its.toArray.any (eqR s.heap d) = its.any (eqR s.heap d) by simp, (e X.A (by omega) rb c1 c2).2]
        exact q
theorem o_notIn (hr : Room k X.A) : VOp X (compareOp .NotIn) (aIn fun b => !b) := by
  intro pins s σ H x y v u Q I rx ry ⟨a, b, μ, R, ra, rb, hc, h, hq⟩
  by_cases hb : ∃ z, b = .D (.str z)
  · obtain ⟨z, rfl⟩ := hb
    unfold aIn at h
    dsimp only at h
    split at h
    · cases RelA.str ra; cases RelA.str rb
      exact op_notIn_str pins s σ H _ _ v u Q I rx ry ⟨_, _, rfl, rfl, hq _ _ _ _ Kp.refl hc ra_bl h⟩
    · exact h.elim
  · obtain ⟨d, ys, ds, ed, ey, eds, h⟩ := aIn_opt h fun z e => hb ⟨z, e⟩
    · skip
      obtain ⟨ok1, ok2, h⟩ := h
      obtain ⟨as, r1⟩ := see_reads I hc ra rx ed
      obtain ⟨p, vs, rfl, hp, rs⟩ := items_seq hc rb ey
      cases ry
      obtain ⟨c1, c2⟩ := eqOk_all ok2
      have hs := rs.dats eds
      have hu := hr.un
      have q := hq _ _ _ _ Kp.refl hc ra_bl h
      rcases hp with hp | hp
      · obtain ⟨its, r, pl, hz⟩ := I.list hp
        obtain ⟨bs, rb⟩ := DkAll.reads I ds vs its hs r
        have e := fun A => items_eqR (A := A) r1 ok1.1
        refine SeqAt.notIn_listAt (eqR s.heap d) pl.isList (fun w hw => (e _ (by first | (show X.A.units + 64 < _; omega) | (show X.A.units + 1 + 64 < _; omega) | (show X.A.units + 1 + 1 + 64 < _; omega)) rb c1 c2).1 w (by simpa using hw)) ⟨.bl _, H, I, rfl, ?_⟩
        rw [show its.toArray.any (eqR s.heap d) = its.any (eqR s.heap d) by simp, (e X.A (by omega) rb c1 c2).2]
        exact q
      · obtain ⟨its, r, pl, hz⟩ := I.tuple hp
        obtain ⟨bs, rb⟩ := DkAll.reads I ds vs its hs r
        have e := fun A => items_eqR (A := A) r1 ok1.1
        refine SeqAt.notIn_tupleAt (eqR s.heap d) pl (fun w hw => (e _ (by first | (show X.A.units + 64 < _; omega) | (show X.A.units + 1 + 64 < _; omega) | (show X.A.units + 1 + 1 + 64 < _; omega)) rb c1 c2).1 w (by simpa using hw)) ⟨.bl _, H, I, rfl, ?_⟩
        rw [show its.toArray.any (eqR s.heap d) = its.any (eqR s.heap d) by simp, (e X.A (by omega) rb c1 c2).2]
        exact q
def aNotN : A2 := fun x y μ R => match x, y with
  | .D .none, .D .none => R (.D (.bool false)) μ
  | _, .D .none => R (.D (.bool true)) μ
  | _, _ => False
theorem relA_non {K : PySem.W.Frag} {H : Hp} {x : AV} (h : RelA K H x .non) : x = .D .none := by
  cases x with
  | R a => cases (show V.non = .ref a from h)
  | C ds => obtain ⟨_, _, e, _⟩ := h; cases e
  | X C fs => obtain ⟨_, _, _, e, _⟩ := h; cases e
  | D d =>
    cases d with
    | none => rfl
    | bool b => cases RelA.bl h
    | int b => cases RelA.int h
    | str b => cases RelA.str h
    | list b => obtain ⟨_, _, e, _⟩ := RelA.lst h; cases e
    | tuple b => obtain ⟨_, _, e, _⟩ := RelA.tup h; cases e
    | dict b => exact absurd h (by simp only [RelA, Dk]; exact id)
theorem o_notN : VOp X (compareOp .IsNot) aNotN := by
  intro pins s σ H x y v u Q I rx ry ⟨a, b, μ, R, ra, rb, hc, h, hq⟩
  unfold aNotN at h
  split at h
  · cases RelA.non ra; cases RelA.non rb
    exact op_notN pins s σ H _ _ v u Q I rx ry ⟨rfl, hq _ _ _ _ Kp.refl hc ra_bl h⟩
  · rename_i ne
    cases RelA.non rb
    refine op_notN pins s σ H _ _ v u Q I rx ry ⟨rfl, hq _ _ _ _ Kp.refl hc ?_ h⟩
    have : x ≠ .non := by intro e; subst e; exact ne (relA_non ra)
    rw [decide_eq_false this]; exact ra_bl
  · exact h.elim
def aI (C : Int → Int → Prop) (g : Int → Int → PyData) : A2 := fun x y μ R => match x, y with
  | .D (.int i), .D (.int j) => C i j ∧ R (.D (g i j)) μ
  | _, _ => False
def aI0 (g : Int → Int → PyData) : A2 := fun x y μ R => match x, y with
  | .D (.int i), .D (.int j) => R (.D (g i j)) μ
  | _, _ => False
theorem o_I {f : Value → Value → Sem Value} {C : Int → Int → Prop} {g : Int → Int → V} {g' : Int → Int → PyData} (h : OpR X f (rI C g)) (hg : ∀ i j H, Dk X.K H (g' i j) (g i j)) : VOp X f (aI C g') := by
  intro pins s σ H x y v u Q I rx ry ⟨a, b, μ, R, ra, rb, hc, h', hq⟩
  unfold aI at h'
  split at h'
  · cases RelA.int ra; cases RelA.int rb
    exact h pins s σ H _ _ v u Q I rx ry ⟨_, _, rfl, rfl, h'.1, hq _ _ _ _ Kp.refl hc (ra_D (hg _ _ _)) h'.2⟩
  · exact h'.elim
theorem o_I0 {f : Value → Value → Sem Value} {g : Int → Int → V} {g' : Int → Int → PyData} (h : OpR X f (rI0 g)) (hg : ∀ i j H, Dk X.K H (g' i j) (g i j)) : VOp X f (aI0 g') := by
  intro pins s σ H x y v u Q I rx ry ⟨a, b, μ, R, ra, rb, hc, h', hq⟩
  unfold aI0 at h'
  split at h'
  · cases RelA.int ra; cases RelA.int rb
    exact h pins s σ H _ _ v u Q I rx ry ⟨_, _, rfl, rfl, hq _ _ _ _ Kp.refl hc (ra_D (hg _ _ _)) h'⟩
  · exact h'.elim
abbrev aSub : A2 := aI0 fun i j => .int (i - j)
abbrev aFdiv : A2 := aI CDiv fun i j => .int (i / j)
abbrev aMod : A2 := aI (fun _ j => 0 < j) fun i j => .int (i % j)
abbrev aPow : A2 := aI CPow fun i j => .int (i ^ j.toNat)
abbrev aLt : A2 := aI0 fun i j => .bool (decide (i < j))
abbrev aLe : A2 := aI0 fun i j => .bool (decide (i ≤ j))
abbrev aGt : A2 := aI0 fun i j => .bool (decide (j < i))
abbrev aGe : A2 := aI0 fun i j => .bool (decide (j ≤ i))
theorem o_sub : VOp X (binaryOp .Sub) aSub := o_I0 op_sub fun _ _ _ => dk_int
theorem o_fdiv : VOp X (binaryOp .FloorDiv) aFdiv := o_I op_fdiv fun _ _ _ => dk_int
theorem o_mod : VOp X (binaryOp .Mod) aMod := o_I op_mod fun _ _ _ => dk_int
theorem o_pow : VOp X (binaryOp .Pow) aPow := o_I op_pow fun _ _ _ => dk_int
theorem o_lt : VOp X (compareOp .Lt) aLt := o_I0 op_lt fun _ _ _ => dk_bl
theorem o_le : VOp X (compareOp .LtE) aLe := o_I0 op_le fun _ _ _ => dk_bl
theorem o_gt : VOp X (compareOp .Gt) aGt := o_I0 op_gt fun _ _ _ => dk_bl
theorem o_ge : VOp X (compareOp .GtE) aGe := o_I0 op_ge fun _ _ _ => dk_bl
def aMul : A2 := fun x y μ R => match x, y with
  | .D (.int i), .D (.int j) => CMul i j ∧ R (.D (.int (i * j))) μ
  | .D (.str z), .D (.int n) => (n = 0 ∨ n = 1) ∧ R (.D (.str (if n = 0 then Str.empty else z))) μ
  | _, _ => False
theorem o_mul : VOp X (binaryOp .Mult) aMul := by
  intro pins s σ H x y v u Q I rx ry ⟨a, b, μ, R, ra, rb, hc, h, hq⟩
  unfold aMul at h
  split at h
  · cases RelA.int ra; cases RelA.int rb
    exact op_mul pins s σ H _ _ v u Q I rx ry ⟨_, _, rfl, rfl, h.1, hq _ _ _ _ Kp.refl hc ra_int h.2⟩
  · cases RelA.str ra; cases RelA.int rb
    exact op_mul_str01 pins s σ H _ _ v u Q I rx ry ⟨_, _, rfl, rfl, h.1, hq _ _ _ _ Kp.refl hc ra_str h.2⟩
  · exact h.elim
def aAdd : A2 := fun x y μ R => match x, y with
  | .D (.int i), .D (.int j) => R (.D (.int (i + j))) μ
  | .D (.str i), .D (.str j) => i.length + j.length ≤ sizeLine ∧ R (.D (.str (i ++ j))) μ
  | .D (.tuple i), .D (.tuple j) => i.length + j.length ≤ sizeLine ∧ R (.D (.tuple (i ++ j))) μ
  | .R i, .R j => opt (μ i) fun m => opt (μ j) fun n => match m, n with
    | .lst xs, .lst ys => xs.length + ys.length ≤ sizeLine ∧ ∀ p, μ p = none → R (.R p) (updM μ p (.lst (xs ++ ys)))
    | _, _ => False
  | _, _ => False
theorem catK {K : PySem.W.Frag} {pins : List (Addr × Obj)} {σ : St} {H : Hp} {s : Shared} {v u : Value} {x y : V} {ds es : List PyData} {Q : VK} (hK : X.K = K) (I : Inv X pins σ H s) (rx : RelV x v) (ry : RelV y u) (hx : Dk K H (.tuple ds) x) (hy : Dk K H (.tuple es) y)
    (hz : ds.length + es.length ≤ sizeLine) (q : ∀ z H', Kp H H' → (∀ μ, Cn K μ H → Cn K μ H') → Dk K H' (.tuple (ds ++ es)) z → Q z H') : wpAny (model X.prog X.w) X.A (binaryOp .Add v u) (EP X pins σ Q) X.xe s := by
  subst hK
  obtain ⟨a, xs, rfl, ha, hxs⟩ := hx.tup
  obtain ⟨b, ys, rfl, hb, hys⟩ := hy.tup
  cases rx
  cases ry
  obtain ⟨its, r1, p1, _⟩ := I.tuple (SqT.of ha)
  obtain ⟨its2, r2, p2, _⟩ := I.tuple (SqT.of hb)
  have l1 := hxs.length
  have l2 := hys.length
  by_cases hv : xs = []
  · subst hv
    have e : its = [] := r1.nil_iff.mpr rfl
    subst e
    have ed : ds = [] := List.length_eq_zero_iff.mp l1.symm
    subst ed
    obtain ⟨⟨cls, dd, data, sl⟩, ho, hc, n, hd⟩ := id p1
    obtain ⟨⟨cls2, dd2, data2, sl2⟩, ho2, hc2, n2, hd2⟩ := id p2
    simp only at hc hd hc2 hd2
    subst hc hd hc2 hd2
    exact concat_meets ⟨_, ho, rfl⟩ ⟨_, ho2, rfl⟩ noFill_tuple_add seq_tuple_add PySem.F.slot_tuple_add PySem.F.entry_tuple_add (PySem.F.args_tuple_add_2 _ _)
      (tuple_addW0 a b [].toArray its2.toArray n n2 dd dd2 sl sl2 rfl) ⟨ho, ho2, .ref b, H, I, rfl, q _ _ Kp.refl (fun _ c => c) (by simpa using hy)⟩
  · refine HT.cat_tup p1 p2 (fun z => hv (r1.nil_iff.mp z)) (fun z => ⟨.ref a, H, I, rfl, q _ _ Kp.refl (fun _ c => c) ?_⟩) (fun z => ?_) (by rw [← r1.length, ← r2.length, l1, l2]; exact hz)
    · have e : ys = [] := r2.nil_iff.mp z
      subst e
      have ed : es = [] := List.length_eq_zero_iff.mp l2.symm
      subst ed
      simpa using hx
    · have hf := I.hok.fresh (Nat.le_refl s.heap.objs.size)
      refine ⟨.ref s.heap.objs.size, _, I.laid (t' := s.toks) (o := .tup (xs ++ ys)) (fun b ob q => Heap.get?_push_of_some _ q) (Nat.le_refl _) ?_, rfl, q _ _ (Kp.new hf _) (fun _ c => c.over hf) ?_⟩
      · exact ⟨by rw [List.length_append, l1, l2]; exact hz, _, r1.append r2, IsTup.new _ _⟩
      · exact dk_tup upd_same (DkAll.kp (Kp.new hf _) _ _ (hxs.append hys))
theorem o_add : VOp X (binaryOp .Add) aAdd := by
  intro pins s σ H x y v u Q I rx ry ⟨a, b, μ, R, ra, rb, hc, h, hq⟩
  unfold aAdd at h
  split at h
  · cases RelA.int ra; cases RelA.int rb
    exact op_add pins s σ H _ _ v u Q I rx ry ⟨_, _, rfl, rfl, hq _ _ _ _ Kp.refl hc ra_int h⟩
  · cases RelA.str ra; cases RelA.str rb
    exact op_add_str pins s σ H _ _ v u Q I rx ry ⟨_, _, rfl, rfl, h.1, hq _ _ _ _ Kp.refl hc ra_str h.2⟩
  · exact catK rfl I rx ry ra rb h.1 fun z H' S c hd => hq _ _ _ _ S (c _ hc) (ra_D hd) h.2
  · rename_i i j
    obtain ⟨m, ei, h⟩ := opt_e h
    obtain ⟨n, ej, h⟩ := opt_e h
    split at h
    · rename_i xs ys
      cases (show x = .ref i from ra); cases (show y = .ref j from rb)
      obtain ⟨o, ho, vs, rfl, rs⟩ := hc i _ ei
      obtain ⟨o', ho', ws, rfl, rs'⟩ := hc j _ ej
      exact op_cat pins s σ H _ _ v u Q I rx ry ⟨i, j, vs, ws, rfl, rfl, ho, ho', by rw [← rs.length, ← rs'.length]; exact h.1, fun p hp => hq _ _ _ _ (Kp.new hp _) (hc.new hp (rm_lst (rs.append rs'))) ra_ref (h.2 p (hc.none hp))⟩
    · exact h.elim
  · exact h.elim
end
end L2
namespace L2
open PySem PySem.Spec PyProof.Rows
section
variable {X : Cx} {a b c : Expr} {ta tb tc : AE} {pos : Pos}
def aIx : A2 := fun x y μ R => match x, y with
  | .D (.str z), .D (.int i) => z.length ≤ sizeLine ∧ opt (atI z.cps.toList i) fun c => R (.D (.str ⟨#[c]⟩)) μ
  | .D (.tuple ds), .D (.int i) => opt (atI ds i) fun d => R (.D d) μ
  | .D (.list ds), .D (.int i) => opt (atI ds i) fun d => R (.D d) μ
  | .R a, .D (.int i) => opt (μ a) fun m => match m with
    | .lst xs => opt (atI xs i) fun w => R w μ
    | _ => False
  | _, _ => False
theorem i_ix : VIx X aIx := by
  intro value slice pins s σ H x y v u Q I rx ry ⟨a, b, μ, R, ra, rb, hc, h, hq⟩ hs
  unfold aIx at h
  split at h
  · cases RelA.str ra; cases RelA.int rb
    obtain ⟨h1, h⟩ := h
    obtain ⟨c, e, h⟩ := opt_e h
    exact ix_str value slice pins s σ H _ _ v u Q I rx ry ⟨_, _, _, rfl, rfl, h1, e, hq _ _ _ _ Kp.refl hc ra_str h⟩ hs
  · cases RelA.int rb
    obtain ⟨d, ed, h⟩ := opt_e h
    obtain ⟨p, vs, rfl, hp, rs⟩ := RelA.tup ra
    obtain ⟨z, ez, rz⟩ := rs.atI ed
    exact ix_tup value slice pins s σ H _ _ v u Q I rx ry ⟨_, _, _, _, rfl, rfl, SqT.of hp, ez, hq _ _ _ _ Kp.refl hc (ra_D rz) h⟩ hs
  · cases RelA.int rb
    obtain ⟨d, ed, h⟩ := opt_e h
    obtain ⟨p, vs, rfl, hp, rs⟩ := RelA.lst ra
    obtain ⟨z, ez, rz⟩ := rs.atI ed
    exact ix_list value slice pins s σ H _ _ v u Q I rx ry ⟨_, _, _, _, rfl, rfl, hp.sq, ez, hq _ _ _ _ Kp.refl hc (ra_D rz) h⟩ hs
  · cases RelA.int rb
    obtain ⟨m, em, h⟩ := opt_e h
    split at h
    · obtain ⟨w, ew, h⟩ := opt_e h
      obtain ⟨o, ho, vs, rfl, rs⟩ := hc _ _ em
      cases (show x = .ref _ from ra)
      obtain ⟨z, ez, rz⟩ := rs.atI ew
      exact ix_list value slice pins s σ H _ _ v u Q I rx ry ⟨_, _, _, _, rfl, rfl, SqL.of ho, ez, hq _ _ _ _ Kp.refl hc rz h⟩ hs
    · exact h.elim
  · exact h.elim
theorem ve_ix {r : A2} (hr : VIx X r) (ha : VE X a ta) (hb : VE X b tb) (hs : PlainIx b := by intro _ _; rfl) : VE X (.Subscript a b pos) (vOp r ta tb) := (pe_ix hr ha hb hs).imp fun _ _ _ h => vOp_imp h
def vNoPart : AO := fun _ μ R => R none μ
def vPart (t : AE) : AO := fun τ μ R => t τ μ fun x μ1 => match x with
  | .D (.int i) => R (some i) μ1
  | _ => False
theorem vo_none : VO X none vNoPart := po_none.imp fun σ H Q ⟨τ, μ, R, hs, hc, h, hq⟩ => hq _ _ _ Kp.refl hc h
theorem vo_some (h : VE X a ta) : VO X (some a) (vPart ta) := (po_some h).imp fun σ H Q ⟨τ, μ, R, hs, hc, h, hq⟩ => ⟨τ, μ, _, hs, hc, h, fun x μ1 v H1 S1 c1 rx hx => by
  split at hx
  · cases RelA.int rx
    exact ⟨_, rfl, hq _ _ _ S1 c1 hx⟩
  · exact hx.elim⟩
def aSl (x : AV) (lo hi : Option Int) : M → (AV → M → Prop) → Prop := fun μ R => match x with
  | .D (.str z) => z.length ≤ sizeLine ∧ R (.D (.str (Txt.slice z lo hi))) μ
  | .D (.tuple ds) => R (.D (.tuple (cutD ds lo hi))) μ
  | .C _ => False
  | x => opt (items μ x) fun xs => ∀ p, μ p = none → R (.R p) (updM μ p (.lst (cutA xs lo hi)))
def cSl (K : PySem.W.Frag) : V → Option Int → Option Int → Hp → VK → Prop := fun x lo hi H Q => ∃ a μ R, RelA K H a x ∧ Cn K μ H ∧ aSl a lo hi μ R ∧ LV K H R Q
theorem s_sl : SlR X (cSl X.K) := by
  intro pins s σ H x v vl vu lo hi sl Q I rx hs pl pu ⟨a, μ, R, ra, hc, h, hq⟩
  unfold aSl at h
  split at h
  · cases RelA.str ra
    exact sl_str pins s σ H _ v vl vu lo hi sl Q I rx hs pl pu ⟨_, rfl, h.1, hq _ _ _ _ Kp.refl hc ra_str h.2⟩
  · rename_i ds
    by_cases hw : HT.sIx ds.length 0 lo = 0 ∧ HT.sIx ds.length ds.length hi = ds.length
    · obtain ⟨a, xs, rfl, ha, hx⟩ := RelA.tup ra
      cases rx
      obtain ⟨its, r, ht, hz⟩ := I.tuple (SqT.of ha)
      have hlen : its.toArray.size = ds.length := by rw [List.size_toArray, ← r.length, hx.length]
      refine ⟨"tuple", _, PyProof.Rows.slot_tuple_getitem.lookup, ht.typeIs, ?_⟩
      refine HT.getItem_tuple_all ht hs pl pu (by rw [hlen]; exact hw) ⟨.ref a, H, I, rfl, hq _ _ _ _ Kp.refl hc ?_ h⟩
      rw [cutD_all hw]
      exact ra
    · obtain ⟨a, xs, rfl, ha, hx⟩ := RelA.tup ra
      refine sl_tup pins s σ H (.ref a) v vl vu lo hi sl Q I rx hs pl pu ⟨a, xs, rfl, SqT.of ha, by rw [hx.length]; exact hw, fun p hp => ?_⟩
      exact hq _ _ _ _ (Kp.new hp _) (hc.over hp) (ra_tup upd_same (DkAll.kp (Kp.new hp _) _ _ (hx.cut lo hi))) h
  · exact h.elim
  · rename_i n1 n2 n3
    obtain ⟨xs, ex, h⟩ := opt_e h
    · obtain ⟨p, vs, rfl, hp, rs⟩ := items_kind hc ra ex
      rcases hp with ⟨_, hp⟩ | ⟨ht, hp⟩
      · exact sl_list pins s σ H _ v vl vu lo hi sl Q I rx hs pl pu ⟨_, _, rfl, hp, fun p hp => hq _ _ _ _ (Kp.new hp _) (hc.new hp (rm_lst (rs.cut lo hi))) ra_ref (h p (hc.none hp))⟩
      · exfalso
        unfold isT at ht
        split at ht
        · exact n2 _ rfl
        · exact n3 _ rfl
        · cases ht
def vSl (te : AE) (tl th : AO) : AE := fun τ μ R => te τ μ fun x μ1 => tl τ μ1 fun l μ2 => th τ μ2 fun u μ3 => aSl x l u μ3 R
theorem ve_slice {lo hi : Option Expr} {tl th : AO} {p2 : Pos} (he : VE X a ta) (hl : VO X lo tl) (hu : VO X hi th) : VE X (.Subscript a (.Slice lo hi none p2) pos) (vSl ta tl th) :=
  (pe_slice s_sl he hl hu).imp fun σ H Q ⟨τ, μ, R, hs, hc, h, hq⟩ => ⟨τ, μ, _, hs, hc, h, fun x μ1 v H1 S1 c1 rx hx => ⟨τ, μ1, _, hs.kp S1, c1, hx, fun l μ2 H2 S2 c2 hl => ⟨τ, μ2, _, hs.kp (S1.trans S2), c2, hl, fun u μ3 H3 S3 c3 hu =>
    ⟨x, μ3, R, rx.kp (S2.trans S3), c3, hu, hq.kp (S1.trans (S2.trans S3))⟩⟩⟩⟩
variable {x : Str} {p : Pos} {e : Expr} {es : List Expr} {t : AA} {fid T : String} {r : AC}
def vCB (r : AC) (t : AA) : AE := fun τ μ R => t τ μ fun xs μ1 => r xs μ1 R
theorem vCB_imp {K : PySem.W.Frag} {n : Nat} {r : AC} {t : AA} {σ : St} {H : Hp} {Q : VK} (h : cE K (vCB r t) σ H Q) : tCB (cC K r) (cA K n t) σ H Q := by
  obtain ⟨τ, μ, R, hs, hc, h, hq⟩ := h
  exact ⟨τ, μ, _, hs, hc, h, fun xs μ1 vs H1 S1 c1 rs hl hx => ⟨xs, μ1, R, rs, c1, hx, hq.kp S1⟩⟩
theorem ve_callB (hc : VCall X (.builtin fid) r) (hg : Gl X x) (hm : X.mg x = none) (hv : bootBuiltins x = some (.builtin fid)) (ha : VA X (e :: es) t) (hn : x ≠ "__name__" := by decide) (hd : (x == ("__debug__" : Str)) = false := by decide)
    (hst : starEach (e :: es) X.env = (false, eval e X.env) :: starEach es X.env := by rfl) (hpl : (backTo pos (starEach es X.env)).any (·.1) = false := by rfl) : VE X (.Call (.Name x p) (e :: es) [] pos) (vCB r t) :=
  (pe_callB hc hg hm hv ha hn hd hst hpl).imp fun _ _ _ h => vCB_imp h
theorem ve_callTy (hc : VCall X (.type T) r) (hg : Gl X x) (hm : X.mg x = none) (hv : bootBuiltins x = some (.type T)) (ha : VA X (e :: es) t) (hn : x ≠ "__name__" := by decide) (hd : (x == ("__debug__" : Str)) = false := by decide)
    (hst : starEach (e :: es) X.env = (false, eval e X.env) :: starEach es X.env := by rfl) (hpl : (backTo pos (starEach es X.env)).any (·.1) = false := by rfl) : VE X (.Call (.Name x p) (e :: es) [] pos) (vCB r t) :=
  (pe_callTy hc hg hm hv ha hn hd hst hpl).imp fun _ _ _ h => vCB_imp h
def aLen : AC := fun xs μ R => match xs with
  | [.D (.str z)] => z.length ≤ sizeLine ∧ R (.D (.int z.length)) μ
  | [.D (.tuple ds)] => R (.D (.int ds.length)) μ
  | [.D (.list ds)] => R (.D (.int ds.length)) μ
  | [.R a] => opt (μ a) fun m => match m with
    | .lst ys => R (.D (.int ys.length)) μ
    | .dk kvs => R (.D (.int kvs.length)) μ
    | _ => False
  | _ => False
theorem c_len : VCall X (.builtin "len") aLen := by
  intro pins s σ H xs us Q I r ⟨as, μ, R, ra, hc, h, hq⟩
  unfold aLen at h
  split at h
  · cases ra with
    | cons r1 r2 =>
      cases r2
      cases RelA.str r1
      exact call_len_str pins s σ H _ us Q I r ⟨_, rfl, h.1, hq _ _ _ _ Kp.refl hc ra_int h.2⟩
  · cases ra with
    | cons r1 r2 =>
      cases r2
      obtain ⟨p, vs, rfl, hp, rs⟩ := RelA.tup r1
      refine call_len_seq pins s σ H _ us Q I r ⟨p, vs, rfl, .inr (SqT.of hp), hq _ _ _ _ Kp.refl hc ?_ h⟩
      rw [rs.length]; exact ra_int
  · cases ra with
    | cons r1 r2 =>
      cases r2
      obtain ⟨p, vs, rfl, hp, rs⟩ := RelA.lst r1
      refine call_len_seq pins s σ H _ us Q I r ⟨p, vs, rfl, .inl hp.sq, hq _ _ _ _ Kp.refl hc ?_ h⟩
      rw [rs.length]; exact ra_int
  · cases ra with
    | cons r1 r2 =>
      cases r2
      obtain ⟨m, em, h⟩ := opt_e h
      cases (show _ = V.ref _ from r1)
      obtain ⟨o, ho, rm⟩ := hc _ _ em
      split at h
      · obtain ⟨vs, rfl, rs⟩ := rm
        refine call_len_seq pins s σ H _ us Q I r ⟨_, vs, rfl, .inl (SqL.of ho), hq _ _ _ _ Kp.refl hc ?_ h⟩
        rw [rs.length]; exact ra_int
      · obtain ⟨vs, rfl, rs⟩ := rm
        refine call_lenD pins s σ H _ us Q I r ⟨_, vs, rfl, ho, hq _ _ _ _ Kp.refl hc ?_ h⟩
        rw [Paired.length rs]; exact ra_int
      · exact h.elim
  · exact h.elim
def aTuple : AC := fun xs μ R => match xs with
  | [.D (.tuple ds)] => R (.D (.tuple ds)) μ
  | [.C _] => False
  | [y] => opt (items μ y) fun ys => opt (dats ys) fun ds => R (.D (.tuple ds)) μ
  | _ => False
theorem c_tuple : VCall X (.type "tuple") aTuple := by
  intro pins s σ H xs us Q I r ⟨as, μ, R, ra, hc, h, hq⟩
  unfold aTuple at h
  split at h
  · cases ra with
    | cons r1 r2 =>
      cases r2
      obtain ⟨p, vs, rfl, hp, rs⟩ := RelA.tup r1
      exact call_tuple_of pins s σ H _ us Q I r ⟨p, vs, rfl, .inr ⟨SqT.of hp, hq _ _ _ _ Kp.refl hc r1 h⟩⟩
  · exact h.elim
  · rename_i y n1 n2
    obtain ⟨ys, ey, h⟩ := opt_e h
    obtain ⟨ds, ed, h⟩ := opt_e h
    cases ra with
    | cons r1 r2 =>
      cases r2
      obtain ⟨p, vs, rfl, hp, rs⟩ := items_kind hc r1 ey
      rcases hp with ⟨_, hp⟩ | ⟨ht, _⟩
      · exact call_tuple_of pins s σ H _ us Q I r ⟨p, vs, rfl, .inl ⟨hp, fun l hl => hq _ _ _ _ (Kp.new hl _) (hc.over hl) (ra_tup upd_same (DkAll.kp (Kp.new hl _) _ _ (rs.dats ed))) h⟩⟩
      · exfalso
        unfold isT at ht
        split at ht
        · exact n1 _ rfl
        · exact n2 _ rfl
        · cases ht
  · exact h.elim
def bools : List AV → Option (List Bool)
  | [] => some []
  | .D (.bool b) :: r => match bools r with
    | some bs => some (b :: bs)
    | none => none
  | _ :: _ => none
theorem bools_map : ∀ (bs : List Bool), bools (bs.map fun b => .D (.bool b)) = some bs
  | [] => rfl
  | b :: bs => by simp only [List.map_cons, bools, bools_map bs]
theorem RelAs.bools {K : PySem.W.Frag} {H : Hp} : ∀ {xs : List AV} {vs : List V} {bs : List Bool}, RelAs K H xs vs → L2.bools xs = some bs → vs = bs.map V.bl
  | [], _, _, .nil, e => by cases e; rfl
  | .D d :: xs, _, bs, .cons r t, e => by
    cases d with
    | bool b =>
      simp only [L2.bools] at e
      cases q : L2.bools xs with
      | none => rw [q] at e; cases e
      | some cs => rw [q] at e; cases e; cases RelA.bl r; rw [RelAs.bools t q]; rfl
    | _ => simp [L2.bools] at e
  | .R _ :: _, _, _, _, e => by simp [L2.bools] at e
def aAll : AC := fun xs μ R => match xs with
  | [.R a] => opt (μ a) fun m => match m with
    | .lst ys => opt (bools ys) fun bs => R (.D (.bool (bs.all id))) μ
    | _ => False
  | _ => False
theorem c_all (hcm : X.calm = true) : VCall X (.builtin "all") aAll := by
  intro pins s σ H xs us Q I r ⟨as, μ, R, ra, hc, h, hq⟩
  unfold aAll at h
  split at h
  · cases ra with
    | cons r1 r2 =>
      cases r2
      obtain ⟨m, em, h⟩ := opt_e h
      split at h
      · obtain ⟨bs, eb, h⟩ := opt_e h
        obtain ⟨o, ho, vs, rfl, rs⟩ := hc _ _ em
        cases (show _ = V.ref _ from r1)
        exact call_all hcm pins s σ H _ us Q I r ⟨_, bs, rfl, SqL.of (by rw [ho, rs.bools eb]), hq _ _ _ _ Kp.refl hc ra_bl h⟩
      · exact h.elim
  · exact h.elim
variable {o : Expr} {to : AE} {name : Str} {apos cpos : Pos} {m : AV → AC}
def isLst (μ : M) : AV → Prop
  | .R a => opt (μ a) fun m => match m with
    | .lst _ => True
    | _ => False
  | .D (.list _) => True
  | _ => False
theorem isLst.ty {H : Hp} {μ : M} {x : AV} {v : V} (hc : Cn X.K μ H) (rx : RelA X.K H x v) (h : isLst μ x) : tyV X.K "list" v H := by
  unfold isLst at h
  split at h
  · obtain ⟨m, e, h⟩ := opt_e h
    split at h
    · obtain ⟨o, ho, vs, rfl, _⟩ := hc _ _ e
      cases (show v = .ref _ from rx)
      exact .inl ⟨rfl, vs, SqL.of ho⟩
    · exact h.elim
  · obtain ⟨a, xs, rfl, q, _⟩ := RelA.lst rx
    exact .inl ⟨rfl, xs, q.sq⟩
  · exact h.elim
def vBL (m : AV → AC) (to : AE) (t : AA) : AE := fun τ μ R => to τ μ fun x μ1 => isLst μ1 x ∧ t τ μ1 fun xs μ2 => m x xs μ2 R
theorem ve_ml (slot : Slot "list" name fid) (hty : typeOf (.builtin fid) = pure (.type "method_descriptor")) (hm : VMt X fid m) (ho : VE X o to) (ha : VA X (e :: es) t)
    (hbase : attributeBase o name X.env (eval o X.env) = eval o X.env := by rfl)
    (hfew : ((backTo cpos (starEach (e :: es) X.env)).all (fun x => !x.1) && (backToKw cpos (keywordEach [] X.env)).all (fun x => x.1.isSome)
      && decide ((e :: es).length + ([] : List Keyword).length + (if ([] : List Keyword).isEmpty then 0 else 1) < 30)) = true := by rfl)
    (hline : (apos.endLine == cpos.line) = true := by rfl) (hs : starEach (e :: es) X.env = (false, eval e X.env) :: starEach es X.env := by rfl) (hplain : (backTo cpos (starEach es X.env)).any (·.1) = false := by rfl) :
    VE X (.Call (.Attribute o name apos) (e :: es) [] cpos) (vBL m to t) :=
  (pe_bm PySem.F.plainAttrs_list slot hty hm ho ha hbase hfew hline hs hplain).imp fun σ H Q ⟨τ, μ, R, hs, hc, h, hq⟩ => ⟨τ, μ, _, hs, hc, h, fun x μ1 v H1 S1 c1 rx hx => ⟨hx.1.ty c1 rx, τ, μ1, _, hs.kp S1, c1, hx.2, fun xs μ2 vs H2 S2 c2 rs hl hxs =>
    ⟨x, xs, μ2, R, rx.kp S2, rs, c2, hxs, hq.kp (S1.trans S2)⟩⟩⟩
def mAppend : AV → AC := fun x xs μ R => match x, xs with
  | .R a, [y] => opt (μ a) fun m => match m with
    | .lst ys => ys.length < sizeLine ∧ R (.D .none) (updM μ a (.lst (ys ++ [y])))
    | _ => False
  | _, _ => False
theorem m_append : VMt X "list.append" mAppend := by
  intro pins s σ H x xs v us Q I rx r ⟨a, as, μ, R, ra, rs, hc, h, hq⟩
  unfold mAppend at h
  split at h
  · rename_i a y
    obtain ⟨m, ey, h⟩ := opt_e h
    split at h
    · cases rs with
      | cons r1 r2 =>
        cases r2
        obtain ⟨o, ho, vs, rfl, rl⟩ := hc _ _ ey
        cases (show x = .ref a from ra)
        exact mt_append pins s σ H _ _ v us Q I rx r ⟨a, vs, _, rfl, rfl, ho, by rw [← rl.length]; exact h.1, hq _ _ _ _ (Kp.put ho trivial _) (hc.put ho trivial (rm_lst (rl.append (.cons r1 .nil)))) ra_non h.2⟩
    · exact h.elim
  · exact h.elim
def mPopAt : AV → AC := fun x xs μ R => match x, xs with
  | .R a, [.D (.int i)] => opt (μ a) fun m => match m with
    | .lst ys => (-(2 ^ 63) ≤ i ∧ i < 2 ^ 63) ∧ opt (seqIndex? i ys.length) fun k => opt ys[k]? fun y => R y (updM μ a (.lst (ys.eraseIdx k)))
    | _ => False
  | _, _ => False
theorem m_popAt : VMt X "list.pop" mPopAt := by
  intro pins s σ H x xs v us Q I rx r ⟨a, as, μ, R, ra, rs, hc, h, hq⟩
  unfold mPopAt at h
  split at h
  · rename_i a i
    obtain ⟨m, ey, h⟩ := opt_e h
    split at h
    · obtain ⟨⟨h1, h2⟩, h⟩ := h
      obtain ⟨k, ek, h⟩ := opt_e h
      obtain ⟨y, e1, h⟩ := opt_e h
      cases rs with
      | cons r1 r2 =>
        cases r2
        cases RelA.int r1
        obtain ⟨o, ho, vs, rfl, rl⟩ := hc _ _ ey
        cases (show x = .ref a from ra)
        obtain ⟨z, ez, rz⟩ := rl.get e1
        exact mt_popAt pins s σ H _ _ v us Q I rx r ⟨a, vs, i, k, z, rfl, rfl, ho, h1, h2, by rw [← rl.length]; exact ek, ez, hq _ _ _ _ (Kp.put ho trivial _) (hc.put ho trivial (rm_lst (rl.eraseIdx k))) (rz.kp (Kp.put ho trivial _)) h⟩
    · exact h.elim
  · exact h.elim
end
end L2
namespace L2
open PySem PySem.Spec PyProof.Rows
section
variable {X : Cx} {a b c : Expr} {ta tb tc : AE} {pos : Pos}
def kit (S T : String) : Bool := S == T || (S == "bool" && T == "int")
def tyA (μ : M) : AV → Option String
  | .D .none => some "NoneType"
  | .D (.bool _) => some "bool"
  | .D (.int _) => some "int"
  | .D (.str _) => some "str"
  | .D (.list _) => some "list"
  | .D (.tuple _) => some "tuple"
  | .D (.dict _) => none
  | .C _ => some "tuple"
  | .X _ _ => none
  | .R a => match μ a with
    | some (.lst _) => some "list"
    | some (.dk _) => some "dict"
    | some (.dt _) => some "dict"
    | none => none
def vIsT (T : String) (te : AE) : AE := fun τ μ R => te τ μ fun x μ1 => opt (tyA μ1 x) fun S => R (.D (.bool (kit S T))) μ1
def Kits (K : PySem.W.Frag) (T : String) : Prop := ∀ S ∈ ["NoneType", "bool", "int", "str", "list", "tuple", "dict"], PySem.W.kitOne K (.type S) (.type T) = some (kit S T)
theorem isT_ok {pins : List (Addr × Obj)} {σ : St} {H : Hp} {s : Shared} {E : Value → Shared → Prop} {Q : Value → Shared → Prop} {μ : M} {x : AV} {v : V} {u : Value} {S T : String} (I : Inv X pins σ H s) (hc : Cn X.K μ H) (rx : RelA X.K H x v) (r : RelV v u) (e : tyA μ x = some S) (hk : Kits X.K T)
    (h : ∀ tk, Q (.bool (kit S T)) { s with toks := tk }) : wpAny (model X.prog X.w) X.A (call (.builtin "isinstance") [u, .type T]) Q E s := by
  unfold tyA at e
  split at e
  · cases e; cases RelA.non rx; cases r; exact PySem.W.kia_one PySem.W.kitx_none I.kIn True.intro (hk _ (by decide)) (fun z => nomatch z) h
  · cases e; cases RelA.bl rx; cases r; exact PySem.W.kia_one PySem.W.kitx_bool I.kIn True.intro (hk _ (by decide)) (fun z => nomatch z) h
  · cases e; cases RelA.int rx; obtain ⟨t, rfl⟩ := r; exact PySem.W.kia_one PySem.W.kitx_int I.kIn True.intro (hk _ (by decide)) (fun z => nomatch z) h
  · cases e; cases RelA.str rx; obtain ⟨t, rfl⟩ := r; exact PySem.W.kia_one PySem.W.kitx_str I.kIn True.intro (hk _ (by decide)) (fun z => nomatch z) h
  · cases e
    obtain ⟨a, vs, rfl, q, _⟩ := RelA.lst rx
    cases r
    obtain ⟨_, _, ⟨o, n, e1, e2, _⟩, _⟩ := I.list q.sq
    exact PySem.W.kia_one PySem.W.kitx_list I.kIn ⟨o, e1, e2⟩ (hk _ (by decide)) (fun z => nomatch z) h
  · cases e
    obtain ⟨a, vs, rfl, q, _⟩ := RelA.tup rx
    cases r
    obtain ⟨_, _, ⟨o, e1, e2, _⟩, _⟩ := I.tuple (SqT.of q)
    exact PySem.W.kia_one PySem.W.kitx_tuple I.kIn ⟨o, e1, e2⟩ (hk _ (by decide)) (fun z => nomatch z) h
  · cases e
  · cases e
    obtain ⟨a, vs, rfl, q, _⟩ := rx
    cases r
    obtain ⟨_, _, ⟨o, e1, e2, _⟩, _⟩ := I.tuple (q H)
    exact PySem.W.kia_one PySem.W.kitx_tuple I.kIn ⟨o, e1, e2⟩ (hk _ (by decide)) (fun z => nomatch z) h
  · cases e
  · rename_i a
    cases (show v = .ref a from rx)
    cases r
    split at e
    · rename_i xs ex
      cases e
      obtain ⟨o, ho, vs, rfl, _⟩ := hc _ _ ex
      obtain ⟨_, _, ⟨o, n, e1, e2, _⟩, _⟩ := I.list (SqL.of ho)
      exact PySem.W.kia_one PySem.W.kitx_list I.kIn ⟨o, e1, e2⟩ (hk _ (by decide)) (fun z => nomatch z) h
    · rename_i xs ex
      cases e
      obtain ⟨o, ho, vs, rfl, _⟩ := hc _ _ ex
      obtain ⟨_, _, ws, _, p⟩ := (show ObjOk X.prog X.w H s.heap a (.dK vs) from I.hok a _ ho)
      obtain ⟨o, es, ep, h1, h2, _⟩ := p
      exact PySem.W.kia_one PySem.W.kitx_dict I.kIn ⟨o, h1, h2.1⟩ (hk _ (by decide)) (fun z => nomatch z) h
    · rename_i xs ex
      cases e
      obtain ⟨o, ho, vs, rfl, _⟩ := hc _ _ ex
      obtain ⟨_, _, xs, _, o, es, ep, h1, h2, _⟩ := (show ObjOk X.prog X.w H s.heap a (.dT vs) from I.hok a _ ho)
      exact PySem.W.kia_one PySem.W.kitx_dict I.kIn ⟨o, h1, h2.1⟩ (hk _ (by decide)) (fun z => nomatch z) h
    · cases e
theorem ve_isT {T : String} {x : Str} {p p2 : Pos} (hg : Gl X "isinstance") (hm : X.mg "isinstance" = none) (hg2 : Gl X x) (hm2 : X.mg x = none) (hv2 : bootBuiltins x = some (.type T)) (hk : Kits X.K T) (he : VE X a ta)
    (hn2 : x ≠ "__name__" := by decide) (hd2 : (x == ("__debug__" : Str)) = false := by decide)
    (hs : starEach [a, .Name x p2] X.env = (false, eval a X.env) :: starEach [.Name x p2] X.env := by rfl) (hs2 : starEach [.Name x p2] X.env = [(false, eval (.Name x p2) X.env)] := by rfl) (hpl : (backTo pos (starEach [.Name x p2] X.env)).any (·.1) = false := by rfl) :
    VE X (.Call (.Name "isinstance" p) [a, .Name x p2] [] pos) (vIsT T ta) := by
  intro pins s σ H Q I ⟨τ, μ, R, hst, hc, h, hq⟩
  refine wpAny_Call_Name_kw (ld_blt I hg hm boot_isinstance ?_)
  refine PyProof.Rows.callWith_builtin1 ?_ hs hpl
  rw [hs]
  refine Calls.spliced_cons (thn (he pins s σ H (fun v H1 => ∃ x μ1 S, Kp H H1 ∧ Cn X.K μ1 H1 ∧ RelA X.K H1 x v ∧ tyA μ1 x = some S ∧ R (.D (.bool (kit S T))) μ1) I ⟨τ, μ, _, hst, hc, h, fun x μ1 v H1 S1 c1 rx hx => ?_⟩) fun u s1 ⟨v, H1, I1, r1, x, μ1, S, S1, c1, rx, ty, q1⟩ => ?_)
  · obtain ⟨S, e, hx⟩ := opt_e hx
    exact ⟨x, μ1, S, S1, c1, rx, e, hx⟩
  rw [hs2]
  refine Calls.spliced_cons (ld_blt I1 hg2 hm2 hv2 (Calls.spliced_nil ?_) hn2 hd2)
  exact isT_ok I1 c1 rx r1 ty hk fun tk => ⟨.bl _, H1, I1.tok _, rfl, hq _ _ _ _ S1 c1 ra_bl q1⟩
abbrev ASp := List AV → M → (AV → M → Prop) → Prop
def cSp (K : PySem.W.Frag) (n : Nat) (sp : ASp) : Sp := fun vs H Q _ => ∃ xs μ R, xs.length = n ∧ RelAs K H xs vs ∧ Cn K μ H ∧ sp xs μ R ∧ LV K H R Q
def VCal (P : Program) (w : World) (K : PySem.W.Frag) (mg : Str → Option Value) (base : Heap) (k : Nat) (x : Str) (ps : List Str) (sp : ASp) : Prop := Cal P w K mg base k x ps (cSp K ps.length sp)
def vCall (n : Nat) (sp : ASp) (t : AA) : AE := fun τ μ R => t τ μ fun xs μ1 => sp xs μ1 R
variable {x : Str} {p : Pos} {e : Expr} {es : List Expr} {t : AA} {k : Nat} {ps : List Str} {sp : ASp}
theorem ve_call (F : VCal X.prog X.w X.K X.mg X.base k x ps sp) (hr : Room k X.A) (hg : Gl X x) (ha : VA X (e :: es) t) (hl : (e :: es).length = ps.length := by rfl) (hdb : (x == ("__debug__" : Str)) = false := by decide)
    (hst : starEach (e :: es) X.env = (false, eval e X.env) :: starEach es X.env := by rfl) (hpl : (backTo pos (starEach es X.env)).any (·.1) = false := by rfl) : VE X (.Call (.Name x p) (e :: es) [] pos) (vCall ps.length sp t) := by
  obtain ⟨g, gd, G, gb, gk, gm⟩ := F
  refine PE.imp (pe_call (E := E0) G hr hg gm gk gb .nil pass0 ha (hdb := hdb) (he := hst) (hpl := hpl)) fun σ H Q ⟨τ, μ, R, hs, hc, h, hq⟩ => ?_
  exact ⟨τ, μ, _, hs, hc, h, fun xs μ1 vs H1 S1 c1 rs hn hx => ⟨xs, μ1, R, hn.trans hl, by rw [List.append_nil]; exact rs, c1, hx, hq.kp S1⟩⟩
def vNext : AS := fun k _ _ _ τ μ => k τ μ
def vSeq (t u : AS) : AS := fun k r b c τ μ => t (u k r b c) r b c τ μ
variable {st : Stmt} {rest : List Stmt} {s1 s2 : AS}
theorem vss_nil : VSs X [] vNext := pss_nil.imp fun D σ H ⟨τ, μ, nk, nr, nb, nc, hs, hc, h, hq⟩ => hq.nx _ _ _ _ Kp.refl hs hc h
theorem vss_cons (h1 : VS X st s1) (h2 : VSs X rest s2) : VSs X (st :: rest) (vSeq s1 s2) := (pss_cons h1 h2).imp fun D σ H ⟨τ, μ, nk, nr, nb, nc, hs, hc, h, hq⟩ =>
  ⟨τ, μ, _, _, _, _, hs, hc, h, ⟨fun τ' μ' σ' H' S' hs' hc' h' => ⟨τ', μ', nk, nr, nb, nc, hs', hc', h', hq.kp S'⟩, hq.rt, hq.bk, hq.ct⟩⟩
theorem vss_one (h1 : VS X st s1) : VSs X [st] s1 := pss_one h1
def vDrop (te : AE) : AS := fun k _ _ _ τ μ => te τ μ fun _ μ1 => k τ μ1
theorem vs_expr (he : VE X a ta) (hs : swapsWith a none pos.line X.env = pure false := by rfl) : VS X (.Expr a pos) (vDrop ta) := (ps_expr he hs).imp fun D σ H ⟨τ, μ, nk, nr, nb, nc, hs, hc, h, hq⟩ =>
  ⟨τ, μ, _, hs, hc, h, fun x μ1 v H1 S1 c1 rx hx => hq.nx _ _ _ _ S1 (hs.kp S1) c1 hx⟩
def vRet (te : AE) : AS := fun _ r _ _ τ μ => te τ μ r
theorem vs_ret (he : VE X a ta) : VS X (.Return (some a) pos) (vRet ta) := (ps_ret he).imp fun D σ H ⟨τ, μ, nk, nr, nb, nc, hs, hc, h, hq⟩ => ⟨τ, μ, _, hs, hc, h, hq.rt⟩
def vIfS (ct : AT) (t u : AS) : AS := fun k r b c τ μ => ct τ μ fun x μ1 => brP x (t k r b c τ μ1) (u k r b c τ μ1)
theorem vs_if {c : Expr} {a b : List Stmt} {tc : AT} (hc : VT X c tc) (ha : VSs X a s1) (hb : VSs X b s2) : VS X (.If c a b pos) (vIfS tc s1 s2) := (ps_if hc ha hb).imp fun D σ H ⟨τ, μ, nk, nr, nb, nc, hs, hc, h, hq⟩ =>
  ⟨τ, μ, _, hs, hc, h, fun k μ1 H1 S1 c1 hk => by
    rcases br_e hk with ⟨rfl, hk'⟩ | ⟨rfl, hk'⟩
    · exact ⟨τ, μ1, nk, nr, nb, nc, hs.kp S1, c1, hk', hq.kp S1⟩
    · exact ⟨τ, μ1, nk, nr, nb, nc, hs.kp S1, c1, hk', hq.kp S1⟩⟩
def wName (i : Nat) : AG := fun v τ μ R => R (τ.set i (some v)) μ
theorem vg_name {i : Nat} {x : Str} (hN : X.N.Nodup) (hi : X.N[i]? = some x) (hx : Loc X.env.scope x) (hf : X.fn x = true ∨ X.env.scope.names.lookup x = some .local := by first | exact .inl rfl | exact .inr rfl | assumption) : VG X (.Name x pos) (wName i) :=
  (pg_name hN hi hx hf).imp fun v σ H Q ⟨x, τ, μ, R, rx, hs, hc, h, hq⟩ => hq _ _ _ _ Kp.refl (hs.set rx i) hc h
def wNil : AGs := fun vs τ μ R => match vs with
  | [] => R τ μ
  | _ :: _ => False
def wCons (t : AG) (u : AGs) : AGs := fun vs τ μ R => match vs with
  | [] => False
  | v :: r => t v τ μ fun τ' μ' => u r τ' μ' R
theorem vgs_nil : VGs X [] wNil := pgs_nil.imp fun vs σ H Q ⟨xs, τ, μ, R, rx, hs, hc, h, hq⟩ => by
  cases rx with
  | nil => exact ⟨rfl, hq _ _ _ _ Kp.refl hs hc h⟩
  | cons => exact h.elim
theorem vgs_cons {e : Expr} {es : List Expr} {t : AG} {u : AGs} (h1 : VG X e t) (h2 : VGs X es u)
    (hs : (assignEach (e :: es) X.env).map (·.2) = assign e X.env :: (assignEach es X.env).map (·.2) := by rfl) : VGs X (e :: es) (wCons t u) := (pgs_cons h1 h2 hs).imp fun vs σ H Q ⟨xs, τ, μ, R, rx, hs, hc, h, hq⟩ => by
  cases rx with
  | nil => exact h.elim
  | cons r1 r2 => exact ⟨_, _, rfl, _, τ, μ, _, r1, hs, hc, h, fun τ' μ' σ' H' S' hs' hc' h' => ⟨_, τ', μ', R, RelAs.kp S' r2, hs', hc', h', hq.kp S'⟩⟩
def wTup (n : Nat) (t : AGs) : AG := fun v τ μ R => match v with
  | .D (.tuple ds) => ds.length = n ∧ t (ds.map .D) τ μ R
  | _ => False
theorem vg_tup {es : List Expr} {k : Nat} {t : AGs} {n : Nat} (hcm : X.calm = true) (h : VGs X es t)
    (hn : (assignEach es X.env).length = n := by rfl) (hst : (assignEach es X.env).findIdx? (·.1) = none := by rfl) : VG X (.Tuple es k pos) (wTup n t) := (pg_tup hcm h hn hst).imp fun v σ H Q ⟨x, τ, μ, R, rx, hs, hc, h, hq⟩ => by
  unfold wTup at h
  split at h
  · obtain ⟨a, vs, rfl, q, r⟩ := RelA.tup rx
    exact ⟨a, vs, rfl, SqT.of q, by rw [r.length]; exact h.1, _, τ, μ, R, r.rel, hs, hc, h.2, hq⟩
  · exact h.elim
def aSet (o i v : AV) (μ : M) (R : M → Prop) : Prop := match o, i with
  | .R a, .D (.int k) => opt (μ a) fun m => match m with
    | .lst xs => opt (ixN xs.length k) fun j => R (updM μ a (.lst (xs.set j v)))
    | _ => False
  | _, _ => False
def cSet (K : PySem.W.Frag) : TSet := fun o i v H Q => ∃ a b c μ R, RelA K H a o ∧ RelA K H b i ∧ RelA K H c v ∧ Cn K μ H ∧ aSet a b c μ R ∧ ∀ μ' H', Kp H H' → Cn K μ' H' → R μ' → Q H'
theorem s_set : PSet X (cSet X.K) := by
  intro pins s σ H o i v ov iv u Q I r1 r2 r3 ⟨a, b, c, μ, R, ra, rb, rc, hc, h, hq⟩
  unfold aSet at h
  split at h
  · rename_i q k
    obtain ⟨m, ex, h⟩ := opt_e h
    split at h
    · obtain ⟨j, ej, h⟩ := opt_e h
      · obtain ⟨o', ho, vs, rfl, rs⟩ := hc _ _ ex
        cases (show o = .ref q from ra)
        cases RelA.int rb
        exact set_list pins s σ H _ _ v ov iv u Q I r1 r2 r3 ⟨q, vs, k, j, rfl, rfl, ho, by rw [← rs.length]; exact ej, hq _ _ (Kp.put ho trivial _) (hc.put ho trivial (rm_lst (rs.set rc j))) h⟩
    · exact h.elim
  · exact h.elim
def wSub (to ti : AE) : AG := fun v τ μ R => to τ μ fun o μ1 => ti τ μ1 fun i μ2 => aSet o i v μ2 fun μ3 => R τ μ3
theorem vg_sub {o i : Expr} {to ti : AE} (ho : VE X o to) (hi : VE X i ti)
    (ha : ∀ v, assign (.Subscript o i pos) X.env v = (do
      let ov ← holding [v] (eval o X.env)
      let iv ← holding [v, ov] (eval i X.env)
      standAt pos
      holding [v, ov, iv] (setItem ov iv v)
      release [v, ov, iv] []) := by intro _; rfl) : VG X (.Subscript o i pos) (wSub to ti) := (pg_sub ho hi s_set ha).imp fun v σ H Q ⟨x, τ, μ, R, rx, hs, hc, h, hq⟩ =>
  ⟨τ, μ, _, hs, hc, h, fun o μ1 ov H1 S1 c1 ro h1 => ⟨τ, μ1, _, hs.kp S1, c1, h1, fun i μ2 iv H2 S2 c2 ri h2 => ⟨o, i, x, μ2, _, ro.kp S2, ri, rx.kp (S1.trans S2), c2, h2, fun μ3 H3 S3 c3 h3 => hq _ _ _ _ (S1.trans (S2.trans S3)) (hs.kp (S1.trans (S2.trans S3))) c3 h3⟩⟩⟩
def vAsg (te : AE) (g : AG) : AS := fun k _ _ _ τ μ => te τ μ fun x μ1 => g x τ μ1 k
theorem vAsg_imp {K : PySem.W.Frag} {te : AE} {g : AG} {D : Ends} {σ : St} {H : Hp} (h : cS K (vAsg te g) D σ H) : tAsg (cE K te) (cG K g) D σ H := by
  obtain ⟨τ, μ, nk, nr, nb, nc, hs, hc, h, hq⟩ := h
  exact ⟨τ, μ, _, hs, hc, h, fun x μ1 v H1 S1 c1 rx hx => ⟨x, τ, μ1, _, rx, hs.kp S1, c1, hx, hq.nx.kp S1⟩⟩
theorem vs_asg {tg : Expr} {g : AG} (he : VE X a ta) (hg : VG X tg g) (hs : swapsWithSole [tg] a pos.line X.env = pure false := by rfl) (hw : swappedStores [tg] a X.env = pure none := by rfl)
    (h1 : (assignEach [tg] X.env).map (·.2) = [assign tg X.env] := by rfl) : VS X (.Assign [tg] a pos) (vAsg ta g) := (ps_asg he hg hs hw h1).imp fun _ _ _ h => vAsg_imp h
theorem vs_set {i : Nat} {x : Str} {pos' : Pos} (hN : X.N.Nodup) (hi : X.N[i]? = some x) (hx : Loc X.env.scope x) (he : VE X a ta) (hs : swapsWith a (some (.Name x pos')) pos.line X.env = pure false := by rfl) (hf : X.fn x = true ∨ X.env.scope.names.lookup x = some .local := by first | exact .inl rfl | exact .inr rfl | assumption) :
    VS X (.Assign [.Name x pos'] a pos) (vAsg ta (wName i)) := (ps_set hN hi hx he hs hf).imp fun D σ H ⟨τ, μ, nk, nr, nb, nc, hs, hc, h, hq⟩ =>
  ⟨τ, μ, _, hs, hc, h, fun x μ1 v H1 S1 c1 rx hx => hq.nx _ _ _ _ S1 ((hs.kp S1).set rx i) c1 hx⟩
def wl (c : AT) (tb : AS) (k : ASt → M → Prop) (r : AV → M → Prop) : Nat → ASt → M → Prop
  | 0 => fun _ _ => False
  | n + 1 => fun τ μ => c τ μ fun x μ1 => brP x (tb (wl c tb k r n) r k (wl c tb k r n) τ μ1) (k τ μ1)
def vWhile (c : AT) (tb : AS) : AS := fun k r _ _ τ μ => ∃ n, wl c tb k r n τ μ
theorem vs_while {c : Expr} {body : List Stmt} {tc : AT} {tb : AS} (hp : PassesOwn (model X.prog X.w) X.A X.env X.xe) (hc : VT X c tc) (hb : VSs X body tb) : VS X (.While c body [] pos) (vWhile tc tb) := (ps_while hp hc hb).imp fun D σ H ⟨τ, μ, nk, nr, nb, nc, hs, hc, ⟨n, h⟩, hq⟩ => by
  refine ⟨fun m σ1 H1 => ∃ τ1 μ1, Kp H H1 ∧ StA X.K H1 τ1 σ1 ∧ Cn X.K μ1 H1 ∧ wl tc tb nk nr m τ1 μ1, ⟨n, τ, μ, Kp.refl, hs, hc, h⟩, ?_⟩
  rintro m σ1 H1 ⟨τ1, μ1, S1, hs1, hc1, h1⟩
  cases m with
  | zero => exact h1.elim
  | succ m =>
    refine ⟨τ1, μ1, _, hs1, hc1, h1, fun k μ2 H2 S2 c2 hk => ?_⟩
    rcases br_e hk with ⟨rfl, hk'⟩ | ⟨rfl, hk'⟩
    · rw [if_pos rfl]
      refine ⟨fun σ' H' => ∃ τ' μ', Kp H H' ∧ StA X.K H' τ' σ' ∧ Cn X.K μ' H' ∧ wl tc tb nk nr m τ' μ', fun σ' H' ⟨τ', μ', q⟩ => ⟨m, Nat.lt_succ_self _, τ', μ', q⟩, τ1, μ2, _, _, _, _, hs1.kp S2, c2, hk', ?_⟩
      have S := S1.trans S2
      exact ⟨fun τ' μ' σ' H' S' hs' hc' h' => ⟨τ', μ', S.trans S', hs', hc', h'⟩, hq.rt.kp S, hq.nx.kp S, fun τ' μ' σ' H' S' hs' hc' h' => ⟨τ', μ', S.trans S', hs', hc', h'⟩⟩
    · rw [if_neg Bool.false_ne_true]
      exact hq.nx _ _ _ _ (S1.trans S2) (hs1.kp S2) c2 hk'
structure ItOk (K : PySem.W.Frag) (H0 : Hp) (J : It) (xs : List AV) (kp : M → Prop) : Prop where
  go : ∀ i H μ, Kp H0 H → Cn K μ H → kp μ → i < xs.length → J.go i H
  yld : ∀ i H μ v H' x, Kp H0 H → Cn K μ H → kp μ → xs[i]? = some x → J.yld i H v H' → Kp H H' ∧ Cn K μ H' ∧ RelA K H' x v
  stop : ∀ H μ, Kp H0 H → Cn K μ H → kp μ → J.stop xs.length H
abbrev AI := ASt → M → (List AV → (M → Prop) → M → Prop) → Prop
def cI (K : PySem.W.Frag) (wi : AI) : TI := fun σ H R => ∃ τ μ R', StA K H τ σ ∧ Cn K μ H ∧ wi τ μ R' ∧ ∀ xs kp μ' J H', Kp H H' → Cn K μ' H' → ItOk K H' J xs kp → R' xs kp μ' → R J H'
def VI (X : Cx) (tg iter : Expr) (wi : AI) : Prop := PI X tg iter (cI X.K wi)
theorem PI.imp {tg e : Expr} {t u : TI} (h : PI X tg e t) (i : ∀ σ H Q, u σ H Q → t σ H Q) : PI X tg e u := fun pins s σ H Q I q => h pins s σ H Q I (i σ H Q q)
theorem itOk_list {K : PySem.W.Frag} {H0 : Hp} {a : Addr} {xs : List AV} {kp : M → Prop} (h : ∀ H μ, Kp H0 H → Cn K μ H → kp μ → ∃ vs, SqL K H a vs ∧ RelAs K H xs vs) : ItOk K H0 (Itl K a) xs kp := by
  refine ⟨fun i H μ S c k hi => ?_, fun i H μ v H' x S c k e y => ?_, fun H μ S c k => ?_⟩
  · obtain ⟨vs, q, r⟩ := h H μ S c k
    exact ⟨vs, vs[i]'(by rw [← r.length]; exact hi), q, List.getElem?_eq_getElem _⟩
  · obtain ⟨vs, q, r⟩ := h H μ S c k
    obtain ⟨rfl, y⟩ := y
    obtain ⟨u, eu, ru⟩ := r.get e
    rw [y vs q] at eu
    cases eu
    exact ⟨Kp.refl, c, ru⟩
  · obtain ⟨vs, q, r⟩ := h H μ S c k
    exact ⟨vs, q, by rw [r.length]; exact Nat.le_refl _⟩
theorem itOk_tup {K : PySem.W.Frag} {H0 : Hp} {a : Addr} {xs : List AV} {kp : M → Prop} (h : ∀ H μ, Kp H0 H → Cn K μ H → kp μ → ∃ vs, SqT K H a vs ∧ RelAs K H xs vs) : ItOk K H0 (Itt K a) xs kp := by
  refine ⟨fun i H μ S c k hi => ?_, fun i H μ v H' x S c k e y => ?_, fun H μ S c k => ?_⟩
  · obtain ⟨vs, q, r⟩ := h H μ S c k
    exact ⟨vs, vs[i]'(by rw [← r.length]; exact hi), q, List.getElem?_eq_getElem _⟩
  · obtain ⟨vs, q, r⟩ := h H μ S c k
    obtain ⟨rfl, y⟩ := y
    obtain ⟨u, eu, ru⟩ := r.get e
    rw [y vs q] at eu
    cases eu
    exact ⟨Kp.refl, c, ru⟩
  · obtain ⟨vs, q, r⟩ := h H μ S c k
    exact ⟨vs, q, by rw [r.length]; exact Nat.le_refl _⟩
variable {tg : Expr}
def rngA (lo : Int) : Nat → List AV
  | 0 => []
  | n + 1 => .D (.int lo) :: rngA (lo + 1) n
theorem rngA_length : ∀ (n : Nat) (lo : Int), (rngA lo n).length = n
  | 0, _ => rfl
  | n + 1, lo => by rw [rngA, List.length_cons, rngA_length n]
theorem rngA_get : ∀ (n : Nat) (lo : Int) (i : Nat) {x : AV}, (rngA lo n)[i]? = some x → x = .D (.int (lo + i))
  | 0, _, _, _, h => by simp [rngA] at h
  | n + 1, lo, 0, _, h => by simp [rngA] at h; rw [← h]; simp
  | n + 1, lo, i + 1, _, h => by
    rw [rngA, List.getElem?_cons_succ] at h
    rw [rngA_get n (lo + 1) i h]
    congr 2
    omega
theorem itOk_rng {K : PySem.W.Frag} {H0 : Hp} {lo : Int} {n : Nat} : ItOk K H0 (Itr lo n) (rngA lo n) (fun _ => True) := by
  refine ⟨fun i H μ S c k hi => ?_, fun i H μ v H' x S c k e y => ?_, fun H μ S c k => ?_⟩
  · show i < n
    rw [rngA_length] at hi; exact hi
  · obtain ⟨rfl, rfl⟩ := y
    rw [rngA_get n lo i e]
    exact ⟨Kp.refl, c, ra_int⟩
  · show n ≤ _
    rw [rngA_length]; exact Nat.le_refl _
def jRng1 (t : AA) : AI := fun τ μ R => t τ μ fun xs μ1 => match xs with
  | [.D (.int j)] => -(2 ^ 62) ≤ j ∧ j < 2 ^ 62 ∧ R (rngA 0 j.toNat) (fun _ => True) μ1
  | _ => False
theorem vi_range1 {t : AA} {p : Pos} (hg : Gl X "range") (hm : X.mg "range" = none) (ha : VA X [a] t) (hs : starEach [a] X.env = [(false, eval a X.env)] := by rfl) : VI X tg (.Call (.Name "range" p) [a] [] pos) (jRng1 t) :=
  (pi_range1 hg hm ha hs).imp fun σ H Q ⟨τ, μ, R, hs, hc, h, hq⟩ => ⟨τ, μ, _, hs, hc, h, fun xs μ1 vs H1 S1 c1 rs hl hx => by
    split at hx
    · cases rs with
      | cons r1 r2 =>
        cases r2
        cases RelA.int r1
        exact ⟨_, rfl, hx.1, hx.2.1, hq _ _ _ _ _ S1 c1 itOk_rng hx.2.2⟩
    · exact hx.elim⟩
def fl (g : AG) (tb : AS) (k : ASt → M → Prop) (r : AV → M → Prop) (kp : M → Prop) : List AV → ASt → M → Prop
  | [] => fun τ μ => kp μ ∧ k τ μ
  | x :: xs => fun τ μ => kp μ ∧ g x τ μ fun τ2 μ2 => tb (fl g tb k r kp xs) r k (fl g tb k r kp xs) τ2 μ2
def vFor (wi : AI) (g : AG) (tb : AS) : AS := fun k r _ _ τ μ => wi τ μ fun xs kp μ1 => fl g tb k r kp xs τ μ1
theorem fl_kp {g : AG} {tb : AS} {k : ASt → M → Prop} {r : AV → M → Prop} {kp : M → Prop} {xs : List AV} {τ : ASt} {μ : M} (h : fl g tb k r kp xs τ μ) : kp μ := by
  cases xs with
  | nil => exact h.1
  | cons x xs => exact h.1
theorem vs_for {iter : Expr} {body : List Stmt} {wi : AI} {g : AG} {tb : AS} (hp : PassesOwn (model X.prog X.w) X.A X.env X.xe) (hcm : X.calm = true) (hi : VI X tg iter wi) (hg : VG X tg g) (hb : VSs X body tb) (hfs : ∀ x, foldedSetIterable iter X.env x = pure x := by intro _; rfl) :
    VS X (.For tg iter body [] pos) (vFor wi g tb) := (ps_for hp hcm hi hg hb hfs).imp fun D σ H ⟨τ, μ, nk, nr, nb, nc, hs, hc, h, hq⟩ => by
  refine ⟨τ, μ, _, hs, hc, h, fun xs kp μ0 J H0 S0 c0 it h0 => ?_⟩
  refine for_of xs.length (fun i σ1 H1 => ∃ τ1 μ1, Kp H0 H1 ∧ StA X.K H1 τ1 σ1 ∧ Cn X.K μ1 H1 ∧ fl g tb nk nr kp (xs.drop i) τ1 μ1) ⟨τ, μ0, Kp.refl, hs.kp S0, c0, h0⟩ ?_ ?_ ?_
  · rintro i σ1 H1 hi ⟨τ1, μ1, S1, hs1, hc1, h1⟩
    exact it.go i H1 μ1 S1 hc1 (fl_kp h1) hi
  · rintro σ1 H1 ⟨τ1, μ1, S1, hs1, hc1, h1⟩
    rw [List.drop_length] at h1
    exact ⟨it.stop H1 μ1 S1 hc1 h1.1, hq.nx _ _ _ _ (S0.trans S1) hs1 hc1 h1.2⟩
  · rintro i v σ1 H1 H2 hi ⟨τ1, μ1, S1, hs1, hc1, h1⟩ y
    rw [List.drop_eq_getElem_cons hi] at h1
    obtain ⟨hk, h1⟩ := h1
    obtain ⟨S2, c2, rx⟩ := it.yld i H1 μ1 v H2 _ S1 hc1 hk (List.getElem?_eq_getElem hi) y
    refine ⟨_, τ1, μ1, _, rx, hs1.kp S2, c2, h1, fun τ3 μ3 σ3 H3 S3 hs3 hc3 h3 => ⟨τ3, μ3, _, _, _, _, hs3, hc3, h3, ?_⟩⟩
    have S : Kp H0 H3 := S1.trans (S2.trans S3)
    exact ⟨fun τ' μ' σ' H' S' hs' hc' h' => ⟨τ', μ', S.trans S', hs', hc', h'⟩, hq.rt.kp (S0.trans S), hq.nx.kp (S0.trans S), fun τ' μ' σ' H' S' hs' hc' h' => ⟨τ', μ', S.trans S', hs', hc', h'⟩⟩
def VIfs (X : Cx) (ifs : List Expr) (t : AT) : Prop := PIfs X ifs (cT X.K t)
def vYes : AT := fun _ μ R => R true μ
theorem vifs_nil : VIfs X [] vYes := fun pins s σ H Q I ⟨τ, μ, R, hs, hc, h, hq⟩ => pifs_nil pins s σ H Q I (hq _ _ _ Kp.refl hc h)
def cl (p : Addr) (g : AG) (tst : AT) (te : AE) (kp : M → Prop) (R : M → Prop) : List AV → List AV → ASt → M → Prop
  | [] => fun _ _ μ => kp μ ∧ R μ
  | x :: xs => fun acc τ μ => kp μ ∧ g x τ μ fun τ1 μ1 => tst τ1 μ1 fun k μ2 =>
    brP k (te τ1 μ2 fun v μ3 => μ3 p = some (.lst acc) ∧ acc.length < sizeLine ∧ cl p g tst te kp R xs (acc ++ [v]) τ1 (updM μ3 p (.lst (acc ++ [v])))) (cl p g tst te kp R xs acc τ1 μ2)
def vComp (mp : List (Option Nat)) (wi : AI) (g : AG) (tst : AT) (te : AE) : AE := fun τ μ R => wi τ μ fun xs kp μ1 => ∀ p, μ1 p = none → cl p g tst te kp (fun μ2 => R (.R p) μ2) xs [] (subA mp τ) (updM μ1 p (.lst []))
theorem cl_kp {p : Addr} {g : AG} {tst : AT} {te : AE} {kp : M → Prop} {R : M → Prop} {xs acc : List AV} {τ : ASt} {μ : M} (h : cl p g tst te kp R xs acc τ μ) : kp μ := by
  cases xs with
  | nil => exact h.1
  | cons x xs => exact h.1
theorem vComp_imp {K : PySem.W.Frag} {mp : List (Option Nat)} {wi : AI} {g : AG} {tst : AT} {te : AE} {σ : St} {H : Hp} {Q : VK} (h : cE K (vComp mp wi g tst te) σ H Q) : tComp mp (cI K wi) (cG K g) (cT K tst) (cE K te) σ H Q := by
  obtain ⟨τ, μ, R, hs, hc, h, hq⟩ := h
  refine ⟨τ, μ, _, hs, hc, h, fun xs kp μ0 J H0 S0 c0 it h0 => ?_⟩
  intro p hp
  have h0 := h0 p (c0.none hp)
  have c0' : Cn K (updM μ0 p (.lst [])) (upd H0 p (.lst [])) := c0.new hp (rm_lst (.nil))
  have S0' : Kp H0 (upd H0 p (.lst [])) := Kp.new hp _
  refine comp_of xs.length (fun i acc σ1 H1 => ∃ τ1 μ1 as, Kp H0 H1 ∧ StA K H1 τ1 σ1 ∧ Cn K μ1 H1 ∧ RelAs K H1 as acc ∧ cl p g tst te kp (fun μ2 => R (.R p) μ2) (xs.drop i) as τ1 μ1) ⟨_, _, [], S0', ((hs.kp S0).kp S0').sub mp, c0', .nil, h0⟩ ?_ ?_ ?_
  · rintro i acc σ1 H1 hi ⟨τ1, μ1, as, S1, hs1, hc1, ra, h1⟩
    exact it.go i H1 μ1 S1 hc1 (cl_kp h1) hi
  · rintro acc σ1 H1 ⟨τ1, μ1, as, S1, hs1, hc1, ra, h1⟩
    rw [List.drop_length] at h1
    exact ⟨it.stop H1 μ1 S1 hc1 h1.1, hq _ _ _ _ (S0.trans S1) hc1 ra_ref h1.2⟩
  · rintro i v acc σ1 H1 H2 hi ⟨τ1, μ1, as, S1, hs1, hc1, ra, h1⟩ y
    rw [List.drop_eq_getElem_cons hi] at h1
    obtain ⟨hk, h1⟩ := h1
    obtain ⟨S2, c2, rx⟩ := it.yld i H1 μ1 v H2 _ S1 hc1 hk (List.getElem?_eq_getElem hi) y
    refine ⟨_, τ1, μ1, _, rx, hs1.kp S2, c2, h1, fun τ3 μ3 σ3 H3 S3 hs3 hc3 h3 => ⟨τ3, μ3, _, hs3, hc3, h3, fun k μ4 H4 S4 c4 h4 => ?_⟩⟩
    rcases br_e h4 with ⟨rfl, h4'⟩ | ⟨rfl, h4'⟩
    · rw [if_pos rfl]
      refine ⟨τ3, μ4, _, hs3.kp S4, c4, h4', fun w μ5 u H5 S5 c5 rw h5 => ?_⟩
      obtain ⟨e5, hl, h5⟩ := h5
      obtain ⟨o, ho, vs, rfl, rs⟩ := c5 _ _ e5
      have S : Kp H1 H5 := S2.trans (S3.trans (S4.trans S5))
      exact ⟨vs, ho, by rw [← rs.length]; exact hl, τ3, _, _, (S1.trans S).trans (Kp.put ho trivial _), (hs3.kp (S4.trans S5)).kp (Kp.put ho trivial _), c5.put ho trivial (rm_lst (rs.append (.cons rw .nil))), (rs.append (.cons rw .nil)).kp (Kp.put ho trivial _), h5⟩
    · rw [if_neg Bool.false_ne_true]
      have S : Kp H1 H4 := S2.trans (S3.trans S4)
      exact ⟨τ3, μ4, as, S1.trans S, hs3.kp S4, c4, ra.kp S, h4'⟩
variable {N' : List Str} {mp : List (Option Nat)} {elt iter : Expr} {ifs : List Expr} {scope : Scope} {wi : AI} {g : AG} {tst : AT} {te : AE}
theorem ve_comp (hc : X.calm = true) (hi : VI X tg iter wi) (hg : ∀ C s H fp, VG (cxComp X N' scope C s H fp) tg g) (ht : ∀ C s H fp, VIfs (cxComp X N' scope C s H fp) ifs tst) (he : ∀ C s H fp, VE (cxComp X N' scope C s H fp) elt te)
    (ok : CompOk X.N X.env.scope.names scope.names N' mp) (hk : scope.kind = .function := by rfl) (hs : ∀ x, foldedSetIterable iter X.env x = pure x := by intro _; rfl) :
    VE X (.ListComp elt [⟨tg, iter, ifs, 0⟩] scope pos) (vComp mp wi g tst te) := (pe_comp (g := cG X.K g) (tst := cT X.K tst) (te := cE X.K te) hc hi (fun C s H fp => hg C s H fp) (fun C s H fp => ht C s H fp) (fun C s H fp => he C s H fp) ok hk hs).imp fun _ _ _ h => vComp_imp h
theorem vs_setC {i : Nat} {y : Str} {py spos : Pos} (hc : X.calm = true) (hN : X.N.Nodup) (hi' : X.N[i]? = some y) (hy : X.env.scope.names.lookup y = some .local)
    (hi : VI X tg iter wi) (hg : ∀ C s H fp, VG (cxComp X N' scope C s H fp) tg g) (ht : ∀ C s H fp, VIfs (cxComp X N' scope C s H fp) ifs tst) (he : ∀ C s H fp, VE (cxComp X N' scope C s H fp) elt te)
    (ok : CompOk X.N X.env.scope.names scope.names N' mp) (hsw : swapsWith (.ListComp elt [⟨tg, iter, ifs, 0⟩] scope pos) (some (.Name y py)) spos.line X.env = pure true := by rfl)
    (hk : scope.kind = .function := by rfl) (hs : ∀ x, foldedSetIterable iter X.env x = pure x := by intro _; rfl) :
    VS X (.Assign [.Name y py] (.ListComp elt [⟨tg, iter, ifs, 0⟩] scope pos) spos) (vAsg (vComp mp wi g tst te) (wName i)) := (ps_setC (g := cG X.K g) (tst := cT X.K tst) (te := cE X.K te) hc hN hi' hy hi (fun C s H fp => hg C s H fp) (fun C s H fp => ht C s H fp) (fun C s H fp => he C s H fp) ok hsw hk hs).imp fun D σ H ⟨τ, μ, nk, nr, nb, nc, hs, hc, h, hq⟩ =>
  vComp_imp (K := X.K) ⟨τ, μ, _, hs, hc, h, fun x μ1 v H1 S1 c1 rx hx => hq.nx _ _ _ _ S1 ((hs.kp S1).set rx i) c1 hx⟩
end
section
variable {P : Program} {w : World} {K : PySem.W.Frag} {mg : Str → Option Value} {base : Heap}
def aNx (R : AV → M → Prop) : ASt → M → Prop := fun _ μ' => ∃ ν, Sub ν μ' ∧ R (.D .none) ν
def aRt (R : AV → M → Prop) : AV → M → Prop := fun v μ' => ∃ ν, Sub ν μ' ∧ R v ν
def aNo : ASt → M → Prop := fun _ _ => False
theorem Fun.vok {x qual : Str} {st : Stmt} {f : Addr} {fd : FuncData} {N ps : List Str} {k : Nat} {sp : ASp} (F : Fun K x qual st f fd) (S : FnScope N ps (defScope st))
    (hbody : ∀ (cdv : Value) (A : Around) (outer : List Env) (s : Shared) (H : Hp) (E : XK), Room k (A.deeper (envOfC qual (defScope st) s.heap.objs.size f cdv)) →
      ∃ t, VSs (cxOf CX0 P w K mg base N qual (defScope st) f cdv A outer s H E).nox (defBody st) t ∧ ∀ xs μ R, xs.length = ps.length → sp xs μ R → t (aNx R) (aRt R) aNo aNo (startA N xs) μ) : FnOk P w K mg base CX0 (k + 1) f fd ps (cSp K ps.length sp) := by
  refine F.ok S (fun vs H Q E h => ?_) (fun cdv A outer s H vs Q E hr h => ?_)
  · obtain ⟨xs, μ, R, hl, rs, _⟩ := h
    rw [← rs.length]; exact hl
  · obtain ⟨xs, μ, R, hl, rs, hc, hsp, hq⟩ := h
    obtain ⟨t, ht, h⟩ := hbody cdv A outer s H E hr
    refine ⟨_, ht, startA N xs, μ, _, _, _, _, StA.begin rs, hc, h xs μ R hl hsp, ⟨fun τ μ' σ H' S' _ c ⟨ν, hν, r⟩ => ?_, fun v μ' u H' S' c rv ⟨ν, hν, r⟩ => ?_, fun _ _ _ _ _ _ _ h => h.elim, fun _ _ _ _ _ _ _ h => h.elim⟩⟩
    · exact hq _ _ _ _ S' (c.sub hν) ra_non r
    · exact hq _ _ _ _ S' (c.sub hν) rv r
end
end L2
namespace L2
open PySem PySem.Spec PyProof.Rows
section
variable {X : Cx} {a b c : Expr} {ta tb tc : AE} {pos : Pos} {tg : Expr}
def jSeq (t : AE) : AI := fun τ μ R => t τ μ fun x μ1 => opt (items μ1 x) fun xs => R xs (fun μ => items μ x = some xs) μ1
theorem vi_seq (hl : VE X a ta) : VI X tg a (jSeq ta) := by
  intro pins s σ H R I ⟨τ, μ, R', hs, hc, h, hq⟩
  refine thn (hl pins s σ H (fun v H1 => ∃ x μ1 xs, Kp H H1 ∧ Cn X.K μ1 H1 ∧ RelA X.K H1 x v ∧ items μ1 x = some xs ∧ R' xs (fun μ => items μ x = some xs) μ1) I ⟨τ, μ, _, hs, hc, h, fun x μ1 v H1 S1 c1 rx hx => ?_⟩) fun v s1 ⟨xv, H1, I1, r1, x, μ1, xs, S1, c1, rx, e, hx⟩ => ?_
  · obtain ⟨xs, e, hx⟩ := opt_e hx
    exact ⟨x, μ1, xs, S1, c1, rx, e, hx⟩
  obtain ⟨p, vs, rfl, hp, rs⟩ := items_kind c1 rx e
  cases r1
  rcases hp with ⟨k, hp⟩ | ⟨k, hp⟩
  · obtain ⟨its, rv, pl, hz⟩ := I1.list hp
    refine wpAny_pyIter_list pl.isList ?_
    refine ⟨s1.heap.objs.size, [s1.heap.objs.size], _, _, H1, rfl, I1.kept (t' := s1.toks) fun b o e => Heap.get?_push_of_some _ e, turn_list p _, ⟨_, Heap.get?_push_size _ rfl, rfl, rfl⟩, fun b hb => ?_, hq _ _ _ _ _ S1 c1 (itOk_list fun H μ S c k2 => ?_) hx⟩
    · have e : b = s1.heap.objs.size := by simpa using hb
      subst e
      exact I1.fpOk (Nat.le_refl _) (I1.hok.fresh (Nat.le_refl _))
    · obtain ⟨q, ws, e, hw, rw⟩ := items_kind c (rx.kp S) k2
      cases e
      rcases hw with ⟨_, hw⟩ | ⟨k3, _⟩
      · exact ⟨ws, hw, rw⟩
      · rw [k] at k3; cases k3
  · obtain ⟨its, rv, pl, hz⟩ := I1.tuple hp
    refine wpAny_pyIter_tuple (show s1.heap.IsTuple p its.toArray from pl) ?_
    refine ⟨s1.heap.objs.size, [s1.heap.objs.size], _, _, H1, rfl, I1.kept (t' := s1.toks) fun b o e => Heap.get?_push_of_some _ e, turn_tuple p _, ⟨_, Heap.get?_push_size _ rfl, rfl, rfl⟩, fun b hb => ?_, hq _ _ _ _ _ S1 c1 (itOk_tup fun H μ S c k2 => ?_) hx⟩
    · have e : b = s1.heap.objs.size := by simpa using hb
      subst e
      exact I1.fpOk (Nat.le_refl _) (I1.hok.fresh (Nat.le_refl _))
    · obtain ⟨q, ws, e, hw, rw⟩ := items_kind c (rx.kp S) k2
      cases e
      rcases hw with ⟨k3, _⟩ | ⟨_, hw⟩
      · rw [k] at k3; cases k3
      · exact ⟨ws, hw, rw⟩
def vNeg (t : AE) : AE := fun τ μ R => t τ μ fun x μ1 => match x with
  | .D (.int i) => R (.D (.int (-i))) μ1
  | _ => False
theorem ve_neg (h : VE X a ta) : VE X (.UnaryOp .USub a pos) (vNeg ta) := (pe_un un_neg h).imp fun σ H Q ⟨τ, μ, R, hs, hc, h, hq⟩ => ⟨τ, μ, _, hs, hc, h, fun x μ1 v H1 S1 c1 rx hx => by
  split at hx
  · cases RelA.int rx
    exact ⟨_, rfl, hq _ _ _ _ S1 c1 ra_int hx⟩
  · exact hx.elim⟩
end
section
variable {c : AT} {g : AG} {tb : AS} {k : ASt → M → Prop} {r : AV → M → Prop} {bb cc : ASt → M → Prop} {tst : AT} {te : AE}
theorem while_i {τ : ASt} {μ : M} (I : Nat → ASt → M → Prop) (m : Nat) (h0 : I m τ μ)
    (step : ∀ m τ μ (W : ASt → M → Prop), I m τ μ → (∀ m' τ' μ', m' < m → I m' τ' μ' → W τ' μ') → c τ μ fun x μ1 => brP x (tb W r k W τ μ1) (k τ μ1)) : ∃ n, wl c tb k r n τ μ := by
  have key : ∀ n m τ μ, m < n → I m τ μ → wl c tb k r n τ μ := by
    intro n
    induction n with
    | zero => intro m τ μ h _; omega
    | succ n ih => intro m τ μ h hI; exact step m τ μ (wl c tb k r n) hI fun m' τ' μ' hm hI' => ih m' τ' μ' (by omega) hI'
  exact ⟨m + 1, key (m + 1) m τ μ (Nat.lt_succ_self _) h0⟩
theorem seq_i {t u : AS} {τ : ASt} {μ : M} (J : ASt → M → Prop) (h1 : ∀ W : ASt → M → Prop, (∀ τ' μ', J τ' μ' → W τ' μ') → t W r bb cc τ μ) (h2 : ∀ τ' μ', J τ' μ' → u k r bb cc τ' μ') : vSeq t u k r bb cc τ μ := h1 (u k r bb cc) h2
theorem seq_d {t u : AS} {τ : ASt} {μ : M} (h : t (u k r bb cc) r bb cc τ μ) : vSeq t u k r bb cc τ μ := h
theorem asg_c {x : AV} {i : Nat} {τ : ASt} {μ : M} (h : k (τ.set i (some x)) μ) : vAsg (vC x) (wName i) k r bb cc τ μ := h
theorem asg_v {t : AE} {i : Nat} {τ : ASt} {μ : M} (h : t τ μ fun x μ1 => k (τ.set i (some x)) μ1) : vAsg t (wName i) k r bb cc τ μ := h
theorem for_i {kp : M → Prop} {xs : List AV} {τ : ASt} {μ : M} (I : Nat → ASt → M → Prop) (h0 : I 0 τ μ) (hk : ∀ i τ μ, I i τ μ → kp μ)
    (step : ∀ i x τ μ (W : ASt → M → Prop), xs[i]? = some x → I i τ μ → (∀ τ' μ', I (i + 1) τ' μ' → W τ' μ') → g x τ μ fun τ2 μ2 => tb W r k W τ2 μ2)
    (done : ∀ τ μ, I xs.length τ μ → k τ μ) : fl g tb k r kp xs τ μ := by
  have key : ∀ n i τ μ, n + i = xs.length → I i τ μ → fl g tb k r kp (xs.drop i) τ μ := by
    intro n
    induction n with
    | zero =>
      intro i τ μ h hI
      have e : i = xs.length := by omega
      subst e
      rw [List.drop_length]
      exact ⟨hk _ _ _ hI, done τ μ hI⟩
    | succ n ih =>
      intro i τ μ h hI
      have hi : i < xs.length := by omega
      rw [List.drop_eq_getElem_cons hi]
      exact ⟨hk _ _ _ hI, step i _ τ μ _ (List.getElem?_eq_getElem hi) hI fun τ' μ' q => ih (i + 1) τ' μ' (by omega) q⟩
  exact key xs.length 0 τ μ rfl h0
theorem comp_i {p : Addr} {kp : M → Prop} {R : M → Prop} {xs : List AV} {τ : ASt} {μ : M} (I : Nat → List AV → ASt → M → Prop) (h0 : I 0 [] τ μ) (hk : ∀ i acc τ μ, I i acc τ μ → kp μ)
    (step : ∀ i x acc τ μ (W : List AV → ASt → M → Prop), xs[i]? = some x → I i acc τ μ → (∀ acc' τ' μ', I (i + 1) acc' τ' μ' → W acc' τ' μ') → g x τ μ fun τ1 μ1 => tst τ1 μ1 fun k μ2 =>
      brP k (te τ1 μ2 fun v μ3 => μ3 p = some (.lst acc) ∧ acc.length < sizeLine ∧ W (acc ++ [v]) τ1 (updM μ3 p (.lst (acc ++ [v])))) (W acc τ1 μ2))
    (done : ∀ acc τ μ, I xs.length acc τ μ → R μ) : cl p g tst te kp R xs [] τ μ := by
  have key : ∀ n i acc τ μ, n + i = xs.length → I i acc τ μ → cl p g tst te kp R (xs.drop i) acc τ μ := by
    intro n
    induction n with
    | zero =>
      intro i acc τ μ h hI
      have e : i = xs.length := by omega
      subst e
      rw [List.drop_length]
      exact ⟨hk _ _ _ _ hI, done acc τ μ hI⟩
    | succ n ih =>
      intro i acc τ μ h hI
      have hi : i < xs.length := by omega
      rw [List.drop_eq_getElem_cons hi]
      exact ⟨hk _ _ _ _ hI, step i _ acc τ μ (fun acc' τ' μ' => cl p g tst te kp R (xs.drop (i + 1)) acc' τ' μ') (List.getElem?_eq_getElem hi) hI fun acc' τ' μ' q => ih (i + 1) acc' τ' μ' (by omega) q⟩
  exact key xs.length 0 [] τ μ rfl h0
end
theorem eqOk_str {z : Str} (h : PyData.canLay0 (.str z) = true) : EqOk (.str z) := ⟨h, by simp [PyData.depth]⟩
theorem eqOk_none : EqOk .none := ⟨rfl, by simp [PyData.depth]⟩
theorem eqOk_int (i : Int) : EqOk (.int i) := ⟨rfl, by simp [PyData.depth]⟩
theorem eqOk_bool (i : Bool) : EqOk (.bool i) := ⟨rfl, by simp [PyData.depth]⟩
theorem eqv_int (i j : Int) : PyData.eqv (.int i) (.int j) = decide (i = j) := by
  rw [PyData.eqv]; exact Bool.eq_iff_iff.mpr (by simp)
theorem ieq {i j : Int} {T F : Prop} (h1 : i = j → T) (h2 : i ≠ j → F) : EqOk (.int i) ∧ EqOk (.int j) ∧ brP (PyData.eqv (.int i) (.int j)) T F := by
  refine ⟨eqOk_int _, eqOk_int _, ?_⟩
  rw [eqv_int]
  exact dif h1 h2
theorem items_R {μ : M} {p : Addr} {xs : List AV} (h : μ p = some (.lst xs)) : items μ (.R p) = some xs := by
  show (match μ p with | some (.lst xs) => some xs | _ => none) = _
  rw [h]
theorem cut1 {d : PyData} {ds : List PyData} : cutD (d :: ds) (some 1) none = ds := by
  unfold cutD
  have e1 : HT.sIx (d :: ds).length 0 (some 1) = 1 := by
    show min (1 : Int).toNat (d :: ds).length = 1
    simp
  rw [e1, HT.sIx_none, List.drop_succ_cons, List.drop_zero, List.take_of_length_le (by simp)]
end L2
namespace L2
open PySem PySem.Spec PyProof.Rows
def valA {κ : Type} [DecidableEq κ] (kvs : List (κ × AV)) (k : κ) : Option AV := (kvs.find? fun kv => decide (kv.1 = k)).map (·.2)
def putA {κ : Type} [DecidableEq κ] (kvs : List (κ × AV)) (k : κ) (v : AV) : List (κ × AV) :=
  if (kvs.any fun kv => decide (kv.1 = k)) = true then kvs.map fun kv => if kv.1 = k then (kv.1, v) else kv else kvs ++ [(k, v)]
def keysOf : List PyData → Option (List Key)
  | [] => some []
  | d :: ds => match keyOf d, keysOf ds with
    | some k, some ks => some (k :: ks)
    | _, _ => none
def dget (m : MO) (d : PyData) : Option (Option AV) := match m with
  | .dk kvs => (keyOf d).map (valA kvs)
  | .dt kvs => match d with
    | .tuple ds => (keysOf ds).map (valA kvs)
    | _ => none
  | .lst _ => none
section
variable {X : Cx} {K : PySem.W.Frag} {H : Hp}
def RelOA (K : PySem.W.Frag) (H : Hp) : Option AV → Option V → Prop
  | some x, some v => RelA K H x v
  | none, none => True
  | _, _ => False
theorem RelK.val {κ : Type} [DecidableEq κ] {kvs : List (κ × AV)} {vs : List (κ × V)} (h : RelK K H kvs vs) (k : κ) : RelOA K H (valA kvs k) (valV vs k) := by
  unfold RelK at h
  induction h with
  | nil => exact trivial
  | @cons p q l₁ l₂ r t ih =>
    obtain ⟨p1, p2⟩ := p
    obtain ⟨q1, q2⟩ := q
    obtain ⟨e, r⟩ := r
    dsimp only at e
    subst e
    unfold valA valV at ih ⊢
    by_cases hk : p1 = k
    · simp only [List.find?_cons, decide_eq_true hk]; exact r
    · simp only [List.find?_cons, decide_eq_false hk]; exact ih
theorem RelK.put {κ : Type} [DecidableEq κ] {kvs : List (κ × AV)} {vs : List (κ × V)} (h : RelK K H kvs vs) (k : κ) {x : AV} {v : V} (r : RelA K H x v) : RelK K H (putA kvs k x) (putK vs k v) := by
  have hn : (kvs.any fun kv => decide (kv.1 = k)) = (vs.any fun kv => decide (kv.1 = k)) := by
    unfold RelK at h
    induction h with
    | nil => rfl
    | @cons p q l₁ l₂ rr t ih => rw [List.any_cons, List.any_cons, ih, rr.1]
  have hm : RelK K H (kvs.map fun kv => if kv.1 = k then (kv.1, x) else kv) (vs.map fun kv => if kv.1 = k then (kv.1, v) else kv) := by
    clear hn
    unfold RelK at h ⊢
    induction h with
    | nil => exact .nil
    | @cons p q l₁ l₂ rr t ih =>
      refine .cons ?_ ih
      obtain ⟨e, rr⟩ := rr
      dsimp only
      by_cases hk : p.1 = k
      · rw [if_pos hk, if_pos (e ▸ hk)]; exact ⟨e, r⟩
      · rw [if_neg hk, if_neg (e ▸ hk)]; exact ⟨e, rr⟩
  have ha : RelK K H (kvs ++ [(k, x)]) (vs ++ [(k, v)]) := by
    clear hn hm
    unfold RelK at h ⊢
    exact Paired.snoc h ⟨rfl, r⟩
  unfold putA putK
  rw [hn]
  split
  · exact hm
  · exact ha
theorem keyOf_v {d : PyData} {k : Key} {v : V} (h : Dk K H d v) (e : keyOf d = some k) : v = kV k := by
  unfold keyOf at e
  split at e
  · cases e; exact h.int
  · cases e; exact h.str
  · cases e
theorem keysOf_v : ∀ {ds : List PyData} {ks : List Key} {vs : List V}, DkAll K H ds vs → keysOf ds = some ks → vs = ks.map kV
  | [], ks, vs, h, e => by cases e; exact h.nil
  | d :: ds, ks, vs, h, e => by
    obtain ⟨x, r, rfl, h1, h2⟩ := h.cons
    simp only [keysOf] at e
    split at e
    · rename_i k ks' e1 e2
      cases e
      rw [keyOf_v h1 e1, keysOf_v h2 e2]; rfl
    · cases e
theorem dget_ok {μ : M} {a : Addr} {m : MO} {d : PyData} {v : V} {o : Option AV} (hc : Cn K μ H) (hm : μ a = some m) (hd : Dk K H d v) (e : dget m d = some o) : ∃ r, DGet H a v r ∧ RelOA K H o r := by
  obtain ⟨ob, ho, rm⟩ := hc a m hm
  unfold dget at e
  split at e
  · obtain ⟨k, ek, rfl⟩ := Option.map_eq_some_iff.mp e
    obtain ⟨vs, rfl, rs⟩ := rm
    rw [keyOf_v hd ek]
    exact ⟨_, DGet.k ho, rs.val k⟩
  · split at e
    · obtain ⟨ks, ek, rfl⟩ := Option.map_eq_some_iff.mp e
      obtain ⟨vs, rfl, rs⟩ := rm
      obtain ⟨b, xs, rfl, hb, hx⟩ := hd.tup
      rw [keysOf_v hx ek] at hb
      exact ⟨_, DGet.t ho hb, rs.val ks⟩
    · cases e
  · cases e
variable {o i e value : Expr} {pos pos' : Pos} {td ty tv tx : AE}
def vDGet (td ty : AE) : AE := fun τ μ R => td τ μ fun x μ1 => ty τ μ1 fun y μ2 => match x, y with
  | .R a, .D d => opt (μ2 a) fun m => opt (dget m d) fun r => opt r fun v => R v μ2
  | _, _ => False
theorem ve_dget (hu : X.A.units + 1 < cLine) (ho : VE X o td) (hi : VE X i ty) (hs : NoSl i := by intro _ _; rfl) : VE X (.Subscript o i pos) (vDGet td ty) := (pe_dget hu ho hi hs).imp fun σ H Q ⟨τ, μ, R, hs, hc, h, hq⟩ =>
  ⟨τ, μ, _, hs, hc, h, fun x μ1 v H1 S1 c1 rx hx => ⟨τ, μ1, _, hs.kp S1, c1, hx, fun y μ2 u H2 S2 c2 ry hy => by
    split at hy
    · obtain ⟨m, em, hy⟩ := opt_e hy
      obtain ⟨r, er, hy⟩ := opt_e hy
      obtain ⟨w, rfl, hy2⟩ := opt_e hy
      obtain ⟨r', g, ro⟩ := dget_ok c2 em ry er
      cases r' with
      | none => exact ro.elim
      | some z => exact ⟨_, z, (rx.kp S2).ref, g, hq _ _ _ _ (S1.trans S2) c2 ro hy2⟩
    · exact hy.elim⟩⟩
theorem RelOA.some {o : Option AV} {r : Option V} (h : RelOA K H o r) : o.isSome = r.isSome := by
  cases o <;> cases r <;> first | rfl | exact h.elim
theorem rm_dk {kvs : List (Key × AV)} {vs : List (Key × V)} (h : RelK K H kvs vs) : RelM K H (.dk kvs) (.dK vs) := ⟨vs, rfl, h⟩
end
end L2
namespace L2
open PySem PySem.Spec PySem.Calls PyProof.Rows
abbrev AX := Addr → List (Str × PyData) → M → Prop
def XFx (K : PySem.W.Frag) (H : Hp) (d : Option Addr) (fs : List (Str × PyData)) : Prop := match d with
  | none => fs = []
  | some d => ∃ kvs, H d = some (XD d kvs) ∧ FsOk K H fs kvs
def EK (K : PySem.W.Frag) (EX : AX) : XK := fun c oa H => ∃ a C fs μ d, c = .ref C ∧ oa = some a ∧ H a = some (XR a C d) ∧ XFx K H d fs ∧ Cn K μ H ∧ EX C fs μ
def XA (X : Cx) (EX : AX) : Prop := XeOk X (EK X.K EX)
section
variable {K : PySem.W.Frag} {H H' : Hp}
theorem Kp.ext {p : Addr} {φ : Heap → Prop} (h : H p = some (.ext φ)) (o : HO) : Kp H (upd H p o) :=
  ⟨fun b xs e => by rw [upd_ne (ne_of e h (by intro z; cases z))]; exact e, fun b o' u e => by rw [upd_ne (ne_of e h (by intro z; cases z))]; exact e⟩
theorem Cn.ext {μ : M} {p : Addr} {φ : Heap → Prop} (c : Cn K μ H) (h : H p = some (.ext φ)) (o : HO) : Cn K μ (upd H p o) := fun b m e => by
  obtain ⟨o', q, r⟩ := c b m e
  refine ⟨o', ?_, r.kp (Kp.ext h o)⟩
  rw [upd_ne]
  · exact q
  · rintro rfl
    rw [h] at q; cases q
    exact r.mt
theorem Kp.same (k : ∀ b o, H b = some o → H' b = some o) : Kp H H' := ⟨fun b _ e => k b _ e, fun b _ _ e => k b _ e⟩
theorem Cn.same {μ : M} (c : Cn K μ H) (k : ∀ b o, H b = some o → H' b = some o) : Cn K μ H' := fun b m e => by
  obtain ⟨o', q, r⟩ := c b m e
  exact ⟨o', k b o' q, r.kp (Kp.same k)⟩
theorem FsOk.zip : ∀ (fns : List Str) {ds : List PyData} {vs : List V}, DkAll K H ds vs → FsOk K H (fns.zip ds) (fns.zip vs)
  | [], _, _, _ => .nil
  | _ :: _, [], _, h => by rw [h.nil]; exact .nil
  | f :: fns, _ :: ds, _, h => by
    obtain ⟨x, r, rfl, h1, h2⟩ := h.cons
    exact .cons ⟨rfl, h1⟩ (FsOk.zip fns h2)
theorem FsOk.lookup {f : Str} {d : PyData} : ∀ {fs : List (Str × PyData)} {vs : List (Str × V)}, FsOk K H fs vs → fs.lookup f = some d → ∃ v, vs.lookup f = some v ∧ Dk K H d v
  | _, _, .nil, e => by cases e
  | (g, d') :: _, (g', v') :: _, .cons r t, e => by
    obtain ⟨r1, r2⟩ := r
    dsimp only at r1 r2
    subst r1
    rw [List.lookup_cons] at e ⊢
    split at e
    · cases e
      exact ⟨v', rfl, r2⟩
    · exact FsOk.lookup t e
end
section
variable {X : Cx} {pins : List (Addr × Obj)} {σ : St} {H : Hp} {s : Shared}
theorem Inv.freeze {a C : Addr} {d : Option Addr} {fs : List (Str × PyData)} {μ : M} (I : Inv X pins σ H s) (q : H a = some (XR a C d)) (f : XFx X.K H d fs) (c : Cn X.K μ H) :
    ∃ H', Inv X pins σ H' s ∧ RelA X.K H' (.X C fs) (.ref a) ∧ Cn X.K μ H' := by
  obtain ⟨vs, hg, h6⟩ := xr_get I.hok q
  have I1 : Inv X pins σ (upd H a (.frz _ (XR a C d))) s := I.retype q ⟨hg, xr_ok hg h6⟩
  have c1 := c.ext q (.frz ⟨.ref C, d, .fields vs, #[]⟩ (XR a C d))
  have S1 := Kp.ext q (.frz ⟨.ref C, d, .fields vs, #[]⟩ (XR a C d))
  cases d with
  | none => exact ⟨_, I1, ⟨a, _, none, rfl, upd_same, f⟩, c1⟩
  | some dx =>
    obtain ⟨kvs, qd, r⟩ := f
    obtain ⟨mA, N, hr, wi⟩ := xd_get I.hok qd
    obtain ⟨od, hod, _⟩ := lookIn_ns N
    have ne : dx ≠ a := by
      rintro rfl
      obtain ⟨o, es, ep, g, hd, _⟩ := N
      rw [hg] at g
      cases g
      cases hd
    have qd' : upd H a (.frz ⟨.ref C, some dx, .fields vs, #[]⟩ (XR a C (some dx))) dx = some (XD dx kvs) := by rw [upd_ne ne]; exact qd
    refine ⟨_, I1.retype (o := .frz od (XD dx kvs)) qd' ⟨hod, xd_ok N hr wi⟩, ⟨a, ⟨.ref C, some dx, .fields vs, #[]⟩, some dx, rfl, ?_, od, kvs, upd_same, (r.kp S1).kp (Kp.ext qd' _)⟩, c1.ext qd' _⟩
    rw [upd_ne (Ne.symm ne)]
    exact upd_same
theorem xinst {a C : Addr} {fs : List (Str × PyData)} (I : Inv X pins σ H s) (r : RelA X.K H (.X C fs) (.ref a)) :
    ∃ ox od, PySem.W.InstAt s.heap a ox C od ∧ ∀ f d, fs.lookup f = some d → ∃ od' u v, od = some od' ∧ PySem.W.lookIn f od' = some (some u) ∧ RelV v u ∧ Dk X.K H d v := by
  obtain ⟨a', o, d, e, q, f⟩ := r
  cases e
  obtain ⟨g1, ⟨vs, hg, h6⟩, _⟩ := (show ObjOk X.prog X.w H s.heap a (.frz o (XR a C d)) from I.hok a _ q)
  cases d with
  | none =>
    refine ⟨_, none, ⟨hg, rfl, rfl, trivial⟩, fun f' d' e => ?_⟩
    rw [show fs = [] from f] at e
    cases e
  | some dx =>
    obtain ⟨od, kvs, qd, rf⟩ := f
    obtain ⟨_, ⟨mA, N, hr, wi⟩, _⟩ := (show ObjOk X.prog X.w H s.heap dx (.frz od (XD dx kvs)) from I.hok dx _ qd)
    obtain ⟨od', ho, hl⟩ := lookIn_ns N
    refine ⟨_, some od', ⟨hg, rfl, rfl, ho⟩, fun f' d' e => ?_⟩
    obtain ⟨v, ev, rv⟩ := rf.lookup e
    obtain ⟨u, hu, ru⟩ := RelO.some_of (v := v) (o := mA f') (by rw [← ev]; exact hr f')
    exact ⟨od', u, v, rfl, by rw [hl, hu], ru, rv⟩
end
def spI (C : Addr) (fns : List Str) : Sp := fun vs H Q _ => ∃ (e t : Addr) (ys : List V), vs = .ref e :: ys ∧ ys.length = fns.length ∧ H e = some (XO e C t none) ∧
  ∀ H2 t' dx, (∀ b o, b ≠ e → H b = some o → H2 b = some o) → H2 e = some (XO e C t' (some dx)) → H2 dx = some (XD dx (fns.zip ys)) → dx ≠ e → Q .non H2
def XCal (P : Program) (w : World) (K : PySem.W.Frag) (mg : Str → Option Value) (base : Heap) (k : Nat) (x : Str) (C : Addr) (fns : List Str) : Prop :=
  ∃ f fd ps, FnOk P w K mg base CX0 k f fd ps (spI C fns) ∧ Binds K fd ps [] ∧ XMk K C f ∧ mg x = some (.ref C) ∧ PySem.W.mroIn K C (.type "BaseException") = some true
def vRaise (EX : AX) (C : Addr) (fns : List Str) (t : AA) : AS := fun _ _ _ _ τ μ => t τ μ fun xs μ1 => opt (dats xs) fun ds => ds.length = fns.length ∧ EX C (fns.zip ds) μ1
section
variable {X : Cx} {x : Str} {p pos pos' : Pos} {e : Expr} {es : List Expr} {t : AA} {k : Nat} {C : Addr} {fns : List Str} {EX : AX}
theorem vs_raise (F : XCal X.prog X.w X.K X.mg X.base k x C fns) (hr : Room (k + 1) X.A) (hc : X.calm = true) (hx : XA X EX) (hg : Gl X x) (ha : VA X (e :: es) t) (hn : (e :: es).length ≤ 1000 := by decide) (hdb : (x == ("__debug__" : Str)) = false := by decide)
    (hst : starEach (e :: es) X.env = (false, eval e X.env) :: starEach es X.env := by rfl) (hpl : (backTo pos (starEach es X.env)).any (·.1) = false := by rfl) : VS X (.Raise (some (.Call (.Name x p) (e :: es) [] pos)) none pos') (vRaise EX C fns t) := by
  obtain ⟨f, fd, ps, G, gb, mk, gm, mr⟩ := F
  refine PS.imp (ps_raise hc hx (pe_xmake (E := E0) mk G hr hg gm gb pass0 ha hdb hst hpl)) fun D σ H ⟨τ, μ, nk, nr, nb, nc, hs, hc, h, hq⟩ => ?_
  refine ⟨τ, μ, _, hs, hc, h, fun xs μ1 vs H1 S1 c1 rs hl hx => ⟨by rw [← rs.length, hl]; exact hn, fun a tp ha => ?_⟩⟩
  obtain ⟨ds, ed, el, hE⟩ := opt_e hx
  have dk := rs.dats ed
  refine ⟨a, tp, vs, rfl, by rw [dk.length]; exact el, upd_same, fun H2 t' dx keep q1 q2 ne => ⟨rfl, a, C, t', some dx, rfl, q1, mk.xc, mr, ?_⟩⟩
  have kk : ∀ b o, H1 b = some o → upd H2 a (XR a C (some dx)) b = some o := fun b o q => by
    have hb : b ≠ a := by rintro rfl; rw [ha] at q; cases q
    rw [upd_ne hb]
    exact keep b o hb (by rw [upd_ne hb]; exact q)
  exact ⟨a, C, fns.zip ds, μ1, some dx, rfl, rfl, upd_same, ⟨_, by rw [upd_ne ne]; exact q2, (FsOk.zip fns dk).kp (Kp.same kk)⟩, c1.same kk, hE⟩
end
abbrev ASpX := List AV → M → (AV → M → Prop) → AX → Prop
def cSpX (K : PySem.W.Frag) (n : Nat) (sp : ASpX) : Sp := fun vs H Q E => ∃ xs μ R EX, xs.length = n ∧ RelAs K H xs vs ∧ Cn K μ H ∧ sp xs μ R EX ∧ LV K H R Q ∧ ∀ c a H', EK K EX c a H' → E c a H'
def VCalX (P : Program) (w : World) (K : PySem.W.Frag) (mg : Str → Option Value) (base : Heap) (k : Nat) (x : Str) (ps : List Str) (sp : ASpX) : Prop :=
  ∃ g gd, FnOk P w K mg base (CX1 P w) k g gd ps (cSpX K ps.length sp) ∧ Binds K gd ps [] ∧ PySem.W.keepIn K (.ref g) = true ∧ mg x = some (.ref g)
theorem VCalX.mono {P : Program} {w : World} {K : PySem.W.Frag} {mg : Str → Option Value} {base : Heap} {n m : Nat} {x : Str} {ps : List Str} {sp : ASpX} (c : VCalX P w K mg base n x ps sp) (h : n ≤ m) : VCalX P w K mg base m x ps sp :=
  let ⟨g, gd, G, r⟩ := c; ⟨g, gd, G.mono h, r⟩
def vCallX (sp : ASpX) (EX : AX) (t : AA) : AE := fun τ μ R => t τ μ fun xs μ1 => sp xs μ1 R EX
section
variable {X : Cx} {x : Str} {p pos : Pos} {e : Expr} {es : List Expr} {t : AA} {k : Nat} {ps : List Str} {sp : ASpX} {EX : AX}
theorem ve_callX (F : VCalX X.prog X.w X.K X.mg X.base k x ps sp) (hr : Room k X.A) (hx : XA X EX) (hg : Gl X x) (ha : VA X (e :: es) t) (hl : (e :: es).length = ps.length := by rfl) (hdb : (x == ("__debug__" : Str)) = false := by decide)
    (hst : starEach (e :: es) X.env = (false, eval e X.env) :: starEach es X.env := by rfl) (hpl : (backTo pos (starEach es X.env)).any (·.1) = false := by rfl) : VE X (.Call (.Name x p) (e :: es) [] pos) (vCallX sp EX t) := by
  obtain ⟨g, gd, G, gb, gk, gm⟩ := F
  refine PE.imp (pe_call (E := EK X.K EX) G hr hg gm gk gb .nil (XeOk.passes hx fun _ _ _ q => q) ha (hdb := hdb) (he := hst) (hpl := hpl)) fun σ H Q ⟨τ, μ, R, hs, hc, h, hq⟩ => ?_
  exact ⟨τ, μ, _, hs, hc, h, fun xs μ1 vs H1 S1 c1 rs hn hx => ⟨xs, μ1, R, EX, hn.trans hl, by rw [List.append_nil]; exact rs, c1, hx, hq.kp S1, fun _ _ _ q => q⟩⟩
end
def upX (EX : AX) : AX := fun C fs μ => ∃ ν, Sub ν μ ∧ EX C fs ν
theorem XA.up {X : Cx} {EX : AX} (h : XA X EX) : XA X (upX EX) := fun pins σ H s a C d vs I q R ⟨a', C', fs, _, d', e1, e2, e3, e4, e5, ν, hν, e6⟩ => h pins σ H s a C d vs I q R ⟨a', C', fs, ν, d', e1, e2, e3, e4, e5.sub hν, e6⟩
section
variable {P : Program} {w : World} {K : PySem.W.Frag} {mg : Str → Option Value} {base : Heap}
theorem Fun.vokX {x qual : Str} {st : Stmt} {f : Addr} {fd : FuncData} {N ps : List Str} {k : Nat} {sp : ASpX} (F : Fun K x qual st f fd) (S : FnScope N ps (defScope st))
    (hbody : ∀ (cdv : Value) (A : Around) (outer : List Env) (s : Shared) (H : Hp) (E : XK) (EX : AX), Room k (A.deeper (envOfC qual (defScope st) s.heap.objs.size f cdv)) → XA (cxOf (CX1 P w) P w K mg base N qual (defScope st) f cdv A outer s H E) (upX EX) →
      ∃ t, VSs (cxOf (CX1 P w) P w K mg base N qual (defScope st) f cdv A outer s H E) (defBody st) t ∧ ∀ xs μ R, xs.length = ps.length → sp xs μ R EX → t (aNx R) (aRt R) aNo aNo (startA N xs) μ) : FnOk P w K mg base (CX1 P w) (k + 1) f fd ps (cSpX K ps.length sp) := by
  obtain ⟨oc, od, kV, doc, pm, an, cdv, ct, osl, rfl, lk, hcd⟩ := F.ex
  refine fn_of lk hcd S (fun vs H Q E h => ?_) fun A outer s H vs Q E hr h => ?_
  · obtain ⟨xs, μ, R, EX, hl, rs, _⟩ := h
    rw [← rs.length]; exact hl
  · obtain ⟨xs, μ, R, EX, hl, rs, hc, hsp, hq, hE⟩ := h
    have hXA : XA (cxOf (CX1 P w) P w K mg base N qual (defScope st) f cdv A outer s H E) EX := fun pins σ H1 s1 a C d vs I q R h => xeOk_cx pins σ H1 s1 a C d vs I q R (hE _ _ _ h)
    obtain ⟨t, ht, h⟩ := hbody cdv A outer s H E EX hr hXA.up
    refine ⟨_, ht, startA N xs, μ, _, _, _, _, StA.begin rs, hc, h xs μ R hl hsp, ⟨fun τ μ' σ H' S' _ c ⟨ν, hν, r⟩ => ?_, fun v μ' u H' S' c rv ⟨ν, hν, r⟩ => ?_, fun _ _ _ _ _ _ _ h => h.elim, fun _ _ _ _ _ _ _ h => h.elim⟩⟩
    · exact hq _ _ _ _ S' (c.sub hν) ra_non r
    · exact hq _ _ _ _ S' (c.sub hν) rv r
end
def cS0 (K : PySem.W.Frag) (H0 : Hp) (t : AS) : TS := fun D σ H => ∃ τ μ k r b c, StA K H τ σ ∧ Cn K μ H ∧ t k r b c τ μ ∧ LE' K H0 k r b c D
def VS0 (X : Cx) (st : Stmt) (t : AS) : Prop := PS X st (cS0 X.K X.H₀ t)
def VSs0 (X : Cx) (st : List Stmt) (t : AS) : Prop := PSs X st (cS0 X.K X.H₀ t)
section
variable {X : Cx} {pins : List (Addr × Obj)} {σ : St} {H : Hp} {s : Shared} {st : Stmt} {rest : List Stmt} {t s1 s2 : AS}
theorem Inv.kp0 (I : Inv X pins σ H s) : Kp X.H₀ H := ⟨I.base.tups, I.base.frzs⟩
theorem VS.z (h : VS X st t) : VS0 X st t := fun pins s σ H D I ⟨τ, μ, k, r, b, c, hs, hc, h', hq⟩ => h pins s σ H D I ⟨τ, μ, k, r, b, c, hs, hc, h', hq.kp I.kp0⟩
theorem VSs.z (h : VSs X rest t) : VSs0 X rest t := fun pins s σ H D I ⟨τ, μ, k, r, b, c, hs, hc, h', hq⟩ => h pins s σ H D I ⟨τ, μ, k, r, b, c, hs, hc, h', hq.kp I.kp0⟩
theorem vss0_cons (h1 : VS0 X st s1) (h2 : VSs0 X rest s2) : VSs0 X (st :: rest) (vSeq s1 s2) := (pss_cons h1 h2).imp fun D σ H ⟨τ, μ, nk, nr, nb, nc, hs, hc, h, hq⟩ =>
  ⟨τ, μ, _, _, _, _, hs, hc, h, ⟨fun τ' μ' σ' H' S' hs' hc' h' => ⟨τ', μ', nk, nr, nb, nc, hs', hc', h', hq⟩, hq.rt, hq.bk, hq.ct⟩⟩
theorem vss0_one (h1 : VS0 X st s1) : VSs0 X [st] s1 := pss_one h1
def vTry (K : PySem.W.Frag) (m i : Nat) (Dc : Addr) (tb : AX → AS) (th : AS) : AS := fun k r b c τ μ =>
  tb (fun C fs μ' => PySem.W.mroIn K C (.ref Dc) = some true ∧ th (fun τ1 μ1 => k (τ1.set i none) μ1) r (fun τ1 μ1 => b (τ1.set i none) μ1) (fun τ1 μ1 => c (τ1.set i none) μ1) ((List.replicate m none).set i (some (.X C fs))) μ') k r b c τ μ
theorem StA.blank : ∀ (σ : St), StA X.K H (List.replicate σ.length none) σ
  | [] => .nil
  | _ :: σ => .cons relSl_none (StA.blank σ)
theorem StA.unset2 {K : PySem.W.Frag} : ∀ {τ : ASt} {σ : St} (i : Nat), StA K H τ σ → StA K H (τ.set i none) (σ.set i none)
  | _, _, _, .nil => .nil
  | _, _, 0, .cons _ t => .cons relSl_none t
  | _, _, i + 1, .cons q t => .cons q (StA.unset2 i t)
theorem vs0_try {body suite : List Stmt} {b₀ : Stmt} {x n : Str} {p p2 pos : Pos} {i : Nat} {Dc : Addr} {tb : AX → AS} {th : AS} (hb : ∀ xe pn EX, XA (X.taking xe pn) EX → VSs (X.taking xe pn) body (tb EX)) (hh : ∀ e, VSs (X.suite e) (b₀ :: suite) th)
    (hg : Gl X x) (hm : X.mg x = some (.ref Dc)) (hD : xcIn X.K Dc = true) (hB : PySem.W.mroIn X.K Dc (.type "BaseException") = some true) (hst : X.stack = X.env :: X.outer) (hfr : X.env.frame = some X.env.locals)
    (hN : X.N.Nodup) (hi : X.N[i]? = some n) (hk : X.env.scope.names.lookup n = some .local) (hdb : (x == ("__debug__" : Str)) = false := by decide) :
    VS0 X (.Try body [.ExceptHandler (some (.Name x p)) (some n) (b₀ :: suite) p2] [] [] pos) (vTry X.K X.N.length i Dc tb th) := by
  intro pins s σ H D I ⟨τ, μ, nk, nr, nb, nc, hs, hc, h, hq⟩
  refine wpAny_Try_except ?_
  have ok := I.ok
  generalize hxe : (fun (e : Value) (s₁ : Shared) => wpAny (model X.prog X.w) X.A (noteFrame e X.env) (fun _ s₂ => wpAny (model X.prog X.w) X.A (setFlight e none) (fun _ s₃ =>
    wpAny (model X.prog X.w) X.A (handleBy e X.env [.ExceptHandler (some (.Name x p)) (some n) (b₀ :: suite) p2]) (SP X pins D) X.xe s₃) X.xe s₂) X.xe s₁) = xe
  have hXA : XA (X.taking xe (X.pn ++ pins)) (fun C fs μ' => PySem.W.mroIn X.K C (.ref Dc) = some true ∧ th (fun τ1 μ1 => nk (τ1.set i none) μ1) nr (fun τ1 μ1 => nb (τ1.set i none) μ1) (fun τ1 μ1 => nc (τ1.set i none) μ1) ((List.replicate X.N.length none).set i (some (.X C fs))) μ') := by
    rintro pins' σ' H' s' a C d vs I1 hx R ⟨a', C', fs, μ', d', ec, ea, _, hf, hc', hmro, hth⟩
    cases ec; cases ea
    show xe (.ref a) s'
    rw [← hxe]
    have J0 : Inv X pins σ' H' s' := I1.untake ok
    rename_i hx'
    have dd : d' = d := by
      obtain ⟨vs', g1, _⟩ := xr_get J0.hok hx'
      have := R.at_.symm.trans g1
      cases this
      rfl
    subst dd
    refine leave_two (base := X.base) (outer := X.outer) (L := X.env.locals) (by rw [← hst]; exact ok.frames) (by rw [← hst]; exact J0.stack) hfr R fun h' L => ?_
    have J := J0.left hx (by rw [hst]; exact L)
    obtain ⟨vs', R', _⟩ := L.rc
    refine wpAny_handleBy_cons (codeAny_handlers_test ?_) (by intro q; cases q)
    refine ld_glob (X := X.suite a) J.suite hg hm ?_ hdb
    refine matches_own (K := X.K) J.kIn hD R'.at_ hB hmro ?_
    refine codeAny_handlers_suite_as ?_
    refine flight_ok R' fun h2 k2 => ?_
    have J2 : Inv X pins σ' H' { s' with heap := h2 } := J.kept (t' := s'.toks) k2
    obtain ⟨H3, J3, rX, c3⟩ := J2.freeze hx hf hc'
    refine store_ok (X := X.suite a) J3.suite hN hi (.inl hk) (v := .ref a) (u := .ref a) rfl (fun s4 J4 => ?_) (.inr hk)
    have hlen : X.N.length = σ'.length := J3.len.symm
    refine wpAny_mono (hh a pins s4 _ H3 { nx := fun σ H => D.nx (σ.set i none) H, rt := D.rt, bk := fun σ H => D.bk (σ.set i none) H, ct := fun σ H => D.ct (σ.set i none) H } J4 ⟨_, _, _, _, _, _, ?_, c3, hth, ?_⟩) (fun fl s5 hfl => ?_) (fun _ _ z => z.elim)
    · rw [hlen]
      exact (StA.blank (X := X) σ').set rX i
    · have S := J3.kp0
      exact ⟨fun τ1 μ1 σ1 H1 S1 hs1 hc1 h1 => hq.nx _ _ _ _ (S.trans S1) (hs1.unset2 i) hc1 h1, hq.rt.kp S, fun τ1 μ1 σ1 H1 S1 hs1 hc1 h1 => hq.bk _ _ _ _ (S.trans S1) (hs1.unset2 i) hc1 h1, fun τ1 μ1 σ1 H1 S1 hs1 hc1 h1 => hq.ct _ _ _ _ (S.trans S1) (hs1.unset2 i) hc1 h1⟩
    · cases fl with
      | next =>
        obtain ⟨σ6, H6, I6, q6⟩ := hfl
        exact gone_ok (I6.unsuite ok) hN hi hk fun s7 I7 => ⟨_, H6, I7, q6⟩
      | brk =>
        obtain ⟨σ6, H6, I6, q6⟩ := hfl
        exact gone_ok (I6.unsuite ok) hN hi hk fun s7 I7 => ⟨_, H6, I7, q6⟩
      | cont =>
        obtain ⟨σ6, H6, I6, q6⟩ := hfl
        exact gone_ok (I6.unsuite ok) hN hi hk fun s7 I7 => ⟨_, H6, I7, q6⟩
      | ret u =>
        obtain ⟨v, σ6, H6, I6, rv, q6⟩ := hfl
        exact gone_ok (I6.unsuite ok) hN hi hk fun s7 I7 => ⟨v, _, H6, I7, rv, q6⟩
  refine wpAny_mono (hb xe (X.pn ++ pins) _ hXA [] s σ H D I.take ⟨τ, μ, _, _, _, _, hs, hc, h, hq.kp I.kp0⟩) (fun fl s1 hf => ?_) (fun e s1 he => ?_)
  · cases fl with
    | next =>
      obtain ⟨σ', H', I1, q⟩ := hf
      exact wpAny_execs_nil ⟨σ', H', I1.untake ok, q⟩
    | brk =>
      obtain ⟨σ', H', I1, q⟩ := hf
      exact ⟨σ', H', I1.untake ok, q⟩
    | cont =>
      obtain ⟨σ', H', I1, q⟩ := hf
      exact ⟨σ', H', I1.untake ok, q⟩
    | ret u =>
      obtain ⟨v, σ', H', I1, rv, q⟩ := hf
      exact ⟨v, σ', H', I1.untake ok, rv, q⟩
  · exact he
end
theorem Fun.vok0 {P : Program} {w : World} {K : PySem.W.Frag} {mg : Str → Option Value} {base : Heap} {x qual : Str} {st : Stmt} {f : Addr} {fd : FuncData} {N ps : List Str} {k : Nat} {sp : ASp} (F : Fun K x qual st f fd) (S : FnScope N ps (defScope st))
    (hbody : ∀ (cdv : Value) (A : Around) (outer : List Env) (s : Shared) (H : Hp) (E : XK), Room k (A.deeper (envOfC qual (defScope st) s.heap.objs.size f cdv)) →
      ∃ t, VSs0 (cxOf CX0 P w K mg base N qual (defScope st) f cdv A outer s H E).nox (defBody st) t ∧ ∀ xs μ R, xs.length = ps.length → sp xs μ R → t (aNx R) (aRt R) aNo aNo (startA N xs) μ) : FnOk P w K mg base CX0 (k + 1) f fd ps (cSp K ps.length sp) := by
  refine F.ok S (fun vs H Q E h => ?_) (fun cdv A outer s H vs Q E hr h => ?_)
  · obtain ⟨xs, μ, R, hl, rs, _⟩ := h
    rw [← rs.length]; exact hl
  · obtain ⟨xs, μ, R, hl, rs, hc, hsp, hq⟩ := h
    obtain ⟨t, ht, h⟩ := hbody cdv A outer s H E hr
    refine ⟨_, ht, startA N xs, μ, _, _, _, _, StA.begin rs, hc, h xs μ R hl hsp, ⟨fun τ μ' σ H' S' _ c ⟨ν, hν, r⟩ => ?_, fun v μ' u H' S' c rv ⟨ν, hν, r⟩ => ?_, fun _ _ _ _ _ _ _ h => h.elim, fun _ _ _ _ _ _ _ h => h.elim⟩⟩
    · exact hq _ _ _ _ S' (c.sub hν) ra_non r
    · exact hq _ _ _ _ S' (c.sub hν) rv r
section
variable {X : Cx} {a : Expr} {ta : AE} {pos p p2 : Pos} {x : Str}
def vXIs (K : PySem.W.Frag) (c : Value) (te : AE) : AE := fun τ μ R => te τ μ fun x μ1 => match x with
  | .X C _ => XIs K C ∧ opt (PySem.W.kitOne K (.ref C) c) fun b => R (.D (.bool b)) μ1
  | _ => False
theorem vXIs_ok {c : Value} {τ : ASt} {σ : St} {H : Hp} {μ : M} {R : AV → M → Prop} {Q : VK} {s : Shared} {pins : List (Addr × Obj)} {W : Value → Shared → Prop} (he : VE X a ta) (I : Inv X pins σ H s) (hs : StA X.K H τ σ) (hc : Cn X.K μ H) (h : vXIs X.K c ta τ μ R) (hq : LV X.K H R Q)
    (k : ∀ e C fs H1 s1 b, Inv X pins σ H1 s1 → RelA X.K H1 (.X C fs) (.ref e) → XIs X.K C → PySem.W.kitOne X.K (.ref C) c = some b → Q (.bl b) H1 → W (.ref e) s1) : wpAny (model X.prog X.w) X.A (eval a X.env) W X.xe s := by
  refine thn (he pins s σ H (fun v H1 => ∃ C fs μ1 b, Kp H H1 ∧ Cn X.K μ1 H1 ∧ RelA X.K H1 (.X C fs) v ∧ XIs X.K C ∧ PySem.W.kitOne X.K (.ref C) c = some b ∧ R (.D (.bool b)) μ1) I ⟨τ, μ, _, hs, hc, h, fun x μ1 v H1 S1 c1 rx hx => ?_⟩) fun u s1 ⟨v, H1, I1, r1, C, fs, μ1, b, S1, c1, rx, xi, kb, q1⟩ => ?_
  · split at hx
    · obtain ⟨xi, hx⟩ := hx
      obtain ⟨b, kb, hx⟩ := opt_e hx
      exact ⟨_, _, μ1, b, S1, c1, rx, xi, kb, hx⟩
    · exact hx.elim
  · obtain ⟨e, o, d, ev, q⟩ := id rx
    subst ev
    obtain rfl : u = Value.ref e := r1
    exact k e C fs H1 s1 b I1 rx xi kb (hq _ _ _ _ S1 c1 ra_bl q1)
theorem ve_xisi {D : Addr} (hg : Gl X "isinstance") (hm : X.mg "isinstance" = none) (hg2 : Gl X x) (hm2 : X.mg x = some (.ref D)) (he : VE X a ta) (hd2 : (x == ("__debug__" : Str)) = false := by decide)
    (hs : starEach [a, .Name x p2] X.env = (false, eval a X.env) :: starEach [.Name x p2] X.env := by rfl) (hs2 : starEach [.Name x p2] X.env = [(false, eval (.Name x p2) X.env)] := by rfl) (hpl : (backTo pos (starEach [.Name x p2] X.env)).any (·.1) = false := by rfl) :
    VE X (.Call (.Name "isinstance" p) [a, .Name x p2] [] pos) (vXIs X.K (.ref D) ta) := by
  intro pins s σ H Q I ⟨τ, μ, R, hst, hc, h, hq⟩
  refine wpAny_Call_Name_kw (ld_blt I hg hm boot_isinstance ?_)
  refine PyProof.Rows.callWith_builtin1 ?_ hs hpl
  rw [hs]
  refine Calls.spliced_cons (vXIs_ok he I hst hc h hq fun e C fs H1 s1 b I1 rx xi kb q => ?_)
  rw [hs2]
  refine Calls.spliced_cons (ld_glob I1 hg2 hm2 (Calls.spliced_nil ?_) hd2)
  obtain ⟨ox, od, J, _⟩ := xinst I1 rx
  exact PySem.W.kia_one (kitx_exc xi) I1.kIn ⟨ox, od, J⟩ kb (fun z => nomatch z) fun tk => ⟨.bl b, H1, I1.tok _, rfl, q⟩
theorem ve_xisiT {T : String} (hg : Gl X "isinstance") (hm : X.mg "isinstance" = none) (hg2 : Gl X x) (hm2 : X.mg x = none) (hv2 : bootBuiltins x = some (.type T)) (he : VE X a ta) (hn2 : x ≠ "__name__" := by decide) (hd2 : (x == ("__debug__" : Str)) = false := by decide)
    (hs : starEach [a, .Name x p2] X.env = (false, eval a X.env) :: starEach [.Name x p2] X.env := by rfl) (hs2 : starEach [.Name x p2] X.env = [(false, eval (.Name x p2) X.env)] := by rfl) (hpl : (backTo pos (starEach [.Name x p2] X.env)).any (·.1) = false := by rfl) :
    VE X (.Call (.Name "isinstance" p) [a, .Name x p2] [] pos) (vXIs X.K (.type T) ta) := by
  intro pins s σ H Q I ⟨τ, μ, R, hst, hc, h, hq⟩
  refine wpAny_Call_Name_kw (ld_blt I hg hm boot_isinstance ?_)
  refine PyProof.Rows.callWith_builtin1 ?_ hs hpl
  rw [hs]
  refine Calls.spliced_cons (vXIs_ok he I hst hc h hq fun e C fs H1 s1 b I1 rx xi kb q => ?_)
  rw [hs2]
  refine Calls.spliced_cons (ld_blt I1 hg2 hm2 hv2 (Calls.spliced_nil ?_) hn2 hd2)
  obtain ⟨ox, od, J, _⟩ := xinst I1 rx
  exact PySem.W.kia_one (kitx_exc xi) I1.kIn ⟨ox, od, J⟩ kb (fun z => nomatch z) fun tk => ⟨.bl b, H1, I1.tok _, rfl, q⟩
def vXFld (K : PySem.W.Frag) (f : Str) (te : AE) : AE := fun τ μ R => te τ μ fun x μ1 => match x with
  | .X C fs => XCls K C ∧ NoAttr K C f ∧ opt (fs.lookup f) fun d => R (.D d) μ1
  | _ => False
theorem ve_xfld {f : Str} (he : VE X a ta) (hb : attributeBase a f X.env (eval a X.env) = eval a X.env) : VE X (.Attribute a f pos) (vXFld X.K f ta) := by
  intro pins s σ H Q I ⟨τ, μ, R, hst, hc, h, hq⟩
  refine attr_of hb (thn (he pins s σ H (fun v H1 => ∃ C fs μ1 d, Kp H H1 ∧ Cn X.K μ1 H1 ∧ RelA X.K H1 (.X C fs) v ∧ XCls X.K C ∧ NoAttr X.K C f ∧ fs.lookup f = some d ∧ R (.D d) μ1) I ⟨τ, μ, _, hst, hc, h, fun x μ1 v H1 S1 c1 rx hx => ?_⟩) fun u s1 ⟨v, H1, I1, r1, C, fs, μ1, d, S1, c1, rx, xc, na, el, q1⟩ => ?_)
  · split at hx
    · obtain ⟨z1, z2, z3⟩ := hx
      obtain ⟨d, e, z⟩ := opt_e z3
      exact ⟨_, _, μ1, d, S1, c1, rx, z1, z2, e, z⟩
    · exact hx.elim
  · obtain ⟨e, o, d', ev, q⟩ := id rx
    subst ev
    obtain rfl : u = Value.ref e := r1
    obtain ⟨ox, od, J, hl⟩ := xinst I1 rx
    obtain ⟨od', u, v, rfl, hu, ru, dk⟩ := hl f d el
    exact xget_value I1.kIn J xc.mb xc.ga xc.gn (PySem.W.findObj_own xc.hd na rfl hu) (handed_of ru) ⟨v, H1, I1.tok _, ru, hq _ _ _ _ S1 c1 (ra_D dk) q1⟩
def tGl (cs : List Addr) : TA := fun _ H Q => Q (cs.map V.ref) H
theorem pa_gl0 : PA X [] (tGl []) := pa_nil
theorem pa_gl {D : Addr} {cs : List Addr} {es : List Expr} (hg : Gl X x) (hm : X.mg x = some (.ref D)) (h : PA X es (tGl cs)) (hd : (x == ("__debug__" : Str)) = false := by decide) (hs : starEach (.Name x p :: es) X.env = (false, eval (.Name x p) X.env) :: starEach es X.env := by rfl) : PA X (.Name x p :: es) (tGl (D :: cs)) :=
  pa_cons (pe_glob (v := .ref D) hg hm rfl hd) h hs
def vXIsT (K : PySem.W.Frag) (cs : List Addr) (te : AE) : AE := fun τ μ R => te τ μ fun x μ1 => match x with
  | .X C _ => XIs K C ∧ opt (PySem.W.kitAny K (.ref C) (cs.map Value.ref)) fun b => R (.D (.bool b)) μ1
  | _ => False
theorem vals_refs : ∀ {cs : List Addr} {us : List Value}, Vals (cs.map V.ref) us → us = cs.map Value.ref
  | [], _, h => by cases h; rfl
  | c :: cs, _, h => by
    rw [List.map_cons] at h
    cases h with
    | cons r t => rw [vals_refs t]; cases r; rfl
theorem ve_xisiTs {es : List Expr} {cs : List Addr} {k : Nat} (hg : Gl X "isinstance") (hm : X.mg "isinstance" = none) (hT : PA X es (tGl cs)) (he : VE X a ta) (hl : cs.length ≤ sizeLine := by decide)
    (hs : starEach [a, .Tuple es k p2] X.env = (false, eval a X.env) :: starEach [.Tuple es k p2] X.env := by rfl) (hs2 : starEach [.Tuple es k p2] X.env = [(false, eval (.Tuple es k p2) X.env)] := by rfl) (hpl : (backTo pos (starEach [.Tuple es k p2] X.env)).any (·.1) = false := by rfl) :
    VE X (.Call (.Name "isinstance" p) [a, .Tuple es k p2] [] pos) (vXIsT X.K cs ta) := by
  intro pins s σ H Q I ⟨τ, μ, R, hst, hc, h, hq⟩
  refine wpAny_Call_Name_kw (ld_blt I hg hm boot_isinstance ?_)
  refine PyProof.Rows.callWith_builtin1 ?_ hs hpl
  rw [hs]
  refine Calls.spliced_cons (thn (he pins s σ H (fun v H1 => ∃ C fs μ1 b, Kp H H1 ∧ Cn X.K μ1 H1 ∧ RelA X.K H1 (.X C fs) v ∧ XIs X.K C ∧ PySem.W.kitAny X.K (.ref C) (cs.map Value.ref) = some b ∧ R (.D (.bool b)) μ1) I ⟨τ, μ, _, hst, hc, h, fun x μ1 v H1 S1 c1 rx hx => ?_⟩) fun u s1 ⟨v, H1, I1, r1, C, fs, μ1, b, S1, c1, rx, xi, kb, q1⟩ => ?_)
  · split at hx
    · obtain ⟨xi, hx⟩ := hx
      obtain ⟨b, kb, hx⟩ := opt_e hx
      exact ⟨_, _, μ1, b, S1, c1, rx, xi, kb, hx⟩
    · exact hx.elim
  obtain ⟨e, o, d, ev, q⟩ := id rx
  subst ev
  obtain rfl : u = Value.ref e := r1
  rw [hs2]
  refine Calls.spliced_cons (thn (pe_tup (pos := p2) (x1 := k) hT pins s1 σ H1 (fun v H2 => ∃ p, v = .ref p ∧ H1 p = none ∧ H2 = upd H1 p (.tup (cs.map V.ref))) I1 ⟨by rw [List.length_map]; exact hl, fun p hp => ⟨p, rfl, hp, rfl⟩⟩) fun u s2 ⟨v, H2, I2, r2, p, ev, hp, eH⟩ => Calls.spliced_nil ?_)
  subst ev eH
  obtain rfl : u = Value.ref p := r2
  obtain ⟨its, rv, ⟨⟨cl, dd, da, sl⟩, ht, hcl, n, hda⟩, _⟩ := I2.tuple (SqT.of (upd_same (H := H1) (a := p) (o := .tup (cs.map V.ref))))
  dsimp only at hcl hda
  subst hcl hda
  rw [vals_refs rv] at ht
  have S2 : Kp H1 (upd H1 p (.tup (cs.map V.ref))) := Kp.new hp _
  obtain ⟨ox, od, J, _⟩ := xinst I2 (rx.kp S2)
  exact PySem.W.kia_tup (kitx_exc xi) I2.kIn ⟨ox, od, J⟩ ht kb (fun z => nomatch z) fun tk => ⟨.bl b, _, I2.tok _, rfl, hq _ _ _ _ (S1.trans S2) (c1.over hp) ra_bl q1⟩
def aNotB : A2 := fun x y μ R => match x, y with
  | .D (.bool i), .D (.bool j) => R (.D (.bool (!(i == j)))) μ
  | _, _ => False
theorem o_notB : VOp X (compareOp .IsNot) aNotB := by
  intro pins s σ H x y v u Q I rx ry ⟨a, b, μ, R, ra, rb, hc, h, hq⟩
  unfold aNotB at h
  split at h
  · cases RelA.bl ra; cases RelA.bl rb
    cases rx; cases ry
    exact isnot_bool (fin_bl I (hq _ _ _ _ Kp.refl hc ra_bl h) rfl)
  · exact h.elim
end
end L2
namespace L2
open PySem PySem.Spec PyProof.Rows
def enumA : Nat → List PyData → List AV
  | _, [] => []
  | i, d :: ds => .D (.tuple [.int i, d]) :: enumA (i + 1) ds
theorem enumA_length : ∀ (ds : List PyData) (k : Nat), (enumA k ds).length = ds.length
  | [], _ => rfl
  | _ :: ds, k => by rw [enumA, List.length_cons, enumA_length ds, List.length_cons]
theorem enumA_get : ∀ {ds : List PyData} {k i : Nat} {x : AV}, (enumA k ds)[i]? = some x → ∃ d, ds[i]? = some d ∧ x = .D (.tuple [.int ((k + i : Nat) : Int), d])
  | [], _, _, _, h => by simp [enumA] at h
  | d :: ds, k, 0, _, h => by simp [enumA] at h; exact ⟨d, rfl, by rw [← h]; simp⟩
  | _ :: ds, k, i + 1, _, h => by
    rw [enumA, List.getElem?_cons_succ] at h
    obtain ⟨d, e, q⟩ := enumA_get h
    refine ⟨d, by simpa using e, ?_⟩
    rw [q]
    have e2 : k + 1 + i = k + (i + 1) := by omega
    rw [e2]
theorem itOk_enumT {K : PySem.W.Frag} {H0 : Hp} {a : Addr} {ys : List AV} {ds : List PyData} {kp : M → Prop} (hd : dats ys = some ds) (h : ∀ H μ, Kp H0 H → Cn K μ H → kp μ → ∃ vs, SqT K H a vs ∧ RelAs K H ys vs) : ItOk K H0 (Ien K a) (enumA 0 ds) kp := by
  have hn : ds.length = ys.length := by rw [dats_eq hd, List.length_map]
  refine ⟨fun i H μ S c k hi => ?_, fun i H μ v H' x S c k e y => ?_, fun H μ S c k => ?_⟩
  · obtain ⟨vs, q, r⟩ := h H μ S c k
    rw [enumA_length, hn] at hi
    exact ⟨vs, vs[i]'(by rw [← r.length]; exact hi), q, List.getElem?_eq_getElem _⟩
  · obtain ⟨vs, q, r⟩ := h H μ S c k
    obtain ⟨T, z, hT, rfl, rfl, y⟩ := y
    obtain ⟨d, e1, rfl⟩ := enumA_get e
    obtain ⟨u, eu, ru⟩ := (r.dats hd).get e1
    rw [y vs q] at eu
    cases eu
    refine ⟨Kp.new hT _, c.over hT, ra_tup upd_same ?_⟩
    rw [Nat.zero_add]
    exact dks_cons dk_int (dks_cons (Dk.kp (Kp.new hT _) _ _ ru) dks_nil)
  · obtain ⟨vs, q, r⟩ := h H μ S c k
    exact ⟨vs, q, by rw [enumA_length, hn, r.length]⟩
theorem itOk_enumL {K : PySem.W.Frag} {H0 : Hp} {a : Addr} {ys : List AV} {ds : List PyData} {kp : M → Prop} (hd : dats ys = some ds) (h : ∀ H μ, Kp H0 H → Cn K μ H → kp μ → ∃ vs, SqL K H a vs ∧ RelAs K H ys vs) : ItOk K H0 (Iel K a) (enumA 0 ds) kp := by
  have hn : ds.length = ys.length := by rw [dats_eq hd, List.length_map]
  refine ⟨fun i H μ S c k hi => ?_, fun i H μ v H' x S c k e y => ?_, fun H μ S c k => ?_⟩
  · obtain ⟨vs, q, r⟩ := h H μ S c k
    rw [enumA_length, hn] at hi
    exact ⟨vs, vs[i]'(by rw [← r.length]; exact hi), q, List.getElem?_eq_getElem _⟩
  · obtain ⟨vs, q, r⟩ := h H μ S c k
    obtain ⟨T, z, hT, rfl, rfl, y⟩ := y
    obtain ⟨d, e1, rfl⟩ := enumA_get e
    obtain ⟨u, eu, ru⟩ := (r.dats hd).get e1
    rw [y vs q] at eu
    cases eu
    refine ⟨Kp.new hT _, c.over hT, ra_tup upd_same ?_⟩
    rw [Nat.zero_add]
    exact dks_cons dk_int (dks_cons (Dk.kp (Kp.new hT _) _ _ ru) dks_nil)
  · obtain ⟨vs, q, r⟩ := h H μ S c k
    exact ⟨vs, q, by rw [enumA_length, hn, r.length]⟩
def jEnum (t : AE) : AI := fun τ μ R => t τ μ fun x μ1 => opt (items μ1 x) fun ys => opt (dats ys) fun ds => R (enumA 0 ds) (fun μ => items μ x = some ys) μ1
section
variable {X : Cx} {a : Expr} {ta : AE} {pos p : Pos}
theorem vi_enum {elts : List Expr} {k : Nat} {tpos : Pos} (hg : Gl X "enumerate") (hm : X.mg "enumerate" = none) (hl : VE X a ta) (hs : starEach [a] X.env = [(false, eval a X.env)] := by rfl) : VI X (.Tuple elts k tpos) (.Call (.Name "enumerate" p) [a] [] pos) (jEnum ta) := by
  intro pins s σ H R I ⟨τ, μ, R', hst, hc, h, hq⟩
  refine wpAny_Call_Name_kw (ld_blt I hg hm boot_enumerate ?_)
  refine PyProof.Rows.callWith_type1 ?_ hs rfl
  rw [hs]
  refine Calls.spliced_cons (thn (hl pins s σ H (fun v H1 => ∃ x μ1 ys ds, Kp H H1 ∧ Cn X.K μ1 H1 ∧ RelA X.K H1 x v ∧ items μ1 x = some ys ∧ dats ys = some ds ∧ R' (enumA 0 ds) (fun μ => items μ x = some ys) μ1) I ⟨τ, μ, _, hst, hc, h, fun x μ1 v H1 S1 c1 rx hx => ?_⟩) fun u s1 ⟨xv, H1, I1, r1, x, μ1, ys, ds, S1, c1, rx, e, ed, hx⟩ => Calls.spliced_nil ?_)
  · obtain ⟨ys, e, hx⟩ := opt_e hx
    obtain ⟨ds, ed, hx⟩ := opt_e hx
    exact ⟨x, μ1, ys, ds, S1, c1, rx, e, ed, hx⟩
  obtain ⟨p, vs, rfl, hp, rs⟩ := items_kind c1 rx e
  cases r1
  have fin : ∀ b ∈ [s1.heap.objs.size + 1, s1.heap.objs.size], FpOk X pins H1 b := fun b hb => by
    have hb' : s1.heap.objs.size ≤ b := by
      rcases List.mem_cons.mp hb with rfl | hb
      · exact Nat.le_succ _
      · have e : b = s1.heap.objs.size := by simpa using hb
        exact Nat.le_of_eq e.symm
    exact I1.fpOk hb' (I1.hok.fresh hb')
  rcases hp with ⟨k, hp⟩ | ⟨k, hp⟩
  · obtain ⟨its, rv, pl, hz⟩ := I1.list hp
    refine call_enumerate_list pl.isList fun h' he hit hsz kk => ?_
    refine wpAny_pyIter_enum he ?_
    refine ⟨s1.heap.objs.size + 1, [s1.heap.objs.size + 1, s1.heap.objs.size], _, _, H1, rfl, I1.kept (t' := s1.toks) kk, turn_enumL p _ _ (Nat.succ_ne_self _), ⟨⟨_, he⟩, hit⟩, fin, hq _ _ _ _ _ S1 c1 (itOk_enumL ed fun H μ S c k2 => ?_) hx⟩
    obtain ⟨q, ws, e, hw, rw⟩ := items_kind c (rx.kp S) k2
    cases e
    rcases hw with ⟨_, hw⟩ | ⟨k3, _⟩
    · exact ⟨ws, hw, rw⟩
    · rw [k] at k3; cases k3
  · obtain ⟨its, rv, pl, hz⟩ := I1.tuple hp
    refine L2_call_enum_tuple pl fun h' he hit hsz kk => ?_
    refine wpAny_pyIter_enum he ?_
    refine ⟨s1.heap.objs.size + 1, [s1.heap.objs.size + 1, s1.heap.objs.size], _, _, H1, rfl, I1.kept (t' := s1.toks) kk, turn_enum p _ _ (Nat.succ_ne_self _), ⟨⟨_, he⟩, hit⟩, fin, hq _ _ _ _ _ S1 c1 (itOk_enumT ed fun H μ S c k2 => ?_) hx⟩
    obtain ⟨q, ws, e, hw, rw⟩ := items_kind c (rx.kp S) k2
    cases e
    rcases hw with ⟨k3, _⟩ | ⟨_, hw⟩
    · rw [k] at k3; cases k3
    · exact ⟨ws, hw, rw⟩
end
theorem putK_fresh {kvs : List (Key × V)} {k : Key} {v : V} (h : k ∉ kvs.map (·.1)) : putK kvs k v = kvs ++ [(k, v)] := by
  unfold putK
  rw [if_neg]
  intro q
  rw [List.any_eq_true] at q
  obtain ⟨x, hx, e⟩ := q
  exact h (List.mem_map.mpr ⟨x, hx, of_decide_eq_true e⟩)
theorem mergeK_nodup : ∀ (more kvs : List (Key × V)), ((kvs ++ more).map (·.1)).Nodup → mergeK kvs more = kvs ++ more
  | [], kvs, _ => by rw [List.append_nil]; rfl
  | (k, v) :: more, kvs, h => by
    show mergeK (putK kvs k v) more = _
    have hk : k ∉ kvs.map (·.1) := fun z => by
      rw [List.map_append, List.nodup_append] at h
      exact h.2.2 k z k (by simp) rfl
    rw [putK_fresh hk, mergeK_nodup more, List.append_assoc]
    · rfl
    · rw [List.append_assoc]; exact h
def vPs : List AE → ASt → M → (List AV → M → Prop) → Prop
  | [], _, μ, R => R [] μ
  | t :: ts, τ, μ, R => t τ μ fun x μ1 => vPs ts τ μ1 fun xs μ2 => R (x :: xs) μ2
def trsOf (K : PySem.W.Frag) (ks : List Key) (ts : List AE) : List (TE × TE) := (ks.zip ts).map fun p => (tC (kV p.1), cE K p.2)
theorem pairs_ok {K : PySem.W.Frag} : ∀ {ks : List Key} {ts : List AE} {τ : ASt} {μ : M} {R : List AV → M → Prop} {σ : St} {H : Hp} {Q : List (V × V) → Hp → Prop}, ks.length = ts.length → StA K H τ σ → Cn K μ H → vPs ts τ μ R →
    (∀ xs μ' vs H', Kp H H' → Cn K μ' H' → RelAs K H' xs vs → xs.length = ts.length → R xs μ' → Q ((ks.zip vs).map fun kv => (kV kv.1, kv.2)) H') → tPairs (trsOf K ks ts) σ H Q
  | [], [], τ, μ, R, σ, H, Q, _, hs, hc, h, q => q [] μ [] H Kp.refl hc .nil rfl h
  | k :: ks, t :: ts, τ, μ, R, σ, H, Q, hl, hs, hc, h, q =>
    ⟨τ, μ, _, hs, hc, h, fun x μ1 v H1 S1 c1 rx hx => pairs_ok (ks := ks) (ts := ts) (by simpa using hl) (hs.kp S1) c1 hx fun xs μ2 vs H2 S2 c2 rs hn hr => q (x :: xs) μ2 (v :: vs) H2 (S1.trans S2) c2 (.cons (rx.kp S2) rs) (by simp [hn]) hr⟩
def VPs (X : Cx) (pos : Pos) (keys : List (Option Expr)) (values : List Expr) (ks : List Key) (ts : List AE) : Prop := PPs X pos keys values (trsOf X.K ks ts)
def vDisp (ks : List Key) (ts : List AE) : AE := fun τ μ R => ∀ p, μ p = none → vPs ts τ (updM μ p (.dk [])) fun xs μ1 => μ1 p = some (.dk []) ∧ R (.R p) (updM μ1 p (.dk (ks.zip xs)))
section
variable {X : Cx} {pos : Pos} {keys : List (Option Expr)} {values : List Expr} {ks : List Key} {ts : List AE}
theorem vps_nil : VPs X pos [] [] [] [] := pps_nil
theorem vps_str {z : Str} {j} {p : Pos} {v : Expr} {t : AE} (hv : VE X v t) (hr : VPs X pos keys values ks ts) : VPs X pos (some (.Constant (.str z) j p) :: keys) (v :: values) (.inr z :: ks) (t :: ts) := pps_cons (tk := tC (kV (.inr z))) pe_str hv hr
theorem RelAs.zipK {K : PySem.W.Frag} {H : Hp} : ∀ (ks : List Key) {xs : List AV} {vs : List V}, RelAs K H xs vs → RelK K H (ks.zip xs) (ks.zip vs)
  | [], _, _, _ => .nil
  | _ :: _, _, _, .nil => .nil
  | _ :: ks, _, _, .cons r t => .cons ⟨rfl, r⟩ (RelAs.zipK ks t)
theorem ve_disp (h : VPs X pos keys values ks ts) (hk : ks.Nodup) (hkl : ks.length = ts.length := by rfl) (h15' : ks.length ≤ 15 := by decide) (hall : keys.all (·.isSome) = true := by rfl) (hl : keys.length = values.length := by rfl) (h0 : keys ≠ [] := by intro z; cases z) (h15 : keys.length ≤ 15 := by decide) : VE X (.Dict keys values pos) (vDisp ks ts) :=
  (pe_disp h hall hl h0 h15).imp fun σ H Q ⟨τ, μ, R, hs, hc, h, hq⟩ => by
    intro p hp
    refine pairs_ok hkl (hs.kp (Kp.new hp _)) (hc.new hp (rm_dk .nil)) (h p (hc.none hp)) fun xs μ1 vs H1 S1 c1 rs hn hx => ?_
    obtain ⟨o, ho, ws, rfl, rk⟩ := c1 _ _ hx.1
    cases rk
    have hn2 : ks.length = vs.length := by rw [← rs.length, hn]; exact hkl
    refine ⟨ho, ks.zip vs, rfl, by rw [List.length_zip]; omega, ?_⟩
    rw [mergeK_nodup _ _ (by rw [List.nil_append, List.map_fst_zip (by omega)]; exact hk), List.nil_append]
    exact hq _ _ _ _ ((Kp.new hp _).trans (S1.trans (Kp.put ho trivial _))) (c1.put ho trivial (rm_dk (rs.zipK ks))) ra_ref hx.2
end
theorem valA_hd {κ : Type} [DecidableEq κ] {k : κ} {v : AV} {r : List (κ × AV)} : valA ((k, v) :: r) k = some v := by
  unfold valA
  simp only [List.find?_cons, decide_eq_true (rfl : k = k)]; rfl
theorem valA_tl {κ : Type} [DecidableEq κ] {k k' : κ} {v : AV} {r : List (κ × AV)} (h : k' ≠ k) : valA ((k', v) :: r) k = valA r k := by
  unfold valA
  simp only [List.find?_cons, decide_eq_false h]
theorem bools_of {α : Type} (g : α → Bool) (xs : List α) : bools (xs.map fun x => .D (.bool (g x))) = some (xs.map g) := by
  rw [show (xs.map fun x => AV.D (.bool (g x))) = (xs.map g).map fun b => .D (.bool b) by rw [List.map_map]; rfl]
  exact bools_map _
theorem updM_self {μ : M} {p : Addr} {m : MO} (h : μ p = some m) : updM μ p m = μ := by
  funext b
  unfold updM
  split
  · rename_i e; rw [e, h]
  · rfl
theorem cmapf {α : Type} {p : Addr} {g : AG} {tst : AT} {te : AE} {kp : M → Prop} {R : M → Prop} {τ : ASt} {μ : M} (as : List α) (g0 : α → AV) (b : α → Bool) (f : α → AV) (Sh : ASt → Prop) (h0 : Sh τ) (hp : μ p = some (.lst [])) (hn : as.length ≤ sizeLine) (hk : ∀ acc, kp (updM μ p (.lst acc)))
    (step : ∀ (i : Nat) (x : α) (τ' : ASt) (acc : List AV) (W : ASt → AV → M → Prop) (W2 : ASt → M → Prop), as[i]? = some x → Sh τ' → (b x = true → ∀ τ1, Sh τ1 → W τ1 (f x) (updM μ p (.lst acc))) → (b x = false → ∀ τ1, Sh τ1 → W2 τ1 (updM μ p (.lst acc))) →
      g (g0 x) τ' (updM μ p (.lst acc)) fun τ1 μ1 => tst τ1 μ1 fun k μ2 => brP k (te τ1 μ2 (W τ1)) (W2 τ1 μ2))
    (done : R (updM μ p (.lst ((as.filter b).map f)))) : cl p g tst te kp R (as.map g0) [] τ μ := by
  refine comp_i (fun i acc τ' μ' => Sh τ' ∧ acc = ((as.take i).filter b).map f ∧ μ' = updM μ p (.lst acc)) ⟨h0, by simp, (updM_self hp).symm⟩ (fun i acc τ μ' ⟨_, _, e⟩ => by rw [e]; exact hk _) ?_ ?_
  · rintro i y acc τ' μ' W hy ⟨sh, rfl, rfl⟩ hW
    rw [List.getElem?_map] at hy
    obtain ⟨x, hx, rfl⟩ := Option.map_eq_some_iff.mp hy
    have hi : i < as.length := (List.getElem?_eq_some_iff.mp hx).1
    have ht : as.take (i + 1) = as.take i ++ [x] := by rw [List.take_succ, hx]; rfl
    refine step i x τ' _ (fun τ1 v μ3 => μ3 p = some (.lst (((as.take i).filter b).map f)) ∧ (((as.take i).filter b).map f).length < sizeLine ∧ W ((((as.take i).filter b).map f) ++ [v]) τ1 (updM μ3 p (.lst ((((as.take i).filter b).map f) ++ [v])))) (fun τ1 μ2 => W (((as.take i).filter b).map f) τ1 μ2) hx sh (fun hb τ1 s1 => ⟨updM_same, ?_, hW _ _ _ ⟨s1, ?_, updM_updM⟩⟩) (fun hb τ1 s1 => hW _ _ _ ⟨s1, ?_, rfl⟩)
    · rw [List.length_map]
      have h1 := List.length_filter_le b (as.take i)
      rw [List.length_take] at h1
      omega
    · rw [ht, List.filter_append, List.map_append, List.filter_cons, if_pos hb]; rfl
    · rw [ht, List.filter_append, List.map_append, List.filter_cons, if_neg (by rw [hb]; exact Bool.false_ne_true)]; simp
  · rintro acc τ' μ' ⟨_, rfl, rfl⟩
    rw [List.length_map, List.take_length]
    exact done
theorem cmap {α : Type} {p : Addr} {g : AG} {te : AE} {kp : M → Prop} {R : M → Prop} {τ : ASt} {μ : M} (as : List α) (g0 f : α → AV) (Sh : ASt → Prop) (h0 : Sh τ) (hp : μ p = some (.lst [])) (hn : as.length ≤ sizeLine) (hk : ∀ acc, kp (updM μ p (.lst acc)))
    (step : ∀ (i : Nat) (x : α) (τ' : ASt) (acc : List AV) (W : ASt → AV → M → Prop), as[i]? = some x → Sh τ' → (∀ τ1, Sh τ1 → W τ1 (f x) (updM μ p (.lst acc))) → g (g0 x) τ' (updM μ p (.lst acc)) fun τ1 μ1 => te τ1 μ1 (W τ1))
    (done : R (updM μ p (.lst (as.map f)))) : cl p g vYes te kp R (as.map g0) [] τ μ := by
  refine cmapf as g0 (fun _ => true) f Sh h0 hp hn hk (fun i x τ' acc W W2 hx sh h1 _ => ?_) (by rw [List.filter_eq_self.mpr (fun _ _ => rfl)]; exact done)
  have := step i x τ' acc W hx sh (h1 rfl)
  simp only [vYes, brP_true]
  exact this
theorem all_i {α : Type} {g : α → Bool} {as : List α} {μ : M} {p : Addr} {R : AV → M → Prop} (h : μ p = some (.lst (as.map fun x => .D (.bool (g x))))) (q : R (.D (.bool (as.all g))) μ) : aAll [.R p] μ R := by
  refine opt_i h (opt_i (bools_of g as) ?_)
  rw [List.all_map]
  exact q
theorem asg_tup2 {k : ASt → M → Prop} {r : AV → M → Prop} {bb cc : ASt → M → Prop} {τ : ASt} {μ : M} {m i j : Nat} {a b : PyData} (h : τ[m]? = some (some (.D (.tuple [a, b])))) (q : k ((τ.set i (some (.D a))).set j (some (.D b))) μ) : vAsg (vVar m) (wTup 2 (wCons (wName i) (wCons (wName j) wNil))) k r bb cc τ μ := by
  unfold vAsg vVar
  rw [h]
  exact ⟨rfl, q⟩
theorem asg_tail {k : ASt → M → Prop} {r : AV → M → Prop} {bb cc : ASt → M → Prop} {τ : ASt} {μ : M} {m i : Nat} {a : PyData} {ds : List PyData} (h : τ[m]? = some (some (.D (.tuple (a :: ds))))) (q : k (τ.set i (some (.D (.tuple ds)))) μ) : vAsg (vSl (vVar m) (vPart (vC (.D (.int 1)))) vNoPart) (wName i) k r bb cc τ μ := by
  unfold vAsg vSl vVar
  rw [h]
  show k (τ.set i (some (.D (.tuple (cutD (a :: ds) (some 1) none))))) μ
  rw [cut1]
  exact q
theorem kits_tuple {K : PySem.W.Frag} : Kits K "tuple" := by
  intro S hS
  simp only [List.mem_cons, List.not_mem_nil, or_false] at hS
  rcases hS with rfl | rfl | rfl | rfl | rfl | rfl | rfl <;> rfl
theorem kits_bool {K : PySem.W.Frag} : Kits K "bool" := by
  intro S hS
  simp only [List.mem_cons, List.not_mem_nil, or_false] at hS
  rcases hS with rfl | rfl | rfl | rfl | rfl | rfl | rfl <;> rfl
def xisIn (K : PySem.W.Frag) (C : Addr) : Bool :=
  PySem.W.findIn K (.ref C) "__getattribute__" == some (some (.builtin "BaseException.__getattribute__")) && PySem.W.findIn K (.ref C) "__getattr__" == some none && PySem.W.findIn K (.ref C) "__setattr__" == some (some (.builtin "object.__setattr__")) && PySem.W.hasDictIn K C &&
  PySem.W.mroIn K C (.type "BaseException") == some true && PySem.W.mroIn K C (.type "object") == some true && veOver K C && PySem.W.findIn K (.ref C) "__class__" == some (some (.builtin "object.__class__")) &&
  PySem.W.specialIn K (.builtin "object.__class__") "__get__" == some (some (.builtin "getset_descriptor.__get__")) && PySem.W.takesIn K (.builtin "object.__class__") == some true && xcIn K C && PySem.W.keepIn K (.ref C)
theorem xis_of {K : PySem.W.Frag} {C : Addr} (h : xisIn K C = true) : XIs K C ∧ xcIn K C = true ∧ PySem.W.keepIn K (.ref C) = true := by
  unfold xisIn at h
  simp only [Bool.and_eq_true, beq_iff_eq] at h
  obtain ⟨⟨⟨⟨⟨⟨⟨⟨⟨⟨⟨h1, h2⟩, h3⟩, h4⟩, h5⟩, h6⟩, h7⟩, h8⟩, h9⟩, h10⟩, h11⟩, h12⟩ := h
  exact ⟨⟨⟨h1, h2, h3, h4, h5, h6, h7⟩, h8, h9, h10⟩, h11, h12⟩
def errIn (K : PySem.W.Frag) (C D : Addr) (cs : List Addr) : Bool :=
  xisIn K C && PySem.W.mroIn K C (.ref D) == some true && PySem.W.kitOne K (.ref C) (.ref D) == some true && PySem.W.kitOne K (.ref C) (.type "ValueError") == some true && PySem.W.kitAny K (.ref C) (cs.map Value.ref) == some false && xcIn K D && PySem.W.mroIn K D (.type "BaseException") == some true && PySem.W.mroIn K C (.ref C) == some true
structure Err (K : PySem.W.Frag) (C D : Addr) (cs : List Addr) : Prop where
  xi : XIs K C
  xc : xcIn K C = true
  kp : PySem.W.keepIn K (.ref C) = true
  un : PySem.W.mroIn K C (.ref D) = some true
  iD : PySem.W.kitOne K (.ref C) (.ref D) = some true
  iV : PySem.W.kitOne K (.ref C) (.type "ValueError") = some true
  no : PySem.W.kitAny K (.ref C) (cs.map Value.ref) = some false
  xD : xcIn K D = true
  mD : PySem.W.mroIn K D (.type "BaseException") = some true
  me : PySem.W.mroIn K C (.ref C) = some true
theorem err_of {K : PySem.W.Frag} {C D : Addr} {cs : List Addr} (h : errIn K C D cs = true) : Err K C D cs := by
  unfold errIn at h
  simp only [Bool.and_eq_true, beq_iff_eq] at h
  obtain ⟨⟨⟨⟨⟨⟨⟨h1, h2⟩, h3⟩, h4⟩, h5⟩, h6⟩, h7⟩, h8⟩ := h
  obtain ⟨a, b, c⟩ := xis_of h1
  exact ⟨a, b, c, h2, h3, h4, h5, h6, h7, h8⟩
theorem Err.self {K : PySem.W.Frag} {C D : Addr} {cs : List Addr} (_ : Err K C D cs) : PySem.W.kitOne K (.ref C) (.ref C) = some true := by
  unfold PySem.W.kitOne
  rw [if_pos (beq_iff_eq.mpr rfl)]
def cdef : Stmt → Stmt
  | .ClassDef _ _ _ (b :: _) _ _ _ _ _ _ _ => b
  | s => s
section
variable {X : Cx} {K : PySem.W.Frag} {a : Expr} {ta : AE} {pos p p2 : Pos} {x : Str}
theorem ve_kisi {D : Addr} (hK : X.K = K) (hg : Gl X "isinstance") (hm : X.mg "isinstance" = none) (hg2 : Gl X x) (hm2 : X.mg x = some (.ref D)) (he : VE X a ta) (hd2 : (x == ("__debug__" : Str)) = false := by decide)
    (hs : starEach [a, .Name x p2] X.env = (false, eval a X.env) :: starEach [.Name x p2] X.env := by rfl) (hs2 : starEach [.Name x p2] X.env = [(false, eval (.Name x p2) X.env)] := by rfl) (hpl : (backTo pos (starEach [.Name x p2] X.env)).any (·.1) = false := by rfl) :
    VE X (.Call (.Name "isinstance" p) [a, .Name x p2] [] pos) (vXIs K (.ref D) ta) := by subst hK; exact ve_xisi hg hm hg2 hm2 he hd2 hs hs2 hpl
theorem ve_kisiT {T : String} (hK : X.K = K) (hg : Gl X "isinstance") (hm : X.mg "isinstance" = none) (hg2 : Gl X x) (hm2 : X.mg x = none) (hv2 : bootBuiltins x = some (.type T)) (he : VE X a ta) (hn2 : x ≠ "__name__" := by decide) (hd2 : (x == ("__debug__" : Str)) = false := by decide)
    (hs : starEach [a, .Name x p2] X.env = (false, eval a X.env) :: starEach [.Name x p2] X.env := by rfl) (hs2 : starEach [.Name x p2] X.env = [(false, eval (.Name x p2) X.env)] := by rfl) (hpl : (backTo pos (starEach [.Name x p2] X.env)).any (·.1) = false := by rfl) :
    VE X (.Call (.Name "isinstance" p) [a, .Name x p2] [] pos) (vXIs K (.type T) ta) := by subst hK; exact ve_xisiT hg hm hg2 hm2 hv2 he hn2 hd2 hs hs2 hpl
theorem ve_kfld {f : Str} (hK : X.K = K) (he : VE X a ta) (hb : attributeBase a f X.env (eval a X.env) = eval a X.env) : VE X (.Attribute a f pos) (vXFld K f ta) := by subst hK; exact ve_xfld he hb
theorem ve_kisiTs {es : List Expr} {cs : List Addr} {k : Nat} (hK : X.K = K) (hg : Gl X "isinstance") (hm : X.mg "isinstance" = none) (hT : PA X es (tGl cs)) (he : VE X a ta) (hl : cs.length ≤ sizeLine := by decide)
    (hs : starEach [a, .Tuple es k p2] X.env = (false, eval a X.env) :: starEach [.Tuple es k p2] X.env := by rfl) (hs2 : starEach [.Tuple es k p2] X.env = [(false, eval (.Tuple es k p2) X.env)] := by rfl) (hpl : (backTo pos (starEach [.Tuple es k p2] X.env)).any (·.1) = false := by rfl) :
    VE X (.Call (.Name "isinstance" p) [a, .Tuple es k p2] [] pos) (vXIsT K cs ta) := by subst hK; exact ve_xisiTs hg hm hT he hl hs hs2 hpl
end
end L2
namespace K52
open PySem L2
def top (i : Nat) : Stmt := PySem.Challenge.pw_pileduel_k52_programs_looked_at.main.body.getD i (.Pass ⟨0, 0, 0, 0⟩)
abbrev sIt : Stmt := top 11
abbrev sLp : Stmt := top 17
abbrev sHs : Stmt := top 18
abbrev sMs : Stmt := top 19
abbrev sPo : Stmt := top 21
abbrev sDr : Stmt := top 22
abbrev sPr : Stmt := top 23
abbrev sFi : Stmt := top 24
abbrev sWr : Stmt := top 25
abbrev sTo : Stmt := top 26
abbrev sAl : Stmt := top 27
abbrev sOs : Stmt := top 28
abbrev sSp : Stmt := top 29
abbrev sLaw : Stmt := top 30
section
variable {P : Program} {w : World} {K : PySem.W.Frag} {mg : Str → Option Value} {base : Heap} {f : Addr} {fd : FuncData}
abbrev sic6 : Stmt := cdef (top 8)
abbrev nic6 : List Str := ["self", "procedure", "step"]
theorem scic6 : FnScope nic6 ["self", "procedure", "step"] (defScope sic6) := ⟨rfl, rfl, rfl, by decide +kernel, rfl, by decide +kernel, by decide +kernel⟩
theorem ok_ic6 {n : Nat} {C : Addr} (F : Fun K "__init__" "NoProgram.__init__" sic6 f fd) (c : XCls K C) (na0 : NoAttr K C "procedure") (na1 : NoAttr K C "step") : FnOk P w K mg base CX0 (n + 1) f fd ["self", "procedure", "step"] (spI C ["procedure", "step"]) := by
  refine F.ok scic6 (fun vs H Q E h => ?_) (fun cdv A outer s H vs Q E hr h => ?_)
  · obtain ⟨e, t, ys, rfl, hl, _⟩ := h
    rw [List.length_cons, hl]; rfl
  obtain ⟨e, t, ys, rfl, hl, he, q⟩ := h
  match ys, hl with
  | [y0, y1], _ =>
    refine ⟨_, pss_cons (ps_x1 (pv 0) (pv 1) rfl) (pss_one (ps_x2 (pv 0) (pv 2) rfl)), ?_⟩
    refine ⟨_, rfl, _, rfl, e, C, t, rfl, he, c, na0, fun dx hdx hne => ?_⟩
    refine ⟨_, rfl, _, rfl, e, C, t, dx, _, rfl, by rw [upd_ne (Ne.symm hne), upd_same], upd_same, (show 1 < 1000 by decide), c, na1, ?_⟩
    refine q _ t dx (fun b o hb e' => ?_) (by rw [upd_ne (Ne.symm hne), upd_ne (Ne.symm hne), upd_same]) (by rw [upd_same]; rfl) hne
    rw [upd_ne (ne_of_none e' hdx), upd_ne (ne_of_none e' hdx), upd_ne hb]
    exact e'
end
section
variable {P : Program} {w : World} {K : PySem.W.Frag} {mg : Str → Option Value} {base : Heap} {f : Addr} {fd : FuncData}
inductive Wd | ask | chance | set | iff | call | back | mark
def Wd.word : Wd → Str
  | .ask => "ask" | .chance => "chance" | .set => "set" | .iff => "if" | .call => "call" | .back => "back" | .mark => "mark"
def Wd.ar : Wd → Nat
  | .ask => 2 | .chance => 2 | .set => 1 | .iff => 2 | .call => 1 | .back => 0 | .mark => 0
def Wd.sw : Wd → Bool
  | .set => true | .iff => true | _ => false
structure Stp where
  w : Wd
  as : List Int
def Stp.D (s : Stp) : PyData := .tuple (.str s.w.word :: s.as.map .int)
def prcD (p : List Stp) : PyData := .tuple (p.map Stp.D)
abbrev Prg := List (List Stp)
def prgD (sw : Int) (ps : Prg) : PyData := .tuple [.int sw, .tuple (ps.map prcD)]
def PrgOk (ps : Prg) : Prop := ps.length ≤ 100 ∧ ∀ p ∈ ps, p.length ≤ 100 ∧ ∀ s ∈ p, s.as.length = s.w.ar
def upto (np len : Nat) : Wd → Int
  | .set => 2 | .call => np | _ => len
def fit (sw : Int) (np len : Nat) (s : Stp) : Bool := !(s.w.sw && decide (sw = 0)) && s.as.all fun n => decide (0 ≤ n ∧ n < upto np len s.w)
def sizes (sw : Int) (ps : Prg) : Bool := decide (0 ≤ sw ∧ sw < 2) && decide (1 ≤ ps.length ∧ ps.length ≤ 3) && ps.all fun p => decide (1 ≤ p.length ∧ p.length ≤ 4)
def badS (g : Stp → Bool) : Nat → List Stp → Option Nat
  | _, [] => none
  | a, s :: r => if g s then badS g (a + 1) r else some a
def badP (g : Nat → Stp → Bool) : Nat → Prg → Option (Nat × Nat)
  | _, [] => none
  | k, p :: r => match badS (g p.length) 0 p with
    | some a => some (k, a)
    | none => badP g (k + 1) r
def wrong (sw : Int) (ps : Prg) : Option (Int × Int) :=
  if sizes sw ps then (badP (fit sw ps.length) 0 ps).map fun q => ((q.1 : Int), (q.2 : Int)) else some (-1, -1)
theorem wOk (w : Wd) : PyData.canLay0 (.str w.word) = true := by cases w <;> (show PyData.canLay0 (.str (Str.ofString _)) = true) <;> decide +kernel
theorem k_ib : (!kit "int" "bool") = true := by decide
abbrev nIt : List Str := ["number", "many"]
theorem scIt : FnScope nIt ["number", "many"] (defScope sIt) := ⟨rfl, rfl, rfl, by decide +kernel, rfl, by decide +kernel, by decide +kernel⟩
def spIt : ASp := fun xs μ R => ∃ (n m : Int), xs = [.D (.int n), .D (.int m)] ∧ R (.D (.bool (decide (0 ≤ n ∧ n < m)))) μ
theorem ok_it {n : Nat} (F : Fun K "is_there" "is_there" sIt f fd) (m_isinstance : mg "isinstance" = none) (m_bool : mg "bool" = none) : FnOk P w K mg base CX0 (n + 1) f fd ["number", "many"] (cSp K 2 spIt) := by
  refine F.vok scIt fun cdv A outer s H E hr => ⟨_, (vss_one (vs_ret (ve_and (ve_not (ve_isT rfl m_isinstance rfl m_bool PyProof.Rows.boot_bool kits_bool (vv 0))) (ve_one (ve_chain o_le o_lt ve_int (vv 0) (vv 1)))))), ?_⟩
  rintro xs μ R _ ⟨i, m, rfl, q⟩
  refine opt_i rfl (brT k_ib (dif (fun c => ⟨μ, Sub.refl, ?_⟩) (fun c => ⟨μ, Sub.refl, ?_⟩)))
  · have e : decide (0 ≤ i ∧ i < m) = decide (i < m) := by simp [c]
    rw [e] at q; exact q
  · have e : decide (0 ≤ i ∧ i < m) = false := by simp [c]
    rw [e] at q; exact q
theorem items_prc {μ : M} {ps : Prg} : items μ (.D (.tuple (ps.map prcD))) = some (ps.map fun p => .D (prcD p)) := by
  show some ((ps.map prcD).map AV.D) = _
  rw [List.map_map]; rfl
abbrev nHs : List Str := ["program"]
theorem scHs : FnScope nHs ["program"] (defScope sHs) := ⟨rfl, rfl, rfl, by decide +kernel, rfl, by decide +kernel, by decide +kernel⟩
theorem ndHs1 : (["procedure"] : List Str).Nodup := by decide +kernel
def spHs : ASp := fun xs μ R => ∃ sw ps, xs = [.D (prgD sw ps)] ∧ PrgOk ps ∧ R (.D (.bool (sizes sw ps))) μ
theorem ok_hs {n : Nat} (F : Fun K "has_its_sizes" "has_its_sizes" sHs f fd) (cIt : VCal P w K mg base n "is_there" ["number", "many"] spIt) (m_len : mg "len" = none) (m_all : mg "all" = none) {t1 t2 t3 : Tok} (mMS : mg "MOST_SWITCHES" = some (.int 1 t1)) (mMP : mg "MOST_PROCEDURES" = some (.int 3 t2)) (mMT : mg "MOST_STEPS" = some (.int 4 t3)) :
    FnOk P w K mg base CX0 (n + 1) f fd ["program"] (cSp K 1 spHs) := by
  refine F.vok scHs fun cdv A outer s H E hr => ⟨_, (vss_cons (vs_if (VW.pt (vw_or (vt_not (vt_val (ve_call cIt hr rfl (va_cons (ve_ix i_ix (vv 0) ve_int) (va_cons (ve_op o_add (ve_glob rfl mMS (v := .int 1) ⟨_, rfl⟩ (fun _ => dk_int)) ve_int) va_nil))))) (vw_or1 (vt_not (vt_chain o_le o_le ve_int (ve_callB c_len rfl m_len PySem.boot_len (va_cons (ve_ix i_ix (vv 0) ve_int) va_nil)) (ve_glob rfl mMP (v := .int 3) ⟨_, rfl⟩ (fun _ => dk_int))))))) (vss_one (vs_ret ve_bl)) vss_nil)
      (vss_one (vs_ret (ve_callB (c_all rfl) rfl m_all PyProof.Rows.boot_all (va_cons (ve_comp (N' := ["procedure"]) (mp := [none]) rfl (vi_seq (ve_ix i_ix (vv 0) ve_int)) (fun _ _ _ _ => (vg_name (i := 0) ndHs1 rfl (Or.inl rfl) (Or.inr rfl))) (fun _ _ _ _ => vifs_nil) (fun _ _ _ _ => (ve_chain o_le o_le ve_int (ve_callB c_len rfl m_len PySem.boot_len (va_cons (vv 0) va_nil)) (ve_glob rfl mMT (v := .int 4) ⟨_, rfl⟩ (fun _ => dk_int)))) (compOk_of (N := nHs) (pn := (defScope sHs).names) (by decide +kernel))) va_nil))))), ?_⟩
  rintro xs μ R _ ⟨sw, ps, rfl, hok, q⟩
  have q0 : sizes sw ps = false → aRt R (.D (.bool false)) μ := fun e => ⟨μ, Sub.refl, by rw [e] at q; exact q⟩
  have hl : ((ps.map prcD).length : Int) = ps.length := by rw [List.length_map]
  refine opt_i (atI_nat (j := 0) rfl) ⟨sw, 2, rfl, ?_⟩
  refine br (fun c1 => brT rfl (q0 (by unfold sizes; rw [Bool.not_eq_true'] at c1; rw [c1]; rfl))) (fun c1 => ?_)
  rw [Bool.not_eq_false'] at c1
  refine opt_i (atI_nat (j := 1) rfl) ?_
  refine dif (fun c2 => br (fun c3 => ?_) (fun c3 => ?_)) (fun c2 => ?_)
  · have c3' : ¬ ((ps.map prcD).length : Int) ≤ 3 := by simpa using c3
    refine q0 ?_
    have z : ¬ (1 ≤ ps.length ∧ ps.length ≤ 3) := by rw [hl] at c3'; omega
    unfold sizes
    rw [decide_eq_false z]; simp
  · have c3' : ((ps.map prcD).length : Int) ≤ 3 := by simpa using c3
    have z : 1 ≤ ps.length ∧ ps.length ≤ 3 := by rw [hl] at c2 c3'; omega
    refine opt_i (atI_nat (j := 1) rfl) (opt_i items_prc fun p hp => ?_)
    refine cmap ps _ (fun p => .D (.bool (decide (1 ≤ p.length ∧ p.length ≤ 4)))) (fun τ => ∃ o, τ = [o]) ⟨none, rfl⟩ updM_same (Nat.le_of_lt (small1000 (by omega))) (fun _ => items_prc) ?_ ?_
    · rintro i pr τ' acc W hi ⟨o, rfl⟩ hW
      have hl2 : ((pr.map Stp.D).length : Int) = pr.length := by rw [List.length_map]
      have hw := hW [some (.D (prcD pr))] ⟨_, rfl⟩
      refine dif (fun d2 => ?_) (fun d2 => ?_)
      · have e : decide (1 ≤ pr.length ∧ pr.length ≤ 4) = decide (((pr.map Stp.D).length : Int) ≤ 4) := by
          rw [hl2] at d2 ⊢
          exact decide_eq_decide.mpr ⟨fun h => by omega, fun h => by omega⟩
        rw [e] at hw; exact hw
      · have e : decide (1 ≤ pr.length ∧ pr.length ≤ 4) = false := decide_eq_false (by rw [hl2] at d2; omega)
        rw [e] at hw; exact hw
    · refine all_i updM_same ⟨μ, (Sub.refl.new hp).new hp, ?_⟩
      have e : sizes sw ps = ps.all fun p => decide (1 ≤ p.length ∧ p.length ≤ 4) := by
        unfold sizes
        rw [c1, decide_eq_true z]; simp
      rw [e] at q; exact q
  · refine brT rfl (q0 ?_)
    have z : ¬ (1 ≤ ps.length ∧ ps.length ≤ 3) := by rw [hl] at c2; omega
    unfold sizes
    rw [decide_eq_false z]; simp
theorem wsw (w : Wd) : ([PyData.str "set", .str "if"].any fun e => PyData.eqv e (.str w.word)) = w.sw := by cases w <;> decide +kernel
theorem wset (w : Wd) : PyData.eqv (.str w.word) (.str "set") = (match w with | .set => true | _ => false) := by cases w <;> decide +kernel
theorem wcall (w : Wd) : PyData.eqv (.str w.word) (.str "call") = (match w with | .call => true | _ => false) := by cases w <;> decide +kernel
theorem okSW : EqOk (.tuple [.str "set", .str "if"]) := ⟨by decide +kernel, by simp [PyData.depth, PyData.depthAll]⟩
abbrev nMs : List Str := ["program", "procedure", "step"]
theorem scMs : FnScope nMs ["program", "procedure", "step"] (defScope sMs) := ⟨rfl, rfl, rfl, by decide +kernel, rfl, by decide +kernel, by decide +kernel⟩
theorem ndMs1 : (["to", "procedure"] : List Str).Nodup := by decide +kernel
def spMs : ASp := fun xs μ R => ∃ sw ps p s, xs = [.D (prgD sw ps), .D (prcD p), .D s.D] ∧ s.as.length = s.w.ar ∧ R (.D (.bool (fit sw ps.length p.length s))) μ
theorem ok_ms {n : Nat} (F : Fun K "may_stand" "may_stand" sMs f fd) (cIt : VCal P w K mg base n "is_there" ["number", "many"] spIt) (m_len : mg "len" = none) (m_all : mg "all" = none) {sw : Addr} {xs : List V} (mSW : mg "SWITCH_WORDS" = some (.ref sw)) (hSW : ∀ H, SqT K H sw xs) (hSD : ∀ H, DkAll K H [.str "set", .str "if"] xs) :
    FnOk P w K mg base CX0 (n + 1) f fd ["program", "procedure", "step"] (cSp K 3 spMs) := by
  refine F.vok scMs fun cdv A outer s H E hr => ⟨_, (vss_cons (vs_if (VW.pt (vw_and (vt_cmp (o_in hr) (ve_ix i_ix (vv 2) ve_int) (ve_globC rfl mSW hSW hSD) (by with_unfolding_all rfl)) (vw_and1 (vt_cmp (o_eq hr) (ve_ix i_ix (vv 0) ve_int) ve_int (nomark _))))) (vss_one (vs_ret ve_bl)) vss_nil)
      (vss_cons (vs_if (vt_cmp (o_eq hr) (ve_ix i_ix (vv 2) ve_int) ve_str (nomark _)) (vss_one (vs_ret (ve_call cIt hr rfl (va_cons (ve_ix i_ix (vv 2) ve_int) (va_cons ve_int va_nil))))) vss_nil)
      (vss_cons (vs_if (vt_cmp (o_eq hr) (ve_ix i_ix (vv 2) ve_int) ve_str (nomark _)) (vss_one (vs_ret (ve_call cIt hr rfl (va_cons (ve_ix i_ix (vv 2) ve_int) (va_cons (ve_callB c_len rfl m_len PySem.boot_len (va_cons (ve_ix i_ix (vv 0) ve_int) va_nil)) va_nil))))) vss_nil)
      (vss_one (vs_ret (ve_callB (c_all rfl) rfl m_all PyProof.Rows.boot_all (va_cons (ve_comp (N' := ["to", "procedure"]) (mp := [none, some 1]) rfl (vi_seq (ve_slice (vv 2) (vo_some ve_int) vo_none)) (fun _ _ _ _ => (vg_name (i := 0) ndMs1 rfl (Or.inl rfl) (Or.inr rfl))) (fun _ _ _ _ => vifs_nil) (fun _ _ _ _ => (ve_call cIt hr rfl (va_cons (vv 0) (va_cons (ve_callB c_len rfl m_len PySem.boot_len (va_cons (vv 1) va_nil)) va_nil)))) (compOk_of (N := nMs) (pn := (defScope sMs).names) (by decide +kernel))) va_nil))))))), ?_⟩
  rintro xs μ R _ ⟨sw, ps, p, ⟨w, as⟩, rfl, hok, q⟩
  dsimp only at hok
  have fin : (w.sw && decide (sw = 0)) = false → as.all (fun n => decide (0 ≤ n ∧ n < upto ps.length p.length w)) = fit sw ps.length p.length ⟨w, as⟩ := fun e => by unfold fit; rw [e]; rfl
  refine seq_i (fun τ μ' => τ = startA nMs [.D (prgD sw ps), .D (prcD p), .D (Stp.D ⟨w, as⟩)] ∧ μ' = μ ∧ (w.sw && decide (sw = 0)) = false) (fun W hW => ?_) ?_
  · refine opt_i (atI_nat (j := 0) rfl) (opt_i rfl ⟨eqOk_str (wOk w), okSW, ?_⟩)
    rw [wsw w]
    refine br (fun c1 => opt_i (atI_nat (j := 0) rfl) (ieq (fun c2 => ?_) (fun c2 => ?_))) (fun c1 => ?_)
    · refine ⟨μ, Sub.refl, ?_⟩
      have e : fit sw ps.length p.length ⟨w, as⟩ = false := by unfold fit; rw [show w.sw = true from c1, decide_eq_true c2]; rfl
      rw [e] at q; exact q
    · exact hW _ _ ⟨rfl, rfl, by rw [decide_eq_false c2, Bool.and_false]⟩
    · exact brF rfl (hW _ _ ⟨rfl, rfl, by rw [show w.sw = false from c1]; rfl⟩)
  rintro τ μ' ⟨rfl, rfl, c0⟩
  have f0 := fin c0
  refine opt_i (atI_nat (j := 0) rfl) ⟨eqOk_str (wOk w), eqOk_str (by decide +kernel), ?_⟩
  rw [wset w]
  by_cases hs : w = .set
  · subst hs
    match as, hok with
    | [a], _ =>
      refine brT rfl (opt_i (atI_nat (j := 1) rfl) ⟨a, 2, rfl, μ', Sub.refl, ?_⟩)
      rw [← f0, List.all_cons, List.all_nil, Bool.and_true] at q
      exact q
  refine brF (by cases w <;> first | rfl | exact absurd rfl hs) ?_
  refine opt_i (atI_nat (j := 0) rfl) ⟨eqOk_str (wOk w), eqOk_str (by decide +kernel), ?_⟩
  rw [wcall w]
  by_cases hc : w = .call
  · subst hc
    match as, hok with
    | [a], _ =>
      refine brT rfl (opt_i (atI_nat (j := 1) rfl) (opt_i (atI_nat (j := 1) rfl) ⟨a, ps.length, ?_, μ', Sub.refl, ?_⟩))
      · rw [List.length_map]
      · rw [← f0, List.all_cons, List.all_nil, Bool.and_true] at q
        exact q
  refine brF (by cases w <;> first | rfl | exact absurd rfl hc) ?_
  have hu : upto ps.length p.length w = p.length := by cases w <;> first | rfl | exact absurd rfl hs | exact absurd rfl hc
  have hcut : cutD (.str w.word :: as.map .int) (some 1) none = as.map .int := cut1
  have hi : ∀ μ : M, items μ (.D (.tuple (as.map .int))) = some (as.map fun a => .D (.int a)) := fun μ => by
    show some ((as.map PyData.int).map AV.D) = _
    rw [List.map_map]; rfl
  show opt (items μ' (.D (.tuple (cutD (.str w.word :: as.map .int) (some 1) none)))) _
  rw [hcut]
  refine opt_i (hi _) fun pl hp => ?_
  refine cmap as _ (fun a => .D (.bool (decide (0 ≤ a ∧ a < p.length)))) (fun τ => ∃ o, τ = [o, some (.D (prcD p))]) ⟨none, rfl⟩ updM_same (Nat.le_of_lt (small1000 (by rw [hok]; cases w <;> decide))) (fun _ => hi _) ?_ ?_
  · rintro i a τ' acc W hi ⟨o, rfl⟩ hW
    refine ⟨a, p.length, ?_, hW _ ⟨_, rfl⟩⟩
    rw [List.length_map]
  · refine all_i updM_same ⟨μ', (Sub.refl.new hp).new hp, ?_⟩
    rw [← f0, hu] at q
    exact q
end
section
variable {P : Program} {w : World} {K : PySem.W.Frag} {mg : Str → Option Value} {base : Heap} {f : Addr} {fd : FuncData}
theorem badS_at {g : Stp → Bool} {p : List Stp} {i : Nat} {s : Stp} (h : p[i]? = some s) : badS g i (p.drop i) = if g s then badS g (i + 1) (p.drop (i + 1)) else some i := by
  obtain ⟨hi, e⟩ := List.getElem?_eq_some_iff.mp h
  rw [List.drop_eq_getElem_cons hi, e]
  rfl
theorem badP_at {g : Nat → Stp → Bool} {ps : Prg} {i : Nat} {p : List Stp} (h : ps[i]? = some p) : badP g i (ps.drop i) = match badS (g p.length) 0 p with | some a => some (i, a) | none => badP g (i + 1) (ps.drop (i + 1)) := by
  obtain ⟨hi, e⟩ := List.getElem?_eq_some_iff.mp h
  rw [List.drop_eq_getElem_cons hi, e]
  rfl
theorem dats_prc (ps : Prg) : dats (ps.map fun p => .D (prcD p)) = some (ps.map prcD) := by
  rw [show (ps.map fun p => AV.D (prcD p)) = (ps.map prcD).map .D by rw [List.map_map]; rfl]; exact dats_map _
theorem items_stp {μ : M} {p : List Stp} : items μ (.D (prcD p)) = some (p.map fun s => .D s.D) := by
  show some ((p.map Stp.D).map AV.D) = _
  rw [List.map_map]; rfl
theorem dats_stp (p : List Stp) : dats (p.map fun s => .D s.D) = some (p.map Stp.D) := by
  rw [show (p.map fun s => AV.D s.D) = (p.map Stp.D).map .D by rw [List.map_map]; rfl]; exact dats_map _
theorem en_prc {ps : Prg} {i : Nat} {x : AV} (h : (enumA 0 (ps.map prcD))[i]? = some x) : ∃ p, ps[i]? = some p ∧ x = .D (.tuple [.int i, prcD p]) := by
  obtain ⟨d, hd, rfl⟩ := enumA_get h
  rw [List.getElem?_map] at hd
  obtain ⟨p, hp, rfl⟩ := Option.map_eq_some_iff.mp hd
  exact ⟨p, hp, by rw [Nat.zero_add]⟩
theorem en_stp {p : List Stp} {i : Nat} {x : AV} (h : (enumA 0 (p.map Stp.D))[i]? = some x) : ∃ s, p[i]? = some s ∧ x = .D (.tuple [.int i, s.D]) := by
  obtain ⟨d, hd, rfl⟩ := enumA_get h
  rw [List.getElem?_map] at hd
  obtain ⟨s, hs, rfl⟩ := Option.map_eq_some_iff.mp hd
  exact ⟨s, hs, by rw [Nat.zero_add]⟩
abbrev nLp : List Str := ["program", "number", "procedure", "at", "step"]
theorem scLp : FnScope nLp ["program"] (defScope sLp) := ⟨rfl, rfl, rfl, by decide +kernel, rfl, by decide +kernel, by decide +kernel⟩
def refD (k a : Int) : List (Str × PyData) := [("procedure", .int k), ("step", .int a)]
def spLp (C : Addr) : ASpX := fun xs μ R EX => ∃ sw ps, xs = [.D (prgD sw ps)] ∧ PrgOk ps ∧ (wrong sw ps = none → R (.D (.bool true)) μ) ∧ ∀ k a, wrong sw ps = some (k, a) → EX C (refD k a) μ
theorem ok_lp {n : Nat} {C : Addr} (F : Fun K "look_program" "look_program" sLp f fd) (cHs : VCal P w K mg base (n + 1) "has_its_sizes" ["program"] spHs) (cMs : VCal P w K mg base (n + 1) "may_stand" ["program", "procedure", "step"] spMs) (m_enumerate : mg "enumerate" = none) (xNoProgram : XCal P w K mg base n "NoProgram" C ["procedure", "step"]) :
    FnOk P w K mg base (CX1 P w) (n + 1 + 1) f fd ["program"] (cSpX K 1 (spLp C)) := by
  refine F.vokX scLp fun cdv A outer s H E EX hr hX => ⟨_, (vss_cons (vs_if (vt_not (vt_val (ve_call cHs hr rfl (va_cons (vv 0) va_nil)))) (vss_one (vs_raise xNoProgram hr rfl hX rfl (va_cons (ve_neg ve_int) (va_cons (ve_neg ve_int) va_nil)))) vss_nil)
      (vss_cons (vs_for PassesOwn.leaving rfl (vi_enum rfl m_enumerate (ve_ix i_ix (vv 0) ve_int)) (vg_tup (n := 2) rfl (vgs_cons (vg_name (i := 1) scLp.nd rfl (Or.inl rfl)) (vgs_cons (vg_name (i := 2) scLp.nd rfl (Or.inl rfl)) vgs_nil))) (vss_one (vs_for PassesOwn.leaving rfl (vi_enum rfl m_enumerate (vv 2)) (vg_tup (n := 2) rfl (vgs_cons (vg_name (i := 3) scLp.nd rfl (Or.inl rfl)) (vgs_cons (vg_name (i := 4) scLp.nd rfl (Or.inl rfl)) vgs_nil))) (vss_one (vs_if (vt_not (vt_val (ve_call cMs hr rfl (va_cons (vv 0) (va_cons (vv 2) (va_cons (vv 4) va_nil)))))) (vss_one (vs_raise xNoProgram hr rfl hX rfl (va_cons (vv 1) (va_cons (vv 3) va_nil)))) vss_nil)))))
      (vss_one (vs_ret ve_bl)))), ?_⟩
  rintro xs μ R _ ⟨sw, ps, rfl, hok, q1, q2⟩
  refine seq_i (fun τ μ' => τ = startA nLp [.D (prgD sw ps)] ∧ μ' = μ ∧ sizes sw ps = true) (fun W hW => ?_) ?_
  · refine ⟨sw, ps, rfl, hok, br (fun c => ?_) (fun c => ?_)⟩
    · rw [Bool.not_eq_true'] at c
      refine opt_i rfl ⟨rfl, μ, Sub.refl, q2 (-1) (-1) ?_⟩
      unfold wrong; rw [c]; rfl
    · rw [Bool.not_eq_false'] at c
      exact hW _ _ ⟨rfl, rfl, c⟩
  rintro τ μ' ⟨rfl, rfl, hsz⟩
  have hw : wrong sw ps = (badP (fit sw ps.length) 0 ps).map fun q => ((q.1 : Int), (q.2 : Int)) := by unfold wrong; rw [hsz]; rfl
  refine opt_i (atI_nat (j := 1) rfl) (opt_i items_prc (opt_i (dats_prc ps) ?_))
  refine for_i (fun i τ μ1 => ∃ o1 o2 o3 o4, τ = [some (.D (prgD sw ps)), o1, o2, o3, o4] ∧ μ' = μ1 ∧ badP (fit sw ps.length) 0 ps = badP (fit sw ps.length) i (ps.drop i)) ⟨none, none, none, none, rfl, rfl, rfl⟩ (fun _ _ _ _ => items_prc) ?_ ?_
  · rintro i x τ μ1 W hx ⟨o1, o2, o3, o4, rfl, rfl, hb⟩ hW
    obtain ⟨p, hp, rfl⟩ := en_prc hx
    have hpo := hok.2 p (List.mem_of_getElem? hp)
    rw [badP_at hp] at hb
    refine ⟨rfl, ?_⟩
    refine opt_i items_stp (opt_i (dats_stp p) ?_)
    refine for_i (fun j τ μ1 => ∃ o3 o4, τ = [some (.D (prgD sw ps)), some (.D (.int i)), some (.D (prcD p)), o3, o4] ∧ μ' = μ1 ∧ badS (fit sw ps.length p.length) 0 p = badS (fit sw ps.length p.length) j (p.drop j)) ⟨_, _, rfl, rfl, rfl⟩ (fun _ _ _ _ => items_stp) ?_ ?_
    · rintro j x τ μ1 W2 hx ⟨o3, o4, rfl, rfl, hs⟩ hW2
      obtain ⟨s, hsj, rfl⟩ := en_stp hx
      rw [badS_at hsj] at hs
      refine ⟨rfl, sw, ps, p, s, rfl, hpo.2 s (List.mem_of_getElem? hsj), br (fun c => ?_) (fun c => ?_)⟩
      · rw [Bool.not_eq_true'] at c
        rw [c] at hs
        have hs' : badS (fit sw ps.length p.length) 0 p = some j := hs
        rw [hs'] at hb
        refine opt_i rfl ⟨rfl, _, Sub.refl, q2 i j ?_⟩
        rw [hw, hb]; rfl
      · rw [Bool.not_eq_false'] at c
        rw [c] at hs
        exact hW2 _ _ ⟨_, _, rfl, rfl, hs⟩
    · rintro τ μ1 ⟨o3, o4, rfl, rfl, hs⟩
      have hs' : badS (fit sw ps.length p.length) 0 p = none := by
        rw [hs, enumA_length, List.length_map, List.drop_length]; rfl
      rw [hs'] at hb
      exact hW _ _ ⟨_, _, _, _, rfl, rfl, hb⟩
  · rintro τ μ1 ⟨o1, o2, o3, o4, rfl, rfl, hb⟩
    rw [enumA_length, List.length_map, List.drop_length] at hb
    exact ⟨_, Sub.refl, q1 (by rw [hw, hb]; rfl)⟩
end
section
variable {P : Program} {w : World} {K : PySem.W.Frag} {mg : Str → Option Value} {base : Heap} {f : Addr} {fd : FuncData}
theorem kAsk {a b c d e : AV} (w : Wd) : valA [((.inr "ask" : Key), a), (.inr "chance", b), (.inr "if", c), (.inr "call", d), (.inr "set", e)] (.inr w.word) = (match w with | .ask => some a | .chance => some b | .iff => some c | .call => some d | .set => some e | _ => none) := by
  have n1 : (.inr "ask" : Key) ≠ .inr "chance" := by decide +kernel
  have n2 : (.inr "ask" : Key) ≠ .inr "if" := by decide +kernel
  have n3 : (.inr "ask" : Key) ≠ .inr "call" := by decide +kernel
  have n4 : (.inr "ask" : Key) ≠ .inr "set" := by decide +kernel
  have n5 : (.inr "chance" : Key) ≠ .inr "if" := by decide +kernel
  have n6 : (.inr "chance" : Key) ≠ .inr "call" := by decide +kernel
  have n7 : (.inr "chance" : Key) ≠ .inr "set" := by decide +kernel
  have n8 : (.inr "if" : Key) ≠ .inr "call" := by decide +kernel
  have n9 : (.inr "if" : Key) ≠ .inr "set" := by decide +kernel
  have n10 : (.inr "call" : Key) ≠ .inr "set" := by decide +kernel
  have m1 : (.inr "ask" : Key) ≠ .inr "back" := by decide +kernel
  have m2 : (.inr "chance" : Key) ≠ .inr "back" := by decide +kernel
  have m3 : (.inr "if" : Key) ≠ .inr "back" := by decide +kernel
  have m4 : (.inr "call" : Key) ≠ .inr "back" := by decide +kernel
  have m5 : (.inr "set" : Key) ≠ .inr "back" := by decide +kernel
  have k1 : (.inr "ask" : Key) ≠ .inr "mark" := by decide +kernel
  have k2 : (.inr "chance" : Key) ≠ .inr "mark" := by decide +kernel
  have k3 : (.inr "if" : Key) ≠ .inr "mark" := by decide +kernel
  have k4 : (.inr "call" : Key) ≠ .inr "mark" := by decide +kernel
  have k5 : (.inr "set" : Key) ≠ .inr "mark" := by decide +kernel
  cases w with
  | ask => exact valA_hd
  | chance => exact (valA_tl n1).trans valA_hd
  | iff => exact (valA_tl n2).trans ((valA_tl n5).trans valA_hd)
  | call => exact (valA_tl n3).trans ((valA_tl n6).trans ((valA_tl n8).trans valA_hd))
  | set => exact (valA_tl n4).trans ((valA_tl n7).trans ((valA_tl n9).trans ((valA_tl n10).trans valA_hd)))
  | back => exact (valA_tl m1).trans ((valA_tl m2).trans ((valA_tl m3).trans ((valA_tl m4).trans (valA_tl m5))))
  | mark => exact (valA_tl k1).trans ((valA_tl k2).trans ((valA_tl k3).trans ((valA_tl k4).trans (valA_tl k5))))
abbrev nFi : List Str := ["_law_program_here", "_law_steps", "_law_step", "_law_switches", "_law_procedures", "_law_numbers", "_law_upto"]
theorem scFi : FnScope nFi ["_law_program_here", "_law_steps", "_law_step"] (defScope sFi) := ⟨rfl, rfl, rfl, by decide +kernel, rfl, by decide +kernel, by decide +kernel⟩
theorem ndFi1 : (["_law_number", "_law_upto", "_law_step"] : List Str).Nodup := by decide +kernel
theorem ok_fi {n : Nat} (F : Fun K "_law_fits" "_law_fits" sFi f fd) (m_len : mg "len" = none) (m_all : mg "all" = none) : FnOk P w K mg base CX0 (n + 1) f fd ["_law_program_here", "_law_steps", "_law_step"] (cSp K 3 spMs) := by
  refine F.vok scFi fun cdv A outer s H E hr => ⟨_, (vss_cons (vs_asg (vv 0) (vg_tup (n := 2) rfl (vgs_cons (vg_name (i := 3) scFi.nd rfl (Or.inl rfl)) (vgs_cons (vg_name (i := 4) scFi.nd rfl (Or.inl rfl)) vgs_nil))))
      (vss_cons (vs_if (VW.pt (vw_and (vt_cmp (o_in hr) (ve_ix i_ix (vv 2) ve_int) (ve_tup (va_cons ve_str (va_cons ve_str va_nil))) (by with_unfolding_all rfl)) (vw_and1 (vt_cmp (o_eq hr) (vv 3) ve_int (nomark _))))) (vss_one (vs_ret ve_bl)) vss_nil)
      (vss_cons (vs_set (i := 5) scFi.nd rfl (Or.inl rfl) (ve_slice (vv 2) (vo_some ve_int) vo_none))
      (vss_cons (vs_set (i := 6) scFi.nd rfl (Or.inr rfl) (ve_disp (vps_str (ve_callB c_len rfl m_len PySem.boot_len (va_cons (vv 1) va_nil)) (vps_str (ve_callB c_len rfl m_len PySem.boot_len (va_cons (vv 1) va_nil)) (vps_str (ve_callB c_len rfl m_len PySem.boot_len (va_cons (vv 1) va_nil)) (vps_str (ve_callB c_len rfl m_len PySem.boot_len (va_cons (vv 4) va_nil)) (vps_str ve_int vps_nil))))) (by decide +kernel)))
      (vss_one (vs_ret (ve_callB (c_all rfl) rfl m_all PyProof.Rows.boot_all (va_cons (ve_comp (N' := ["_law_number", "_law_upto", "_law_step"]) (mp := [none, some 6, some 2]) rfl (vi_seq (vv 5)) (fun _ _ _ _ => (vg_name (i := 0) ndFi1 rfl (Or.inl rfl) (Or.inr rfl))) (fun _ _ _ _ => vifs_nil) (fun _ _ _ _ => (ve_chain o_le o_lt ve_int (vv 0) (ve_dget (hu_of hr) (vv 1) (ve_ix i_ix (vv 2) ve_int)))) (compOk_of (N := nFi) (pn := (defScope sFi).names) (by decide +kernel))) va_nil)))))))), ?_⟩
  rintro xs μ R _ ⟨sw, ps, p, ⟨w, as⟩, rfl, hok, q⟩
  dsimp only at hok
  have fin : (w.sw && decide (sw = 0)) = false → as.all (fun n => decide (0 ≤ n ∧ n < upto ps.length p.length w)) = fit sw ps.length p.length ⟨w, as⟩ := fun e => by unfold fit; rw [e]; rfl
  refine seq_d (asg_tup2 rfl ?_)
  refine seq_i (fun τ μ' => ∃ o5 o6, τ = [some (.D (prgD sw ps)), some (.D (prcD p)), some (.D (Stp.D ⟨w, as⟩)), some (.D (.int sw)), some (.D (.tuple (ps.map prcD))), o5, o6] ∧ μ' = μ ∧ (w.sw && decide (sw = 0)) = false) (fun W hW => ?_) ?_
  · refine opt_i (atI_nat (j := 0) rfl) (opt_i rfl ⟨eqOk_str (wOk w), okSW, ?_⟩)
    rw [wsw w]
    refine br (fun c1 => ieq (fun c2 => ?_) (fun c2 => ?_)) (fun c1 => ?_)
    · refine ⟨μ, Sub.refl, ?_⟩
      have e : fit sw ps.length p.length ⟨w, as⟩ = false := by unfold fit; rw [show w.sw = true from c1, decide_eq_true c2]; rfl
      rw [e] at q; exact q
    · exact hW _ _ ⟨_, _, rfl, rfl, by rw [decide_eq_false c2, Bool.and_false]⟩
    · exact brF rfl (hW _ _ ⟨_, _, rfl, rfl, by rw [show w.sw = false from c1]; rfl⟩)
  rintro τ μ' ⟨o5, o6, rfl, rfl, c0⟩
  have f0 := fin c0
  refine seq_d (asg_tail rfl ?_)
  refine seq_d (asg_v ?_)
  intro pd hpd
  refine ⟨updM_same, ?_⟩
  have hi : ∀ μ : M, items μ (.D (.tuple (as.map .int))) = some (as.map fun a => .D (.int a)) := fun μ => by
    show some ((as.map PyData.int).map AV.D) = _
    rw [List.map_map]; rfl
  refine opt_i (hi _) fun pl hp => ?_
  have hdp : pd ≠ pl := by intro z; subst z; rw [updM_same] at hp; cases hp
  have hpm : μ' pl = none := by rw [updM_ne hdp.symm, updM_ne hdp.symm] at hp; exact hp
  refine cmap as _ (fun a => .D (.bool (decide (0 ≤ a ∧ a < upto ps.length p.length w)))) (fun τ => ∃ o, τ = [o, some (.R pd), some (.D (Stp.D ⟨w, as⟩))]) ⟨none, rfl⟩ updM_same (Nat.le_of_lt (small1000 (by rw [hok]; cases w <;> decide))) (fun _ => hi _) ?_ ?_
  · rintro i a τ' acc W hi ⟨o, rfl⟩ hW
    have hw := hW [some (.D (.int a)), some (.R pd), some (.D (Stp.D ⟨w, as⟩))] ⟨_, rfl⟩
    refine dif (fun d2 => ?_) (fun d2 => ?_)
    · have hl1 : ((p.map Stp.D).length : Int) = p.length := by rw [List.length_map]
      have hl2 : ((ps.map prcD).length : Int) = ps.length := by rw [List.length_map]
      have hv : valA ([(.inr "ask" : Key), .inr "chance", .inr "if", .inr "call", .inr "set"].zip [AV.D (.int (p.map Stp.D).length), .D (.int (p.map Stp.D).length), .D (.int (p.map Stp.D).length), .D (.int (ps.map prcD).length), .D (.int 2)]) (.inr w.word) = some (.D (.int (upto ps.length p.length w))) := by
        simp only [List.zip_cons_cons, List.zip_nil_left]
        rw [kAsk w, hl1, hl2]
        have hne : 0 < w.ar := by rw [← hok]; exact Nat.lt_of_le_of_lt (Nat.zero_le i) (List.getElem?_eq_some_iff.mp hi).1
        cases w <;> first | rfl | exact absurd hne (by decide)
      have hm : ∀ m, updM (updM (updM (updM μ' pd (.dk [])) pd m) pl (.lst [])) pl (.lst acc) pd = some m := fun m => by rw [updM_ne hdp, updM_ne hdp, updM_same]
      refine opt_i (atI_nat (j := 0) rfl) (opt_i (hm _) (opt_i (x := some (.D (.int (upto ps.length p.length w)))) (congrArg some hv) (opt_i rfl ?_)))
      have e : decide (0 ≤ a ∧ a < upto ps.length p.length w) = decide (a < upto ps.length p.length w) := decide_eq_decide.mpr ⟨fun h => h.2, fun h => ⟨d2, h⟩⟩
      rw [e] at hw; exact hw
    · have e : decide (0 ≤ a ∧ a < upto ps.length p.length w) = false := decide_eq_false (by omega)
      rw [e] at hw; exact hw
  · refine all_i updM_same ⟨μ', ((((Sub.refl.new hpd).new hpd).new hpm).new hpm), ?_⟩
    rw [← f0] at q
    exact q
end
section
variable {P : Program} {w : World} {K : PySem.W.Frag} {mg : Str → Option Value} {base : Heap} {f : Addr} {fd : FuncData}
abbrev nWr : List Str := ["_law_program_here", "_law_switches", "_law_procedures", "_law_steps", "_law_k", "_law_at", "_law_step"]
theorem scWr : FnScope nWr ["_law_program_here"] (defScope sWr) := ⟨rfl, rfl, rfl, by decide +kernel, rfl, by decide +kernel, by decide +kernel⟩
def wrD : Option (Int × Int) → PyData
  | none => .none
  | some (k, a) => .tuple [.int k, .int a]
theorem ok01 : EqOk (.tuple [.int 0, .int 1]) := ⟨by decide +kernel, by simp [PyData.depth, PyData.depthAll]⟩
def spWr : ASp := fun xs μ R => ∃ sw ps, xs = [.D (prgD sw ps)] ∧ PrgOk ps ∧ R (.D (wrD (wrong sw ps))) μ
theorem in01 (i : Int) : ([PyData.int 0, .int 1].any fun e => PyData.eqv e (.int i)) = decide (0 ≤ i ∧ i < 2) := by
  simp only [List.any_cons, List.any_nil, eqv_int, Bool.or_false]
  rw [← Bool.decide_or]
  exact decide_eq_decide.mpr ⟨fun h => by omega, fun h => by omega⟩
theorem ok_wr {n : Nat} (F : Fun K "_law_wrong" "_law_wrong" sWr f fd) (cFi : VCal P w K mg base n "_law_fits" ["_law_program_here", "_law_steps", "_law_step"] spMs) (m_len : mg "len" = none) (m_enumerate : mg "enumerate" = none) : FnOk P w K mg base CX0 (n + 1) f fd ["_law_program_here"] (cSp K 1 spWr) := by
  refine F.vok scWr fun cdv A outer s H E hr => ⟨_, (vss_cons (vs_asg (vv 0) (vg_tup (n := 2) rfl (vgs_cons (vg_name (i := 1) scWr.nd rfl (Or.inl rfl)) (vgs_cons (vg_name (i := 2) scWr.nd rfl (Or.inl rfl)) vgs_nil))))
      (vss_cons (vs_if (VW.pt (vw_or (vt_cmp (o_notIn hr) (vv 1) (ve_tup (va_cons ve_int (va_cons ve_int va_nil))) (by with_unfolding_all rfl)) (vw_or1 (vt_not (vt_chain o_lt o_lt ve_int (ve_callB c_len rfl m_len PySem.boot_len (va_cons (vv 2) va_nil)) ve_int))))) (vss_one (vs_ret (ve_tup (va_cons (ve_neg ve_int) (va_cons (ve_neg ve_int) va_nil))))) vss_nil)
      (vss_cons (vs_for PassesOwn.never rfl (vi_seq (vv 2)) (vg_name (i := 3) scWr.nd rfl (Or.inl rfl)) (vss_one (vs_if (vt_not (vt_chain o_lt o_lt ve_int (ve_callB c_len rfl m_len PySem.boot_len (va_cons (vv 3) va_nil)) ve_int)) (vss_one (vs_ret (ve_tup (va_cons (ve_neg ve_int) (va_cons (ve_neg ve_int) va_nil))))) vss_nil)))
      (vss_cons (vs_for PassesOwn.never rfl (vi_enum rfl m_enumerate (vv 2)) (vg_tup (n := 2) rfl (vgs_cons (vg_name (i := 4) scWr.nd rfl (Or.inl rfl)) (vgs_cons (vg_name (i := 3) scWr.nd rfl (Or.inl rfl)) vgs_nil))) (vss_one (vs_for PassesOwn.never rfl (vi_enum rfl m_enumerate (vv 3)) (vg_tup (n := 2) rfl (vgs_cons (vg_name (i := 5) scWr.nd rfl (Or.inl rfl)) (vgs_cons (vg_name (i := 6) scWr.nd rfl (Or.inl rfl)) vgs_nil))) (vss_one (vs_if (vt_not (vt_val (ve_call cFi hr rfl (va_cons (vv 0) (va_cons (vv 3) (va_cons (vv 6) va_nil)))))) (vss_one (vs_ret (ve_tup (va_cons (vv 4) (va_cons (vv 5) va_nil))))) vss_nil)))))
      (vss_one (vs_ret ve_non)))))), ?_⟩
  rintro xs μ R _ ⟨sw, ps, rfl, hok, q⟩
  have hl : ((ps.map prcD).length : Int) = ps.length := by rw [List.length_map]
  have q0 : sizes sw ps = false → aRt R (.D (.tuple [.int (-1), .int (-1)])) μ := fun e => ⟨μ, Sub.refl, by unfold wrong at q; rw [e] at q; exact q⟩
  refine seq_d (asg_tup2 rfl ?_)
  refine seq_i (fun τ μ' => τ = [some (.D (prgD sw ps)), some (.D (.int sw)), some (.D (.tuple (ps.map prcD))), none, none, none, none] ∧ μ = μ' ∧ (0 ≤ sw ∧ sw < 2) ∧ (1 ≤ ps.length ∧ ps.length ≤ 3)) (fun W hW => ?_) ?_
  · refine opt_i rfl ⟨eqOk_int _, ok01, ?_⟩
    rw [in01]
    refine br (fun c => brT rfl (q0 ?_)) (fun c => ?_)
    · have c' : decide (0 ≤ sw ∧ sw < 2) = false := Bool.eq_false_iff.mpr fun h => by rw [h] at c; exact absurd c (by decide)
      unfold sizes
      rw [c']; rfl
    · have c' : decide (0 ≤ sw ∧ sw < 2) = true := by simpa using c
      refine dif (fun d => br (fun d2 => q0 ?_) (fun d2 => ?_)) (fun d => brT rfl (q0 ?_))
      · have d2' : ¬ ((ps.map prcD).length : Int) < 4 := by simpa using d2
        have z : ¬ (1 ≤ ps.length ∧ ps.length ≤ 3) := by rw [hl] at d2'; omega
        unfold sizes
        rw [decide_eq_false z]; simp
      · have d2' : ((ps.map prcD).length : Int) < 4 := by simpa using d2
        exact hW _ _ ⟨rfl, rfl, of_decide_eq_true c', by rw [hl] at d d2'; omega⟩
      · have z : ¬ (1 ≤ ps.length ∧ ps.length ≤ 3) := by rw [hl] at d; omega
        unfold sizes
        rw [decide_eq_false z]; simp
  rintro τ μ' ⟨rfl, rfl, hs1, hs2⟩
  have hsz : sizes sw ps = ps.all fun p => decide (1 ≤ p.length ∧ p.length ≤ 4) := by
    unfold sizes
    rw [decide_eq_true hs1, decide_eq_true hs2]; simp
  refine seq_i (fun τ μ' => ∃ o3, τ = [some (.D (prgD sw ps)), some (.D (.int sw)), some (.D (.tuple (ps.map prcD))), o3, none, none, none] ∧ μ = μ' ∧ sizes sw ps = true) (fun W hW => ?_) ?_
  · refine opt_i items_prc ?_
    refine for_i (fun i τ μ' => ∃ o3, τ = [some (.D (prgD sw ps)), some (.D (.int sw)), some (.D (.tuple (ps.map prcD))), o3, none, none, none] ∧ μ = μ' ∧ ∀ p ∈ ps.take i, 1 ≤ p.length ∧ p.length ≤ 4) ⟨none, rfl, rfl, by simp⟩ (fun _ _ _ _ => items_prc) ?_ ?_
    · rintro i x τ μ' W2 hx ⟨o3, rfl, rfl, hb⟩ hW2
      rw [List.getElem?_map] at hx
      obtain ⟨p, hp, rfl⟩ := Option.map_eq_some_iff.mp hx
      have hl2 : ((p.map Stp.D).length : Int) = p.length := by rw [List.length_map]
      have hbad : ¬ (1 ≤ p.length ∧ p.length ≤ 4) → sizes sw ps = false := fun z => by
        rw [hsz]
        refine Bool.eq_false_iff.mpr fun y => z ?_
        exact of_decide_eq_true (List.all_eq_true.mp y p (List.mem_of_getElem? hp))
      refine dif (fun d => br (fun d2 => q0 (hbad ?_)) (fun d2 => hW2 _ _ ⟨_, rfl, rfl, ?_⟩)) (fun d => brT rfl (q0 (hbad ?_)))
      · have d2' : ¬ ((p.map Stp.D).length : Int) < 5 := by simpa using d2
        rw [hl2] at d2'; omega
      · have d2' : ((p.map Stp.D).length : Int) < 5 := by simpa using d2
        intro p' hp'
        rw [List.take_succ, hp] at hp'
        rcases List.mem_append.mp hp' with h | h
        · exact hb p' h
        · have e : p' = p := by simpa using h
          subst e
          rw [hl2] at d d2'; omega
      · rw [hl2] at d; omega
    · rintro τ μ' ⟨o3, rfl, rfl, hb⟩
      refine hW _ _ ⟨_, rfl, rfl, ?_⟩
      rw [List.length_map, List.take_length] at hb
      rw [hsz]
      exact List.all_eq_true.mpr fun p hp => decide_eq_true (hb p hp)
  rintro τ μ' ⟨o3, rfl, rfl, hsz2⟩
  have hw : wrong sw ps = (badP (fit sw ps.length) 0 ps).map fun q => ((q.1 : Int), (q.2 : Int)) := by unfold wrong; rw [hsz2]; rfl
  refine seq_i (fun τ μ' => μ = μ' ∧ wrong sw ps = none) (fun W hW => ?_) ?_
  · refine opt_i items_prc (opt_i (dats_prc ps) ?_)
    refine for_i (fun i τ μ1 => ∃ o3 o4 o5 o6, τ = [some (.D (prgD sw ps)), some (.D (.int sw)), some (.D (.tuple (ps.map prcD))), o3, o4, o5, o6] ∧ μ = μ1 ∧ badP (fit sw ps.length) 0 ps = badP (fit sw ps.length) i (ps.drop i)) ⟨_, _, _, _, rfl, rfl, rfl⟩ (fun _ _ _ _ => items_prc) ?_ ?_
    · rintro i x τ μ1 W hx ⟨o3, o4, o5, o6, rfl, rfl, hb⟩ hW
      obtain ⟨p, hp, rfl⟩ := en_prc hx
      have hpo := hok.2 p (List.mem_of_getElem? hp)
      rw [badP_at hp] at hb
      refine ⟨rfl, ?_⟩
      refine opt_i items_stp (opt_i (dats_stp p) ?_)
      refine for_i (fun j τ μ1 => ∃ o5 o6, τ = [some (.D (prgD sw ps)), some (.D (.int sw)), some (.D (.tuple (ps.map prcD))), some (.D (prcD p)), some (.D (.int i)), o5, o6] ∧ μ = μ1 ∧ badS (fit sw ps.length p.length) 0 p = badS (fit sw ps.length p.length) j (p.drop j)) ⟨_, _, rfl, rfl, rfl⟩ (fun _ _ _ _ => items_stp) ?_ ?_
      · rintro j x τ μ1 W2 hx ⟨o5, o6, rfl, rfl, hs⟩ hW2
        obtain ⟨s, hsj, rfl⟩ := en_stp hx
        rw [badS_at hsj] at hs
        refine ⟨rfl, sw, ps, p, s, rfl, hpo.2 s (List.mem_of_getElem? hsj), br (fun c => ?_) (fun c => ?_)⟩
        · rw [Bool.not_eq_true'] at c
          rw [c] at hs
          have hs' : badS (fit sw ps.length p.length) 0 p = some j := hs
          rw [hs'] at hb
          refine ⟨_, Sub.refl, ?_⟩
          rw [hw, hb] at q; exact q
        · rw [Bool.not_eq_false'] at c
          rw [c] at hs
          exact hW2 _ _ ⟨_, _, rfl, rfl, hs⟩
      · rintro τ μ1 ⟨o5, o6, rfl, rfl, hs⟩
        have hs' : badS (fit sw ps.length p.length) 0 p = none := by
          rw [hs, enumA_length, List.length_map, List.drop_length]; rfl
        rw [hs'] at hb
        exact hW _ _ ⟨_, _, _, _, rfl, rfl, hb⟩
    · rintro τ μ1 ⟨o3, o4, o5, o6, rfl, rfl, hb⟩
      rw [enumA_length, List.length_map, List.drop_length] at hb
      exact hW _ _ ⟨rfl, by rw [hw, hb]; rfl⟩
  rintro τ μ' ⟨rfl, hn⟩
  refine ⟨_, Sub.refl, ?_⟩
  rw [hn] at q; exact q
end
section
variable {P : Program} {w : World} {K : PySem.W.Frag} {mg : Str → Option Value} {base : Heap} {f : Addr} {fd : FuncData}
abbrev nTo : List Str := ["_law_program_here", "_law_found", "e", "_law_others"]
theorem scTo : FnScope nTo ["_law_program_here"] (defScope sTo) := ⟨rfl, rfl, rfl, by decide +kernel, rfl, by decide +kernel, by decide +kernel⟩
theorem ok_to {n : Nat} {c0 c1 c2 c3 c4 c5 c6 c7 D : Addr} (F : Fun K "_law_told" "_law_told" sTo f fd) (cLp : VCalX P w K mg base n "look_program" ["program"] (spLp c6)) (m_isinstance : mg "isinstance" = none) (m_ValueError : mg "ValueError" = none)
    (mc0 : mg "NoText" = some (.ref c0)) (mc1 : mg "NoGame" = some (.ref c1)) (mc2 : mg "NoSaying" = some (.ref c2)) (mc3 : mg "TooMany" = some (.ref c3)) (mc4 : mg "NoPaper" = some (.ref c4)) (mc5 : mg "NoFit" = some (.ref c5)) (mc6 : mg "NoProgram" = some (.ref c6)) (mc7 : mg "NoRow" = some (.ref c7)) (mD : mg "DuelError" = some (.ref D))
    (er : Err K c6 D [c5, c1, c4, c7, c2, c0, c3]) (na : NoAttr K c6 "procedure") (nb : NoAttr K c6 "step") : FnOk P w K mg base CX0 (n + 1) f fd ["_law_program_here"] (cSp K 1 spWr) := by
  refine F.vok0 scTo fun cdv A outer s H E hr => ⟨_, (vss0_cons (VS.z (vs_set (i := 1) scTo.nd rfl (Or.inl rfl) ve_non))
      (vss0_cons (vs0_try (i := 2) (fun xe pn EX hX => (vss_one (vs_if (vt_cmp o_notB (ve_callX cLp hr hX rfl (va_cons (vv 0) va_nil)) ve_bl (nomark _)) (vss_one (vs_set (i := 1) scTo.nd rfl (Or.inl rfl) ve_str)) vss_nil))) (fun e => (vss_cons (vs_set (i := 1) scTo.nd rfl (Or.inl rfl) ve_str)
      (vss_cons (vs_set (i := 3) scTo.nd rfl (Or.inl rfl) (ve_kisiTs (K := K) rfl rfl m_isinstance (pa_gl rfl mc5 (pa_gl rfl mc1 (pa_gl rfl mc4 (pa_gl rfl mc7 (pa_gl rfl mc2 (pa_gl rfl mc0 (pa_gl rfl mc3 pa_gl0))))))) (vv 2) (hl := seven (n := 7) (by decide))))
      (vss_one (vs_if (VW.pt (vw_and (vt_val (ve_kisi (K := K) rfl rfl m_isinstance rfl mc6 (vv 2))) (vw_and (vt_val (ve_kisiT (K := K) (T := "ValueError") rfl rfl m_isinstance rfl m_ValueError (by decide +kernel) (vv 2))) (vw_and1 (vt_not (vt_val (vv 3))))))) (vss_one (vs_set (i := 1) scTo.nd rfl (Or.inl rfl) (ve_tup (va_cons (ve_kfld (K := K) rfl (vv 2) rfl) (va_cons (ve_kfld (K := K) rfl (vv 2) rfl) va_nil))))) vss_nil))))) rfl mD er.xD er.mD rfl rfl scTo.nd rfl rfl)
      (vss0_one (VS.z (vs_ret (vv 1)))))), ?_⟩
  rintro xs μ R _ ⟨sw, ps, rfl, hok, q⟩
  refine seq_d (asg_c (seq_d ?_))
  refine ⟨sw, ps, rfl, hok, fun hn => brF rfl ?_, fun k a hw => ⟨er.un, ?_⟩⟩
  · rw [hn] at q; exact ⟨μ, Sub.refl, q⟩
  · refine seq_d (asg_c (seq_d (asg_v ⟨er.xi, opt_i er.no ?_⟩)))
    refine ⟨er.xi, opt_i er.self (brT rfl ⟨er.xi, opt_i er.iV (brT rfl (brT rfl ?_))⟩)⟩
    refine ⟨er.xi.toXCls, na, opt_i rfl ⟨er.xi.toXCls, nb, opt_i rfl ?_⟩⟩
    rw [hw] at q; exact ⟨μ, Sub.refl, q⟩
abbrev nAl : List Str := ["_law_found", "_law_due"]
theorem scAl : FnScope nAl ["_law_found", "_law_due"] (defScope sAl) := ⟨rfl, rfl, rfl, by decide +kernel, rfl, by decide +kernel, by decide +kernel⟩
theorem ndAl1 : (["_law_one"] : List Str).Nodup := by decide +kernel
theorem k_tt : kit "tuple" "tuple" = true := by decide
theorem k_nt : kit "NoneType" "tuple" = false := by decide
def kb : Bool := kit "int" "bool"
theorem kb_no : ([PyData.bool kb, .bool kb].any fun e => PyData.eqv e (.bool true)) = false := by decide +kernel
theorem kb_ok : EqOk (.tuple [.bool kb, .bool kb]) := ⟨by decide +kernel, by simp [PyData.depth, PyData.depthAll]⟩
theorem wrD_ok (o : Option (Int × Int)) : EqOk (wrD o) := by
  rcases o with _ | ⟨k, a⟩
  · exact eqOk_none
  · exact ⟨rfl, by simp [wrD, PyData.depth, PyData.depthAll]⟩
theorem wrD_eqv (o : Option (Int × Int)) : PyData.eqv (wrD o) (wrD o) = true := PySem.SeqAt.eqv_refl _ (wrD_ok o).1
def spAl : ASp := fun xs μ R => ∃ o, xs = [.D (wrD o), .D (wrD o)] ∧ R (.D (.bool true)) μ
theorem ok_al {n : Nat} (F : Fun K "_law_is_alike" "_law_is_alike" sAl f fd) (m_isinstance : mg "isinstance" = none) (m_tuple : mg "tuple" = none) (m_bool : mg "bool" = none) : FnOk P w K mg base CX0 (n + 1) f fd ["_law_found", "_law_due"] (cSp K 2 spAl) := by
  refine F.vok scAl fun cdv A outer s H E hr => ⟨_, (vss_cons (vs_if (VW.pt (vw_and (vt_val (ve_isT rfl m_isinstance rfl m_tuple PyProof.Rows.boot_tuple kits_tuple (vv 0))) (vw_and1 (vt_cmp (o_in hr) ve_bl (ve_comp (N' := ["_law_one"]) (mp := [none]) rfl (vi_seq (vv 0)) (fun _ _ _ _ => (vg_name (i := 0) ndAl1 rfl (Or.inl rfl) (Or.inr rfl))) (fun _ _ _ _ => vifs_nil) (fun _ _ _ _ => (ve_isT rfl m_isinstance rfl m_bool PyProof.Rows.boot_bool kits_bool (vv 0))) (compOk_of (N := nAl) (pn := (defScope sAl).names) (by decide +kernel))) (by with_unfolding_all rfl))))) (vss_one (vs_ret ve_bl)) vss_nil)
      (vss_one (vs_ret (ve_cmp (o_eq hr) (vv 0) (vv 1) (nomark _))))), ?_⟩
  rintro xs μ R _ ⟨o, rfl, q⟩
  refine seq_i (fun τ μ' => τ = [some (.D (wrD o)), some (.D (wrD o))] ∧ Sub μ μ') (fun W hW => ?_) ?_
  · rcases o with _ | ⟨k, a⟩
    · exact opt_i rfl (brF k_nt (brF rfl (hW _ _ ⟨rfl, Sub.refl⟩)))
    · refine opt_i rfl (brT k_tt (opt_i rfl fun p hp => ?_))
      refine cmap [k, a] (fun i => .D (.int i)) (fun _ => .D (.bool kb)) (fun τ => ∃ o, τ = [o]) ⟨none, rfl⟩ updM_same (seven (n := 2) (by decide)) (fun _ => rfl) ?_ ?_
      · rintro i x τ' acc W2 hi ⟨o, rfl⟩ hW2
        exact opt_i rfl (hW2 _ ⟨_, rfl⟩)
      · exact opt_i rfl (opt_i (items_R updM_same) (opt_i rfl ⟨eqOk_bool _, kb_ok, brF kb_no (hW _ _ ⟨rfl, (Sub.refl.new hp).new hp⟩)⟩))
  · rintro τ μ' ⟨rfl, S⟩
    refine ⟨wrD_ok o, wrD_ok o, μ, S, ?_⟩
    rw [wrD_eqv]; exact q
end
section
variable {P : Program} {w : World} {K : PySem.W.Frag} {mg : Str → Option Value} {base : Heap} {f : Addr} {fd : FuncData}
def intA (i : Int) : AV := .D (.int i)
structure PotAt (μ : M) (a l : Addr) (sd nm : Int) (ns : List Int) : Prop where
  ha : μ a = some (.lst [.D (.int sd), .D (.int nm), .R l])
  hl : μ l = some (.lst (ns.map intA))
  s0 : 0 ≤ sd
  s1 : sd < 2147483648
  n0 : 0 ≤ nm
  p0 : ∀ n ∈ ns, 0 ≤ n
  ne : a ≠ l
def Pot (μ : M) (a l : Addr) : Prop := ∃ sd nm ns, PotAt μ a l sd nm ns
def Ext2 (a l : Addr) (μ μ' : M) : Prop := ∀ b m, b ≠ a → b ≠ l → μ b = some m → μ' b = some m
theorem Ext2.refl {a l : Addr} {μ : M} : Ext2 a l μ μ := fun _ _ _ _ h => h
theorem Ext2.trans {a l : Addr} {μ ν ρ : M} (h : Ext2 a l μ ν) (k : Ext2 a l ν ρ) : Ext2 a l μ ρ := fun b m h1 h2 e => k b m h1 h2 (h b m h1 h2 e)
theorem Ext2.new {a l p : Addr} {μ ν : M} {o : MO} (h : Ext2 a l μ ν) (e : ν p = none) : Ext2 a l μ (updM ν p o) := fun b m h1 h2 q => by
  have := h b m h1 h2 q
  rw [updM_ne (by intro z; subst z; rw [e] at this; cases this)]; exact this
theorem Ext2.put {a l p : Addr} {μ ν : M} {o : MO} (h : Ext2 a l μ ν) (e : μ p = none) : Ext2 a l μ (updM ν p o) := fun b m h1 h2 q => by
  rw [updM_ne (by intro z; subst z; rw [e] at q; cases q)]; exact h b m h1 h2 q
theorem Ext2.a {a l : Addr} {μ ν : M} {o : MO} (h : Ext2 a l μ ν) : Ext2 a l μ (updM ν a o) := fun b m h1 h2 q => by rw [updM_ne h1]; exact h b m h1 h2 q
theorem Ext2.l {a l : Addr} {μ ν : M} {o : MO} (h : Ext2 a l μ ν) : Ext2 a l μ (updM ν l o) := fun b m h1 h2 q => by rw [updM_ne h2]; exact h b m h1 h2 q
theorem Ext2.none {a l p : Addr} {μ ν : M} (h : Ext2 a l μ ν) (h1 : a ≠ p) (h2 : l ≠ p) (e : ν p = none) : μ p = none := by
  cases q : μ p with
  | none => rfl
  | some m => rw [h p m h1.symm h2.symm q] at e; cases e
theorem PotAt.other {μ : M} {a l p : Addr} {sd nm : Int} {ns : List Int} {o : MO} (h : PotAt μ a l sd nm ns) (h1 : a ≠ p) (h2 : l ≠ p) : PotAt (updM μ p o) a l sd nm ns :=
  ⟨by rw [updM_ne h1]; exact h.ha, by rw [updM_ne h2]; exact h.hl, h.s0, h.s1, h.n0, h.p0, h.ne⟩
theorem Pot.other {μ : M} {a l p : Addr} {o : MO} (h : Pot μ a l) (h1 : a ≠ p) (h2 : l ≠ p) : Pot (updM μ p o) a l := let ⟨sd, nm, ns, h⟩ := h; ⟨sd, nm, ns, h.other h1 h2⟩
theorem Pot.ne {μ : M} {a l p : Addr} (h : Pot μ a l) (e : μ p = none) : a ≠ p ∧ l ≠ p := by
  obtain ⟨sd, nm, ns, h⟩ := h
  exact ⟨fun z => by (subst z; rw [h.ha] at e; cases e), fun z => by (subst z; rw [h.hl] at e; cases e)⟩
theorem Pot.new {μ : M} {a l p : Addr} {o : MO} (h : Pot μ a l) (e : μ p = none) : Pot (updM μ p o) a l := h.other (h.ne e).1 (h.ne e).2
abbrev nDr : List Str := ["_law_pot_here", "_law_many", "_law_digit", "_law_one"]
theorem scDr : FnScope nDr ["_law_pot_here", "_law_many"] (defScope sDr) := ⟨rfl, rfl, rfl, by decide +kernel, rfl, by decide +kernel, by decide +kernel⟩
def spDr : ASp := fun xs μ R => ∃ (a l : Addr) (many : Nat), xs = [.R a, .D (.int many)] ∧ Pot μ a l ∧ 0 < many ∧ many < 1000000 ∧ ∀ (v : Nat) (μ' : M), v < many → Pot μ' a l → Ext2 a l μ μ' → R (.D (.int v)) μ'
theorem nat_of {v : Int} {many : Nat} (h0 : 0 ≤ v) (h1 : v < many) : ∃ n : Nat, v = n ∧ n < many := ⟨v.toNat, by omega, by omega⟩
theorem ok_dr {n : Nat} (F : Fun K "_law_draw" "_law_draw" sDr f fd) (m_len : mg "len" = none) : FnOk P w K mg base CX0 (n + 1) f fd ["_law_pot_here", "_law_many"] (cSp K 2 spDr) := by
  refine F.vok scDr fun cdv A outer s H E hr => ⟨_, (vss_cons (vs_while PassesOwn.never (VW.pt (vw_and (vt_cmp (o_eq hr) (ve_ix i_ix (vv 0) ve_int) ve_int (nomark _)) (vw_and1 (vt_cmp o_gt (ve_callB c_len rfl m_len PySem.boot_len (va_cons (ve_ix i_ix (vv 0) ve_int) va_nil)) ve_int (nomark _))))) (vss_one (vs_asg (ve_ml PySem.F.slot_list_pop PySem.F.type_list_pop m_popAt (ve_ix i_ix (vv 0) ve_int) (va_cons ve_int va_nil)) (vg_sub (vv 0) ve_int))))
      (vss_cons (vs_if (vt_cmp o_gt (ve_ix i_ix (vv 0) ve_int) ve_int (nomark _)) (vss_cons (vs_set (i := 2) scDr.nd rfl (Or.inl rfl) (ve_op o_mod (ve_ix i_ix (vv 0) ve_int) (vv 1)))
      (vss_cons (vs_asg (ve_op o_fdiv (ve_ix i_ix (vv 0) ve_int) (vv 1)) (vg_sub (vv 0) ve_int))
      (vss_one (vs_ret (vv 2))))) vss_nil)
      (vss_cons (vs_set (i := 3) scDr.nd rfl (Or.inl rfl) (ve_op o_mod (ve_op o_add (ve_op o_mul (ve_ix i_ix (vv 0) ve_int) ve_int) ve_int) ve_int))
      (vss_cons (vs_asg (ve_op o_add (ve_op o_mod (ve_op o_add (ve_op o_mul (vv 3) ve_int) ve_int) ve_int) ve_int) (vg_sub (vv 0) ve_int))
      (vss_one (vs_ret (ve_op o_mod (ve_op o_fdiv (ve_op o_add (ve_op o_mul (ve_op o_mod (ve_op o_mul (vv 3) (vv 3)) ve_int) ve_int) (ve_ix i_ix (vv 0) ve_int)) ve_int) (vv 1)))))))), ?_⟩
  rintro xs μ R _ ⟨a, l, many, rfl, ⟨sd, nm, ns, D0⟩, h0, h1, q⟩
  refine seq_i (fun τ μ' => ∃ sd nm ns, τ = [some (.R a), some (.D (.int many)), none, none] ∧ PotAt μ' a l sd nm ns ∧ Ext2 a l μ μ') (fun W' hW' => ?_) ?_
  · refine while_i (fun m τ μ' => ∃ sd nm ns, τ = [some (.R a), some (.D (.int many)), none, none] ∧ m = ns.length ∧ PotAt μ' a l sd nm ns ∧ Ext2 a l μ μ') ns.length ⟨sd, nm, ns, rfl, rfl, D0, Ext2.refl⟩ ?_
    rintro m τ μ' W ⟨sd, nm, ns, rfl, rfl, D, S⟩ hW
    refine opt_i D.ha (opt_i rfl (ieq (fun c => ?_) (fun c => brF rfl (hW' _ _ ⟨sd, nm, ns, rfl, D, S⟩))))
    refine opt_i D.ha (opt_i rfl (opt_i D.hl (dif (fun c2 => ?_) (fun c2 => hW' _ _ ⟨sd, nm, ns, rfl, D, S⟩))))
    cases ns with
    | nil => exact absurd c2 (by decide)
    | cons x ns =>
      have ha2 : updM μ' l (.lst (((x :: ns).map intA).eraseIdx 0)) a = some (.lst [.D (.int sd), .D (.int nm), .R l]) := by rw [updM_ne D.ne]; exact D.ha
      have ix : seqIndex? 0 ((x :: ns).map intA).length = some 0 := by
        rw [List.length_map]
        unfold seqIndex?
        simp
      refine opt_i D.ha (opt_i rfl ⟨opt_i D.hl trivial, opt_i D.hl ⟨⟨by decide, by decide⟩, opt_i ix (opt_i rfl (opt_i ha2 (opt_i rfl (hW ns.length _ _ (Nat.lt_succ_self _) ⟨sd, x, ns, rfl, rfl, ?_, S.l.a⟩))))⟩⟩)
      refine ⟨updM_same, by rw [updM_ne D.ne.symm, updM_same]; rfl, D.s0, D.s1, D.p0 x List.mem_cons_self, fun z hz => D.p0 z (List.mem_cons_of_mem _ hz), D.ne⟩
  · rintro τ μ' ⟨sd, nm, ns, rfl, D, S⟩
    have b0 := D.s0
    have b1 := D.s1
    refine opt_i D.ha (opt_i rfl (dif (fun c => ?_) (fun c => ?_)))
    · refine opt_i D.ha (opt_i rfl ⟨(by show (0 : Int) < _; omega), opt_i D.ha (opt_i rfl ⟨⟨by omega, by omega⟩, opt_i D.ha (opt_i rfl ⟨_, Sub.refl, ?_⟩)⟩)⟩)
      obtain ⟨v, ev, hv⟩ := nat_of (Int.emod_nonneg nm (show (many : Int) ≠ 0 by omega)) (Int.emod_lt_of_pos nm (show 0 < (many : Int) by omega))
      dsimp only
      rw [ev]
      exact q v _ hv ⟨sd, nm / many, ns, updM_same, by rw [updM_ne D.ne.symm]; exact D.hl, b0, b1, Int.ediv_nonneg D.n0 (by omega), D.p0, D.ne⟩ S.a
    · refine opt_i D.ha (opt_i rfl ⟨.inr ⟨by decide, by decide⟩, (by show (0 : Int) < _; decide), ?_⟩)
      dsimp only
      have e1 := Int.emod_nonneg (sd * 48271 + 7919) (show (2147483647 : Int) ≠ 0 by decide)
      have e2 := Int.emod_lt_of_pos (sd * 48271 + 7919) (show (0 : Int) < 2147483647 by decide)
      generalize (sd * 48271 + 7919) % 2147483647 = one at e1 e2 ⊢
      refine ⟨.inr ⟨by decide, by decide⟩, (by show (0 : Int) < _; decide), opt_i D.ha (opt_i rfl ?_)⟩
      dsimp only
      have e3 := Int.emod_nonneg (one * 40692 + 12345) (show (2147483399 : Int) ≠ 0 by decide)
      have e4 := Int.emod_lt_of_pos (one * 40692 + 12345) (show (0 : Int) < 2147483399 by decide)
      generalize (one * 40692 + 12345) % 2147483399 = two at e3 e4 ⊢
      refine ⟨.inl ⟨by omega, by omega⟩, (by show (0 : Int) < _; decide), ⟨.inr ⟨by decide, by decide⟩, opt_i updM_same (opt_i rfl ⟨⟨by decide, by decide⟩, (by show (0 : Int) < _; omega), _, Sub.refl, ?_⟩)⟩⟩
      dsimp only
      obtain ⟨v, ev, hv⟩ := nat_of (Int.emod_nonneg ((one * one % 2147483629 * 31 + (two + 1)) / 64) (show (many : Int) ≠ 0 by omega)) (Int.emod_lt_of_pos ((one * one % 2147483629 * 31 + (two + 1)) / 64) (show 0 < (many : Int) by omega))
      rw [ev]
      exact q v _ hv ⟨two + 1, nm, ns, updM_same, by rw [updM_ne D.ne.symm]; exact D.hl, by omega, by omega, D.n0, D.p0, D.ne⟩ S.a
abbrev nPo : List Str := ["_law_script", "_law_base", "_law_seed", "_law_left", "_law_cell"]
theorem scPo : FnScope nPo ["_law_script", "_law_base"] (defScope sPo) := ⟨rfl, rfl, rfl, by decide +kernel, rfl, by decide +kernel, by decide +kernel⟩
def scrD (ns : List Int) : PyData := .list (ns.map .int)
theorem scr_items (μ : M) (ns : List Int) : items μ (.D (scrD ns)) = some (ns.map intA) := by
  show some ((ns.map PyData.int).map AV.D) = _
  rw [List.map_map]; rfl
theorem cutA_map {α : Type} (g : α → AV) (xs : List α) (lo hi : Option Int) : ∃ ys : List α, cutA (xs.map g) lo hi = ys.map g ∧ ys.length ≤ xs.length := by
  refine ⟨(xs.drop (HT.sIx (xs.map g).length 0 lo)).take (HT.sIx (xs.map g).length (xs.map g).length hi - HT.sIx (xs.map g).length 0 lo), ?_, ?_⟩
  · unfold cutA
    rw [← List.map_drop, ← List.map_take]
  · rw [List.length_take, List.length_drop]; omega
def spPo : ASp := fun xs μ R => ∃ (ns : List Int) (b : Nat), xs = [.D (scrD ns), .D (.int b)] ∧ b < 1000 ∧ ns.length ≤ 63 ∧ ∀ (a l : Addr) (μ' : M), μ a = none → μ l = none → Pot μ' a l → Sub μ μ' → R (.R a) μ'
theorem ok_po {n : Nat} (F : Fun K "_law_pot" "_law_pot" sPo f fd) : FnOk P w K mg base CX0 (n + 1) f fd ["_law_script", "_law_base"] (cSp K 2 spPo) := by
  refine F.vok scPo fun cdv A outer s H E hr => ⟨_, (vss_cons (vs_set (i := 2) scPo.nd rfl (Or.inl rfl) (ve_op o_add (ve_op o_mul ve_int (vv 1)) ve_int))
      (vss_cons (vs_set (i := 3) scPo.nd rfl (Or.inl rfl) (ve_lst va_nil))
      (vss_cons (vs_for PassesOwn.never rfl (vi_seq (ve_slice (vv 0) (vo_some (vv 1)) (vo_some ve_int))) (vg_name (i := 4) scPo.nd rfl (Or.inl rfl)) (vss_cons (vs_set (i := 2) scPo.nd rfl (Or.inl rfl) (ve_op o_mod (ve_op o_add (ve_op o_add (ve_op o_mul (vv 2) ve_int) (ve_op o_mod (vv 4) ve_int)) ve_int) ve_int))
      (vss_one (vs_if (vt_cmp o_ge (vv 4) (ve_op o_pow ve_int ve_int) (nomark _)) (vss_one (vs_expr (ve_ml PySem.F.slot_list_append PySem.F.type_list_append m_append (vv 3) (va_cons (vv 4) va_nil)))) vss_nil))))
      (vss_one (vs_ret (ve_lst (va_cons (vv 2) (va_cons ve_int (va_cons (vv 3) va_nil))))))))), ?_⟩
  rintro xs μ R _ ⟨ns, b, rfl, hb, hn, q⟩
  refine ⟨.inl ⟨by decide, by decide⟩, ?_⟩
  intro l hl
  obtain ⟨cs, ecs, hcl⟩ := cutA_map intA ns (some (b : Int)) (some 63)
  refine seq_i (fun τ μ' => ∃ (o : Option AV) (sd : Int) (ls : List Int), τ = [some (.D (scrD ns)), some (.D (.int b)), some (.D (.int sd)), some (.R l), o] ∧ μ' l = some (.lst (ls.map intA)) ∧ Sub μ μ' ∧ (∀ z ∈ ls, 0 ≤ z) ∧ 0 ≤ sd ∧ sd < 2147483648) (fun W' hW' => ?_) ?_
  · refine opt_i (scr_items _ ns) fun p hp => ?_
    rw [ecs]
    have hpl : l ≠ p := by intro z; subst z; rw [updM_same] at hp; cases hp
    have hpn : μ p = none := by rw [updM_ne hpl.symm] at hp; exact hp
    refine opt_i (x := cs.map intA) (by show (match updM _ p _ p with | some (MO.lst xs) => some xs | _ => none) = _; rw [updM_same]) ?_
    refine for_i (fun i τ μ' => ∃ (o : Option AV) (sd : Int) (ls : List Int), τ = [some (.D (scrD ns)), some (.D (.int b)), some (.D (.int sd)), some (.R l), o] ∧ μ' l = some (.lst (ls.map intA)) ∧ μ' p = some (.lst (cs.map intA)) ∧ Sub μ μ' ∧ (∀ z ∈ ls, 0 ≤ z) ∧ ls.length ≤ i ∧ 0 ≤ sd ∧ sd < 2147483648)
      ⟨none, 7919 * b + 104729, [], rfl, by rw [updM_ne hpl, updM_same]; rfl, updM_same, (Sub.refl.new hl).new hpn, (fun _ z => nomatch z), Nat.zero_le _, by omega, by omega⟩ ?_ ?_ ?_
    · rintro i τ μ' ⟨o, sd, ls, rfl, h1, h2, _⟩
      show (match μ' p with | some (MO.lst xs) => some xs | _ => none) = _
      rw [h2]
    · rintro i y τ μ' W hy ⟨o, sd, ls, rfl, h1, h2, h3, h4, h5, h6, h7⟩ hW
      rw [List.getElem?_map] at hy
      obtain ⟨c, hc, rfl⟩ := Option.map_eq_some_iff.mp hy
      have hi : i < cs.length := (List.getElem?_eq_some_iff.mp hc).1
      refine ⟨.inr ⟨by decide, by decide⟩, (by show (0 : Int) < _; decide), (by show (0 : Int) < _; decide), ?_⟩
      dsimp only
      have e1 := Int.emod_nonneg (sd * 48271 + c % 2147483629 + 1) (show (2147483647 : Int) ≠ 0 by decide)
      have e2 := Int.emod_lt_of_pos (sd * 48271 + c % 2147483629 + 1) (show (0 : Int) < 2147483647 by decide)
      generalize (sd * 48271 + c % 2147483629 + 1) % 2147483647 = s2 at e1 e2 ⊢
      refine ⟨⟨by decide, by decide, by decide⟩, dif (fun c2 => ?_) (fun c2 => hW _ _ ⟨_, s2, ls, rfl, h1, h2, h3, h4, by omega, by omega, by omega⟩)⟩
      refine ⟨opt_i h1 trivial, opt_i h1 ⟨by rw [List.length_map]; exact small1000 (by omega), hW _ _ ⟨_, s2, ls ++ [c], rfl, ?_, by rw [updM_ne hpl.symm]; exact h2, ?_, ?_, by simp; omega, by omega, by omega⟩⟩⟩
      · rw [updM_same, List.map_append]; rfl
      · intro b m e
        rw [updM_ne (by intro z; subst z; rw [hl] at e; cases e)]; exact h3 b m e
      · intro z hz
        rcases List.mem_append.mp hz with hz | hz
        · exact h4 z hz
        · rw [List.mem_singleton.mp hz]
          have : (10 ^ (18 : Int).toNat : Int) ≤ c := c2
          have h18 : (0 : Int) ≤ 10 ^ (18 : Int).toNat := by decide
          omega
    · rintro τ μ' ⟨o, sd, ls, rfl, h1, h2, h3, h4, h5, h6, h7⟩
      exact hW' _ _ ⟨o, sd, ls, rfl, h1, h3, h4, h6, h7⟩
  · rintro τ μ' ⟨o, sd, ls, rfl, h1, h3, h4, h6, h7⟩
    intro a ha
    have hal : a ≠ l := by intro z; subst z; rw [h1] at ha; cases ha
    have han := h3.none ha
    exact ⟨_, Sub.refl, q a l _ han hl ⟨sd, 0, ls, updM_same, by rw [updM_ne hal.symm]; exact h1, h6, h7, Int.le_refl 0, h4, hal⟩ (h3.new han)⟩
end
section
variable {P : Program} {w : World} {K : PySem.W.Frag} {mg : Str → Option Value} {base : Heap} {f : Addr} {fd : FuncData}
theorem cutD_take {α : Type} (g : α → PyData) (xs : List α) (n : Nat) : cutD (xs.map g) none (some (n : Int)) = (xs.take n).map g := by
  unfold cutD
  rw [HT.sIx_none, HT.sIx_nat, List.drop_zero, Nat.sub_zero, ← List.map_take, List.length_map]
  by_cases h : n ≤ xs.length
  · rw [Nat.min_eq_left h]
  · rw [Nat.min_eq_right (by omega), List.take_length, List.take_of_length_le (by omega)]
theorem cutD_drop {α : Type} (g : α → PyData) (xs : List α) (n : Nat) : cutD (xs.map g) (some (n : Int)) none = (xs.drop n).map g := by
  unfold cutD
  rw [HT.sIx_none, HT.sIx_nat, ← List.map_drop, List.length_map]
  by_cases h : n ≤ xs.length
  · rw [Nat.min_eq_left h, List.take_of_length_le (by rw [List.length_map, List.length_drop]; exact Nat.le_refl _)]
  · rw [Nat.min_eq_right (by omega), List.drop_length, List.drop_of_length_le (by omega)]; simp
def PrgLe (m : Nat) (ps : Prg) : Prop := ps.length ≤ m ∧ ∀ p ∈ ps, p.length ≤ m ∧ ∀ s ∈ p, s.as.length = s.w.ar
theorem PrgLe.ok {m : Nat} {ps : Prg} (h : PrgLe m ps) (hm : m ≤ 100) : PrgOk ps := ⟨Nat.le_trans h.1 hm, fun p hp => ⟨Nat.le_trans (h.2 p hp).1 hm, (h.2 p hp).2⟩⟩
theorem badS_none {g : Stp → Bool} : ∀ {p : List Stp} (a : Nat), (∀ s ∈ p, g s = true) → badS g a p = none
  | [], _, _ => rfl
  | s :: r, a, h => by rw [badS, if_pos (h s List.mem_cons_self)]; exact badS_none (a + 1) fun t ht => h t (List.mem_cons_of_mem _ ht)
theorem badP_none {g : Nat → Stp → Bool} : ∀ {ps : Prg} (k : Nat), (∀ p ∈ ps, ∀ s ∈ p, g p.length s = true) → badP g k ps = none
  | [], _, _ => rfl
  | p :: r, k, h => by rw [badP, badS_none 0 (h p List.mem_cons_self)]; exact badP_none (k + 1) fun t ht => h t (List.mem_cons_of_mem _ ht)
def StpOk (sw : Int) (np len : Nat) (s : Stp) : Prop := s.as.length = s.w.ar ∧ fit sw np len s = true
theorem fit_of {sw : Int} {np len : Nat} {s : Stp} (h1 : s.w.sw = true → sw ≠ 0) (h2 : ∀ n ∈ s.as, 0 ≤ n ∧ n < upto np len s.w) : fit sw np len s = true := by
  unfold fit
  rw [Bool.and_eq_true]
  constructor
  · cases h : s.w.sw with
    | false => rfl
    | true => rw [decide_eq_false (h1 h)]; rfl
  · exact List.all_eq_true.mpr fun n hn => decide_eq_true (h2 n hn)
theorem all2 {x y : Nat} {m : Int} (hx : (x : Int) < m) (hy : (y : Int) < m) : ∀ n ∈ [(x : Int), (y : Int)], 0 ≤ n ∧ n < m := fun n hn => by
  simp only [List.mem_cons, List.not_mem_nil, or_false] at hn
  rcases hn with rfl | rfl
  · exact ⟨Int.natCast_nonneg _, hx⟩
  · exact ⟨Int.natCast_nonneg _, hy⟩
theorem all1 {x : Nat} {m : Int} (hx : (x : Int) < m) : ∀ n ∈ [(x : Int)], 0 ≤ n ∧ n < m := fun n hn => by
  rw [List.mem_singleton.mp hn]
  exact ⟨Int.natCast_nonneg _, hx⟩
def natA (n : Nat) : AV := .D (.int n)
def prcA (p : List Stp) : AV := .D (prcD p)
def stpA (s : Stp) : AV := .D s.D
theorem okA3 : EqOk (.tuple [.str "ask", .str "chance", .str "if"]) := ⟨by decide +kernel, by simp [PyData.depth, PyData.depthAll]⟩
theorem w3 (w : Wd) : ([PyData.str "ask", .str "chance", .str "if"].any fun e => PyData.eqv e (.str w.word)) = (match w with | .ask => true | .chance => true | .iff => true | _ => false) := by cases w <;> decide +kernel
theorem lc : PyData.canLay0 (.str "call") = true := by decide +kernel
theorem ls : PyData.canLay0 (.str "set") = true := by decide +kernel
theorem wEq {w : Wd} {z : Str} {T F : Prop} (hz : PyData.canLay0 (.str z) = true) (h : PyData.eqv (.str w.word) (.str z) = true) (q : T) : EqOk (.str w.word) ∧ EqOk (.str z) ∧ brP (PyData.eqv (.str w.word) (.str z)) T F := ⟨eqOk_str (wOk w), eqOk_str hz, brT h q⟩
theorem wNe {w : Wd} {z : Str} {T F : Prop} (hz : PyData.canLay0 (.str z) = true) (h : PyData.eqv (.str w.word) (.str z) = false) (q : F) : EqOk (.str w.word) ∧ EqOk (.str z) ∧ brP (PyData.eqv (.str w.word) (.str z)) T F := ⟨eqOk_str (wOk w), eqOk_str hz, brF h q⟩
abbrev nPr : List Str := ["_law_pot_here", "_law_switches", "_law_sizes", "_law_procedures", "_law_many", "_law_steps", "_law_at", "_law_words", "_law_word", "_law_step"]
theorem scPr : FnScope nPr ["_law_pot_here"] (defScope sPr) := ⟨rfl, rfl, rfl, by decide +kernel, rfl, by decide +kernel, by decide +kernel⟩
theorem ndPr1 : (["_law_k", "_law_pot_here"] : List Str).Nodup := by decide +kernel
def spPr : ASp := fun xs μ R => ∃ a l, xs = [.R a] ∧ Pot μ a l ∧ ∀ (sw : Nat) (ps : Prg) (μ' : M), PrgLe 4 ps → wrong sw ps = none → Pot μ' a l → Ext2 a l μ μ' → R (.D (prgD sw ps)) μ'
theorem ne_kn {μ : M} {p b : Addr} {m : MO} (h : μ b = some m) (e : μ p = none) : b ≠ p := by intro z; subst z; rw [h] at e; cases e
theorem ok_pr {n : Nat} (F : Fun K "_law_program" "_law_program" sPr f fd) (cDr : VCal P w K mg base n "_law_draw" ["_law_pot_here", "_law_many"] spDr) (m_range : mg "range" = none) (m_len : mg "len" = none) (m_tuple : mg "tuple" = none) : FnOk P w K mg base CX0 (n + 1) f fd ["_law_pot_here"] (cSp K 1 spPr) := by
  refine F.vok scPr fun cdv A outer s H E hr => ⟨_, (vss_cons (vs_set (i := 1) scPr.nd rfl (Or.inl rfl) (ve_call cDr hr rfl (va_cons (vv 0) (va_cons ve_int va_nil))))
      (vss_cons (vs_setC (i := 2) (N' := ["_law_k", "_law_pot_here"]) (mp := [none, some 0]) rfl scPr.nd rfl rfl (vi_range1 rfl m_range (va_cons (ve_op o_add ve_int (ve_call cDr hr rfl (va_cons (vv 0) (va_cons ve_int va_nil)))) va_nil)) (fun _ _ _ _ => (vg_name (i := 0) ndPr1 rfl (Or.inl rfl) (Or.inr rfl))) (fun _ _ _ _ => vifs_nil) (fun _ _ _ _ => (ve_op o_add ve_int (ve_call cDr hr rfl (va_cons (vv 1) (va_cons ve_int va_nil))))) (compOk_of (N := nPr) (pn := (defScope sPr).names) (by decide +kernel)))
      (vss_cons (vs_set (i := 3) scPr.nd rfl (Or.inl rfl) (ve_lst va_nil))
      (vss_cons (vs_for PassesOwn.never rfl (vi_seq (vv 2)) (vg_name (i := 4) scPr.nd rfl (Or.inl rfl)) (vss_cons (vs_set (i := 5) scPr.nd rfl (Or.inl rfl) (ve_lst va_nil))
      (vss_cons (vs_for PassesOwn.never rfl (vi_range1 rfl m_range (va_cons (vv 4) va_nil)) (vg_name (i := 6) scPr.nd rfl (Or.inl rfl)) (vss_cons (vs_set (i := 7) scPr.nd rfl (Or.inl rfl) (ve_lst (va_cons ve_str (va_cons ve_str (va_cons ve_str (va_cons ve_str (va_cons ve_str (va_cons ve_str (va_cons ve_str (va_cons ve_str (va_cons ve_str va_nil)))))))))))
      (vss_cons (vs_set (i := 8) scPr.nd rfl (Or.inl rfl) (ve_ix i_ix (vv 7) (ve_call cDr hr rfl (va_cons (vv 0) (va_cons (ve_op o_add ve_int (ve_op o_mul ve_int (vv 1))) va_nil)))))
      (vss_cons (vs_set (i := 9) scPr.nd rfl (Or.inl rfl) (ve_tup (va_cons (vv 8) va_nil)))
      (vss_cons (vs_if (vt_cmp (o_in hr) (vv 8) (ve_tup (va_cons ve_str (va_cons ve_str (va_cons ve_str va_nil)))) (by with_unfolding_all rfl)) (vss_one (vs_set (i := 9) scPr.nd rfl (Or.inl rfl) (ve_tup (va_cons (vv 8) (va_cons (ve_call cDr hr rfl (va_cons (vv 0) (va_cons (vv 4) va_nil))) (va_cons (ve_call cDr hr rfl (va_cons (vv 0) (va_cons (vv 4) va_nil))) va_nil)))))) vss_nil)
      (vss_cons (vs_if (vt_cmp (o_eq hr) (vv 8) ve_str (nomark _)) (vss_one (vs_set (i := 9) scPr.nd rfl (Or.inl rfl) (ve_tup (va_cons (vv 8) (va_cons (ve_call cDr hr rfl (va_cons (vv 0) (va_cons (ve_callB c_len rfl m_len PySem.boot_len (va_cons (vv 2) va_nil)) va_nil))) va_nil))))) vss_nil)
      (vss_cons (vs_if (vt_cmp (o_eq hr) (vv 8) ve_str (nomark _)) (vss_one (vs_set (i := 9) scPr.nd rfl (Or.inl rfl) (ve_tup (va_cons (vv 8) (va_cons (ve_call cDr hr rfl (va_cons (vv 0) (va_cons ve_int va_nil))) va_nil))))) vss_nil)
      (vss_one (vs_expr (ve_ml PySem.F.slot_list_append PySem.F.type_list_append m_append (vv 5) (va_cons (vv 9) va_nil)))))))))))
      (vss_one (vs_expr (ve_ml PySem.F.slot_list_append PySem.F.type_list_append m_append (vv 3) (va_cons (ve_callTy c_tuple rfl m_tuple PyProof.Rows.boot_tuple (va_cons (vv 5) va_nil)) va_nil)))))))
      (vss_one (vs_ret (ve_tup (va_cons (vv 1) (va_cons (ve_callTy c_tuple rfl m_tuple PyProof.Rows.boot_tuple (va_cons (vv 3) va_nil)) va_nil))))))))), ?_⟩
  rintro xs μ R _ ⟨a, l, rfl, hP, q⟩
  refine ⟨a, l, 2, rfl, hP, by decide, by decide, fun sw μ1 hsw P1 S1 => ?_⟩
  refine seq_i (fun τ μ' => ∃ (pz : Addr) (zs : List Nat), τ = [some (.R a), some (natA sw), some (.R pz), none, none, none, none, none, none, none] ∧ μ' pz = some (.lst (zs.map natA)) ∧ a ≠ pz ∧ l ≠ pz ∧ 0 < zs.length ∧ zs.length ≤ 3 ∧ (∀ z ∈ zs, 1 ≤ z ∧ z ≤ 4) ∧ Pot μ' a l ∧ Ext2 a l μ μ') (fun W' hW' => ?_) ?_
  · refine ⟨a, l, 3, rfl, P1, by decide, by decide, fun c μ2 hc P2 S2 => ⟨by omega, by omega, fun pz hpz => ?_⟩⟩
    have hne := P2.ne hpz
    have hlen : (rngA 0 ((1 : Int) + (c : Int)).toNat).length = 1 + c := by rw [rngA_length]; omega
    refine comp_i (fun i acc τ μ' => ∃ (o : Option AV) (zs : List Nat), τ = [o, some (.R a)] ∧ acc = zs.map natA ∧ zs.length = i ∧ (∀ z ∈ zs, 1 ≤ z ∧ z ≤ 4) ∧ μ' pz = some (.lst acc) ∧ Pot μ' a l ∧ Ext2 a l μ μ') ⟨none, [], rfl, rfl, rfl, (fun _ z => nomatch z), updM_same, P2.new hpz, (S1.trans S2).new hpz⟩ (fun _ _ _ _ _ => trivial) ?_ ?_
    · rintro i x acc τ μ' W hx ⟨o, zs, rfl, rfl, hzl, hz, hm, P3, S3⟩ hW
      have hi : i < 1 + c := by rw [← hlen]; exact (List.getElem?_eq_some_iff.mp hx).1
      refine brT rfl ⟨a, l, 4, rfl, P3, by decide, by decide, fun v μ4 hv P4 S4 => ?_⟩
      have hm4 := S4 pz _ hne.1.symm hne.2.symm hm
      refine ⟨hm4, by rw [List.length_map]; exact small1000 (by omega), hW _ _ _ ⟨_, zs ++ [1 + v], rfl, by rw [List.map_append]; rfl, by rw [List.length_append, hzl]; rfl, ?_, updM_same, P4.other hne.1 hne.2, ?_⟩⟩
      · intro z h
        rcases List.mem_append.mp h with h | h
        · exact hz z h
        · rw [List.mem_singleton.mp h]; omega
      · exact (S3.trans S4).put ((S1.trans S2).none hne.1 hne.2 hpz)
    · rintro acc τ μ' ⟨o, zs, rfl, rfl, hzl, hz, hm, P3, S3⟩
      exact hW' _ _ ⟨pz, zs, rfl, hm, hne.1, hne.2, by omega, by omega, hz, P3, S3⟩
  rintro τ μ2 ⟨pz, zs, rfl, hz, ha, hl, hz0, hz3, hzs, P2, S2⟩
  intro pp hpp
  have hpp1 := P2.ne hpp
  have hppz : pz ≠ pp := ne_kn hz hpp
  refine seq_i (fun τ μ' => ∃ (o4 o5 o6 o7 o8 o9 : Option AV) (ps : Prg), τ = [some (.R a), some (natA sw), some (.R pz), some (.R pp), o4, o5, o6, o7, o8, o9] ∧ μ' pp = some (.lst (ps.map prcA)) ∧ ps.length = zs.length ∧ (∀ p ∈ ps, (1 ≤ p.length ∧ p.length ≤ 4) ∧ ∀ s ∈ p, StpOk sw zs.length p.length s) ∧ Pot μ' a l ∧ Ext2 a l μ μ') (fun W' hW' => ?_) ?_
  · refine opt_i (items_R (by rw [updM_ne hppz]; exact hz)) ?_
    refine for_i (fun i τ μ' => ∃ (o4 o5 o6 o7 o8 o9 : Option AV) (ps : Prg), τ = [some (.R a), some (natA sw), some (.R pz), some (.R pp), o4, o5, o6, o7, o8, o9] ∧ μ' pp = some (.lst (ps.map prcA)) ∧ ps.length = i ∧ (∀ p ∈ ps, (1 ≤ p.length ∧ p.length ≤ 4) ∧ ∀ s ∈ p, StpOk sw zs.length p.length s) ∧ μ' pz = some (.lst (zs.map natA)) ∧ Pot μ' a l ∧ Ext2 a l μ μ')
      ⟨none, none, none, none, none, none, [], rfl, updM_same, rfl, (fun _ z => nomatch z), by rw [updM_ne hppz]; exact hz, P2.new hpp, S2.new hpp⟩ ?_ ?_ ?_
    · rintro i τ μ' ⟨o4, o5, o6, o7, o8, o9, ps, rfl, h1, h2, h3, h4, h5, h6⟩
      exact items_R h4
    · rintro i x τ μ' W hx ⟨o4, o5, o6, o7, o8, o9, ps, rfl, h1, h2, h3, h4, h5, h6⟩ hW
      rw [List.getElem?_map] at hx
      obtain ⟨z, hzi, rfl⟩ := Option.map_eq_some_iff.mp hx
      have hi : i < zs.length := (List.getElem?_eq_some_iff.mp hzi).1
      have hz14 := hzs z (List.mem_of_getElem? hzi)
      intro pst hpst
      have hst1 := h5.ne hpst
      have hstz : pz ≠ pst := ne_kn h4 hpst
      have hstp : pp ≠ pst := ne_kn h1 hpst
      refine seq_i (fun τ μ'' => ∃ (o6 o7 o8 o9 : Option AV) (st : List Stp), τ = [some (.R a), some (natA sw), some (.R pz), some (.R pp), some (natA z), some (.R pst), o6, o7, o8, o9] ∧ μ'' pst = some (.lst (st.map stpA)) ∧ st.length = z ∧ (∀ s ∈ st, StpOk sw zs.length z s) ∧ Pot μ'' a l ∧ Ext2 a l μ' μ'') (fun W3 hW3 => ?_) ?_
      · refine ⟨by omega, by omega, ?_⟩
        have hlen : (rngA 0 (z : Int).toNat).length = z := by rw [rngA_length]; omega
        refine for_i (fun j τ μ'' => ∃ (o6 o7 o8 o9 : Option AV) (st : List Stp), τ = [some (.R a), some (natA sw), some (.R pz), some (.R pp), some (natA z), some (.R pst), o6, o7, o8, o9] ∧ μ'' pst = some (.lst (st.map stpA)) ∧ st.length = j ∧ (∀ s ∈ st, StpOk sw zs.length z s) ∧ Pot μ'' a l ∧ Ext2 a l μ' μ'')
          ⟨o6, o7, o8, o9, [], rfl, updM_same, rfl, (fun _ z => nomatch z), h5.new hpst, Ext2.refl.new hpst⟩ (fun _ _ _ _ => trivial) ?_ ?_
        · rintro j x τ μ3 W4 hx ⟨o6, o7, o8, o9, st, rfl, k1, k2, k3, k4, k5⟩ hW4
          have hj : j < z := by rw [← hlen]; exact (List.getElem?_eq_some_iff.mp hx).1
          intro pw hpw
          have hpw1 := k4.ne hpw
          have hstw : pst ≠ pw := ne_kn k1 hpw
          have fin : ∀ (s : Stp) (μ4 : M) (o6 o7 o8 o9 : Option AV), StpOk sw zs.length z s → Pot μ4 a l → Ext2 a l (updM μ3 pw (.lst [.D (.str "ask"), .D (.str "call"), .D (.str "chance"), .D (.str "back"), .D (.str "mark"), .D (.str "call"), .D (.str "set"), .D (.str "if"), .D (.str "set")])) μ4 →
              (isLst μ4 (.R pst) ∧ opt (μ4 pst) fun m => match m with
                | .lst ys => ys.length < sizeLine ∧ W4 [some (.R a), some (natA sw), some (.R pz), some (.R pp), some (natA z), some (.R pst), o6, o7, o8, o9] (updM μ4 pst (.lst (ys ++ [stpA s])))
                | _ => False) := by
            intro s μ4 o6 o7 o8 o9 hs p4 s4
            have g1 := s4 pst _ hst1.1.symm hst1.2.symm (by rw [updM_ne hstw]; exact k1)
            refine ⟨opt_i g1 trivial, opt_i g1 ⟨by rw [List.length_map]; exact small1000 (by omega), hW4 _ _ ⟨o6, o7, o8, o9, st ++ [s], rfl, by rw [updM_same, List.map_append]; rfl, by rw [List.length_append, k2]; rfl, ?_, p4.other hst1.1 hst1.2, ?_⟩⟩⟩
            · intro t ht
              rcases List.mem_append.mp ht with ht | ht
              · exact k3 t ht
              · rw [List.mem_singleton.mp ht]; exact hs
            · exact ((k5.new hpw).trans s4).put hpst
          refine seq_i (fun τ μ4 => ∃ (o9 : Option AV) (wd : Wd), τ = [some (.R a), some (natA sw), some (.R pz), some (.R pp), some (natA z), some (.R pst), some x, some (.R pw), some (.D (.str wd.word)), o9] ∧ (wd.sw = true → (sw : Int) ≠ 0) ∧ Pot μ4 a l ∧ Ext2 a l (updM μ3 pw (.lst [.D (.str "ask"), .D (.str "call"), .D (.str "chance"), .D (.str "back"), .D (.str "mark"), .D (.str "call"), .D (.str "set"), .D (.str "if"), .D (.str "set")])) μ4) (fun W5 hW5 => ?_) ?_
          · refine ⟨.inl ⟨by decide, by decide⟩, a, l, 6 + 3 * sw, rfl, k4.new hpw, by omega, by omega, fun v μ5 hv P5 S5 => ?_⟩
            have g1 := S5 pw _ hpw1.1.symm hpw1.2.symm updM_same
            refine opt_i g1 ?_
            have hv9 : v = 0 ∨ v = 1 ∨ v = 2 ∨ v = 3 ∨ v = 4 ∨ v = 5 ∨ v = 6 ∨ v = 7 ∨ v = 8 := by omega
            have h1 : 6 ≤ v → (sw : Int) ≠ 0 := fun h => by omega
            rcases hv9 with rfl | rfl | rfl | rfl | rfl | rfl | rfl | rfl | rfl
            · exact opt_i rfl (hW5 _ _ ⟨o9, .ask, rfl, (fun z => nomatch z), P5, S5⟩)
            · exact opt_i rfl (hW5 _ _ ⟨o9, .call, rfl, (fun z => nomatch z), P5, S5⟩)
            · exact opt_i rfl (hW5 _ _ ⟨o9, .chance, rfl, (fun z => nomatch z), P5, S5⟩)
            · exact opt_i rfl (hW5 _ _ ⟨o9, .back, rfl, (fun z => nomatch z), P5, S5⟩)
            · exact opt_i rfl (hW5 _ _ ⟨o9, .mark, rfl, (fun z => nomatch z), P5, S5⟩)
            · exact opt_i rfl (hW5 _ _ ⟨o9, .call, rfl, (fun z => nomatch z), P5, S5⟩)
            · exact opt_i rfl (hW5 _ _ ⟨o9, .set, rfl, (fun _ => h1 (by decide)), P5, S5⟩)
            · exact opt_i rfl (hW5 _ _ ⟨o9, .iff, rfl, (fun _ => h1 (by decide)), P5, S5⟩)
            · exact opt_i rfl (hW5 _ _ ⟨o9, .set, rfl, (fun _ => h1 (by decide)), P5, S5⟩)
          · rintro τ μ4 ⟨o9, wd, rfl, hws, P4, S4⟩
            cases wd with
            | ask =>
              refine opt_i rfl ⟨eqOk_str (wOk _), okA3, brT (w3 .ask) ⟨a, l, z, rfl, P4, by omega, by omega, fun x1 μ5 hx1 P5 S5 => ⟨a, l, z, rfl, P5, by omega, by omega, fun x2 μ6 hx2 P6 S6 => ?_⟩⟩⟩
              exact wNe lc (wcall .ask) (wNe ls (wset .ask) (fin ⟨.ask, [x1, x2]⟩ _ _ _ _ _ ⟨rfl, fit_of hws (all2 (Int.ofNat_lt.mpr hx1) (Int.ofNat_lt.mpr hx2))⟩ P6 ((S4.trans S5).trans S6)))
            | chance =>
              refine opt_i rfl ⟨eqOk_str (wOk _), okA3, brT (w3 .chance) ⟨a, l, z, rfl, P4, by omega, by omega, fun x1 μ5 hx1 P5 S5 => ⟨a, l, z, rfl, P5, by omega, by omega, fun x2 μ6 hx2 P6 S6 => ?_⟩⟩⟩
              exact wNe lc (wcall .chance) (wNe ls (wset .chance) (fin ⟨.chance, [x1, x2]⟩ _ _ _ _ _ ⟨rfl, fit_of hws (all2 (Int.ofNat_lt.mpr hx1) (Int.ofNat_lt.mpr hx2))⟩ P6 ((S4.trans S5).trans S6)))
            | iff =>
              refine opt_i rfl ⟨eqOk_str (wOk _), okA3, brT (w3 .iff) ⟨a, l, z, rfl, P4, by omega, by omega, fun x1 μ5 hx1 P5 S5 => ⟨a, l, z, rfl, P5, by omega, by omega, fun x2 μ6 hx2 P6 S6 => ?_⟩⟩⟩
              exact wNe lc (wcall .iff) (wNe ls (wset .iff) (fin ⟨.iff, [x1, x2]⟩ _ _ _ _ _ ⟨rfl, fit_of hws (all2 (Int.ofNat_lt.mpr hx1) (Int.ofNat_lt.mpr hx2))⟩ P6 ((S4.trans S5).trans S6)))
            | call =>
              have gz0 := k5 pz _ ha.symm hl.symm h4
              have gz : μ4 pz = some (.lst (zs.map natA)) := S4 pz _ ha.symm hl.symm (by rw [updM_ne (ne_kn gz0 hpw)]; exact gz0)
              refine opt_i rfl ⟨eqOk_str (wOk _), okA3, brF (w3 .call) (wEq lc (wcall .call) (opt_i gz ⟨a, l, zs.length, ?_, P4, hz0, by omega, fun x1 μ5 hx1 P5 S5 => ?_⟩))⟩
              · rw [List.length_map]
              · exact wNe ls (wset .call) (fin ⟨.call, [x1]⟩ _ _ _ _ _ ⟨rfl, fit_of hws (all1 (Int.ofNat_lt.mpr hx1))⟩ P5 (S4.trans S5))
            | set =>
              refine opt_i rfl ⟨eqOk_str (wOk _), okA3, brF (w3 .set) (wNe lc (wcall .set) (wEq ls (wset .set) ⟨a, l, 2, rfl, P4, by decide, by decide, fun x1 μ5 hx1 P5 S5 => ?_⟩))⟩
              exact fin ⟨.set, [x1]⟩ _ _ _ _ _ ⟨rfl, fit_of hws (all1 (show (x1 : Int) < 2 by omega))⟩ P5 (S4.trans S5)
            | back => exact opt_i rfl ⟨eqOk_str (wOk _), okA3, brF (w3 .back) (wNe lc (wcall .back) (wNe ls (wset .back) (fin ⟨.back, []⟩ _ _ _ _ _ ⟨rfl, fit_of hws (fun _ z => nomatch z)⟩ P4 S4)))⟩
            | mark => exact opt_i rfl ⟨eqOk_str (wOk _), okA3, brF (w3 .mark) (wNe lc (wcall .mark) (wNe ls (wset .mark) (fin ⟨.mark, []⟩ _ _ _ _ _ ⟨rfl, fit_of hws (fun _ z => nomatch z)⟩ P4 S4)))⟩
        · rintro τ μ3 ⟨o6, o7, o8, o9, st, rfl, k1, k2, k3, k4, k5⟩
          rw [hlen] at k2
          exact hW3 _ _ ⟨o6, o7, o8, o9, st, rfl, k1, k2, k3, k4, k5⟩
      · rintro τ μ3 ⟨o6, o7, o8, o9, st, rfl, k1, k2, k3, k4, k5⟩
        have g1 := k5 pp _ hpp1.1.symm hpp1.2.symm h1
        refine ⟨opt_i g1 trivial, opt_i (items_R k1) (opt_i (dats_stp st) (opt_i g1 ⟨by rw [List.length_map]; exact small1000 (by omega), hW _ _ ⟨_, _, _, _, _, _, ps ++ [st], rfl, by rw [updM_same, List.map_append]; rfl, by rw [List.length_append, h2]; rfl, ?_, by rw [updM_ne hppz]; exact k5 pz _ ha.symm hl.symm h4, k4.other hpp1.1 hpp1.2, ?_⟩⟩))⟩
        · intro p hp
          rcases List.mem_append.mp hp with hp | hp
          · exact h3 p hp
          · rw [List.mem_singleton.mp hp, k2]; exact ⟨hz14, k3⟩
        · exact (h6.trans k5).put (S2.none hpp1.1 hpp1.2 hpp)
    · rintro τ μ' ⟨o4, o5, o6, o7, o8, o9, ps, rfl, h1, h2, h3, h4, h5, h6⟩
      rw [List.length_map] at h2
      exact hW' _ _ ⟨o4, o5, o6, o7, o8, o9, ps, rfl, h1, h2, h3, h5, h6⟩
  · rintro τ μ' ⟨o4, o5, o6, o7, o8, o9, ps, rfl, h1, h2, h3, h5, h6⟩
    refine opt_i (items_R h1) (opt_i (dats_prc ps) ⟨_, Sub.refl, q sw ps _ ⟨by omega, fun p hp => ⟨(h3 p hp).1.2, fun s hs => ((h3 p hp).2 s hs).1⟩⟩ ?_ h5 h6⟩)
    have hsz : sizes sw ps = true := by
      unfold sizes
      rw [decide_eq_true (show (0 : Int) ≤ sw ∧ (sw : Int) < 2 by omega), decide_eq_true (show 1 ≤ ps.length ∧ ps.length ≤ 3 by omega)]
      exact List.all_eq_true.mpr fun p hp => decide_eq_true (h3 p hp).1
    unfold wrong
    rw [if_pos hsz, badP_none 0 fun p hp s hs => ?_]
    · rfl
    · rw [h2]; exact ((h3 p hp).2 s hs).2
end
section
variable {P : Program} {w : World} {K : PySem.W.Frag} {mg : Str → Option Value} {base : Heap} {f : Addr} {fd : FuncData}
theorem ins_all {α : Type} {Q : α → Prop} {m : Nat} {xs : List α} (h : xs.length ≤ m ∧ ∀ x ∈ xs, Q x) {y : α} (hy : Q y) {k j : Nat} (hkj : k ≤ j) : (xs.take k ++ [y] ++ xs.drop j).length ≤ m + 1 ∧ ∀ x ∈ xs.take k ++ [y] ++ xs.drop j, Q x := by
  constructor
  · rw [List.length_append, List.length_append, List.length_take, List.length_drop, List.length_singleton]
    have := h.1
    omega
  · intro x hx
    rcases List.mem_append.mp hx with hx | hx
    · rcases List.mem_append.mp hx with hx | hx
      · exact h.2 x (List.mem_of_mem_take hx)
      · rw [List.mem_singleton.mp hx]; exact hy
    · exact h.2 x (List.mem_of_mem_drop hx)
theorem del_all {α : Type} {Q : α → Prop} {m : Nat} {xs : List α} (h : xs.length ≤ m ∧ ∀ x ∈ xs, Q x) (k j : Nat) (hkj : k ≤ j) : (xs.take k ++ xs.drop j).length ≤ m + 1 ∧ ∀ x ∈ xs.take k ++ xs.drop j, Q x := by
  constructor
  · rw [List.length_append, List.length_take, List.length_drop]
    have := h.1
    omega
  · intro x hx
    rcases List.mem_append.mp hx with hx | hx
    · exact h.2 x (List.mem_of_mem_take hx)
    · exact h.2 x (List.mem_of_mem_drop hx)
theorem PrgLe.up {m : Nat} {ps : Prg} (h : PrgLe m ps) : ps.length ≤ m ∧ ∀ p ∈ ps, p.length ≤ m + 1 ∧ ∀ s ∈ p, s.as.length = s.w.ar := ⟨h.1, fun p hp => ⟨Nat.le_succ_of_le (h.2 p hp).1, (h.2 p hp).2⟩⟩
theorem PrgLe.succ {m : Nat} {ps : Prg} (h : PrgLe m ps) : PrgLe (m + 1) ps := ⟨Nat.le_succ_of_le h.1, h.up.2⟩
theorem ar2 (w : Wd) : w.ar ≤ 2 := by cases w <;> decide
theorem as_cases {s : Stp} (h : s.as.length = s.w.ar) : s.as = [] ∨ (∃ x, s.as = [x]) ∨ ∃ x y, s.as = [x, y] := by
  have h2 := ar2 s.w
  rw [← h] at h2
  match hs : s.as with
  | [] => exact .inl rfl
  | [x] => exact .inr (.inl ⟨x, rfl⟩)
  | [x, y] => exact .inr (.inr ⟨x, y, rfl⟩)
  | _ :: _ :: _ :: _ => rw [hs] at h2; simp at h2
abbrev nOs : List Str := ["_law_pot_here", "_law_step", "_law_k", "_law_value"]
theorem scOs : FnScope nOs ["_law_pot_here", "_law_step"] (defScope sOs) := ⟨rfl, rfl, rfl, by decide +kernel, rfl, by decide +kernel, by decide +kernel⟩
def spOs : ASp := fun xs μ R => ∃ (a l : Addr) (s : Stp), xs = [.R a, .D s.D] ∧ s.as.length = s.w.ar ∧ Pot μ a l ∧ ∀ (s' : Stp) (μ' : M), s'.as.length = s'.w.ar → Pot μ' a l → Ext2 a l μ μ' → R (.D s'.D) μ'
theorem ok_os {n : Nat} (F : Fun K "_law_other_step" "_law_other_step" sOs f fd) (cDr : VCal P w K mg base n "_law_draw" ["_law_pot_here", "_law_many"] spDr) (m_len : mg "len" = none) : FnOk P w K mg base CX0 (n + 1) f fd ["_law_pot_here", "_law_step"] (cSp K 2 spOs) := by
  refine F.vok scOs fun cdv A outer s H E hr => ⟨_, (vss_cons (vs_if (vt_cmp (o_eq hr) (ve_callB c_len rfl m_len PySem.boot_len (va_cons (vv 1) va_nil)) ve_int (nomark _)) (vss_one (vs_ret (ve_ix i_ix (ve_lst (va_cons (ve_tup (va_cons ve_str (va_cons ve_int va_nil))) (va_cons (ve_tup (va_cons ve_str (va_cons ve_int (va_cons ve_int va_nil)))) (va_cons (ve_tup (va_cons ve_str (va_cons ve_int (va_cons ve_int va_nil)))) (va_cons (ve_tup (va_cons ve_str (va_cons ve_int va_nil))) va_nil))))) (ve_call cDr hr rfl (va_cons (vv 0) (va_cons ve_int va_nil)))))) vss_nil)
      (vss_cons (vs_set (i := 2) scOs.nd rfl (Or.inl rfl) (ve_op o_add ve_int (ve_call cDr hr rfl (va_cons (vv 0) (va_cons (ve_op o_sub (ve_callB c_len rfl m_len PySem.boot_len (va_cons (vv 1) va_nil)) ve_int) va_nil)))))
      (vss_cons (vs_set (i := 3) scOs.nd rfl (Or.inl rfl) (ve_ix i_ix (ve_lst (va_cons (ve_op o_add (ve_ix i_ix (vv 1) (vv 2)) ve_int) (va_cons (ve_op o_sub (ve_ix i_ix (vv 1) (vv 2)) ve_int) (va_cons ve_int (va_cons (ve_op o_sub ve_int ve_int) (va_cons (ve_op o_pow ve_int ve_int) (va_cons (ve_call cDr hr rfl (va_cons (vv 0) (va_cons ve_int va_nil))) va_nil))))))) (ve_call cDr hr rfl (va_cons (vv 0) (va_cons ve_int va_nil)))))
      (vss_one (vs_ret (ve_op o_add (ve_op o_add (ve_slice (vv 1) vo_none (vo_some (vv 2))) (ve_tup (va_cons (vv 3) va_nil))) (ve_slice (vv 1) (vo_some (ve_op o_add (vv 2) ve_int)) vo_none))))))), ?_⟩
  rintro xs μ R _ ⟨a, l, s, rfl, hs, hP, q⟩
  obtain ⟨wd, as⟩ := s
  have hc := as_cases hs
  dsimp only at hs hc
  have val : ∀ (k : Nat) (dk : Int) (μ1 : M) (W : ASt → M → Prop), atI (PyData.str wd.word :: as.map .int) ((1 : Int) + k) = some (.int dk) → Pot μ1 a l → Ext2 a l μ μ1 → (∀ (v : Int) (μ2 : M), Pot μ2 a l → Ext2 a l μ μ2 → W [some (.R a), some (.D (Stp.D ⟨wd, as⟩)), some (.D (.int ((1 : Int) + k))), some (.D (.int v))] μ2) →
      vAsg (vOp aIx (vLst (vCons (vOp aAdd (vOp aIx (vVar 1) (vVar 2)) (vC (.D (.int 1)))) (vCons (vOp aSub (vOp aIx (vVar 1) (vVar 2)) (vC (.D (.int 1)))) (vCons (vC (.D (.int 4))) (vCons (vOp aSub (vC (.D (.int 0))) (vC (.D (.int 1)))) (vCons (vOp aPow (vC (.D (.int 10))) (vC (.D (.int 9)))) (vCons (vCall 2 spDr (vCons (vVar 0) (vCons (vC (.D (.int 4))) vNil))) vNil))))))) (vCall 2 spDr (vCons (vVar 0) (vCons (vC (.D (.int 6))) vNil)))) (wName 3) W (aRt R) aNo aNo [some (.R a), some (.D (Stp.D ⟨wd, as⟩)), some (.D (.int ((1 : Int) + k))), none] μ1 := by
    intro k dk μ1 W hk P1 S1 hW
    refine opt_i hk (opt_i hk ⟨⟨by decide, by decide, by decide⟩, a, l, 4, rfl, P1, by decide, by decide, fun d μ2 hd P2 S2 => ?_⟩)
    intro p hp
    have hne := P2.ne hp
    refine ⟨a, l, 6, rfl, P2.new hp, by decide, by decide, fun v μ3 hv P3 S3 => ?_⟩
    have g := S3 p _ hne.1.symm hne.2.symm updM_same
    have S : Ext2 a l μ μ3 := ((S1.trans S2).new hp).trans S3
    refine opt_i g ?_
    have hv6 : v = 0 ∨ v = 1 ∨ v = 2 ∨ v = 3 ∨ v = 4 ∨ v = 5 := by omega
    rcases hv6 with rfl | rfl | rfl | rfl | rfl | rfl <;> exact opt_i rfl (hW _ _ P3 S)
  rcases hc with rfl | ⟨x, rfl⟩ | ⟨x, y, rfl⟩
  · refine seq_d (ieq (fun _ => ?_) (fun c => absurd rfl c))
    intro p hp
    have hne := hP.ne hp
    refine ⟨a, l, 4, rfl, hP.new hp, by decide, by decide, fun v μ1 hv P1 S1 => ?_⟩
    have g := S1 p _ hne.1.symm hne.2.symm updM_same
    have S : Ext2 a l μ μ1 := (Ext2.refl.new hp).trans S1
    refine opt_i g ?_
    have hv4 : v = 0 ∨ v = 1 ∨ v = 2 ∨ v = 3 := by omega
    rcases hv4 with rfl | rfl | rfl | rfl
    · exact opt_i rfl ⟨_, Sub.refl, q ⟨.set, [1]⟩ _ rfl P1 S⟩
    · exact opt_i rfl ⟨_, Sub.refl, q ⟨.iff, [0, 0]⟩ _ rfl P1 S⟩
    · exact opt_i rfl ⟨_, Sub.refl, q ⟨.ask, [0, 4]⟩ _ rfl P1 S⟩
    · exact opt_i rfl ⟨_, Sub.refl, q ⟨.call, [3]⟩ _ rfl P1 S⟩
  · refine seq_d (ieq (fun c => absurd c (show ¬ ((2 : Int) = 1) by decide)) (fun _ => ?_))
    refine seq_d ⟨a, l, 1, rfl, hP, by decide, by decide, fun k μ1 hk P1 S1 => ?_⟩
    obtain rfl : k = 0 := by omega
    refine seq_d (val 0 x μ1 _ rfl P1 S1 fun v μ2 P2 S2 => ?_)
    exact ⟨seven (n := 2) (by decide), seven (n := 2) (by decide), _, Sub.refl, q ⟨wd, [v]⟩ _ hs P2 S2⟩
  · refine seq_d (ieq (fun c => absurd c (show ¬ ((3 : Int) = 1) by decide)) (fun _ => ?_))
    refine seq_d ⟨a, l, 2, rfl, hP, by decide, by decide, fun k μ1 hk P1 S1 => ?_⟩
    have hk2 : k = 0 ∨ k = 1 := by omega
    rcases hk2 with rfl | rfl
    · refine seq_d (val 0 x μ1 _ rfl P1 S1 fun v μ2 P2 S2 => ?_)
      exact ⟨seven (n := 2) (by decide), seven (n := 3) (by decide), _, Sub.refl, q ⟨wd, [v, y]⟩ _ hs P2 S2⟩
    · refine seq_d (val 1 y μ1 _ rfl P1 S1 fun v μ2 P2 S2 => ?_)
      exact ⟨seven (n := 3) (by decide), seven (n := 3) (by decide), _, Sub.refl, q ⟨wd, [x, v]⟩ _ hs P2 S2⟩
end
section
variable {P : Program} {w : World} {K : PySem.W.Frag} {mg : Str → Option Value} {base : Heap} {f : Addr} {fd : FuncData}
abbrev nSp : List Str := ["_law_pot_here", "_law_program_here", "_law_switches", "_law_procedures", "_law_way", "_law_at", "_law_steps", "_law_k"]
theorem scSp : FnScope nSp ["_law_pot_here", "_law_program_here"] (defScope sSp) := ⟨rfl, rfl, rfl, by decide +kernel, rfl, by decide +kernel, by decide +kernel⟩
def spSp : ASp := fun xs μ R => ∃ (a l : Addr) (m : Nat) (sw : Int) (ps : Prg), xs = [.R a, .D (prgD sw ps)] ∧ PrgLe m ps ∧ m ≤ 50 ∧ Pot μ a l ∧ ∀ (sw' : Int) (ps' : Prg) (μ' : M), PrgLe (m + 1) ps' → Pot μ' a l → Ext2 a l μ μ' → R (.D (prgD sw' ps')) μ'
theorem ins_D {α : Type} (g : α → PyData) (xs : List α) (y : α) (k : Nat) {j : Int} (j' : Nat) (hj : j = j') : cutD (xs.map g) none (some (k : Int)) ++ [g y] ++ cutD (xs.map g) (some j) none = (xs.take k ++ [y] ++ xs.drop j').map g := by
  subst hj
  rw [cutD_take, cutD_drop, List.map_append, List.map_append]; rfl
theorem del_D {α : Type} (g : α → PyData) (xs : List α) (k : Nat) {j : Int} (j' : Nat) (hj : j = j') : cutD (xs.map g) none (some (k : Int)) ++ cutD (xs.map g) (some j) none = (xs.take k ++ xs.drop j').map g := by
  subst hj
  rw [cutD_take, cutD_drop, List.map_append]
theorem cut_le {ds : List PyData} {lo hi : Option Int} : (cutD ds lo hi).length ≤ ds.length := by
  unfold cutD
  rw [List.length_take, List.length_drop]; omega
theorem cat_le1 {xs ds : List PyData} {lo hi lo' hi' : Option Int} {m : Nat} (h : ds.length ≤ m) (hx : xs.length = 1) (hm : m ≤ 100) : (cutD ds lo hi).length + xs.length ≤ sizeLine ∧ (cutD ds lo hi ++ xs).length + (cutD ds lo' hi').length ≤ sizeLine := by
  have a := cut_le (ds := ds) (lo := lo) (hi := hi)
  have b := cut_le (ds := ds) (lo := lo') (hi := hi')
  rw [List.length_append]
  exact ⟨seven (by omega), seven (by omega)⟩
theorem cat_le0 {ds : List PyData} {lo hi lo' hi' : Option Int} {m : Nat} (h : ds.length ≤ m) (hm : m ≤ 100) : (cutD ds lo hi).length + (cutD ds lo' hi').length ≤ sizeLine := by
  have a := cut_le (ds := ds) (lo := lo) (hi := hi)
  have b := cut_le (ds := ds) (lo := lo') (hi := hi')
  exact seven (by omega)
theorem ok_sp {n : Nat} (F : Fun K "_law_spoilt" "_law_spoilt" sSp f fd) (cDr : VCal P w K mg base n "_law_draw" ["_law_pot_here", "_law_many"] spDr) (cOs : VCal P w K mg base n "_law_other_step" ["_law_pot_here", "_law_step"] spOs) (m_len : mg "len" = none) : FnOk P w K mg base CX0 (n + 1) f fd ["_law_pot_here", "_law_program_here"] (cSp K 2 spSp) := by
  refine F.vok scSp fun cdv A outer s H E hr => ⟨_, (vss_cons (vs_asg (vv 1) (vg_tup (n := 2) rfl (vgs_cons (vg_name (i := 2) scSp.nd rfl (Or.inl rfl)) (vgs_cons (vg_name (i := 3) scSp.nd rfl (Or.inl rfl)) vgs_nil))))
      (vss_cons (vs_set (i := 4) scSp.nd rfl (Or.inl rfl) (ve_call cDr hr rfl (va_cons (vv 0) (va_cons ve_int va_nil))))
      (vss_cons (vs_if (vt_cmp (o_eq hr) (vv 4) ve_int (nomark _)) (vss_one (vs_ret (ve_tup (va_cons (ve_ix i_ix (ve_lst (va_cons (ve_op o_sub ve_int (vv 2)) (va_cons ve_int (va_cons (ve_op o_sub ve_int ve_int) (va_cons (ve_op o_pow ve_int ve_int) va_nil))))) (ve_call cDr hr rfl (va_cons (vv 0) (va_cons ve_int va_nil)))) (va_cons (vv 3) va_nil))))) vss_nil)
      (vss_cons (vs_set (i := 5) scSp.nd rfl (Or.inl rfl) (ve_call cDr hr rfl (va_cons (vv 0) (va_cons (ve_op o_add (ve_callB c_len rfl m_len PySem.boot_len (va_cons (vv 3) va_nil)) ve_int) va_nil))))
      (vss_cons (vs_if (VW.pt (vw_or (vt_cmp (o_eq hr) (vv 4) ve_int (nomark _)) (vw_or1 (vt_cmp (o_eq hr) (vv 5) (ve_callB c_len rfl m_len PySem.boot_len (va_cons (vv 3) va_nil)) (nomark _))))) (vss_one (vs_ret (ve_tup (va_cons (vv 2) (va_cons (ve_op o_add (ve_op o_add (ve_slice (vv 3) vo_none (vo_some (vv 5))) (ve_tup (va_cons (ve_tup (va_cons (ve_tup (va_cons ve_str va_nil)) va_nil)) va_nil))) (ve_slice (vv 3) (vo_some (vv 5)) vo_none)) va_nil))))) vss_nil)
      (vss_cons (vs_if (vt_cmp (o_eq hr) (vv 4) ve_int (nomark _)) (vss_one (vs_ret (ve_tup (va_cons (vv 2) (va_cons (ve_op o_add (ve_slice (vv 3) vo_none (vo_some (vv 5))) (ve_slice (vv 3) (vo_some (ve_op o_add (vv 5) ve_int)) vo_none)) va_nil))))) vss_nil)
      (vss_cons (vs_set (i := 6) scSp.nd rfl (Or.inl rfl) (ve_ix i_ix (vv 3) (vv 5)))
      (vss_cons (vs_set (i := 7) scSp.nd rfl (Or.inl rfl) (ve_call cDr hr rfl (va_cons (vv 0) (va_cons (ve_op o_add (ve_callB c_len rfl m_len PySem.boot_len (va_cons (vv 6) va_nil)) ve_int) va_nil))))
      (vss_cons (vs_if (VW.pt (vw_or (vt_cmp (o_eq hr) (vv 4) ve_int (nomark _)) (vw_or1 (vt_cmp (o_eq hr) (vv 7) (ve_callB c_len rfl m_len PySem.boot_len (va_cons (vv 6) va_nil)) (nomark _))))) (vss_one (vs_set (i := 6) scSp.nd rfl (Or.inl rfl) (ve_op o_add (ve_op o_add (ve_slice (vv 6) vo_none (vo_some (vv 7))) (ve_tup (va_cons (ve_tup (va_cons ve_str va_nil)) va_nil))) (ve_slice (vv 6) (vo_some (vv 7)) vo_none)))) (vss_one (vs_if (vt_cmp (o_eq hr) (vv 4) ve_int (nomark _)) (vss_one (vs_set (i := 6) scSp.nd rfl (Or.inl rfl) (ve_op o_add (ve_slice (vv 6) vo_none (vo_some (vv 7))) (ve_slice (vv 6) (vo_some (ve_op o_add (vv 7) ve_int)) vo_none)))) (vss_one (vs_set (i := 6) scSp.nd rfl (Or.inl rfl) (ve_op o_add (ve_op o_add (ve_slice (vv 6) vo_none (vo_some (vv 7))) (ve_tup (va_cons (ve_call cOs hr rfl (va_cons (vv 0) (va_cons (ve_ix i_ix (vv 6) (vv 7)) va_nil))) va_nil))) (ve_slice (vv 6) (vo_some (ve_op o_add (vv 7) ve_int)) vo_none)))))))
      (vss_one (vs_ret (ve_tup (va_cons (vv 2) (va_cons (ve_op o_add (ve_op o_add (ve_slice (vv 3) vo_none (vo_some (vv 5))) (ve_tup (va_cons (vv 6) va_nil))) (ve_slice (vv 3) (vo_some (ve_op o_add (vv 5) ve_int)) vo_none)) va_nil)))))))))))))), ?_⟩
  rintro xs μ R _ ⟨a, l, m, sw, ps, rfl, hle, hm, hP, q⟩
  have hlen : ((ps.map prcD).length : Int) = ps.length := by rw [List.length_map]
  have hmp : (ps.map prcD).length ≤ m := by rw [List.length_map]; exact hle.1
  refine seq_d (asg_tup2 rfl ?_)
  refine seq_d ⟨a, l, 8, rfl, hP, by decide, by decide, fun wy μ1 hwy P1 S1 => ?_⟩
  refine seq_i (fun τ μ' => τ = [some (.R a), some (.D (prgD sw ps)), some (.D (.int sw)), some (.D (.tuple (ps.map prcD))), some (.D (.int wy)), none, none, none] ∧ μ1 = μ') (fun W hW => ?_) ?_
  · refine ieq (fun c => ?_) (fun c => hW _ _ ⟨rfl, rfl⟩)
    refine ⟨⟨by decide, by decide, by decide⟩, fun p hp => ?_⟩
    have hne := P1.ne hp
    refine ⟨a, l, 4, rfl, P1.new hp, by decide, by decide, fun v μ2 hv P2 S2 => ?_⟩
    have g := S2 p _ hne.1.symm hne.2.symm updM_same
    have S : Ext2 a l μ μ2 := (S1.new hp).trans S2
    refine opt_i g ?_
    have hv4 : v = 0 ∨ v = 1 ∨ v = 2 ∨ v = 3 := by omega
    rcases hv4 with rfl | rfl | rfl | rfl <;> exact opt_i rfl ⟨_, Sub.refl, q _ ps _ hle.succ P2 S⟩
  rintro τ μ' ⟨rfl, rfl⟩
  refine seq_d ⟨a, l, ps.length + 1, by rw [hlen]; rfl, P1, by omega, by have := hle.1; omega, fun ia μ2 hia P2 S2 => ?_⟩
  have S2' := S1.trans S2
  refine seq_i (fun τ μ' => τ = [some (.R a), some (.D (prgD sw ps)), some (.D (.int sw)), some (.D (.tuple (ps.map prcD))), some (.D (.int wy)), some (.D (.int ia)), none, none] ∧ μ2 = μ' ∧ ia < ps.length) (fun W hW => ?_) ?_
  · have hA : ∀ d : PyData, d = prgD sw (ps.take ia ++ [[⟨.back, []⟩]] ++ ps.drop ia) → aRt R (.D d) μ2 := by
      rintro d rfl
      exact ⟨_, Sub.refl, q sw _ _ (ins_all hle.up (y := [⟨.back, []⟩]) ⟨by show 1 ≤ m + 1; omega, fun s hs => by rw [List.mem_singleton.mp hs]; rfl⟩ (Nat.le_refl _)) P2 S2'⟩
    have e : PyData.tuple [.int sw, .tuple (cutD (ps.map prcD) none (some (ia : Int)) ++ [.tuple [.tuple [.str "back"]]] ++ cutD (ps.map prcD) (some (ia : Int)) none)] = prgD sw (ps.take ia ++ [[⟨.back, []⟩]] ++ ps.drop ia) := by
      unfold prgD
      rw [← ins_D prcD ps [⟨.back, []⟩] ia ia rfl]; rfl
    have b := cat_le1 (ds := ps.map prcD) (xs := [.tuple [.tuple [.str "back"]]]) (lo := none) (hi := some (ia : Int)) (lo' := some (ia : Int)) (hi' := none) hmp rfl (by omega)
    refine ieq (fun c => brT rfl ⟨b.1, b.2, hA _ e⟩) (fun c => ieq (fun c2 => ⟨b.1, b.2, hA _ e⟩) (fun c2 => hW _ _ ⟨rfl, rfl, ?_⟩))
    rw [hlen] at c2; omega
  rintro τ μ' ⟨rfl, rfl, hia2⟩
  refine seq_i (fun τ μ' => τ = [some (.R a), some (.D (prgD sw ps)), some (.D (.int sw)), some (.D (.tuple (ps.map prcD))), some (.D (.int wy)), some (.D (.int ia)), none, none] ∧ μ2 = μ') (fun W hW => ?_) ?_
  · refine ieq (fun c => ⟨cat_le0 hmp (by omega), _, Sub.refl, ?_⟩) (fun c => hW _ _ ⟨rfl, rfl⟩)
    have z := q sw _ _ (del_all hle.up ia (ia + 1) (Nat.le_succ _)) P2 S2'
    unfold prgD at z
    rw [← del_D prcD ps ia (ia + 1) rfl] at z
    exact z
  rintro τ μ' ⟨rfl, rfl⟩
  obtain ⟨p, hp⟩ : ∃ p, ps[ia]? = some p := ⟨_, List.getElem?_eq_getElem hia2⟩
  have hpo := hle.2 p (List.mem_of_getElem? hp)
  have hpl : ((p.map Stp.D).length : Int) = p.length := by rw [List.length_map]
  have hpm : (p.map Stp.D).length ≤ m := by rw [List.length_map]; exact hpo.1
  refine seq_d (opt_i (atI_nat (j := ia) (v := prcD p) (by rw [List.getElem?_map, hp]; rfl)) ?_)
  refine seq_d ⟨a, l, p.length + 1, by rw [hpl]; rfl, P2, by omega, by omega, fun k μ3 hk P3 S3 => ?_⟩
  have S3' := S2'.trans S3
  refine seq_i (fun τ μ' => ∃ p' : List Stp, τ = [some (.R a), some (.D (prgD sw ps)), some (.D (.int sw)), some (.D (.tuple (ps.map prcD))), some (.D (.int wy)), some (.D (.int ia)), some (.D (prcD p')), some (.D (.int k))] ∧ (p'.length ≤ m + 1 ∧ ∀ s ∈ p', s.as.length = s.w.ar) ∧ Pot μ' a l ∧ Ext2 a l μ μ') (fun W hW => ?_) ?_
  · have hB : ∀ d : PyData, d = prcD (p.take k ++ [⟨.mark, []⟩] ++ p.drop k) → W [some (.R a), some (.D (prgD sw ps)), some (.D (.int sw)), some (.D (.tuple (ps.map prcD))), some (.D (.int wy)), some (.D (.int ia)), some (.D d), some (.D (.int k))] μ3 := by
      rintro d rfl
      exact hW _ _ ⟨_, rfl, ins_all hpo (y := ⟨.mark, []⟩) rfl (Nat.le_refl _), P3, S3'⟩
    have e : PyData.tuple (cutD (p.map Stp.D) none (some (k : Int)) ++ [.tuple [.str "mark"]] ++ cutD (p.map Stp.D) (some (k : Int)) none) = prcD (p.take k ++ [⟨.mark, []⟩] ++ p.drop k) := by
      unfold prcD
      rw [← ins_D Stp.D p ⟨.mark, []⟩ k k rfl]; rfl
    have b := cat_le1 (ds := p.map Stp.D) (xs := [.tuple [.str "mark"]]) (lo := none) (hi := some (k : Int)) (lo' := some (k : Int)) (hi' := none) hpm rfl (by omega)
    refine ieq (fun c => brT rfl ⟨b.1, b.2, hB _ e⟩) (fun c => ieq (fun c2 => ⟨b.1, b.2, hB _ e⟩) (fun c2 => ?_))
    have hk2 : k < p.length := by rw [hpl] at c2; omega
    refine ieq (fun c3 => ⟨cat_le0 hpm (by omega), hW _ _ ⟨p.take k ++ p.drop (k + 1), ?_, del_all hpo k (k + 1) (Nat.le_succ _), P3, S3'⟩⟩) (fun c3 => ?_)
    · unfold prcD
      rw [← del_D Stp.D p k (k + 1) rfl]; rfl
    · obtain ⟨s, hs⟩ : ∃ s, p[k]? = some s := ⟨_, List.getElem?_eq_getElem hk2⟩
      refine opt_i (atI_nat (j := k) (v := s.D) (by rw [List.getElem?_map, hs]; rfl)) ⟨a, l, s, rfl, hpo.2 s (List.mem_of_getElem? hs), P3, fun s' μ4 hs' P4 S4 => ?_⟩
      have b := cat_le1 (ds := p.map Stp.D) (xs := [s'.D]) (lo := none) (hi := some (k : Int)) (lo' := some ((k : Int) + 1)) (hi' := none) hpm rfl (by omega)
      refine ⟨b.1, b.2, hW _ _ ⟨p.take k ++ [s'] ++ p.drop (k + 1), ?_, ins_all hpo hs' (Nat.le_succ _), P4, S3'.trans S4⟩⟩
      unfold prcD
      rw [← ins_D Stp.D p s' k (k + 1) rfl]; rfl
  rintro τ μ4 ⟨p', rfl, hp', P4, S4⟩
  have b := cat_le1 (ds := ps.map prcD) (xs := [prcD p']) (lo := none) (hi := some (ia : Int)) (lo' := some ((ia : Int) + 1)) (hi' := none) hmp rfl (by omega)
  refine ⟨b.1, b.2, _, Sub.refl, ?_⟩
  have z := q sw _ _ (ins_all hle.up (y := p') hp' (Nat.le_succ ia)) P4 S4
  unfold prgD at z
  rw [← ins_D prcD ps p' ia (ia + 1) rfl] at z
  exact z
end
section
variable {P : Program} {w : World} {K : PySem.W.Frag} {mg : Str → Option Value} {base : Heap} {f : Addr} {fd : FuncData}
theorem asg_x {k : ASt → M → Prop} {r : AV → M → Prop} {bb cc : ASt → M → Prop} {τ : ASt} {μ : M} {m i : Nat} {x : AV} (h : τ[m]? = some (some x)) (q : k (τ.set i (some x)) μ) : vAsg (vVar m) (wName i) k r bb cc τ μ := by
  unfold vAsg vVar
  rw [h]
  exact q
abbrev nLaw : List Str := ["_law_script", "_law_pot_here", "_law_program_here", "_law_k", "_law_other", "_law_turn"]
theorem scLaw : FnScope nLaw ["_law_script"] (defScope sLaw) := ⟨rfl, rfl, rfl, by decide +kernel, rfl, by decide +kernel, by decide +kernel⟩
def spL : ASp := fun xs _ R => ∃ ns : List Int, xs = [.D (scrD ns)] ∧ ns.length ≤ 63 ∧ ∀ μ', R (.D (.bool true)) μ'
theorem ok_lawV {n : Nat} (F : Fun K "law" "law" sLaw f fd) (cPo : VCal P w K mg base n "_law_pot" ["_law_script", "_law_base"] spPo) (cPr : VCal P w K mg base n "_law_program" ["_law_pot_here"] spPr) (cTo : VCal P w K mg base n "_law_told" ["_law_program_here"] spWr) (cDr : VCal P w K mg base n "_law_draw" ["_law_pot_here", "_law_many"] spDr)
    (cSp : VCal P w K mg base n "_law_spoilt" ["_law_pot_here", "_law_program_here"] spSp) (cAl : VCal P w K mg base n "_law_is_alike" ["_law_found", "_law_due"] spAl) (cWr : VCal P w K mg base n "_law_wrong" ["_law_program_here"] spWr) (m_range : mg "range" = none) : FnOk P w K mg base CX0 (n + 1) f fd ["_law_script"] (L2.cSp K 1 spL) := by
  refine F.vok scLaw fun cdv A outer s H E hr => ⟨_, (vss_cons (vs_set (i := 1) scLaw.nd rfl (Or.inl rfl) (ve_call cPo hr rfl (va_cons (vv 0) (va_cons ve_int va_nil))))
      (vss_cons (vs_set (i := 2) scLaw.nd rfl (Or.inl rfl) (ve_call cPr hr rfl (va_cons (vv 1) va_nil)))
      (vss_cons (vs_if (vt_cmp o_notN (ve_call cTo hr rfl (va_cons (vv 2) va_nil)) ve_non (nomark _)) (vss_one (vs_ret ve_bl)) vss_nil)
      (vss_cons (vs_for PassesOwn.never rfl (vi_range1 rfl m_range (va_cons ve_int va_nil)) (vg_name (i := 3) scLaw.nd rfl (Or.inl rfl)) (vss_cons (vs_set (i := 4) scLaw.nd rfl (Or.inl rfl) (vv 2))
      (vss_cons (vs_for PassesOwn.never rfl (vi_range1 rfl m_range (va_cons (ve_op o_add ve_int (ve_call cDr hr rfl (va_cons (vv 1) (va_cons ve_int va_nil)))) va_nil)) (vg_name (i := 5) scLaw.nd rfl (Or.inl rfl)) (vss_one (vs_set (i := 4) scLaw.nd rfl (Or.inl rfl) (ve_call cSp hr rfl (va_cons (vv 1) (va_cons (vv 4) va_nil))))))
      (vss_one (vs_if (VW.pt (vw_or (vt_not (vt_val (ve_call cAl hr rfl (va_cons (ve_call cTo hr rfl (va_cons (vv 4) va_nil)) (va_cons (ve_call cWr hr rfl (va_cons (vv 4) va_nil)) va_nil))))) (vw_or1 (vt_cmp o_notN (ve_call cTo hr rfl (va_cons (vv 2) va_nil)) ve_non (nomark _))))) (vss_one (vs_ret ve_bl)) vss_nil)))))
      (vss_one (vs_ret ve_bl)))))), ?_⟩
  rintro xs μ R _ ⟨ns, rfl, hns, q⟩
  refine seq_d ⟨ns, 0, rfl, by decide, hns, fun a l μ1 _ _ P1 _ => ?_⟩
  refine seq_d ⟨a, l, rfl, P1, fun sw ps μ2 hle hnone P2 S2 => ?_⟩
  refine seq_d ⟨sw, ps, rfl, hle.ok (by decide), ?_⟩
  rw [hnone]
  refine brF rfl (seq_d ?_)
  refine ⟨by decide, by decide, ?_⟩
  refine for_i (fun i τ μ' => ∃ (o3 o4 o5 : Option AV), τ = [some (.D (scrD ns)), some (.R a), some (.D (prgD sw ps)), o3, o4, o5] ∧ Pot μ' a l) ⟨none, none, none, rfl, P2⟩ (fun _ _ _ _ => trivial) ?_ ?_
  · rintro i x τ μ3 W hx ⟨o3, o4, o5, rfl, P3⟩ hW
    refine seq_d (asg_x rfl ?_)
    refine seq_i (fun τ μ' => ∃ (o5 : Option AV) (sw' : Int) (ps' : Prg), τ = [some (.D (scrD ns)), some (.R a), some (.D (prgD sw ps)), some x, some (.D (prgD sw' ps')), o5] ∧ PrgLe 7 ps' ∧ Pot μ' a l) (fun W2 hW2 => ?_) ?_
    · refine ⟨a, l, 3, rfl, P3, by decide, by decide, fun c μ4 hc P4 S4 => ⟨by omega, by omega, ?_⟩⟩
      have hlen : (rngA 0 ((1 : Int) + (c : Int)).toNat).length = 1 + c := by rw [rngA_length]; omega
      refine for_i (fun j τ μ' => ∃ (o5 : Option AV) (sw' : Int) (ps' : Prg), τ = [some (.D (scrD ns)), some (.R a), some (.D (prgD sw ps)), some x, some (.D (prgD sw' ps')), o5] ∧ PrgLe (4 + j) ps' ∧ Pot μ' a l) ⟨_, sw, ps, rfl, hle, P4⟩ (fun _ _ _ _ => trivial) ?_ ?_
      · rintro j y τ μ5 W3 hy ⟨o5, sw', ps', rfl, hle', P5⟩ hW3
        have hj : j < 1 + c := by rw [← hlen]; exact (List.getElem?_eq_some_iff.mp hy).1
        exact ⟨a, l, 4 + j, sw', ps', rfl, hle', by omega, P5, fun sw2 ps2 μ6 hle2 P6 S6 => hW3 _ _ ⟨_, sw2, ps2, rfl, hle2, P6⟩⟩
      · rintro τ μ5 ⟨o5, sw', ps', rfl, hle', P5⟩
        rw [hlen] at hle'
        exact hW2 _ _ ⟨_, sw', ps', rfl, ⟨by have := hle'.1; omega, fun p hp => ⟨by have := (hle'.2 p hp).1; omega, (hle'.2 p hp).2⟩⟩, P5⟩
    · rintro τ μ4 ⟨o5, sw', ps', rfl, hle', P4⟩
      have ho := hle'.ok (by decide)
      refine ⟨sw', ps', rfl, ho, sw', ps', rfl, ho, wrong sw' ps', rfl, brF rfl ⟨sw, ps, rfl, hle.ok (by decide), ?_⟩⟩
      rw [hnone]
      exact brF rfl (hW _ _ ⟨_, _, _, rfl, P4⟩)
  · rintro τ μ3 ⟨o3, o4, o5, rfl, P3⟩
    exact ⟨_, Sub.refl, q _⟩
def spLaw (K : PySem.W.Frag) : Sp := fun vs H Q _ => ∃ (a : Addr) (ns : List Int), vs = [.ref a] ∧ SqL K H a (ns.map V.int) ∧ Only H ∧ ns.length ≤ 63 ∧ ∀ H', Q (.bl true) H'
theorem dk_ints {H : Hp} : ∀ (ns : List Int), DkAll K H (ns.map .int) (ns.map V.int)
  | [] => dks_nil
  | n :: ns => dks_cons dk_int (dk_ints ns)
theorem ok_law {n : Nat} (F : Fun K "law" "law" sLaw f fd) (cPo : VCal P w K mg base n "_law_pot" ["_law_script", "_law_base"] spPo) (cPr : VCal P w K mg base n "_law_program" ["_law_pot_here"] spPr) (cTo : VCal P w K mg base n "_law_told" ["_law_program_here"] spWr) (cDr : VCal P w K mg base n "_law_draw" ["_law_pot_here", "_law_many"] spDr)
    (cSp : VCal P w K mg base n "_law_spoilt" ["_law_pot_here", "_law_program_here"] spSp) (cAl : VCal P w K mg base n "_law_is_alike" ["_law_found", "_law_due"] spAl) (cWr : VCal P w K mg base n "_law_wrong" ["_law_program_here"] spWr) (m_range : mg "range" = none) : FnOk P w K mg base CX0 (n + 1) f fd ["_law_script"] (spLaw K) := by
  refine (ok_lawV F cPo cPr cTo cDr cSp cAl cWr m_range).imp ?_
  rintro vs H Q E ⟨a, ns, rfl, hS, hO, hl, q⟩
  refine ⟨[.D (scrD ns)], fun _ => none, fun v _ => v = .D (.bool true), rfl, .cons ?_ .nil, (fun _ _ z => nomatch z), ⟨ns, rfl, hl, fun _ => rfl⟩, ?_⟩
  · refine dk_lst (xs := ns.map V.int) ?_ (dk_ints ns)
    rcases hS with (h | h) | h
    · rcases hO a with z | ⟨o, xs, z⟩
      · rw [z] at h; cases h
      · rw [z] at h; cases h
    · exact .inl h
    · exact .inr h
  · rintro x μ v H' _ _ rx rfl
    cases RelA.bl rx
    exact q _
end
theorem all_mk {l : PySem.W.OpenLaw} {w : World} {K : PySem.W.Frag} {h : Heap} {mg : Str → Option Value} {fa f1 f2 f3 f4 f5 f6 f7 f8 f9 f10 f11 f12 f13 f14 c0 c1 c2 c3 c4 c5 c6 c7 D gc6 : Addr} (X : K.In h) (G : h.Ns mainGlobals mg) (hfa : mg "law" = some (.ref fa))
    {od1 an1 od2 an2 od3 an3 od4 an4 od5 an5 od6 an6 od7 an7 od8 an8 od9 an9 od10 an10 od11 an11 od12 an12 od13 an13 od14 an14 odc6 anc6 : Option Addr} {sl1 sl2 sl3 sl4 sl5 sl6 sl7 sl8 sl9 sl10 sl11 sl12 sl13 sl14 slc6 : Array (Option Value)} {oc1 kV1 dc1 pm1 cd1 ct1 oc2 kV2 dc2 pm2 cd2 ct2 oc3 kV3 dc3 pm3 cd3 ct3 oc4 kV4 dc4 pm4 cd4 ct4 oc5 kV5 dc5 pm5 cd5 ct5 oc6 kV6 dc6 pm6 cd6 ct6 oc7 kV7 dc7 pm7 cd7 ct7 oc8 kV8 dc8 pm8 cd8 ct8 oc9 kV9 dc9 pm9 cd9 ct9 oc10 kV10 dc10 pm10 cd10 ct10 oc11 kV11 dc11 pm11 cd11 ct11 oc12 kV12 dc12 pm12 cd12 ct12 oc13 kV13 dc13 pm13 cd13 ct13 oc14 kV14 dc14 pm14 cd14 ct14 occ6 kVc6 dcc6 pmc6 cdc6 ctc6 : Value}
    {sw : Addr} {kd : Option Addr} {kn : Nat} {ks : Array (Option Value)} {q1 q2 t1 t2 t3 : Tok}
    (a1 : PySem.W.nsIn K mainGlobals "is_there" = some (some (.ref f1)))
    (l1 : K.lookup f1 = some ⟨oc1, od1, .func (PySem.W.fnOf "is_there" "is_there" (defArgs sIt) (defBody sIt) (defScope sIt) .none kV1 dc1 pm1 an1 cd1 ct1), sl1⟩)
    (c_1 : PySem.W.codeIn K cd1 "is_there" = true)
    (k1 : PySem.W.keepIn K (.ref f1) = true)
    (a2 : PySem.W.nsIn K mainGlobals "look_program" = some (some (.ref f2)))
    (l2 : K.lookup f2 = some ⟨oc2, od2, .func (PySem.W.fnOf "look_program" "look_program" (defArgs sLp) (defBody sLp) (defScope sLp) .none kV2 dc2 pm2 an2 cd2 ct2), sl2⟩)
    (c_2 : PySem.W.codeIn K cd2 "look_program" = true)
    (k2 : PySem.W.keepIn K (.ref f2) = true)
    (a3 : PySem.W.nsIn K mainGlobals "has_its_sizes" = some (some (.ref f3)))
    (l3 : K.lookup f3 = some ⟨oc3, od3, .func (PySem.W.fnOf "has_its_sizes" "has_its_sizes" (defArgs sHs) (defBody sHs) (defScope sHs) .none kV3 dc3 pm3 an3 cd3 ct3), sl3⟩)
    (c_3 : PySem.W.codeIn K cd3 "has_its_sizes" = true)
    (k3 : PySem.W.keepIn K (.ref f3) = true)
    (a4 : PySem.W.nsIn K mainGlobals "may_stand" = some (some (.ref f4)))
    (l4 : K.lookup f4 = some ⟨oc4, od4, .func (PySem.W.fnOf "may_stand" "may_stand" (defArgs sMs) (defBody sMs) (defScope sMs) .none kV4 dc4 pm4 an4 cd4 ct4), sl4⟩)
    (c_4 : PySem.W.codeIn K cd4 "may_stand" = true)
    (k4 : PySem.W.keepIn K (.ref f4) = true)
    (a5 : PySem.W.nsIn K mainGlobals "_law_pot" = some (some (.ref f5)))
    (l5 : K.lookup f5 = some ⟨oc5, od5, .func (PySem.W.fnOf "_law_pot" "_law_pot" (defArgs sPo) (defBody sPo) (defScope sPo) .none kV5 dc5 pm5 an5 cd5 ct5), sl5⟩)
    (c_5 : PySem.W.codeIn K cd5 "_law_pot" = true)
    (k5 : PySem.W.keepIn K (.ref f5) = true)
    (a6 : PySem.W.nsIn K mainGlobals "_law_draw" = some (some (.ref f6)))
    (l6 : K.lookup f6 = some ⟨oc6, od6, .func (PySem.W.fnOf "_law_draw" "_law_draw" (defArgs sDr) (defBody sDr) (defScope sDr) .none kV6 dc6 pm6 an6 cd6 ct6), sl6⟩)
    (c_6 : PySem.W.codeIn K cd6 "_law_draw" = true)
    (k6 : PySem.W.keepIn K (.ref f6) = true)
    (a7 : PySem.W.nsIn K mainGlobals "_law_program" = some (some (.ref f7)))
    (l7 : K.lookup f7 = some ⟨oc7, od7, .func (PySem.W.fnOf "_law_program" "_law_program" (defArgs sPr) (defBody sPr) (defScope sPr) .none kV7 dc7 pm7 an7 cd7 ct7), sl7⟩)
    (c_7 : PySem.W.codeIn K cd7 "_law_program" = true)
    (k7 : PySem.W.keepIn K (.ref f7) = true)
    (a8 : PySem.W.nsIn K mainGlobals "_law_fits" = some (some (.ref f8)))
    (l8 : K.lookup f8 = some ⟨oc8, od8, .func (PySem.W.fnOf "_law_fits" "_law_fits" (defArgs sFi) (defBody sFi) (defScope sFi) .none kV8 dc8 pm8 an8 cd8 ct8), sl8⟩)
    (c_8 : PySem.W.codeIn K cd8 "_law_fits" = true)
    (k8 : PySem.W.keepIn K (.ref f8) = true)
    (a9 : PySem.W.nsIn K mainGlobals "_law_wrong" = some (some (.ref f9)))
    (l9 : K.lookup f9 = some ⟨oc9, od9, .func (PySem.W.fnOf "_law_wrong" "_law_wrong" (defArgs sWr) (defBody sWr) (defScope sWr) .none kV9 dc9 pm9 an9 cd9 ct9), sl9⟩)
    (c_9 : PySem.W.codeIn K cd9 "_law_wrong" = true)
    (k9 : PySem.W.keepIn K (.ref f9) = true)
    (a10 : PySem.W.nsIn K mainGlobals "_law_told" = some (some (.ref f10)))
    (l10 : K.lookup f10 = some ⟨oc10, od10, .func (PySem.W.fnOf "_law_told" "_law_told" (defArgs sTo) (defBody sTo) (defScope sTo) .none kV10 dc10 pm10 an10 cd10 ct10), sl10⟩)
    (c_10 : PySem.W.codeIn K cd10 "_law_told" = true)
    (k10 : PySem.W.keepIn K (.ref f10) = true)
    (a11 : PySem.W.nsIn K mainGlobals "_law_is_alike" = some (some (.ref f11)))
    (l11 : K.lookup f11 = some ⟨oc11, od11, .func (PySem.W.fnOf "_law_is_alike" "_law_is_alike" (defArgs sAl) (defBody sAl) (defScope sAl) .none kV11 dc11 pm11 an11 cd11 ct11), sl11⟩)
    (c_11 : PySem.W.codeIn K cd11 "_law_is_alike" = true)
    (k11 : PySem.W.keepIn K (.ref f11) = true)
    (a12 : PySem.W.nsIn K mainGlobals "_law_other_step" = some (some (.ref f12)))
    (l12 : K.lookup f12 = some ⟨oc12, od12, .func (PySem.W.fnOf "_law_other_step" "_law_other_step" (defArgs sOs) (defBody sOs) (defScope sOs) .none kV12 dc12 pm12 an12 cd12 ct12), sl12⟩)
    (c_12 : PySem.W.codeIn K cd12 "_law_other_step" = true)
    (k12 : PySem.W.keepIn K (.ref f12) = true)
    (a13 : PySem.W.nsIn K mainGlobals "_law_spoilt" = some (some (.ref f13)))
    (l13 : K.lookup f13 = some ⟨oc13, od13, .func (PySem.W.fnOf "_law_spoilt" "_law_spoilt" (defArgs sSp) (defBody sSp) (defScope sSp) .none kV13 dc13 pm13 an13 cd13 ct13), sl13⟩)
    (c_13 : PySem.W.codeIn K cd13 "_law_spoilt" = true)
    (k13 : PySem.W.keepIn K (.ref f13) = true)
    (a14 : PySem.W.nsIn K mainGlobals "law" = some (some (.ref f14)))
    (l14 : K.lookup f14 = some ⟨oc14, od14, .func (PySem.W.fnOf "law" "law" (defArgs sLaw) (defBody sLaw) (defScope sLaw) .none kV14 dc14 pm14 an14 cd14 ct14), sl14⟩)
    (c_14 : PySem.W.codeIn K cd14 "law" = true)
    (k14 : PySem.W.keepIn K (.ref f14) = true)
    (u_c0 : PySem.W.nsIn K mainGlobals "NoText" = some (some (.ref c0)))
    (u_c1 : PySem.W.nsIn K mainGlobals "NoGame" = some (some (.ref c1)))
    (u_c2 : PySem.W.nsIn K mainGlobals "NoSaying" = some (some (.ref c2)))
    (u_c3 : PySem.W.nsIn K mainGlobals "TooMany" = some (some (.ref c3)))
    (u_c4 : PySem.W.nsIn K mainGlobals "NoPaper" = some (some (.ref c4)))
    (u_c5 : PySem.W.nsIn K mainGlobals "NoFit" = some (some (.ref c5)))
    (u_c6 : PySem.W.nsIn K mainGlobals "NoProgram" = some (some (.ref c6)))
    (u_c7 : PySem.W.nsIn K mainGlobals "NoRow" = some (some (.ref c7)))
    (u_D : PySem.W.nsIn K mainGlobals "DuelError" = some (some (.ref D)))
    (e_c6 : errIn K c6 D [c5, c1, c4, c7, c2, c0, c3] = true)
    (i_c6 : PySem.W.findIn K (.ref c6) "__init__" = some (some (.ref gc6)))
    (n_c6 : PySem.W.isFn K (.ref gc6) = true)
    (l_c6 : K.lookup gc6 = some ⟨occ6, odc6, .func (PySem.W.fnOf "__init__" "NoProgram.__init__" (defArgs sic6) (defBody sic6) (defScope sic6) .none kVc6 dcc6 pmc6 anc6 cdc6 ctc6), slc6⟩)
    (c_c6 : PySem.W.codeIn K cdc6 "NoProgram.__init__" = true)
    (k_c6 : PySem.W.keepIn K (.ref gc6) = true)
    (na_c6_procedure : PySem.W.findIn K (.ref c6) "procedure" = some none)
    (na_c6_step : PySem.W.findIn K (.ref c6) "step" = some none)
    (z_isinstance : PySem.W.nsIn K mainGlobals "isinstance" = some none)
    (z_bool : PySem.W.nsIn K mainGlobals "bool" = some none)
    (z_enumerate : PySem.W.nsIn K mainGlobals "enumerate" = some none)
    (z_len : PySem.W.nsIn K mainGlobals "len" = some none)
    (z_all : PySem.W.nsIn K mainGlobals "all" = some none)
    (z_range : PySem.W.nsIn K mainGlobals "range" = some none)
    (z_tuple : PySem.W.nsIn K mainGlobals "tuple" = some none)
    (z_ValueError : PySem.W.nsIn K mainGlobals "ValueError" = some none)
    (y1 : PySem.W.nsIn K mainGlobals "MOST_SWITCHES" = some (some (.int 1 t1)))
    (y2 : PySem.W.nsIn K mainGlobals "MOST_PROCEDURES" = some (some (.int 3 t2)))
    (y3 : PySem.W.nsIn K mainGlobals "MOST_STEPS" = some (some (.int 4 t3)))
    (y4 : PySem.W.nsIn K mainGlobals "SWITCH_WORDS" = some (some (.ref sw)))
    (y5 : K.lookup sw = some ⟨.type "tuple", kd, .seq #[.str "set" q1, .str "if" q2] kn, ks⟩) :
    ∃ fd : FuncData, (∀ (s : Shared) (v : Value), BindsTo s fd ⟨[v], []⟩ [("_law_script", v)]) ∧ ∀ base : Heap, K.In base → base.Ns mainGlobals mg → FnOk l.prog w K mg base CX0 65 fa fd ["_law_script"] (spLaw K) := by
  have e := hfa.symm.trans (PySem.W.mg_of X G a14)
  cases e
  have F1 := fun_mk (st := sIt) l1 c_1 k1
  have F2 := fun_mk (st := sLp) l2 c_2 k2
  have F3 := fun_mk (st := sHs) l3 c_3 k3
  have F4 := fun_mk (st := sMs) l4 c_4 k4
  have F5 := fun_mk (st := sPo) l5 c_5 k5
  have F6 := fun_mk (st := sDr) l6 c_6 k6
  have F7 := fun_mk (st := sPr) l7 c_7 k7
  have F8 := fun_mk (st := sFi) l8 c_8 k8
  have F9 := fun_mk (st := sWr) l9 c_9 k9
  have F10 := fun_mk (st := sTo) l10 c_10 k10
  have F11 := fun_mk (st := sAl) l11 c_11 k11
  have F12 := fun_mk (st := sOs) l12 c_12 k12
  have F13 := fun_mk (st := sSp) l13 c_13 k13
  have F14 := fun_mk (st := sLaw) l14 c_14 k14
  have Fc6 := fun_mk (st := sic6) l_c6 c_c6 k_c6
  have b1 := F1.binds (ps := ["number", "many"]) fun _ _ _ _ _ _ us hl => match us, hl with | [_, _], _ => rfl
  have b2 := F2.binds (ps := ["program"]) fun _ _ _ _ _ _ us hl => match us, hl with | [_], _ => rfl
  have b3 := F3.binds (ps := ["program"]) fun _ _ _ _ _ _ us hl => match us, hl with | [_], _ => rfl
  have b4 := F4.binds (ps := ["program", "procedure", "step"]) fun _ _ _ _ _ _ us hl => match us, hl with | [_, _, _], _ => rfl
  have b5 := F5.binds (ps := ["_law_script", "_law_base"]) fun _ _ _ _ _ _ us hl => match us, hl with | [_, _], _ => rfl
  have b6 := F6.binds (ps := ["_law_pot_here", "_law_many"]) fun _ _ _ _ _ _ us hl => match us, hl with | [_, _], _ => rfl
  have b7 := F7.binds (ps := ["_law_pot_here"]) fun _ _ _ _ _ _ us hl => match us, hl with | [_], _ => rfl
  have b8 := F8.binds (ps := ["_law_program_here", "_law_steps", "_law_step"]) fun _ _ _ _ _ _ us hl => match us, hl with | [_, _, _], _ => rfl
  have b9 := F9.binds (ps := ["_law_program_here"]) fun _ _ _ _ _ _ us hl => match us, hl with | [_], _ => rfl
  have b10 := F10.binds (ps := ["_law_program_here"]) fun _ _ _ _ _ _ us hl => match us, hl with | [_], _ => rfl
  have b11 := F11.binds (ps := ["_law_found", "_law_due"]) fun _ _ _ _ _ _ us hl => match us, hl with | [_, _], _ => rfl
  have b12 := F12.binds (ps := ["_law_pot_here", "_law_step"]) fun _ _ _ _ _ _ us hl => match us, hl with | [_, _], _ => rfl
  have b13 := F13.binds (ps := ["_law_pot_here", "_law_program_here"]) fun _ _ _ _ _ _ us hl => match us, hl with | [_, _], _ => rfl
  have bc6 := Fc6.binds (ps := ["self", "procedure", "step"]) fun _ _ _ _ _ _ us hl => match us, hl with | [_, _, _], _ => rfl
  have m_isinstance := PySem.W.mg_none_of X G z_isinstance
  have m_bool := PySem.W.mg_none_of X G z_bool
  have m_enumerate := PySem.W.mg_none_of X G z_enumerate
  have m_len := PySem.W.mg_none_of X G z_len
  have m_all := PySem.W.mg_none_of X G z_all
  have m_range := PySem.W.mg_none_of X G z_range
  have m_tuple := PySem.W.mg_none_of X G z_tuple
  have m_ValueError := PySem.W.mg_none_of X G z_ValueError
  have mc0 := PySem.W.mg_of X G u_c0
  have mc1 := PySem.W.mg_of X G u_c1
  have mc2 := PySem.W.mg_of X G u_c2
  have mc3 := PySem.W.mg_of X G u_c3
  have mc4 := PySem.W.mg_of X G u_c4
  have mc5 := PySem.W.mg_of X G u_c5
  have mc6 := PySem.W.mg_of X G u_c6
  have mc7 := PySem.W.mg_of X G u_c7
  have mD := PySem.W.mg_of X G u_D
  have er_c6 := err_of e_c6
  have mMS := PySem.W.mg_of X G y1
  have mMP := PySem.W.mg_of X G y2
  have mMT := PySem.W.mg_of X G y3
  have mSW := PySem.W.mg_of X G y4
  have hSW : ∀ H, SqT K H sw [.str "set", .str "if"] := fun H => .inr ⟨_, _, kn, y5, rfl, rfl, (show 2 ≤ sizeLine by decide), .cons ⟨q1, rfl⟩ (.cons ⟨q2, rfl⟩ .nil)⟩
  have hSD : ∀ H, DkAll K H [.str "set", .str "if"] [.str "set", .str "if"] := fun H => dks_cons dk_str (dks_cons dk_str dks_nil)
  refine ⟨PySem.W.fnOf "law" "law" (defArgs sLaw) (defBody sLaw) (defScope sLaw) .none kV14 dc14 pm14 an14 cd14 ct14, fun s v => .of_eq rfl, fun base _ _ => ?_⟩
  have x_c6 : XCal l.prog w K mg base 9 "NoProgram" c6 ["procedure", "step"] := ⟨_, _, _, (ok_ic6 (P := l.prog) (w := w) (mg := mg) (base := base) (n := 0) Fc6 er_c6.xi.toXCls na_c6_procedure na_c6_step).mono (by decide), bc6, ⟨er_c6.xc, i_c6, n_c6, er_c6.kp⟩, mc6, er_c6.xi.toXCls.mb⟩
  have g1 := ok_it (P := l.prog) (w := w) (mg := mg) (base := base) (n := 0) F1 m_isinstance m_bool
  have q1 : VCal l.prog w K mg base 1 "is_there" ["number", "many"] _ := ⟨_, _, g1, b1, k1, PySem.W.mg_of X G a1⟩
  have g3 := ok_hs (P := l.prog) (w := w) (mg := mg) (base := base) (n := 1) F3 (q1.mono (by decide)) m_len m_all mMS mMP mMT
  have q3 : VCal l.prog w K mg base 2 "has_its_sizes" ["program"] _ := ⟨_, _, g3, b3, k3, PySem.W.mg_of X G a3⟩
  have g4 := ok_ms (P := l.prog) (w := w) (mg := mg) (base := base) (n := 1) F4 (q1.mono (by decide)) m_len m_all mSW hSW hSD
  have q4 : VCal l.prog w K mg base 2 "may_stand" ["program", "procedure", "step"] _ := ⟨_, _, g4, b4, k4, PySem.W.mg_of X G a4⟩
  have g2 := ok_lp (P := l.prog) (w := w) (mg := mg) (base := base) (n := 9) F2 (q3.mono (by decide)) (q4.mono (by decide)) m_enumerate x_c6
  have q2 : VCalX l.prog w K mg base 11 "look_program" ["program"] _ := ⟨_, _, g2, b2, k2, PySem.W.mg_of X G a2⟩
  have g5 := ok_po (P := l.prog) (w := w) (mg := mg) (base := base) (n := 0) F5
  have q5 : VCal l.prog w K mg base 1 "_law_pot" ["_law_script", "_law_base"] _ := ⟨_, _, g5, b5, k5, PySem.W.mg_of X G a5⟩
  have g6 := ok_dr (P := l.prog) (w := w) (mg := mg) (base := base) (n := 0) F6 m_len
  have q6 : VCal l.prog w K mg base 1 "_law_draw" ["_law_pot_here", "_law_many"] _ := ⟨_, _, g6, b6, k6, PySem.W.mg_of X G a6⟩
  have g7 := ok_pr (P := l.prog) (w := w) (mg := mg) (base := base) (n := 1) F7 (q6.mono (by decide)) m_range m_len m_tuple
  have q7 : VCal l.prog w K mg base 2 "_law_program" ["_law_pot_here"] _ := ⟨_, _, g7, b7, k7, PySem.W.mg_of X G a7⟩
  have g8 := ok_fi (P := l.prog) (w := w) (mg := mg) (base := base) (n := 0) F8 m_len m_all
  have q8 : VCal l.prog w K mg base 1 "_law_fits" ["_law_program_here", "_law_steps", "_law_step"] _ := ⟨_, _, g8, b8, k8, PySem.W.mg_of X G a8⟩
  have g9 := ok_wr (P := l.prog) (w := w) (mg := mg) (base := base) (n := 1) F9 (q8.mono (by decide)) m_len m_enumerate
  have q9 : VCal l.prog w K mg base 2 "_law_wrong" ["_law_program_here"] _ := ⟨_, _, g9, b9, k9, PySem.W.mg_of X G a9⟩
  have g10 := ok_to (P := l.prog) (w := w) (mg := mg) (base := base) (n := 11) F10 (q2.mono (by decide)) m_isinstance m_ValueError mc0 mc1 mc2 mc3 mc4 mc5 mc6 mc7 mD er_c6 na_c6_procedure na_c6_step
  have q10 : VCal l.prog w K mg base 12 "_law_told" ["_law_program_here"] _ := ⟨_, _, g10, b10, k10, PySem.W.mg_of X G a10⟩
  have g11 := ok_al (P := l.prog) (w := w) (mg := mg) (base := base) (n := 0) F11 m_isinstance m_tuple m_bool
  have q11 : VCal l.prog w K mg base 1 "_law_is_alike" ["_law_found", "_law_due"] _ := ⟨_, _, g11, b11, k11, PySem.W.mg_of X G a11⟩
  have g12 := ok_os (P := l.prog) (w := w) (mg := mg) (base := base) (n := 1) F12 (q6.mono (by decide)) m_len
  have q12 : VCal l.prog w K mg base 2 "_law_other_step" ["_law_pot_here", "_law_step"] _ := ⟨_, _, g12, b12, k12, PySem.W.mg_of X G a12⟩
  have g13 := ok_sp (P := l.prog) (w := w) (mg := mg) (base := base) (n := 2) F13 (q6.mono (by decide)) (q12.mono (by decide)) m_len
  have q13 : VCal l.prog w K mg base 3 "_law_spoilt" ["_law_pot_here", "_law_program_here"] _ := ⟨_, _, g13, b13, k13, PySem.W.mg_of X G a13⟩
  have g14 := ok_law (P := l.prog) (w := w) (mg := mg) (base := base) (n := 12) F14 (q5.mono (by decide)) (q7.mono (by decide)) (q10.mono (by decide)) (q6.mono (by decide)) (q13.mono (by decide)) (q11.mono (by decide)) (q9.mono (by decide)) m_range
  exact g14.mono (by decide)
theorem walk {l : PySem.W.OpenLaw} {q : Program} {loose : List Str} {XP : (Str → Option Value) → Heap → Prop} {YP : World → Heap → Prop} {d : DefRec} {K : Params → PySem.W.Frag} (hn : l.most = some 63) (hdf : d.params.defaults = [])
    (hY : ∀ (w : World) (h : Heap), YP w h → (K w.params).In h)
    (F : ∀ (w : World) (mg : Str → Option Value) (fa : Addr) (h : Heap), (K w.params).In h → h.Ns mainGlobals mg → mg d.name = some (.ref fa) →
      ∃ fd : FuncData, (∀ (s : Shared) (u : Value), BindsTo s fd ⟨[u], []⟩ [("_law_script", u)]) ∧ ∀ base : Heap, (K w.params).In base → base.Ns mainGlobals mg → FnOk l.prog w (K w.params) mg base CX0 65 fa fd ["_law_script"] (spLaw (K w.params))) :
    PySem.W.WalkO q loose XP YP l.row.toRowW d [] (fun f vs => PySem.call f vs) :=
  L2.walk_of (n := 63) (k := 65) (x := "_law_script") (CX := fun _ => CX0) (sp := fun w => spLaw (K w.params)) hn (by decide) hdf ⟨rfl, by decide, by decide, rfl⟩ hY F (fun _ _ a ns hl hO hS => ⟨a, ns, rfl, hS, hO, hl, fun _ => rfl⟩) fun _ _ _ _ _ z => z
end K52
open PySem PySem.W PyProof.Rows
set_option maxRecDepth 100000 in
set_option maxHeartbeats 0 in
theorem PySem.Challenge.cw_pileduel_k52_programs_looked_at_holds : PySem.Challenge.rw_pileduel_k52_programs_looked_at.Holds := by
  w_on; o_law; k_head; (case hw => w_witness2)
  k_fill
  refine K52.walk (l := PySem.Challenge.rw_pileduel_k52_programs_looked_at) rfl rfl (fun w h Y => PySem.W.kIn_of Y) ?F
  case F =>
    intro w mg fa h KX G hmg
    refine' K52.all_mk KX G hmg ?a1 ?l1 ?c_1 ?k1 ?a2 ?l2 ?c_2 ?k2 ?a3 ?l3 ?c_3 ?k3 ?a4 ?l4 ?c_4 ?k4 ?a5 ?l5 ?c_5 ?k5 ?a6 ?l6 ?c_6 ?k6 ?a7 ?l7 ?c_7 ?k7 ?a8 ?l8 ?c_8 ?k8 ?a9 ?l9 ?c_9 ?k9 ?a10 ?l10 ?c_10 ?k10 ?a11 ?l11 ?c_11 ?k11 ?a12 ?l12 ?c_12 ?k12 ?a13 ?l13 ?c_13 ?k13 ?a14 ?l14 ?c_14 ?k14 ?u_c0 ?u_c1 ?u_c2 ?u_c3 ?u_c4 ?u_c5 ?u_c6 ?u_c7 ?u_D ?e_c6 ?i_c6 ?n_c6 ?l_c6 ?c_c6 ?k_c6 ?na_c6_procedure ?na_c6_step ?z_isinstance ?z_bool ?z_enumerate ?z_len ?z_all ?z_range ?z_tuple ?z_ValueError ?y1 ?y2 ?y3 ?y4 ?y5
    (case a1 => k_is)
    (case l1 => k_is)
    (case c_1 => k_is)
    (case k1 => k_is)
    (case a2 => k_is)
    (case l2 => k_is)
    (case c_2 => k_is)
    (case k2 => k_is)
    (case a3 => k_is)
    (case l3 => k_is)
    (case c_3 => k_is)
    (case k3 => k_is)
    (case a4 => k_is)
    (case l4 => k_is)
    (case c_4 => k_is)
    (case k4 => k_is)
    (case a5 => k_is)
    (case l5 => k_is)
    (case c_5 => k_is)
    (case k5 => k_is)
    (case a6 => k_is)
    (case l6 => k_is)
    (case c_6 => k_is)
    (case k6 => k_is)
    (case a7 => k_is)
    (case l7 => k_is)
    (case c_7 => k_is)
    (case k7 => k_is)
    (case a8 => k_is)
    (case l8 => k_is)
    (case c_8 => k_is)
    (case k8 => k_is)
    (case a9 => k_is)
    (case l9 => k_is)
    (case c_9 => k_is)
    (case k9 => k_is)
    (case a10 => k_is)
    (case l10 => k_is)
    (case c_10 => k_is)
    (case k10 => k_is)
    (case a11 => k_is)
    (case l11 => k_is)
    (case c_11 => k_is)
    (case k11 => k_is)
    (case a12 => k_is)
    (case l12 => k_is)
    (case c_12 => k_is)
    (case k12 => k_is)
    (case a13 => k_is)
    (case l13 => k_is)
    (case c_13 => k_is)
    (case k13 => k_is)
    (case a14 => k_is)
    (case l14 => k_is)
    (case c_14 => k_is)
    (case k14 => k_is)
    (case u_c0 => k_is)
    (case u_c1 => k_is)
    (case u_c2 => k_is)
    (case u_c3 => k_is)
    (case u_c4 => k_is)
    (case u_c5 => k_is)
    (case u_c6 => k_is)
    (case u_c7 => k_is)
    (case u_D => k_is)
    (case e_c6 => kernel_rfl)
    (case i_c6 => k_is)
    (case n_c6 => k_is)
    (case l_c6 => k_is)
    (case c_c6 => k_is)
    (case k_c6 => k_is)
    (case na_c6_procedure => k_is)
    (case na_c6_step => k_is)
    (case z_isinstance => k_is)
    (case z_bool => k_is)
    (case z_enumerate => k_is)
    (case z_len => k_is)
    (case z_all => k_is)
    (case z_range => k_is)
    (case z_tuple => k_is)
    (case z_ValueError => k_is)
    (case y1 => k_is)
    (case y2 => k_is)
    (case y3 => k_is)
    (case y4 => k_is)
    (case y5 => k_is)
