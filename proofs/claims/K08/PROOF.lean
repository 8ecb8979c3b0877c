import PyProof.Rows.All
import Wide.All
import OpenK.AllK
import Wide.FinOn
import Lean
import PyProof.EqAt
import PyProof.EqKinds
import PyProof.TupleCall
import KE.KTryMore
import KE.KDictOf
import PyProof.AttrMissHeap
import PyProof.Seq
import PyProof.Rows.Tup
import KE.KDictSum
import PyProof.Rows.SortWalk
import PyProof.EnumStmt
import PyProof.EnumMake
import PyProof.EnumFor
import PyProof.Rows.Range3
import PyProof.ReprRoads
import KE.KTabLook
import PyProof.Rows.MinMaxN
import KE.KMinBuiltin
import PyProof.Rows.CallKwBuiltin
import KE.LcSums
import KE.KIntText
import PyProof.Rows.StrIndexOr
import PyProof.ExcBaseAll.ValueError
import KE.RegKTryMore
import KE.RegKIsAll
import PySem.Challenge.RW_signscreen_k08_edges
set_option Elab.async false
set_option linter.all false
set_option maxRecDepth 100000
set_option maxHeartbeats 4000000
/-! THE HAND LAYER, for ints, bools, texts, own classes, LISTS and tuples (index, slices, in, append, pop ..), calls, loops. Paste it whole ahead of your own text; what your proof does not reach may be deleted. -/
namespace L2
open PySem PySem.Spec PyProof.Rows

/-- a key: an int or a str -/
abbrev Key := Sum Int Str
def keyIs : Key → Value → Bool
  | .inl k, v => Value.isInt k v
  | .inr x, v => Value.isStrOf x v
def keyH (w : World) : Key → Int
  | .inl k => hashInt k
  | .inr x => hashStr w x
theorem keyIs_shape : ∀ {k : Key} {v : Value}, keyIs k v = true → (∃ i t, k = Sum.inl i ∧ v = Value.int i t) ∨ (∃ x t, k = Sum.inr x ∧ v = Value.str x t)
  | .inl i, v, h => by
    obtain ⟨t, e⟩ := Value.isInt_shape (k := i) (v := v) h
    exact .inl ⟨i, t, rfl, e⟩
  | .inr x, v, h => by
    obtain ⟨t, e⟩ := Value.isStrOf_shape (x := x) (v := v) h
    exact .inr ⟨x, t, rfl, e⟩
theorem keyIs_int (i : Int) (t : Tok) : keyIs (.inl i) (.int i t) = true := by simp [keyIs, Value.isInt]
theorem keyIs_str (x : Str) (t : Tok) : keyIs (.inr x) (.str x t) = true := by simp [keyIs, Value.isStrOf]
theorem key_ll (a b : Int) : decide ((Sum.inl a : Key) = Sum.inl b) = (a == b) := by
  by_cases e : a = b
  · subst e; simp
  · have h : ¬ (Sum.inl a : Key) = Sum.inl b := fun q => e (Sum.inl.inj q)
    rw [decide_eq_false h]
    exact (beq_eq_false_iff_ne.mpr e).symm
theorem key_rr (a b : Str) : decide ((Sum.inr a : Key) = Sum.inr b) = decide (a = b) := by
  by_cases e : a = b
  · subst e; simp
  · have h : ¬ (Sum.inr a : Key) = Sum.inr b := fun q => e (Sum.inr.inj q)
    rw [decide_eq_false h, decide_eq_false e]
theorem key_lr (a : Int) (b : Str) : decide ((Sum.inl a : Key) = Sum.inr b) = false := decide_eq_false (fun q => nomatch q)
theorem key_rl (a : Str) (b : Int) : decide ((Sum.inr a : Key) = Sum.inl b) = false := decide_eq_false (fun q => nomatch q)

def mixKind (prog : Program) (w : World) : PySem.KeyKind prog w Key where
  is := keyIs
  hash := keyH w
  inj := fun v a b ha hb => by
    rcases keyIs_shape ha with ⟨i, t, rfl, rfl⟩ | ⟨x, t, rfl, rfl⟩
    · rcases keyIs_shape hb with ⟨j, u, rfl, e⟩ | ⟨y, u, rfl, e⟩
      · injection e with e1 _; rw [e1]
      · exact nomatch e
    · rcases keyIs_shape hb with ⟨j, u, rfl, e⟩ | ⟨y, u, rfl, e⟩
      · exact nomatch e
      · injection e with e1 _; rw [e1]
  byValue := fun k v h => by
    rcases keyIs_shape h with ⟨i, t, rfl, rfl⟩ | ⟨x, t, rfl, rfl⟩ <;> rfl
  pyHash := fun hv h => by
    rcases keyIs_shape hv with ⟨i, t, rfl, rfl⟩ | ⟨x, t, rfl, rfl⟩
    · exact wpAny_pyHash_int h
    · exact wpAny_pyHash_str h
  eqBool := fun hu hv h => by
    rcases keyIs_shape hu with ⟨i, t, rfl, rfl⟩ | ⟨x, t, rfl, rfl⟩
    · rcases keyIs_shape hv with ⟨j, u, rfl, rfl⟩ | ⟨y, u, rfl, rfl⟩
      · rw [key_ll] at h; exact wpAny_eqBool_int h
      · rw [key_lr] at h; exact SeqAt.EqAt.int_str i t y u _ _ _ _ h
    · rcases keyIs_shape hv with ⟨j, u, rfl, rfl⟩ | ⟨y, u, rfl, rfl⟩
      · rw [key_rl] at h; exact SeqAt.EqAt.str_int x t j u _ _ _ _ h
      · rw [key_rr] at h; exact wpAny_eqBool_str h
  «strs» := fun k x t v h => by
    rcases keyIs_shape h with ⟨i, u, rfl, e⟩ | ⟨y, u, rfl, e⟩
    · exact nomatch e
    · injection e with e1 _
      subst e1
      cases v <;> rfl

theorem mixKind_int (prog : Program) (w : World) (i : Int) (t : Tok) : (mixKind prog w).is (.inl i) (.int i t) = true := keyIs_int i t
theorem mixKind_str (prog : Program) (w : World) (x : Str) (t : Tok) : (mixKind prog w).is (.inr x) (.str x t) = true := keyIs_str x t
end L2

namespace L2
open PySem PySem.Spec PyProof.Rows

/-- a value, without the heap -/
inductive V where
  | non | bl (b : Bool) | int (i : Int) | str (x : Str) | byt (b : Array UInt8) | flt (b : UInt64) | ref (a : Addr) | ty (n : String)
  deriving DecidableEq

def RelV : V → Value → Prop
  | .non, u => u = Value.none
  | .bl b, u => u = Value.bool b
  | .int i, u => ∃ t, u = Value.int i t
  | .str x, u => ∃ t, u = Value.str x t
  | .byt b, u => ∃ t, u = Value.bytes b t
  | .flt b, u => ∃ t, u = Value.float b t
  | .ref a, u => u = Value.ref a
  | .ty n, u => u = Value.type n

abbrev Vals : List V → List Value → Prop := Paired RelV
theorem Vals.length {xs : List V} {us : List Value} (r : Vals xs us) : xs.length = us.length := Paired.length r
theorem Vals.get : ∀ {xs : List V} {us : List Value} {i : Nat} {x : V}, Vals xs us → xs[i]? = some x → ∃ u, us[i]? = some u ∧ RelV x u
  | _, _, _, _, .nil, e => by simp at e
  | _, _, 0, _, .cons r _, e => by simp at e; subst e; exact ⟨_, rfl, r⟩
  | _, _, i + 1, x, .cons _ t, e => by
    obtain ⟨u, h1, h2⟩ := Vals.get (i := i) (x := x) t (by simpa using e)
    exact ⟨u, by simpa using h1, h2⟩
theorem Vals.set {x : V} {u : Value} (r : RelV x u) : ∀ {xs : List V} {us : List Value} (i : Nat), Vals xs us → Vals (xs.set i x) (us.set i u)
  | _, _, _, .nil => .nil
  | _, _, 0, .cons _ t => .cons r t
  | _, _, i + 1, .cons q t => .cons q (Vals.set r i t)
theorem Vals.append : ∀ {xs ys : List V} {us ws : List Value}, Vals xs us → Vals ys ws → Vals (xs ++ ys) (us ++ ws)
  | _, _, _, _, .nil, s => s
  | _, _, _, _, .cons r t, s => .cons r (Vals.append t s)
theorem Vals.take : ∀ {xs : List V} {us : List Value} (n : Nat), Vals xs us → Vals (xs.take n) (us.take n)
  | _, _, 0, _ => .nil
  | _, _, _ + 1, .nil => .nil
  | _, _, n + 1, .cons r t => .cons r (Vals.take n t)
theorem Vals.drop : ∀ {xs : List V} {us : List Value} (n : Nat), Vals xs us → Vals (xs.drop n) (us.drop n)
  | _, _, 0, r => r
  | _, _, _ + 1, .nil => .nil
  | _, _, n + 1, .cons _ t => Vals.drop n t
theorem Vals.none_of : ∀ {xs : List V} {us : List Value} {i : Nat}, Vals xs us → xs[i]? = none → us[i]? = none := fun {xs us i} r e => by
  have h1 := r.length
  have h2 : xs.length ≤ i := List.getElem?_eq_none_iff.mp e
  exact List.getElem?_eq_none_iff.mpr (by omega)

def RelO : Option V → Option Value → Prop
  | some v, some u => RelV v u
  | none, none => True
  | _, _ => False
def KV {κ : Type} : List (κ × V) → List (κ × Value) → Prop := Paired fun (p : κ × V) (q : κ × Value) => p.1 = q.1 ∧ RelV p.2 q.2

/-- a key of a dict (00_mix): an int or a text -/
def kV : Key → V
  | .inl i => .int i
  | .inr x => .str x

/-- what stands at a tracked address -/
inductive HO where
  /-- a list -/
  | lst (xs : List V)
  /-- a tuple (never changes) -/
  | tup (xs : List V)
  /-- a dict whose keys are ints and texts; one whose keys are tuples of ints and texts (the empty one is both) -/
  | dK (kvs : List (Key × V)) | dT (kvs : List (List Key × V))
  /-- a set of ints: its members, its size -/
  | set (S : Int → Bool) (n : Nat)
  /-- an instance of the class at C, its dict at dx, its attributes -/
  | ins (C dx : Addr) (fs : List (Str × V))
  /-- the dict of the instance at x -/
  | own (x : Addr)
  /-- the dict of an exception -/
  | xd (fs : List (Str × V))
  /-- a bound method, f of x -/
  | met (f x : Addr)
  /-- a range object lo, lo + 1, .. below hi -/
  | rng (lo hi : Int)
  /-- a thing that is known to the object (the script; a dict while a loop walks it): read, never written while it is so -/
  | frz (o : Obj) (u : HO)
  /-- a code object's table -/
  | tbl (ps : Array Value)
  /-- any other thing, by what is true of its one object (a def of one's own: SetO a S n := HO.ext fun h => ..) -/
  | ext (φ : Heap → Prop)

abbrev Hp := Addr → Option HO
def upd (H : Hp) (a : Addr) (o : HO) : Hp := fun b => if b = a then some o else H b
theorem upd_same {H : Hp} {a : Addr} {o : HO} : upd H a o a = some o := by unfold upd; rw [if_pos rfl]
theorem upd_ne {H : Hp} {a b : Addr} {o : HO} (h : b ≠ a) : upd H a o b = H b := by unfold upd; rw [if_neg h]
theorem upd_upd {H : Hp} {a : Addr} {o u : HO} : upd (upd H a o) a u = upd H a u := by
  funext b; unfold upd; split <;> rfl
/-- two objects of different content stand apart -/
theorem ne_of {H : Hp} {a b : Addr} {o u : HO} (h : H a = some o) (h' : H b = some u) (d : o ≠ u) : a ≠ b := by
  intro e; subst e; rw [h] at h'; exact d (Option.some.inj h')
theorem ne_of_none {H : Hp} {a b : Addr} {o : HO} (h : H a = some o) (h' : H b = none) : a ≠ b := by
  intro e; subst e; rw [h] at h'; cases h'

section
variable (P : Program) (w : World)
def ObjOk (H : Hp) (h : Heap) (a : Addr) : HO → Prop
  | .lst xs => xs.length ≤ sizeLine ∧ ∃ (its : List Value) (n : Nat), Vals xs its ∧ h.get? a = some { cls := .type "list", data := .seq its.toArray n }
  | .tup xs => xs.length ≤ sizeLine ∧ ∃ its : List Value, Vals xs its ∧ IsTup h a its.toArray
  | .dK kvs => kvs.length ≤ sizeLine ∧ (a == sysModules) = false ∧ ∃ vs, KV kvs vs ∧ h.DictOf (mixKind P w) a vs
  | .dT kvs => kvs.length ≤ sizeLine ∧ (a == sysModules) = false ∧ ∃ xs : List (List Key × Addr × Value),
      Paired (fun (p : List Key × V) (q : List Key × Addr × Value) => p.1 = q.1 ∧ H q.2.1 = some (.tup (p.1.map kV)) ∧ RelV p.2 q.2.2) kvs xs ∧
      ∃ o es ep, h.get? a = some o ∧ o.ExactDict ∧ o.data = .dict es ep ∧ es.toList = xs.map (entryOfKey (tupleKind (mixKind P w))) ∧ (xs.map (·.1)).Nodup
  | .set S n => h.SetOf (intKind P w) a S n
  | .ins C dx fs => H dx = some (.own a) ∧ fs.length ≤ 1000 ∧ dx ≠ a ∧ h.get? a = some (PySem.W.instObj C dx) ∧
      ∃ mA, h.Ns1 dx mA ∧ (∀ f, RelO (fs.lookup f) (mA f)) ∧ PySem.Within mA (fs.map (·.1))
  | .own _ => ∃ o, h.get? a = some o
  | .xd fs => ∃ mA, h.Ns1 a mA ∧ ∀ f, RelO (fs.lookup f) (mA f)
  | .rng lo hi => ∃ t u v, h.get? a = some { cls := .type "range", data := .fields #[.int lo t, .int hi u, .int 1 v] }
  | .frz o u => h.get? a = some o ∧ ObjOk H h a u
  | .tbl ps => h.get? a = some { cls := .none, data := .fields ps }
  | .met f x => h.get? a = some (PySem.W.methodObj (.ref f) (.ref x))
  | .ext φ => φ h ∧ (∃ o, h.get? a = some o) ∧ ∀ h1 h2 : Heap, φ h1 → (∀ o, h1.get? a = some o → h2.get? a = some o) → φ h2
/-- the abstract heap is held -/
def HOk (H : Hp) (h : Heap) : Prop := ∀ a o, H a = some o → ObjOk P w H h a o
end

section
variable {P : Program} {w : World} {H H' : Hp} {h h' : Heap} {a : Addr} {o : HO}
theorem ObjOk.lt (x : ObjOk P w H h a o) : a < h.objs.size := by
  cases o with
  | lst xs => obtain ⟨_, _, _, _, e⟩ := x; exact Heap.lt_size e
  | tup xs => obtain ⟨_, _, _, p⟩ := x; exact p.lt
  | dK kvs => obtain ⟨_, _, _, _, o, _, _, e, _⟩ := x; exact Heap.lt_size e
  | dT kvs => obtain ⟨_, _, _, _, o, _, _, e, _⟩ := x; exact Heap.lt_size e
  | set S n => obtain ⟨o, _, _, _, e, _⟩ := x; exact Heap.lt_size e
  | ins C dx fs => obtain ⟨_, _, _, e, _⟩ := x; exact Heap.lt_size e
  | own y => obtain ⟨_, e⟩ := x; exact Heap.lt_size e
  | xd fs => obtain ⟨_, ⟨_, _, _, e, _⟩, _⟩ := x; exact Heap.lt_size e
  | rng lo hi => obtain ⟨_, _, _, e⟩ := x; exact Heap.lt_size e
  | frz ob u => obtain ⟨e, _⟩ := x; exact Heap.lt_size e
  | tbl ps => exact Heap.lt_size (show h.get? a = some _ from x)
  | met f y => exact Heap.lt_size (show h.get? a = some _ from x)
  | ext φ => obtain ⟨_, ⟨_, e⟩, _⟩ := x; exact Heap.lt_size e
theorem Paired.mapP {α β : Type} {F G : α → β → Prop} : ∀ {l₁ : List α} {l₂ : List β}, Paired F l₁ l₂ → (∀ a b, F a b → G a b) → Paired G l₁ l₂
  | _, _, .nil, _ => .nil
  | _, _, .cons r t, f => .cons (f _ _ r) (Paired.mapP t f)
theorem Paired.imp' {α β : Type} {F G : α → β → Prop} (f : ∀ a b, F a b → G a b) {l₁ : List α} {l₂ : List β} (r : Paired F l₁ l₂) : Paired G l₁ l₂ := Paired.mapP r f
/-- what an object's description leans on: its own object, its own dict, the tuples -/
theorem ObjOk.stay (x : ObjOk P w H h a o) (k : ∀ b u, (b = a ∨ H b = some (.own a)) → h.get? b = some u → h'.get? b = some u)
    (ho : ∀ b, H b = some (.own a) → H' b = some (.own a)) (ht : ∀ b xs, H b = some (.tup xs) → H' b = some (.tup xs)) : ObjOk P w H' h' a o := by
  induction o with
  | lst xs => obtain ⟨z, its, n, r, e⟩ := x; exact ⟨z, its, n, r, k _ _ (.inl rfl) e⟩
  | tup xs => obtain ⟨z, its, r, ob, e, c⟩ := x; exact ⟨z, its, r, ob, k _ _ (.inl rfl) e, c⟩
  | dK kvs => obtain ⟨z, y, vs, r, ob, es, ep, e, c⟩ := x; exact ⟨z, y, vs, r, ob, es, ep, k _ _ (.inl rfl) e, c⟩
  | dT kvs =>
    obtain ⟨z, y, xs, r, ob, es, ep, e, c⟩ := x
    exact ⟨z, y, xs, Paired.mapP r fun p q z => ⟨z.1, ht _ _ z.2.1, z.2.2⟩, ob, es, ep, k _ _ (.inl rfl) e, c⟩
  | set S n => obtain ⟨ob, es, ep, t, e, c⟩ := x; exact ⟨ob, es, ep, t, k _ _ (.inl rfl) e, c⟩
  | ins C dx fs =>
    obtain ⟨d, z, ne, e, mA, ⟨od, es, ep, e2, c⟩, r⟩ := x
    exact ⟨ho _ d, z, ne, k _ _ (.inl rfl) e, mA, ⟨od, es, ep, k _ _ (.inr d) e2, c⟩, r⟩
  | own y => obtain ⟨ob, e⟩ := x; exact ⟨ob, k _ _ (.inl rfl) e⟩
  | xd fs => obtain ⟨mA, ⟨od, es, ep, e, c⟩, r⟩ := x; exact ⟨mA, ⟨od, es, ep, k _ _ (.inl rfl) e, c⟩, r⟩
  | rng lo hi => obtain ⟨t, u, v, e⟩ := x; exact ⟨t, u, v, k _ _ (.inl rfl) e⟩
  | frz ob u ih => obtain ⟨e, q⟩ := x; exact ⟨k _ _ (.inl rfl) e, ih q⟩
  | tbl ps =>
    have e : h.get? a = some { cls := .none, data := .fields ps } := x
    show h'.get? a = some { cls := .none, data := .fields ps }
    exact k a _ (.inl rfl) e
  | met f y =>
    have e : h.get? a = some (PySem.W.methodObj (.ref f) (.ref y)) := x
    show h'.get? a = some (PySem.W.methodObj (.ref f) (.ref y))
    exact k a _ (.inl rfl) e
  | ext φ => obtain ⟨p, ⟨o, e⟩, st⟩ := x; exact ⟨st _ _ p fun o q => k _ _ (.inl rfl) q, ⟨o, k _ _ (.inl rfl) e⟩, st⟩
theorem HOk.lt (x : HOk P w H h) (e : H a = some o) : a < h.objs.size := (x a o e).lt
theorem HOk.fresh (x : HOk P w H h) (e : h.objs.size ≤ a) : H a = none := by
  cases q : H a with
  | none => rfl
  | some u => exact absurd (Nat.lt_of_lt_of_le (x.lt q) e) (Nat.lt_irrefl _)
/-- every object of the heap is kept -/
theorem HOk.kept (x : HOk P w H h) (k : ∀ b u, h.get? b = some u → h'.get? b = some u) : HOk P w H h' := fun a o e =>
  (x a o e).stay (fun b u _ q => k b u q) (fun _ q => q) fun _ _ q => q
/-- a new object is laid and tracked -/
theorem HOk.laid (x : HOk P w H h) (k : ∀ b u, h.get? b = some u → h'.get? b = some u) (hp : h.objs.size ≤ a) (new : ObjOk P w (upd H a o) h' a o) : HOk P w (upd H a o) h' := fun b u e => by
  have hn := x.fresh hp
  by_cases hb : b = a
  · subst hb; rw [upd_same] at e; cases e; exact new
  · rw [upd_ne hb] at e
    exact (x b u e).stay (fun c v _ q => k c v q) (fun c q => by rw [upd_ne (ne_of_none q hn)]; exact q) fun c xs q => by rw [upd_ne (ne_of_none q hn)]; exact q
end

/-- what may be read as u: it is u, or a known u -/
def Rd (H : Hp) (a : Addr) (u : HO) : Prop := H a = some u ∨ ∃ o, H a = some (.frz o u)
theorem Rd.of {H : Hp} {a : Addr} {u : HO} (h : H a = some u) : Rd H a u := .inl h
theorem Rd.ok {P : Program} {w : World} {H : Hp} {h : Heap} {a : Addr} {u : HO} (r : Rd H a u) (x : HOk P w H h) : ObjOk P w H h a u := by
  rcases r with r | ⟨o, r⟩
  · exact x a u r
  · obtain ⟨_, q⟩ := x a _ r
    exact q
/-- what may be written -/
def Mut : Option HO → Prop
  | some (.lst _) => True
  | some (.dK _) => True
  | some (.dT _) => True
  | some (.set _ _) => True
  | some (.ins _ _ _) => True
  | some (.ext _) => True
  | _ => False
section
variable {P : Program} {w : World} {H : Hp} {h h' : Heap} {x e : Addr} {o' : HO}
/-- the object at e is changed: x itself, or the dict of the instance x -/
theorem HOk.write (ok : HOk P w H h) (mu : Mut (H x)) (he : e = x ∨ H e = some (.own x)) (k : ∀ b u, b ≠ e → h.get? b = some u → h'.get? b = some u) (heo : ∃ u, h'.get? e = some u)
    (new : ObjOk P w (upd H x o') h' x o') : HOk P w (upd H x o') h' := fun b u q => by
  have nown : ∀ c y, H c = some (.own y) → c ≠ x := fun c y r z => by subst z; rw [r] at mu; exact mu
  have ntup : ∀ c xs, H c = some (.tup xs) → c ≠ x := fun c xs r z => by subst z; rw [r] at mu; exact mu
  by_cases hb : b = x
  · subst hb; rw [upd_same] at q; cases q; exact new
  · rw [upd_ne hb] at q
    by_cases hbe : b = e
    · have q' : H b = some (.own x) := by
        rcases he with z | z
        · exact absurd (hbe.trans z) hb
        · rw [hbe]; exact z
      rw [q] at q'; cases q'
      obtain ⟨v, hv⟩ := heo
      exact ⟨v, by rw [hbe]; exact hv⟩
    · refine (ok b u q).stay (fun c v hc r => k c v ?_ r) (fun c r => by rw [upd_ne (nown c b r)]; exact r) fun c xs r => by rw [upd_ne (ntup c xs r)]; exact r
      rcases hc with rfl | hc
      · exact hbe
      · rintro rfl
        rcases he with z | z
        · exact nown c b hc z
        · rw [hc] at z; cases z; exact hb rfl
end

/-! ### kept unless tracked; of the frames at fs (the callers') the slots may change (an exception that passes writes there); of the records at ex (iterators) nothing is said -/
structure Un (fs ex : List Addr) (H H' : Hp) (h h' : Heap) : Prop where
  keep : ∀ b o, h.get? b = some o → H b = none → b ∉ fs → b ∉ ex → h'.get? b = some o
  slot : ∀ b o, h.get? b = some o → H b = none → b ∈ fs → b ∉ ex → ∃ sl, h'.get? b = some { o with slots := sl }
  free : ∀ b o, h.get? b = some o → H b = none → b ∉ ex → H' b = none
  there : ∀ b o, h.get? b = some o → b ∉ ex → ∃ o', h'.get? b = some o'
  tups : ∀ b xs, H b = some (.tup xs) → H' b = some (.tup xs)
  frzs : ∀ b o u, H b = some (.frz o u) → H' b = some (.frz o u)
  tbls : ∀ b ps, H b = some (.tbl ps) → ∃ more, H' b = some (.tbl (ps ++ more))
section
variable {fs fs' ex ex' : List Addr} {H H1 H2 : Hp} {h h1 h2 h' : Heap} {a x e : Addr} {o : HO}
theorem Un.any (u : Un fs ex H H1 h h1) {b : Addr} {ob : Obj} (q : h.get? b = some ob) (n : H b = none) (hx : b ∉ ex) : ∃ sl, h1.get? b = some { ob with slots := sl } := by
  by_cases hb : b ∈ fs
  · exact u.slot b ob q n hb hx
  · exact ⟨ob.slots, u.keep b ob q n hb hx⟩
theorem Un.trans (a : Un fs ex H H1 h h1) (b : Un fs ex H1 H2 h1 h2) : Un fs ex H H2 h h2 where
  keep := fun c ob q n hc hx => b.keep c ob (a.keep c ob q n hc hx) (a.free c ob q n hx) hc hx
  slot := fun c ob q n hc hx => by
    obtain ⟨sl, e1⟩ := a.slot c ob q n hc hx
    obtain ⟨sl', e2⟩ := b.slot c _ e1 (a.free c ob q n hx) hc hx
    exact ⟨sl', e2⟩
  free := fun c ob q n hx => by
    obtain ⟨o', e1⟩ := a.there c ob q hx
    exact b.free c o' e1 (a.free c ob q n hx) hx
  there := fun c ob q hx => by
    obtain ⟨o', e1⟩ := a.there c ob q hx
    exact b.there c o' e1 hx
  tups := fun c xs q => b.tups c xs (a.tups c xs q)
  frzs := fun c ob xs q => b.frzs c ob xs (a.frzs c ob xs q)
  tbls := fun c ps q => by
    obtain ⟨m1, e1⟩ := a.tbls c ps q
    obtain ⟨m2, e2⟩ := b.tbls c _ e1
    exact ⟨m1 ++ m2, by rw [e2, Array.append_assoc]⟩
theorem Un.kept (k : ∀ b u, h.get? b = some u → h'.get? b = some u) : Un fs ex H H h h' :=
  ⟨fun b ob q _ _ _ => k b ob q, fun b ob q _ _ _ => ⟨ob.slots, k b ob q⟩, fun _ _ _ n _ => n, fun b ob q _ => ⟨ob, k b ob q⟩, fun _ _ q => q, fun _ _ _ q => q, fun _ ps q => ⟨#[], by rw [q]; simp⟩⟩
theorem Un.refl : Un fs ex H H h h := Un.kept fun _ _ q => q
theorem Un.laid (k : ∀ b u, h.get? b = some u → h'.get? b = some u) (hp : h.objs.size ≤ a) (hn : H a = none) : Un fs ex H (upd H a o) h h' where
  keep := fun b u q _ _ _ => k b u q
  slot := fun b u q _ _ _ => ⟨u.slots, k b u q⟩
  free := fun b u q n _ => by rw [upd_ne (Nat.ne_of_lt (Nat.lt_of_lt_of_le (Heap.lt_size q) hp))]; exact n
  there := fun b u q _ => ⟨u, k b u q⟩
  tups := fun b xs q => by rw [upd_ne (ne_of_none q hn)]; exact q
  frzs := fun b u xs q => by rw [upd_ne (ne_of_none q hn)]; exact q
  tbls := fun b ps q => ⟨#[], by rw [upd_ne (ne_of_none q hn), q]; simp⟩
theorem Un.write (mu : Mut (H x)) (he : e = x ∨ H e = some (.own x)) (k : ∀ b u, b ≠ e → h.get? b = some u → h'.get? b = some u) (heo : ∃ u, h'.get? e = some u) : Un fs ex H (upd H x o) h h' := by
  have hx : ∀ b, H b = none → b ≠ x := fun b n z => by subst z; rw [n] at mu; exact mu
  have hb : ∀ b, H b = none → b ≠ e := fun b n z => by
    subst z
    rcases he with r | r
    · exact hx b n r
    · rw [n] at r; cases r
  have hm : ∀ b u, H b = some u → ¬ Mut (some u) → b ≠ x := fun b u q nm z => by subst z; rw [q] at mu; exact nm mu
  refine ⟨fun b u q n _ _ => k b u (hb b n) q, fun b u q n _ _ => ⟨u.slots, k b u (hb b n) q⟩, fun b u q n _ => by rw [upd_ne (hx b n)]; exact n, fun b u q _ => ?_,
    fun b xs q => by rw [upd_ne (hm b _ q fun z => z)]; exact q, fun b u xs q => by rw [upd_ne (hm b _ q fun z => z)]; exact q, fun b ps q => ⟨#[], by rw [upd_ne (hm b _ q fun z => z), q]; simp⟩⟩
  by_cases hbe : b = e
  · subst hbe; exact heo
  · exact ⟨u, k b u hbe q⟩
theorem Un.mono (u : Un fs ex H H1 h h1) (hs : ∀ b ∈ fs, b ∈ fs') (hx : ∀ b ∈ ex, b ∈ ex') : Un fs' ex' H H1 h h1 :=
  ⟨fun b ob q n hb he => u.keep b ob q n (fun z => hb (hs b z)) fun z => he (hx b z), fun _ _ q n _ he => u.any q n fun z => he (hx _ z), fun b ob q n he => u.free b ob q n fun z => he (hx b z), fun b ob q he => u.there b ob q fun z => he (hx b z), u.tups, u.frzs, u.tbls⟩
end

/-! ### the heap without what is tracked -/
def trk (h : Heap) (H : Hp) : List Addr := (List.range h.objs.size).filter fun a => (H a).isSome
def hidT (h : Heap) (H : Hp) : Heap := PySem.W.hideAll h (trk h H)
theorem hidT_size (h : Heap) (H : Hp) : (hidT h H).objs.size = h.objs.size := PySem.W.hideAll_size _ _
theorem hidT_get {h : Heap} {H : Hp} {b : Addr} {o : Obj} (e : h.get? b = some o) (n : H b = none) : (hidT h H).get? b = some o :=
  PySem.W.hideAll_get _ e fun hm => by
    have q : (H b).isSome = true := (List.mem_filter.mp hm).2
    rw [n] at q; simp at q
theorem of_hidT {h : Heap} {H : Hp} {b : Addr} {o : Obj} (e : (hidT h H).get? b = some o) : h.get? b = some o ∧ H b = none := by
  have e' : h.get? b = some o := PySem.W.of_hideAll (trk h H) e
  refine ⟨e', ?_⟩
  cases q : H b with
  | none => rfl
  | some x =>
    have hm : b ∈ trk h H := List.mem_filter.mpr ⟨List.mem_range.mpr (Heap.lt_size e'), by simp [q]⟩
    have z : (hidT h H).get? b = none := PySem.W.hideAll_none (trk h H) hm
    rw [z] at e; cases e

/-! ### OpenK's ledger, filled with every new object but one -/
def allNews (g h : Heap) (L : Addr) : List (Addr × Obj) := (List.range h.objs.size).filterMap fun a => if a = L ∨ (g.get? a).isSome = true then none else (h.get? a).map fun o => (a, o)
def rest (g h : Heap) (L d : Addr) : List (Addr × Obj) := (allNews g h L).filter fun p => decide (p.1 ≠ d)
end L2

namespace L2
open PySem PySem.Spec PyProof.Rows

/-- the module's facts, over the base: the heap at the law's entry without what is tracked there -/
structure Mod (K : PySem.W.Frag) (mg : Str → Option Value) (base : Heap) : Prop where
  kin : K.In base
  glob : base.Ns mainGlobals mg
  blt : ∃ mb, base.Ns builtinsNs mb ∧ ∀ x : Str, x ≠ "__name__" → mb x = bootBuiltins x
  nolimit : base.NoLimit

/-- the context: a def's body (or a comprehension's block) running. base: fixed through the whole law; s₀, H₀: the entry; outer: the frames whose slots others may change (a def's callers); stack: all frames that run;
   ex: iterators that were made ahead of the entry and are walked here (a comprehension's); fn: the names whose cells were made at the entry (a def: all; a comprehension's block: its own); calm: not within an except suite; pn: pins that every state bears; xe: what is wanted of an exception that leaves the code -/
structure Cx where
  prog : Program
  w : World
  K : PySem.W.Frag
  mg : Str → Option Value
  base : Heap
  A : Around
  N : List Str
  s₀ : Shared
  H₀ : Hp
  env : Env
  outer : List Env
  stack : List Env
  ex : List Addr
  fn : Str → Bool
  calm : Bool
  pn : List (Addr × Obj)
  xe : Value → Shared → Prop
/-- the callers' frames -/
def frs (l : List Env) : List Addr := l.filterMap (·.frame)
abbrev Cx.fs (X : Cx) : List Addr := frs X.outer

def Vis (sc : Scope) (x : Str) : Prop := sc.names.lookup x = some .local ∨ sc.names.lookup x = some .cell ∨ sc.names.lookup x = some .free
def Loc (sc : Scope) (x : Str) : Prop := sc.names.lookup x = some .local ∨ sc.names.lookup x = some .cell
def Look (env : Env) (h : Heap) (m : Str → Option Value) (x : Str) (u : Value) : Prop :=
  (env.kindOf x = some .local ∧ m x = some u) ∨ ((env.kindOf x = some .cell ∨ env.kindOf x = some .free) ∧ ∃ c, env.cells.lookup x = some c ∧ h.IsCell c (some u))

structure Cx.Ok (X : Cx) : Prop where
  mod : Mod X.K X.mg X.base
  kind : X.env.scope.kind = .function
  glob : X.env.globals = mainGlobals
  blt : X.env.builtins = builtinsNs
  above : X.s₀.heap.objs.size ≤ X.env.locals
  inj : ∀ x y c, X.env.cells.lookup x = some c → X.env.cells.lookup y = some c → x = y
  has : ∀ x, (X.env.kindOf x = some .cell ∨ X.env.kindOf x = some .free) → ∃ c, X.env.cells.lookup x = some c
  cab : ∀ x c, X.fn x = true → X.env.cells.lookup x = some c → X.s₀.heap.objs.size ≤ c
  hd : X.calm = true → X.A.handled = none
  frames : X.A.frames = some X.stack
  stk : X.stack = X.outer ∨ (X.stack = X.env :: X.outer ∧ X.env.frame = some X.env.locals)
  exf : ∀ b ∈ X.ex, b ≠ X.env.locals ∧ ∀ x c, X.env.cells.lookup x = some c → c ≠ b
  bs : ∀ b o, X.base.get? b = some o → X.s₀.heap.get? b = some o ∧ X.H₀ b = none
  bsz : X.base.objs.size ≤ X.s₀.heap.objs.size
  noex : ∀ b o, X.base.get? b = some o → b ∉ X.ex
  exfs : ∀ b ∈ X.ex, b ∉ X.fs
  funs : X.s₀.heap.FunFrames X.base X.outer
  frf : ∀ b ∈ X.fs, X.H₀ b = none

structure Inv (X : Cx) (pins : List (Addr × Obj)) (σ : List (Option V)) (H : Hp) (s : Shared) : Prop where
  ok : X.Ok
  os : s.os = X.s₀.os
  bare : AllBare s.gens
  base : Un X.fs X.ex X.H₀ H X.s₀.heap s.heap
  loc : ∃ m, s.heap.Ns X.env.locals m ∧ ∀ (i : Nat) (x : Str) (v : V), X.N[i]? = some x → σ[i]? = some (some v) → Vis X.env.scope x → ∃ u, RelV v u ∧ Look X.env s.heap m x u
  cell : ∀ x c, X.env.cells.lookup x = some c → ∃ v, s.heap.IsCell c v
  free : H X.env.locals = none
  freeC : ∀ x c, X.env.cells.lookup x = some c → H c = none
  pin : ∀ p ∈ X.pn ++ pins, s.heap.get? p.1 = some p.2 ∧ H p.1 = none ∧ p.1 ≠ X.env.locals ∧ p.1 ∉ X.fs ∧ ∀ v, p.2.data ≠ .cell v
  hok : HOk X.prog X.w H s.heap
  len : σ.length = X.N.length

section
variable {X : Cx} {pins : List (Addr × Obj)} {σ : List (Option V)} {H H' : Hp} {s : Shared} {h' : Heap}

theorem Cx.Ok.nofr (ok : X.Ok) {b : Addr} {o : Obj} (e : X.base.get? b = some o) : b ∉ X.fs := fun hb => by
  have := (ok.funs.mem hb).1
  rw [e] at this; cases this
theorem Inv.bs (I : Inv X pins σ H s) : ∀ b o, X.base.get? b = some o → s.heap.get? b = some o ∧ H b = none := fun b o e =>
  ⟨I.base.keep b o (I.ok.bs b o e).1 (I.ok.bs b o e).2 (I.ok.nofr e) (I.ok.noex b o e), I.base.free b o (I.ok.bs b o e).1 (I.ok.bs b o e).2 (I.ok.noex b o e)⟩
theorem Inv.bk (I : Inv X pins σ H s) : ∀ b o, X.base.get? b = some o → s.heap.get? b = some o := fun b o e => (I.bs b o e).1
theorem Inv.mod (I : Inv X pins σ H s) : Mod X.K X.mg X.base := I.ok.mod
theorem Inv.kIn (I : Inv X pins σ H s) : X.K.In s.heap := I.ok.mod.kin.keeps I.bk
theorem Inv.nolimit (I : Inv X pins σ H s) : s.heap.NoLimit := I.ok.mod.nolimit.keeps I.bk
/-- the frame over the base: for OpenK's rules (K.In X.base is I.mod.kin) -/
theorem Inv.fr (I : Inv X pins σ H s) : ∃ m, Fr X.base X.env.locals s.heap m :=
  let ⟨m, hn, _⟩ := I.loc
  ⟨m, hn, I.bk, Nat.le_trans I.ok.bsz I.ok.above⟩
theorem Inv.lt (I : Inv X pins σ H s) : X.env.locals < s.heap.objs.size := let ⟨_, hn, _⟩ := I.loc; hn.lt
theorem Inv.sz (I : Inv X pins σ H s) : X.s₀.heap.objs.size ≤ s.heap.objs.size := Nat.le_trans I.ok.above (Nat.le_of_lt I.lt)
theorem Inv.nofs (I : Inv X pins σ H s) {a : Addr} (h : s.heap.objs.size ≤ a) : a ∉ X.fs := fun hb => by
  obtain ⟨_, o, ho, _⟩ := I.ok.funs.mem hb
  exact absurd (Nat.lt_of_lt_of_le (Heap.lt_size ho) (Nat.le_trans I.sz h)) (Nat.lt_irrefl _)
theorem Inv.cne (I : Inv X pins σ H s) : ∀ x c, X.env.cells.lookup x = some c → c ≠ X.env.locals := fun x c e z => by
  obtain ⟨v, o, ho, hd⟩ := I.cell x c e
  obtain ⟨m, ⟨o', es, ep, ho', hd', _⟩, _⟩ := I.loc
  rw [z, ho'] at ho; cases ho; rw [hd'] at hd; cases hd
theorem Inv.funs (I : Inv X pins σ H s) : s.heap.FunFrames X.base X.outer := by
  have all : ∀ (l : List Env), (∀ b ∈ frs l, b ∈ X.fs) → X.s₀.heap.FunFrames X.base l → s.heap.FunFrames X.base l := by
    intro l
    induction l with
    | nil => intro _ _; trivial
    | cons env r ih =>
      intro hs hl
      obtain ⟨hk, ⟨L, o, hf, hn, ho, hd⟩, hr⟩ := hl
      have hL : L ∈ X.fs := hs L (by unfold frs; rw [List.filterMap_cons, hf]; exact List.mem_cons_self)
      obtain ⟨sl, e⟩ := I.base.slot L o ho (I.ok.frf L hL) hL fun z => I.ok.exfs L z hL
      exact ⟨hk, ⟨L, _, hf, hn, e, hd⟩, ih (fun b hb => hs b (by unfold frs; rw [List.filterMap_cons, hf]; exact List.mem_cons_of_mem _ hb)) hr⟩
  exact all X.outer (fun _ hb => hb) I.ok.funs

/-- the frames that run, for a call -/
theorem Inv.stack (I : Inv X pins σ H s) : s.heap.FunFrames X.base X.stack := by
  rcases I.ok.stk with e | ⟨e, hf⟩
  · rw [e]; exact I.funs
  · rw [e]
    obtain ⟨m, hn, _⟩ := I.loc
    refine .cons (by rw [I.ok.kind]; decide) hf hn ?_ I.funs
    exact Heap.get?_none_of_le (Nat.le_trans I.ok.bsz I.ok.above)
theorem Inv.stkSub (I : Inv X pins σ H s) : ∀ b ∈ frs X.stack, b ∈ X.env.locals :: X.fs := fun b hb => by
  rcases I.ok.stk with e | ⟨e, hf⟩
  · rw [e] at hb; exact List.mem_cons_of_mem _ hb
  · rw [e] at hb
    unfold frs at hb
    rw [List.filterMap_cons, hf] at hb
    exact hb
theorem Inv.stkFree (I : Inv X pins σ H s) : ∀ b ∈ frs X.stack, H b = none := fun b hb => by
  rcases List.mem_cons.mp (I.stkSub b hb) with e | hb
  · rw [e]; exact I.free
  · obtain ⟨_, o, ho, _⟩ := I.ok.funs.mem hb
    exact I.base.free b o ho (I.ok.frf b hb) fun z => I.ok.exfs b z hb

/-- THE STEP: the untracked objects but the frame and the records at ch are kept (the callers' frames up to slots), the frame's map is kept, the new abstract heap is held -/
theorem Inv.step {g' : Array GenState} {t' : Nat} {d' : Drawn} {ch : List Addr} (I : Inv X pins σ H s)
    (hch : ∀ b ∈ ch, (b ∈ X.ex ∨ X.s₀.heap.objs.size ≤ b) ∧ b ≠ X.env.locals ∧ (∀ x c, X.env.cells.lookup x = some c → c ≠ b) ∧ ∀ p ∈ X.pn ++ pins, p.1 ≠ b)
    (keep : ∀ b o, b ≠ X.env.locals → b ∉ X.fs → b ∉ ch → s.heap.get? b = some o → H b = none → h'.get? b = some o)
    (slot : ∀ b o, b ≠ X.env.locals → b ∈ X.fs → b ∉ ch → s.heap.get? b = some o → H b = none → ∃ sl, h'.get? b = some { o with slots := sl }) (free : ∀ b o, b ∉ ch → s.heap.get? b = some o → H b = none → H' b = none)
    (there : ∀ b o, b ∉ ch → s.heap.get? b = some o → ∃ o', h'.get? b = some o')
    (tups : ∀ b xs, H b = some (.tup xs) → H' b = some (.tup xs)) (frzs : ∀ b o u, H b = some (.frz o u) → H' b = some (.frz o u)) (tbls : ∀ b ps, H b = some (.tbl ps) → ∃ more, H' b = some (.tbl (ps ++ more)))
    (ns : ∀ m, s.heap.Ns X.env.locals m → h'.Ns X.env.locals m) (hok : HOk X.prog X.w H' h') (hg : AllBare g') :
    Inv X pins σ H' { s with heap := h', gens := g', drawn := d', toks := t' } := by
  have neL : ∀ b o, X.s₀.heap.get? b = some o → b ≠ X.env.locals := fun b o e => Nat.ne_of_lt (Nat.lt_of_lt_of_le (Heap.lt_size e) I.ok.above)
  have neC : ∀ b o, X.s₀.heap.get? b = some o → b ∉ X.ex → b ∉ ch := fun b o e hx hb => by
    rcases (hch b hb).1 with z | z
    · exact hx z
    · exact absurd (Nat.lt_of_lt_of_le (Heap.lt_size e) z) (Nat.lt_irrefl _)
  have cellK : ∀ x c, X.env.cells.lookup x = some c → ∀ v, s.heap.IsCell c v → h'.IsCell c v := fun x c e v ⟨o, ho, hd⟩ => by
    have nch : c ∉ ch := fun z => (hch c z).2.2.1 x c e rfl
    by_cases hc : c ∈ X.fs
    · obtain ⟨sl, q⟩ := slot c o (I.cne x c e) hc nch ho (I.freeC x c e)
      exact ⟨_, q, hd⟩
    · exact ⟨o, keep c o (I.cne x c e) hc nch ho (I.freeC x c e), hd⟩
  refine ⟨I.ok, I.os, hg, ⟨fun b o e n hb hx => ?_, fun b o e n hb hx => ?_, fun b o e n hx => ?_, fun b o e hx => ?_, fun b xs e => tups b xs (I.base.tups b xs e), fun b o xs e => frzs b o xs (I.base.frzs b o xs e), fun b ps e => ?_⟩, ?_, fun x c e => ?_, ?_, fun x c e => ?_, fun p hp => ?_, hok, I.len⟩
  · exact keep b o (neL b o e) hb (neC b o e hx) (I.base.keep b o e n hb hx) (I.base.free b o e n hx)
  · obtain ⟨sl, e1⟩ := I.base.slot b o e n hb hx
    obtain ⟨sl', e2⟩ := slot b _ (neL b o e) hb (neC b o e hx) e1 (I.base.free b o e n hx)
    exact ⟨sl', e2⟩
  · obtain ⟨o', e1⟩ := I.base.there b o e hx
    exact free b o' (neC b o e hx) e1 (I.base.free b o e n hx)
  · obtain ⟨o', e1⟩ := I.base.there b o e hx
    exact there b o' (neC b o e hx) e1
  · obtain ⟨m1, e1⟩ := I.base.tbls b ps e
    obtain ⟨m2, e2⟩ := tbls b _ e1
    exact ⟨m1 ++ m2, by rw [e2, Array.append_assoc]⟩
  · obtain ⟨m, hn, hl⟩ := I.loc
    refine ⟨m, ns m hn, fun i x v e1 e2 e3 => ?_⟩
    obtain ⟨u, r, l⟩ := hl i x v e1 e2 e3
    refine ⟨u, r, ?_⟩
    rcases l with l | ⟨k, c, e, z⟩
    · exact .inl l
    · exact .inr ⟨k, c, e, cellK x c e _ z⟩
  · obtain ⟨v, z⟩ := I.cell x c e
    exact ⟨v, cellK x c e v z⟩
  · obtain ⟨m, ⟨o, _, _, ho, _⟩, _⟩ := I.loc
    exact free _ o (fun z => (hch _ z).2.1 rfl) ho I.free
  · obtain ⟨v, o, ho, hd⟩ := I.cell x c e
    exact free c o (fun z => (hch c z).2.2.1 x c e rfl) ho (I.freeC x c e)
  · obtain ⟨e, n, ne, nf, d⟩ := I.pin p hp
    have nch : p.1 ∉ ch := fun z => (hch p.1 z).2.2.2 p hp rfl
    exact ⟨keep p.1 p.2 ne nf nch e n, free p.1 p.2 nch e n, ne, nf, d⟩
/-- .. where the frame's own object is kept too -/
theorem Inv.un {t' : Nat} (I : Inv X pins σ H s) (u : Un X.fs [] H H' s.heap h') (hok : HOk X.prog X.w H' h') : Inv X pins σ H' { s with heap := h', toks := t' } := by
  obtain ⟨m, ⟨o, es, ep, ho, r⟩, _⟩ := id I.loc
  obtain ⟨sl, hL⟩ := u.any ho I.free (by simp)
  exact I.step (g' := s.gens) (d' := s.drawn) (ch := []) (fun _ z => nomatch z) (fun b o _ hb _ e n => u.keep b o e n hb (by simp)) (fun b o _ hb _ e n => u.slot b o e n hb (by simp)) (fun b o _ e n => u.free b o e n (by simp)) (fun b o _ e => u.there b o e (by simp)) u.tups u.frzs u.tbls (fun m' hm => by
    obtain ⟨o', es', ep', ho', r'⟩ := hm
    rw [ho] at ho'; cases ho'
    exact ⟨_, es', ep', hL, r'⟩) hok I.bare
/-- behind a call (or a comprehension's block): the slots of this frame may have changed too, the records at ch may have turned -/
theorem Inv.call {g' : Array GenState} {t' : Nat} {d' : Drawn} {ch : List Addr} (I : Inv X pins σ H s) (u : Un (frs X.stack) ch H H' s.heap h') (hok : HOk X.prog X.w H' h') (hg : AllBare g')
    (hch : ∀ b ∈ ch, (b ∈ X.ex ∨ X.s₀.heap.objs.size ≤ b) ∧ b ≠ X.env.locals ∧ (∀ x c, X.env.cells.lookup x = some c → c ≠ b) ∧ ∀ p ∈ X.pn ++ pins, p.1 ≠ b) :
    Inv X pins σ H' { s with heap := h', gens := g', drawn := d', toks := t' } := by
  obtain ⟨m, ⟨o, es, ep, ho, r⟩, _⟩ := id I.loc
  obtain ⟨sl, hL⟩ := u.any ho I.free fun z => (hch _ z).2.1 rfl
  exact I.step (ch := ch) hch (fun b o hL hb hc e n => u.keep b o e n (fun z => (List.mem_cons.mp (I.stkSub b z)).elim hL hb) hc) (fun b o _ _ hc e n => u.any e n hc) (fun b o hc e n => u.free b o e n hc) (fun b o hc e => u.there b o e hc) u.tups u.frzs u.tbls (fun m' hm => by
    obtain ⟨o', es', ep', ho', r'⟩ := hm
    rw [ho] at ho'; cases ho'
    exact ⟨_, es', ep', hL, r'⟩) hok hg
/-- an untracked record of ours (an iterator) has turned -/
theorem Inv.turned {t' : Nat} {it : Addr} (I : Inv X pins σ H s) (k : ∀ b o, b ≠ it → s.heap.get? b = some o → h'.get? b = some o) (hn : H it = none) (hL : it ≠ X.env.locals)
    (h1 : it ∈ X.ex ∨ X.s₀.heap.objs.size ≤ it) (h2 : ∀ x c, X.env.cells.lookup x = some c → c ≠ it) (h3 : ∀ p ∈ X.pn ++ pins, p.1 ≠ it) : Inv X pins σ H { s with heap := h', toks := t' } := by
  have nit : ∀ b u, H b = some u → b ≠ it := fun b u e z => by rw [z, hn] at e; cases e
  refine I.step (g' := s.gens) (d' := s.drawn) (ch := [it]) (fun b hb => ?_) (fun b o _ _ hc e _ => k b o (fun z => hc (by simp [z])) e) (fun b o _ _ hc e _ => ⟨o.slots, k b o (fun z => hc (by simp [z])) e⟩) (fun _ _ _ _ n => n)
    (fun b o hc e => ⟨o, k b o (fun z => hc (by simp [z])) e⟩) (fun _ _ e => e) (fun _ _ _ e => e) (fun b ps e => ⟨#[], by rw [e]; simp⟩) (fun m hm => ?_) (fun b u e => ?_) I.bare
  · have e : b = it := by simpa using hb
    subst e
    exact ⟨h1, hL, h2, h3⟩
  · obtain ⟨o, es, ep, ho, r⟩ := hm
    exact ⟨o, es, ep, k _ o (Ne.symm hL) ho, r⟩
  · refine (I.hok b u e).stay (fun c v hc q => k c v ?_ q) (fun _ q => q) fun _ _ q => q
    rcases hc with z | z
    · rw [z]; exact nit b u e
    · exact nit c _ z
theorem Inv.tok (I : Inv X pins σ H s) (t : Nat) : Inv X pins σ H { s with toks := t } := I.un (h' := s.heap) (t' := t) Un.refl I.hok
/-- all objects kept -/
theorem Inv.kept {t' : Nat} (I : Inv X pins σ H s) (k : ∀ b u, s.heap.get? b = some u → h'.get? b = some u) : Inv X pins σ H { s with heap := h', toks := t' } := I.un (Un.kept k) (I.hok.kept k)
/-- a new object laid and tracked -/
theorem Inv.laid {a : Addr} {o : HO} {t' : Nat} (I : Inv X pins σ H s) (k : ∀ b u, s.heap.get? b = some u → h'.get? b = some u) (hp : s.heap.objs.size ≤ a) (new : ObjOk X.prog X.w (upd H a o) h' a o) :
    Inv X pins σ (upd H a o) { s with heap := h', toks := t' } := I.un (Un.laid k hp (I.hok.fresh hp)) (I.hok.laid k hp new)
/-- an object written -/
theorem Inv.write {x e : Addr} {o : HO} {t' : Nat} (I : Inv X pins σ H s) (mu : Mut (H x)) (he : e = x ∨ H e = some (.own x)) (k : ∀ b u, b ≠ e → s.heap.get? b = some u → h'.get? b = some u) (heo : ∃ u, h'.get? e = some u)
    (new : ObjOk X.prog X.w (upd H x o) h' x o) : Inv X pins σ (upd H x o) { s with heap := h', toks := t' } := I.un (Un.write mu he k heo) (I.hok.write mu he k heo new)
/-- forgetting slots, pins -/
theorem Inv.weak {σ' : List (Option V)} (I : Inv X pins σ H s) (hl : σ'.length = σ.length) (w : ∀ (i : Nat) v, σ'[i]? = some (some v) → σ[i]? = some (some v)) : Inv X pins σ' H s :=
  ⟨I.ok, I.os, I.bare, I.base, let ⟨m, hn, hl'⟩ := I.loc; ⟨m, hn, fun i x v e1 e2 e3 => hl' i x v e1 (w i v e2) e3⟩, I.cell, I.free, I.freeC, I.pin, I.hok, hl.trans I.len⟩
theorem Inv.pins_of {pins' : List (Addr × Obj)} (I : Inv X pins σ H s) (h : ∀ p ∈ pins', s.heap.get? p.1 = some p.2 ∧ H p.1 = none ∧ p.1 ≠ X.env.locals ∧ p.1 ∉ X.fs ∧ ∀ v, p.2.data ≠ .cell v) : Inv X pins' σ H s :=
  ⟨I.ok, I.os, I.bare, I.base, I.loc, I.cell, I.free, I.freeC, fun p hp => (List.mem_append.mp hp).elim (fun z => I.pin p (List.mem_append_left _ z)) (h p), I.hok, I.len⟩

theorem nodup_ix {N : List Str} (hN : N.Nodup) {i j : Nat} {x : Str} (a : N[i]? = some x) (b : N[j]? = some x) : i = j := by
  obtain ⟨h1, e1⟩ := List.getElem?_eq_some_iff.mp a
  obtain ⟨h2, e2⟩ := List.getElem?_eq_some_iff.mp b
  exact (List.getElem_inj hN).mp (e1.trans e2.symm)

/-- a name is stored; what changed -/
theorem store_ok2 {M : Model} {A : Around} {E : Value → Shared → Prop} {i : Nat} {x : Str} {v : V} {u : Value} {Q : Unit → Shared → Prop} (I : Inv X pins σ H s) (hN : X.N.Nodup) (hi : X.N[i]? = some x) (hx : Loc X.env.scope x) (r : RelV v u)
    (h : ∀ s', Inv X pins (σ.set i (some v)) H s' → (∃ a, Heap.SameBut a s.heap s'.heap ∧ (a = X.env.locals ∨ X.env.cells.lookup x = some a)) → Q () s') (hf : X.fn x = true ∨ X.env.scope.names.lookup x = some .local := by first | exact .inl rfl | exact .inr rfl | assumption) : wpAny M A (storeName X.env x u) Q E s := by
  obtain ⟨m, hn, hl⟩ := id I.loc
  have hcls : (X.env.scope.kind == .class || (X.env.scope.kind == .module && X.env.locals != X.env.globals)) = false := by rw [I.ok.kind]; rfl
  have hiσ : i < σ.length := by rw [I.len]; exact (List.getElem?_eq_some_iff.mp hi).1
  have cne := I.cne
  have tracked : ∀ {a : Addr} {h' : Heap}, (∃ o, s.heap.get? a = some o ∧ H a = none) → Heap.SameBut a s.heap h' → HOk X.prog X.w H h' := fun {a h'} ha hs b ob e => by
    obtain ⟨_, _, hfree⟩ := ha
    refine (I.hok b ob e).stay (fun c w' hc q => (hs.2 c ?_).trans q) (fun _ q => q) fun _ _ q => q
    rintro rfl
    rcases hc with rfl | hc
    · rw [hfree] at e; cases e
    · rw [hfree] at hc; cases hc
  rcases hx with hk | hk
  · refine wpAny_storeName_local hk hn (fun h' hn' hs => ?_) hcls
    obtain ⟨oL, _, _, hoL, _⟩ := id hn
    refine h _ ⟨I.ok, I.os, I.bare, ⟨fun b o e n hb hx => ?_, fun b o e n hb hx => ?_, I.base.free, fun b o e hx => ?_, I.base.tups, I.base.frzs, I.base.tbls⟩, ⟨_, hn', fun j y v' e1 e2 e3 => ?_⟩, fun y c e => ?_, I.free, I.freeC, fun p hp => ?_, tracked ⟨oL, hoL, I.free⟩ hs, by simpa using I.len⟩ ⟨_, hs, .inl rfl⟩
    · exact (hs.2 b (Nat.ne_of_lt (Nat.lt_of_lt_of_le (Heap.lt_size e) I.ok.above))).trans (I.base.keep b o e n hb hx)
    · obtain ⟨sl, e1⟩ := I.base.slot b o e n hb hx
      exact ⟨sl, (hs.2 b (Nat.ne_of_lt (Nat.lt_of_lt_of_le (Heap.lt_size e) I.ok.above))).trans e1⟩
    · obtain ⟨o', e1⟩ := I.base.there b o e hx
      exact ⟨o', (hs.2 b (Nat.ne_of_lt (Nat.lt_of_lt_of_le (Heap.lt_size e) I.ok.above))).trans e1⟩
    · by_cases hj : j = i
      · subst hj
        rw [hi] at e1; cases e1
        rw [List.getElem?_set_self hiσ] at e2
        cases e2
        exact ⟨u, r, .inl ⟨hk, by simp⟩⟩
      · rw [List.getElem?_set_ne (Ne.symm hj)] at e2
        obtain ⟨u', r', q⟩ := hl j y v' e1 e2 e3
        refine ⟨u', r', ?_⟩
        rcases q with ⟨k, e⟩ | ⟨k, c, e, z⟩
        · refine .inl ⟨k, ?_⟩
          have : y ≠ x := fun e => hj (nodup_ix hN e1 (e ▸ hi))
          simp [this, e]
        · exact .inr ⟨k, c, e, z.sameBut hs (cne y c e)⟩
    · obtain ⟨w', z⟩ := I.cell y c e
      exact ⟨w', z.sameBut hs (cne y c e)⟩
    · obtain ⟨e, n, ne, nf, d⟩ := I.pin p hp
      exact ⟨(hs.2 p.1 ne).trans e, n, ne, nf, d⟩
  · have hfn : X.fn x = true := by
      rcases hf with z | z
      · exact z
      · rw [z] at hk; cases hk
    obtain ⟨c, hc⟩ := I.ok.has x (.inl hk)
    obtain ⟨w', z⟩ := I.cell x c hc
    refine wpAny_storeName_cell I.ok.kind hk hc z (fun h' hc' hs => ?_)
    obtain ⟨oc, hoc, hocd⟩ := id z
    refine h { s with heap := h' } ⟨I.ok, I.os, I.bare, ⟨fun b o e n hb hx => ?_, fun b o e n hb hx => ?_, I.base.free, fun b o e hx => ?_, I.base.tups, I.base.frzs, I.base.tbls⟩, ⟨m, hn.sameBut hs (Ne.symm (cne x c hc)), fun j y v' e1 e2 e3 => ?_⟩, fun y c' e => ?_, I.free, I.freeC, fun p hp => ?_, tracked ⟨oc, hoc, I.freeC x c hc⟩ hs, by simpa using I.len⟩ ⟨c, hs, .inr hc⟩
    · exact (hs.2 b (Nat.ne_of_lt (Nat.lt_of_lt_of_le (Heap.lt_size e) (I.ok.cab x c hfn hc)))).trans (I.base.keep b o e n hb hx)
    · obtain ⟨sl, e1⟩ := I.base.slot b o e n hb hx
      exact ⟨sl, (hs.2 b (Nat.ne_of_lt (Nat.lt_of_lt_of_le (Heap.lt_size e) (I.ok.cab x c hfn hc)))).trans e1⟩
    · obtain ⟨o', e1⟩ := I.base.there b o e hx
      exact ⟨o', (hs.2 b (Nat.ne_of_lt (Nat.lt_of_lt_of_le (Heap.lt_size e) (I.ok.cab x c hfn hc)))).trans e1⟩
    · by_cases hj : j = i
      · subst hj
        rw [hi] at e1; cases e1
        rw [List.getElem?_set_self hiσ] at e2
        cases e2
        exact ⟨u, r, .inr ⟨.inl hk, c, hc, hc'⟩⟩
      · rw [List.getElem?_set_ne (Ne.symm hj)] at e2
        obtain ⟨u', r', q⟩ := hl j y v' e1 e2 e3
        refine ⟨u', r', ?_⟩
        rcases q with q | ⟨k, c', e, z'⟩
        · exact .inl q
        · refine .inr ⟨k, c', e, z'.sameBut hs ?_⟩
          rintro rfl
          exact hj (nodup_ix hN e1 (I.ok.inj _ _ _ e hc ▸ hi))
    · by_cases hcc : c' = c
      · subst hcc; exact ⟨_, hc'⟩
      · obtain ⟨w2, z2⟩ := I.cell y c' e
        exact ⟨w2, z2.sameBut hs hcc⟩
    · obtain ⟨e, n, ne, nf, d⟩ := I.pin p hp
      refine ⟨(hs.2 p.1 ?_).trans e, n, ne, nf, d⟩
      intro q
      rw [q, hoc] at e
      have q' : oc = p.2 := Option.some.inj e
      exact d w' (by rw [← q']; exact hocd)
theorem store_ok {M : Model} {A : Around} {E : Value → Shared → Prop} {i : Nat} {x : Str} {v : V} {u : Value} {Q : Unit → Shared → Prop} (I : Inv X pins σ H s) (hN : X.N.Nodup) (hi : X.N[i]? = some x) (hx : Loc X.env.scope x) (r : RelV v u)
    (h : ∀ s', Inv X pins (σ.set i (some v)) H s' → Q () s') (hf : X.fn x = true ∨ X.env.scope.names.lookup x = some .local := by first | exact .inl rfl | exact .inr rfl | assumption) : wpAny M A (storeName X.env x u) Q E s :=
  store_ok2 I hN hi hx r (fun s' I' _ => h s' I') hf
/-- behind a call or a block, the state as it is -/
theorem Inv.call' {s' : Shared} {ch : List Addr} (I : Inv X pins σ H s) (ho : s'.os = s.os) (u : Un (frs X.stack) ch H H' s.heap s'.heap) (hok : HOk X.prog X.w H' s'.heap) (hg : AllBare s'.gens)
    (hch : ∀ b ∈ ch, (b ∈ X.ex ∨ X.s₀.heap.objs.size ≤ b) ∧ b ≠ X.env.locals ∧ (∀ x c, X.env.cells.lookup x = some c → c ≠ b) ∧ ∀ p ∈ X.pn ++ pins, p.1 ≠ b) : Inv X pins σ H' s' := by
  obtain ⟨h', g', d', t', o'⟩ := s'
  have e : o' = s.os := ho
  subst e
  exact I.call (g' := g') (t' := t') (d' := d') u hok hg hch
end

/-! ### the judgements -/
/-- an exception: its class, its own dict's address (where it has one), the abstract heap behind it -/
abbrev XK := Value → Option Addr → Hp → Prop
abbrev St := List (Option V)
abbrev VK := V → Hp → Prop
/-- an expression's reading; a test's; an argument list's -/
abbrev TE := St → Hp → VK → Prop
abbrev TT := St → Hp → (Bool → Hp → Prop) → Prop
abbrev TA := St → Hp → (List V → Hp → Prop) → Prop
/-- what is wanted behind a statement -/
structure Ends where
  nx : St → Hp → Prop
  rt : VK
  bk : St → Hp → Prop := fun _ _ => False
  ct : St → Hp → Prop := fun _ _ => False
abbrev TS := Ends → St → Hp → Prop

def EP (X : Cx) (pins : List (Addr × Obj)) (σ : St) (Q : VK) (u : Value) (s' : Shared) : Prop := ∃ v H', Inv X pins σ H' s' ∧ RelV v u ∧ Q v H'
def TP (X : Cx) (pins : List (Addr × Obj)) (σ : St) (Q : Bool → Hp → Prop) (b : Bool) (s' : Shared) : Prop := ∃ H', Inv X pins σ H' s' ∧ Q b H'
def AP (X : Cx) (pins : List (Addr × Obj)) (σ : St) (Q : List V → Hp → Prop) (us : List Value) (s' : Shared) : Prop := ∃ vs H', Inv X pins σ H' s' ∧ Vals vs us ∧ Q vs H'
def SP (X : Cx) (pins : List (Addr × Obj)) (D : Ends) (f : Flow) (s' : Shared) : Prop :=
  match f with
  | .next => ∃ σ' H', Inv X pins σ' H' s' ∧ D.nx σ' H'
  | .brk => ∃ σ' H', Inv X pins σ' H' s' ∧ D.bk σ' H'
  | .cont => ∃ σ' H', Inv X pins σ' H' s' ∧ D.ct σ' H'
  | .ret u => ∃ v σ' H', Inv X pins σ' H' s' ∧ RelV v u ∧ D.rt v H'

def PE (X : Cx) (e : Expr) (t : TE) : Prop :=
  ∀ (pins : List (Addr × Obj)) (s : Shared) (σ : St) (H : Hp) (Q : VK), Inv X pins σ H s → t σ H Q → wpAny (model X.prog X.w) X.A (eval e X.env) (EP X pins σ Q) X.xe s
def PT (X : Cx) (e : Expr) (t : TT) : Prop :=
  ∀ (pins : List (Addr × Obj)) (s : Shared) (σ : St) (H : Hp) (Q : Bool → Hp → Prop), Inv X pins σ H s → t σ H Q → wpAny (model X.prog X.w) X.A (isTrue e X.env (eval e X.env)) (TP X pins σ Q) X.xe s
/-- a test whatever its 'whole' is (and, or) -/
def PW (X : Cx) (e : Expr) (t : TT) : Prop :=
  ∀ (whole : Sem Value) (pins : List (Addr × Obj)) (s : Shared) (σ : St) (H : Hp) (Q : Bool → Hp → Prop), Inv X pins σ H s → t σ H Q → wpAny (model X.prog X.w) X.A (isTrue e X.env whole) (TP X pins σ Q) X.xe s
theorem PW.pt {X : Cx} {e : Expr} {t : TT} (h : PW X e t) : PT X e t := h _
/-- an argument list (no star), from the left -/
def PA (X : Cx) (es : List Expr) (t : TA) : Prop :=
  ∀ (pos : Pos) (pins : List (Addr × Obj)) (s : Shared) (σ : St) (H : Hp) (Q : List V → Hp → Prop), Inv X pins σ H s → t σ H Q → wpAny (model X.prog X.w) X.A (spliced (backTo pos (starEach es X.env))) (AP X pins σ Q) X.xe s
def PS (X : Cx) (st : Stmt) (t : TS) : Prop :=
  ∀ (pins : List (Addr × Obj)) (s : Shared) (σ : St) (H : Hp) (D : Ends), Inv X pins σ H s → t D σ H → wpAny (model X.prog X.w) X.A (exec st X.env) (SP X pins D) X.xe s
def PSs (X : Cx) (st : List Stmt) (t : TS) : Prop :=
  ∀ (pins : List (Addr × Obj)) (s : Shared) (σ : St) (H : Hp) (D : Ends), Inv X pins σ H s → t D σ H → wpAny (model X.prog X.w) X.A (execs st X.env) (SP X pins D) X.xe s
/-- weaken the end -/
theorem thn {α : Type} {t : Sem α} {Q Q' : α → Shared → Prop} {M : Model} {A : Around} {E : Value → Shared → Prop} {s : Shared} (h : wpAny M A t Q E s) (hQ : ∀ a s, Q a s → Q' a s) : wpAny M A t Q' E s := wpAny_mono h hQ fun _ _ x => x
end L2

namespace L2
open PySem PySem.Spec PyProof.Rows
section
variable {X : Cx}

/-! ### names and constants -/
def tVar (i : Nat) : TE := fun σ H Q => ∃ v, σ[i]? = some (some v) ∧ Q v H
def tC (v : V) : TE := fun _ H Q => Q v H
theorem pe_var {i : Nat} {x : Str} {pos : Pos} (hN : X.N[i]? = some x) (hv : Vis X.env.scope x) (hd : (x == ("__debug__" : Str)) = false := by decide) (hcd : (x == ("__classdict__" : Str)) = false := by decide) : PE X (.Name x pos) (tVar i) := by
  intro pins s σ H Q I h
  obtain ⟨v, e, h⟩ := h
  obtain ⟨m, hn, hl⟩ := I.loc
  obtain ⟨u, r, l⟩ := hl i x v hN e hv
  have fin : EP X pins σ Q u s := ⟨v, H, I, r, h⟩
  rcases l with ⟨hk, hm⟩ | ⟨hk, c, hc, hcell⟩
  · exact wpAny_Name (wpAny_loadName_local I.ok.kind hk hn hm fin) hd
  · rcases hk with hk | hk
    · exact wpAny_Name (wpAny_loadName_cell I.ok.kind hk hc hcell fin) hd
    · exact wpAny_Name (wpAny_loadName_free I.ok.kind hk hc hcell fin hcd) hd
theorem pe_int {i j pos} : PE X (.Constant (.int i) j pos) (tC (.int i)) := fun _ _ _ H _ I h => wpAny_Constant_int ⟨.int i, H, I.tok _, ⟨_, rfl⟩, h⟩
theorem pe_bl {b j pos} : PE X (.Constant (.bool b) j pos) (tC (.bl b)) := fun _ _ _ H _ I h => Constant_bool ⟨.bl b, H, I, rfl, h⟩
theorem pe_non {j pos} : PE X (.Constant .none j pos) (tC .non) := fun _ _ _ H _ I h => Constant_none ⟨.non, H, I, rfl, h⟩
theorem pe_str {x j pos} : PE X (.Constant (.str x) j pos) (tC (.str x)) := fun _ _ _ H _ I h => Calls.Constant_str ⟨.str x, H, I.tok _, ⟨_, rfl⟩, h⟩

/-- a global name of the def -/
def Gl (X : Cx) (x : Str) : Prop := X.env.kindOf x = some .globalImplicit
theorem ld_glob {E : Value → Shared → Prop} {pins : List (Addr × Obj)} {s : Shared} {σ : St} {H : Hp} {x : Str} {u : Value} {pos : Pos} {Q : Value → Shared → Prop} (I : Inv X pins σ H s) (hg : Gl X x) (hm : X.mg x = some u) (h : Q u s)
    (hd : (x == ("__debug__" : Str)) = false := by decide) : wpAny (model X.prog X.w) X.A (eval (.Name x pos) X.env) Q E s :=
  Calls.Name_function_global I.ok.kind hg (Calls.loadGlobal_global (by rw [I.ok.glob]; exact I.mod.glob.keeps I.bk) hm h) hd
theorem ld_blt {E : Value → Shared → Prop} {pins : List (Addr × Obj)} {s : Shared} {σ : St} {H : Hp} {x : Str} {u : Value} {pos : Pos} {Q : Value → Shared → Prop} (I : Inv X pins σ H s) (hg : Gl X x) (hm : X.mg x = none) (hv : bootBuiltins x = some u) (h : Q u s)
    (hn : x ≠ "__name__" := by decide) (hd : (x == ("__debug__" : Str)) = false := by decide) : wpAny (model X.prog X.w) X.A (eval (.Name x pos) X.env) Q E s := by
  obtain ⟨mb, h1, h2⟩ := I.mod.blt
  exact Calls.Name_function_global I.ok.kind hg (Calls.loadGlobal_builtin (by rw [I.ok.glob]; exact I.mod.glob.keeps I.bk) hm (by rw [I.ok.blt]; exact h1.keeps I.bk) ((h2 x hn).trans hv) h) hd
/-- a module's constant, a class, a function, as a value -/
theorem pe_glob {x : Str} {v : V} {u : Value} {pos : Pos} (hg : Gl X x) (hm : X.mg x = some u) (r : RelV v u) (hd : (x == ("__debug__" : Str)) = false := by decide) : PE X (.Name x pos) (tC v) :=
  fun _ _ _ H _ I h => ld_glob I hg hm ⟨v, H, I, r, h⟩ hd
theorem pe_bltn {x : Str} {v : V} {u : Value} {pos : Pos} (hg : Gl X x) (hm : X.mg x = none) (hv : bootBuiltins x = some u) (r : RelV v u) (hn : x ≠ "__name__" := by decide) (hd : (x == ("__debug__" : Str)) = false := by decide) : PE X (.Name x pos) (tC v) :=
  fun _ _ _ H _ I h => ld_blt I hg hm hv ⟨v, H, I, r, h⟩ hn hd

/-! ### arithmetic -/
variable {a b : Expr} {ta tb : TE} {pos : Pos}
/-! ### comparisons -/
/-- a comparison as a value, as a test -/
def tB (t : TE) : TT := fun σ H Q => t σ H fun x H1 => ∃ c, x = .bl c ∧ Q c H1
/-- an expression whose value is a bool, as a test -/
theorem pt_val {e : Expr} {t : TE} (h : PE X e t) (he : ∀ whole, isTrue e X.env whole = (do let v ← whole; standAt e.pos; holding [v] (truthy v)) := by intro _; rfl) : PT X e (tB t) := by
  intro pins s σ H Q I hw
  refine isTrue_plain (thn (h pins s σ H _ I hw) fun v s1 ⟨x, H1, I1, r1, q1⟩ => ?_) (he _)
  obtain ⟨d, rfl, q⟩ := q1
  cases r1
  exact wpAny_truthy_bool ⟨H1, I1, q⟩

/-! ### and, or, not -/
variable {tA tB' : TT} {rest : List Expr}
def tAnd (t u : TT) : TT := fun σ H Q => t σ H fun c H1 => if c = true then u σ H1 Q else Q false H1
def tOr (t u : TT) : TT := fun σ H Q => t σ H fun c H1 => if c = true then Q true H1 else u σ H1 Q
def tNot (t : TT) : TT := fun σ H Q => t σ H fun c H1 => Q (!c) H1
theorem pw_or1 (ha : PT X a tA) : PW X (.BoolOp .Or [a] pos) tA := by
  intro wh pins s σ H Q I h
  refine isTrue_or (thn (ha pins s σ H Q I h) fun c s1 e => ?_)
  cases c with
  | false => exact isTrue_or_nil e
  | true => exact e
theorem pw_or (ha : PT X a tA) (hb : PW X (.BoolOp .Or (b :: rest) pos) tB') : PW X (.BoolOp .Or (a :: b :: rest) pos) (tOr tA tB') := by
  intro wh pins s σ H Q I h
  refine isTrue_or (thn (ha pins s σ H _ I h) fun c s1 ⟨H1, I1, q1⟩ => ?_)
  cases c with
  | true => exact ⟨H1, I1, q1⟩
  | false => exact hb wh pins s1 σ H1 Q I1 q1
theorem pt_not (ha : PT X a tA) : PT X (.UnaryOp .Not a pos) (tNot tA) := by
  intro pins s σ H Q I h
  exact isTrue_not (ha pins s σ H (fun c H1 => Q (!c) H1) I h)
/-- .. as values (bools) -/
def tAndV (ta tb : TE) : TE := fun σ H Q => ta σ H fun x H1 => ∃ c, x = .bl c ∧ if c = true then tb σ H1 Q else Q (.bl false) H1
def tOrV (ta tb : TE) : TE := fun σ H Q => ta σ H fun x H1 => ∃ c, x = .bl c ∧ if c = true then Q (.bl true) H1 else tb σ H1 Q
def tNotV (ta : TE) : TE := fun σ H Q => ta σ H fun x H1 => ∃ c, x = .bl c ∧ Q (.bl (!c)) H1
theorem pe_one {op} {t : TE} (h : PE X a t) : PE X (.BoolOp op [a] pos) t := fun pins s σ H Q I hw => BoolOp_one (h pins s σ H Q I hw)
theorem pe_and (ha : PE X a ta) (hb : PE X (.BoolOp .And (b :: rest) pos) tb) : PE X (.BoolOp .And (a :: b :: rest) pos) (tAndV ta tb) := by
  intro pins s σ H Q I h
  refine BoolOp_and (thn (ha pins s σ H _ I h) fun v s1 ⟨x, H1, I1, r1, q1⟩ => ?_)
  obtain ⟨c, rfl, q1⟩ := q1
  cases r1
  refine wpAny_truthy_bool ?_
  cases c with
  | true => exact hb pins s1 σ H1 Q I1 q1
  | false => exact ⟨.bl false, H1, I1, rfl, q1⟩
theorem pe_not (ha : PE X a ta) : PE X (.UnaryOp .Not a pos) (tNotV ta) := by
  intro pins s σ H Q I h
  refine UnaryOp_ (thn (ha pins s σ H _ I h) fun v s1 ⟨x, H1, I1, r1, q1⟩ => ?_)
  obtain ⟨c, rfl, q1⟩ := q1
  cases r1
  exact not_of (wpAny_truthy_bool ⟨.bl (!c), H1, I1, rfl, q1⟩)
/-- a if t else b -/
def tIf (t : TT) (ta tb : TE) : TE := fun σ H Q => t σ H fun c H1 => if c = true then ta σ H1 Q else tb σ H1 Q
theorem pe_ifExp {c : Expr} (hc : PT X c tA) (ha : PE X a ta) (hb : PE X b tb) : PE X (.IfExp c a b pos) (tIf tA ta tb) := by
  intro pins s σ H Q I h
  refine wpAny_IfExp (thn (hc pins s σ H _ I h) fun d s1 ⟨H1, I1, q1⟩ => ?_)
  cases d with
  | true => exact ha pins s1 σ H1 Q I1 q1
  | false => exact hb pins s1 σ H1 Q I1 q1
end
end L2

namespace L2
open PySem PySem.Spec PyProof.Rows

/-! ### a list, a tuple that is read: tracked, frozen, or an object of the module -/
def SqL (K : PySem.W.Frag) (H : Hp) (a : Addr) (xs : List V) : Prop :=
  Rd H a (.lst xs) ∨
    ∃ (o : Obj) (its : Array Value) (n : Nat), K.lookup a = some o ∧ o.cls = .type "list" ∧ o.dict = none ∧ o.data = .seq its n ∧ its.size ≤ sizeLine ∧ Vals xs its.toList
def SqT (K : PySem.W.Frag) (H : Hp) (a : Addr) (xs : List V) : Prop :=
  Rd H a (.tup xs) ∨
    ∃ (o : Obj) (its : Array Value) (n : Nat), K.lookup a = some o ∧ o.cls = .type "tuple" ∧ o.data = .seq its n ∧ its.size ≤ sizeLine ∧ Vals xs its.toList
def absV : Value → Option V
  | .none => some .non
  | .bool b => some (.bl b)
  | .int i _ => some (.int i)
  | .str x _ => some (.str x)
  | .bytes b _ => some (.byt b)
  | .float b _ => some (.flt b)
  | .ref a => some (.ref a)
  | .type n => some (.ty n)
  | _ => none
theorem RelV.abs {x : V} {u : Value} (r : RelV x u) : absV u = some x := by
  cases x with
  | non => cases r; rfl
  | bl _ => cases r; rfl
  | int _ => obtain ⟨t, rfl⟩ := r; rfl
  | str _ => obtain ⟨t, rfl⟩ := r; rfl
  | byt _ => obtain ⟨t, rfl⟩ := r; rfl
  | flt _ => obtain ⟨t, rfl⟩ := r; rfl
  | ref _ => cases r; rfl
  | ty _ => cases r; rfl
theorem RelV.inj {x y : V} {u : Value} (r : RelV x u) (q : RelV y u) : x = y := Option.some.inj (r.abs.symm.trans q.abs)
theorem Vals.inj : ∀ {xs ys : List V} {us : List Value}, Vals xs us → Vals ys us → xs = ys
  | _, _, _, .nil, .nil => rfl
  | _, _, _, .cons r t, .cons r' t' => by rw [r.inj r', Vals.inj t t']
section
variable {X : Cx} {pins : List (Addr × Obj)} {σ : St} {H : Hp} {s : Shared} {a : Addr} {xs ys : List V}
theorem SqL.of {K : PySem.W.Frag} (h : H a = some (.lst xs)) : SqL K H a xs := .inl (.inl h)
theorem SqT.of {K : PySem.W.Frag} (h : H a = some (.tup xs)) : SqT K H a xs := .inl (.inl h)
theorem Inv.list (I : Inv X pins σ H s) (h : SqL X.K H a xs) : ∃ its : List Value, Vals xs its ∧ PlainL s.heap a its.toArray ∧ xs.length ≤ sizeLine := by
  rcases h with h | ⟨o, its, n, hk, hc, hd, hs, hz, r⟩
  · obtain ⟨z, its, n, r, e⟩ := h.ok I.hok
    exact ⟨its, r, ⟨_, n, e, rfl, rfl, rfl⟩, z⟩
  · refine ⟨its.toList, r, ⟨o, n, I.kIn a o hk, hc, hd, by simpa using hs⟩, ?_⟩
    have e := r.length
    simp only [Array.length_toList] at e
    omega
theorem Inv.tuple (I : Inv X pins σ H s) (h : SqT X.K H a xs) : ∃ its : List Value, Vals xs its ∧ IsTup s.heap a its.toArray ∧ xs.length ≤ sizeLine := by
  rcases h with h | ⟨o, its, n, hk, hc, hs, hz, r⟩
  · obtain ⟨z, its, r, p⟩ := h.ok I.hok
    exact ⟨its, r, p, z⟩
  · refine ⟨its.toList, r, ⟨o, I.kIn a o hk, hc, n, by simpa using hs⟩, ?_⟩
    have e := r.length
    simp only [Array.length_toList] at e
    omega
theorem Inv.list_inj (I : Inv X pins σ H s) (h : SqL X.K H a xs) (h' : SqL X.K H a ys) : xs = ys := by
  obtain ⟨its, r, ⟨o, n, e, _, _, d⟩, _⟩ := I.list h
  obtain ⟨its', r', ⟨o', n', e', _, _, d'⟩, _⟩ := I.list h'
  rw [e] at e'; cases e'
  rw [d] at d'
  injection d' with d1 _
  have : its = its' := by simpa using congrArg Array.toList d1
  subst this
  exact r.inj r'
end

/-! ### another wish about exceptions -/
abbrev Cx.wish (X : Cx) (E : Value → Shared → Prop) : Cx := { X with xe := E }
/-- no exception leaves -/
abbrev Cx.nox (X : Cx) : Cx := X.wish fun _ _ => False
theorem Cx.Ok.wish {X : Cx} (ok : X.Ok) (E : Value → Shared → Prop) : (X.wish E).Ok :=
  ⟨ok.mod, ok.kind, ok.glob, ok.blt, ok.above, ok.inj, ok.has, ok.cab, ok.hd, ok.frames, ok.stk, ok.exf, ok.bs, ok.bsz, ok.noex, ok.exfs, ok.funs, ok.frf⟩
theorem Cx.Ok.unwish {X : Cx} {E : Value → Shared → Prop} (ok : (X.wish E).Ok) : X.Ok :=
  ⟨ok.mod, ok.kind, ok.glob, ok.blt, ok.above, ok.inj, ok.has, ok.cab, ok.hd, ok.frames, ok.stk, ok.exf, ok.bs, ok.bsz, ok.noex, ok.exfs, ok.funs, ok.frf⟩
section
variable {X : Cx} {pins : List (Addr × Obj)} {σ : St} {H : Hp} {s : Shared} {E : Value → Shared → Prop}
theorem Inv.wish (I : Inv X pins σ H s) (E : Value → Shared → Prop) : Inv (X.wish E) pins σ H s := ⟨I.ok.wish E, I.os, I.bare, I.base, I.loc, I.cell, I.free, I.freeC, I.pin, I.hok, I.len⟩
theorem Inv.unwish (I : Inv (X.wish E) pins σ H s) : Inv X pins σ H s := ⟨I.ok.unwish, I.os, I.bare, I.base, I.loc, I.cell, I.free, I.freeC, I.pin, I.hok, I.len⟩
theorem SP.unwish {D : Ends} {f : Flow} {s' : Shared} (h : SP (X.wish E) pins D f s') : SP X pins D f s' := by
  cases f with
  | next => obtain ⟨σ', H', I, q⟩ := h; exact ⟨σ', H', I.unwish, q⟩
  | brk => obtain ⟨σ', H', I, q⟩ := h; exact ⟨σ', H', I.unwish, q⟩
  | cont => obtain ⟨σ', H', I, q⟩ := h; exact ⟨σ', H', I.unwish, q⟩
  | ret u => obtain ⟨v, σ', H', I, r, q⟩ := h; exact ⟨v, σ', H', I.unwish, r, q⟩
theorem PE.nox {e : Expr} {t : TE} (h : PE X.nox e t) : PE X e t := fun pins s σ H Q I hw =>
  wpAny_mono (h pins s σ H Q (I.wish _) hw) (fun _ _ ⟨v, H', I', r, q⟩ => ⟨v, H', I'.unwish, r, q⟩) fun _ _ z => False.elim z
theorem PT.nox {e : Expr} {t : TT} (h : PT X.nox e t) : PT X e t := fun pins s σ H Q I hw =>
  wpAny_mono (h pins s σ H Q (I.wish _) hw) (fun _ _ ⟨H', I', q⟩ => ⟨H', I'.unwish, q⟩) fun _ _ z => False.elim z
theorem PSs.nox {st : List Stmt} {t : TS} (h : PSs X.nox st t) : PSs X st t := fun pins s σ H D I hw =>
  wpAny_mono (h pins s σ H D (I.wish _) hw) (fun _ _ q => q.unwish) fun _ _ z => False.elim z
end

/-! ### blocks and small statements -/
section
variable {X : Cx} {st : Stmt} {rest : List Stmt} {t u : TS} {e : Expr} {te : TE} {pos : Pos}
def tNext : TS := fun D σ H => D.nx σ H
def tSeq (t u : TS) : TS := fun D σ H => t { D with nx := u D } σ H
theorem pss_nil : PSs X [] tNext := fun _ _ σ H _ I h => wpAny_execs_nil ⟨σ, H, I, h⟩
theorem pss_cons (h1 : PS X st t) (h2 : PSs X rest u) : PSs X (st :: rest) (tSeq t u) := by
  intro pins s σ H D I h
  refine wpAny_execs_cons (thn (h1 pins s σ H { D with nx := u D } I h) fun f s1 q => ?_)
  cases f with
  | next =>
    obtain ⟨σ', H', I', q⟩ := q
    exact h2 pins s1 σ' H' D I' q
  | ret v => exact q
  | brk => exact q
  | cont => exact q
theorem pss_one (h1 : PS X st t) : PSs X [st] t := by
  intro pins s σ H D I h
  refine wpAny_execs_cons (thn (h1 pins s σ H D I h) fun f s1 q => ?_)
  cases f with
  | next => exact wpAny_execs_nil q
  | ret v => exact q
  | brk => exact q
  | cont => exact q
/-- in a def's body nothing is shown -/
theorem Inv.quiet {pins : List (Addr × Obj)} {σ : St} {H : Hp} {s : Shared} (I : Inv X pins σ H s) : interactive X.env = false := by simp [interactive, I.ok.kind]
/-- an expression whose value is dropped -/
def tDrop (te : TE) : TS := fun D σ H => te σ H fun _ H1 => D.nx σ H1
theorem ps_expr (he : PE X e te) (hs : swapsWith e none pos.line X.env = pure false := by rfl) : PS X (.Expr e pos) (tDrop te) := by
  intro pins s σ H D I h
  exact wpAny_Expr_any (thn (he pins s σ H _ I h) fun v s1 ⟨x, H1, I1, r1, q1⟩ => ⟨σ, H1, I1, q1⟩) I.quiet hs
def tRet (te : TE) : TS := fun D σ H => te σ H D.rt
theorem ps_ret (he : PE X e te) : PS X (.Return (some e) pos) (tRet te) := by
  intro pins s σ H D I h
  exact wpAny_Return_some (thn (he pins s σ H _ I h) fun v s1 ⟨x, H1, I1, r1, q1⟩ => ⟨x, σ, H1, I1, r1, q1⟩)
def tIfS (c : TT) (t u : TS) : TS := fun D σ H => c σ H fun b H1 => if b = true then t D σ H1 else u D σ H1
theorem ps_if {c : Expr} {a b : List Stmt} {tc : TT} (hc : PT X c tc) (ha : PSs X a t) (hb : PSs X b u) : PS X (.If c a b pos) (tIfS tc t u) := by
  intro pins s σ H D I h
  refine wpAny_If (thn (hc pins s σ H _ I h) fun d s1 ⟨H1, I1, q1⟩ => ?_)
  cases d with
  | true => exact ha pins s1 σ H1 D I1 q1
  | false => exact hb pins s1 σ H1 D I1 q1
end

/-! ### targets -/
abbrev TG := V → St → Hp → (St → Hp → Prop) → Prop
abbrev TGs := List V → St → Hp → (St → Hp → Prop) → Prop
def PG (X : Cx) (target : Expr) (t : TG) : Prop :=
  ∀ (pins : List (Addr × Obj)) (s : Shared) (σ : St) (H : Hp) (v : V) (u : Value) (Q : St → Hp → Prop), Inv X pins σ H s → RelV v u → t v σ H Q →
    wpAny (model X.prog X.w) X.A (assign target X.env u) (fun _ s' => ∃ σ' H', Inv X pins σ' H' s' ∧ Q σ' H') X.xe s
/-- several targets, one after another -/
def PGs (X : Cx) (ts : List Expr) (t : TGs) : Prop :=
  ∀ (pins : List (Addr × Obj)) (s : Shared) (σ : St) (H : Hp) (vs : List V) (us : List Value) (Q : St → Hp → Prop), Inv X pins σ H s → Vals vs us → t vs σ H Q →
    wpAny (model X.prog X.w) X.A (assignInOrder ((assignEach ts X.env).map (·.2)) us) (fun _ s' => ∃ σ' H', Inv X pins σ' H' s' ∧ Q σ' H') X.xe s
section
variable {X : Cx} {pos : Pos}
def gName (i : Nat) : TG := fun v σ H Q => Q (σ.set i (some v)) H
theorem pg_name {i : Nat} {x : Str} (hN : X.N.Nodup) (hi : X.N[i]? = some x) (hx : Loc X.env.scope x) (hf : X.fn x = true ∨ X.env.scope.names.lookup x = some .local := by first | exact .inl rfl | exact .inr rfl | assumption) : PG X (.Name x pos) (gName i) := by
  intro pins s σ H v u Q I r h
  exact wpAny_assign_Name (store_ok I hN hi hx r (fun s' I' => ⟨_, H, I', h⟩) hf)
def gNil : TGs := fun vs σ H Q => vs = [] ∧ Q σ H
def gCons (t : TG) (u : TGs) : TGs := fun vs σ H Q => ∃ v r, vs = v :: r ∧ t v σ H fun σ' H' => u r σ' H' Q
theorem pgs_nil : PGs X [] gNil := by
  intro pins s σ H vs us Q I r h
  obtain ⟨e, h⟩ := h
  subst e
  cases r
  exact assignInOrder_nil ⟨σ, H, I, h⟩
theorem pgs_cons {e : Expr} {es : List Expr} {t : TG} {u : TGs} (h1 : PG X e t) (h2 : PGs X es u)
    (hs : (assignEach (e :: es) X.env).map (·.2) = assign e X.env :: (assignEach es X.env).map (·.2) := by rfl) : PGs X (e :: es) (gCons t u) := by
  intro pins s σ H vs us Q I r h
  obtain ⟨v, vr, e1, h⟩ := h
  subst e1
  cases r with
  | cons r rr =>
    rw [hs]
    refine assignInOrder_cons (thn (h1 pins s σ H _ _ _ I r h) fun _ s1 ⟨σ1, H1, I1, q1⟩ => ?_)
    exact h2 pins s1 σ1 H1 _ _ Q I1 rr q1
/-- (a, b, ..) = a tuple of that length -/
def gTup (K : PySem.W.Frag) (n : Nat) (t : TGs) : TG := fun v σ H Q => ∃ a xs, v = .ref a ∧ SqT K H a xs ∧ xs.length = n ∧ t xs σ H Q
theorem pg_tup {es : List Expr} {k : Nat} {t : TGs} {n : Nat} (hc : X.calm = true) (h : PGs X es t)
    (hn : (assignEach es X.env).length = n := by rfl) (hst : (assignEach es X.env).findIdx? (·.1) = none := by rfl) : PG X (.Tuple es k pos) (gTup X.K n t) := by
  intro pins s σ H v u Q I r hw
  obtain ⟨a, xs, e1, hq, hl, hw⟩ := hw
  subst e1
  cases r
  obtain ⟨its, rv, ht, hz⟩ := I.tuple hq
  refine assign_Tuple_tuple (I.ok.hd hc) ht (by simp [hn, ← hl, rv.length]) hst fun h' hx => ?_
  have I1 : Inv X pins σ H { s with heap := h' } := I.kept (t' := s.toks) fun b o e => hx b o (Nat.ne_of_lt (Heap.lt_size e)) e
  exact h pins _ σ H xs _ Q I1 (by simpa using rv) hw
/-- target = value -/
def tAsg (te : TE) (g : TG) : TS := fun D σ H => te σ H fun x H1 => g x σ H1 D.nx
theorem ps_asg {tg e : Expr} {te : TE} {g : TG} (he : PE X e te) (hg : PG X tg g) (hs : swapsWithSole [tg] e pos.line X.env = pure false := by rfl) (hw : swappedStores [tg] e X.env = pure none := by rfl)
    (h1 : (assignEach [tg] X.env).map (·.2) = [assign tg X.env] := by rfl) : PS X (.Assign [tg] e pos) (tAsg te g) := by
  intro pins s σ H D I h
  refine wpAny_Assign_stores (thn (he pins s σ H _ I h) fun v s1 ⟨x, H1, I1, r1, q1⟩ => ?_) hs hw
  rw [h1]
  exact thn (hg pins s1 σ H1 x v _ I1 r1 q1) fun _ s2 q => q
/-- name = value -/
theorem ps_set {i : Nat} {x : Str} {e : Expr} {te : TE} {pos' : Pos} (hN : X.N.Nodup) (hi : X.N[i]? = some x) (hx : Loc X.env.scope x) (he : PE X e te) (hs : swapsWith e (some (.Name x pos')) pos.line X.env = pure false := by rfl) (hf : X.fn x = true ∨ X.env.scope.names.lookup x = some .local := by first | exact .inl rfl | exact .inr rfl | assumption) :
    PS X (.Assign [.Name x pos'] e pos) (tAsg te (gName i)) := by
  intro pins s σ H D I h
  refine wpAny_Assign_Name (thn (he pins s σ H _ I h) fun v s1 ⟨y, H1, I1, r1, q1⟩ => ?_) hs
  exact store_ok I1 hN hi hx r1 (fun s2 I2 => ⟨_, H1, I2, q1⟩) hf
/-- a, b = x, y with plain local names: stored from the right; the pair itself is not tracked (the opening rows as in PyProof/Rows/TupAssign.lean:23) -/
def tPar (i j : Nat) (ta : TA) : TS := fun D σ H => ta σ H fun vs H1 => ∃ v w, vs = [v, w] ∧ D.nx ((σ.set i (some v)).set j (some w)) H1
theorem ps_par {i j : Nat} {x y : Str} {a b : Expr} {ta : TA} {px py pt : Pos} {kt k2 pt2} (hc : X.calm = true) (hN : X.N.Nodup) (hi : X.N[i]? = some x) (hj : X.N[j]? = some y) (hij : i ≠ j)
    (hx : X.env.scope.names.lookup x = some .local) (hy : X.env.scope.names.lookup y = some .local) (ha : PA X [a, b] ta)
    (hw : swappedStores [.Tuple [.Name x px, .Name y py] kt pt] (.Tuple [a, b] k2 pt2) X.env = pure (some [x, y]))
    (hs : swapsWithSole [.Tuple [.Name x px, .Name y py] kt pt] (.Tuple [a, b] k2 pt2) pos.line X.env = pure false := by rfl) :
    PS X (.Assign [.Tuple [.Name x px, .Name y py] kt pt] (.Tuple [a, b] k2 pt2) pos) (tPar i j ta) := by
  intro pins s σ H D I h
  rw [exec_Assign_arm]
  refine wpAny_bind (wpAny_standAt ?_)
  rw [hs]
  refine wpAny_bind (wpAny_pure ?_)
  rw [if_neg (by decide)]
  refine wpAny_bind (Tuple_ (thn (ha _ pins s σ H _ I h) fun us s1 ⟨vs, H1, I1, r1, q1⟩ => ?_))
  obtain ⟨v, w, e1, q1⟩ := q1
  subst e1
  obtain ⟨u1, u2, rfl, rv, rw'⟩ : ∃ u1 u2, us = [u1, u2] ∧ RelV v u1 ∧ RelV w u2 := by
    cases r1 with
    | cons p q =>
      cases q with
      | cons p' q' =>
        cases q'
        exact ⟨_, _, rfl, p, p'⟩
  refine wpAny_newObj_type ?_ (by show 2 ≤ sizeLine; decide)
  have I2 : Inv X pins σ H1 { s1 with heap := s1.heap.push { cls := .type "tuple", data := .seq [u1, u2].toArray } } := I1.kept (t' := s1.toks) fun b o e => Heap.get?_push_of_some _ e
  rw [hw]
  refine wpAny_bind (wpAny_pure ?_)
  show wpAny (model X.prog X.w) X.A (do rule "assign.swapped-stores"; let items ← unpackItems (.ref s1.heap.objs.size) 2 none; assignInOrder [fun v => bindName X.env y v, fun v => bindName X.env x v] items.reverse; pure Flow.next) _ _ _
  refine wpAny_bind (wpAny_rule (wpAny_bind (unpackItems_tuple (items := #[u1, u2]) (I.ok.hd hc) (IsTup.new s1.heap _) fun h' hx' => ?_)))
  have I3 := I2.kept (h' := h') (t' := s1.toks) fun b o e => hx' b o (Nat.ne_of_lt (Heap.lt_size e)) e
  show wpAny _ _ (assignInOrder [fun v => bindName X.env y v, fun v => bindName X.env x v] [u2, u1] >>= fun _ => pure Flow.next) _ _ _
  refine wpAny_bind (assignInOrder_cons (wpAny_bindName (store_ok I3 hN hj (.inl hy) rw' (fun s2 I4 => ?_) (.inr hy))))
  refine assignInOrder_cons (wpAny_bindName (store_ok I4 hN hi (.inl hx) rv (fun s3 I5 => assignInOrder_nil (wpAny_pure ?_)) (.inr hx)))
  rw [List.set_comm _ _ (Ne.symm hij)] at I5
  exact ⟨_, H1, I5, q1⟩
end

/-! ### while -/
section
variable {X : Cx} {pos : Pos}
end

/-! ### what a loop or a comprehension walks -/
/-- at turn i: it yields x (the heap may grow), or it stops -/
structure It where
  go : Nat → Hp → Prop
  yld : Nat → Hp → V → Hp → Prop
  stop : Nat → Hp → Prop
/-- the iterator's own objects may turn: they are not the frame's, not pinned, younger than the entry (or a comprehension's own) -/
def FpOk (X : Cx) (pins : List (Addr × Obj)) (H : Hp) (b : Addr) : Prop :=
  H b = none ∧ b ≠ X.env.locals ∧ b ∉ X.fs ∧ (b ∈ X.ex ∨ X.s₀.heap.objs.size ≤ b) ∧ (∀ x c, X.env.cells.lookup x = some c → c ≠ b) ∧ ∀ p ∈ X.pn ++ pins, p.1 ≠ b
theorem Inv.fpOk {X : Cx} {pins : List (Addr × Obj)} {σ : St} {H H' : Hp} {s : Shared} {b : Addr} (I : Inv X pins σ H s) (hb : s.heap.objs.size ≤ b) (hn : H' b = none) : FpOk X pins H' b := by
  refine ⟨hn, Nat.ne_of_gt (Nat.lt_of_lt_of_le I.lt hb), I.nofs hb, .inr (Nat.le_trans I.sz hb), fun x c e z => ?_, fun p hp z => ?_⟩
  · obtain ⟨v, q⟩ := I.cell x c e
    exact absurd (Nat.lt_of_lt_of_le q.lt (by rw [z]; exact hb)) (Nat.lt_irrefl _)
  · exact absurd (Nat.lt_of_lt_of_le (Heap.lt_size (I.pin p hp).1) (by rw [z]; exact hb)) (Nat.lt_irrefl _)
structure Turn (P : Program) (w : World) (K : PySem.W.Frag) (tg : Expr) (J : It) (fp : List Addr) (it : Addr) (tn : Nat → Heap → Prop) : Prop where
  mem : it ∈ fp
  obj : ∀ i h, tn i h → ∀ b ∈ fp, ∃ o, h.get? b = some o ∧ ∀ v, o.data ≠ .cell v
  keep : ∀ i h h', tn i h → (∀ b ∈ fp, ∀ o, h.get? b = some o → h'.get? b = some o) → tn i h'
  item : ∀ (X : Cx), X.prog = P → X.w = w → X.K = K → X.calm = true → ∀ (i : Nat) (pins : List (Addr × Obj)) (s : Shared) (σ : St) (H : Hp) (E : Value → Shared → Prop), Inv X pins σ H s → (∀ b ∈ fp, FpOk X pins H b) → tn i s.heap → J.go i H →
    wpAny (model P w) X.A (pyNext (.ref it)) (fun r s1 => ∃ u, r = some u ∧
      wpAny (model P w) X.A (letOwnedTupleGo tg (.ref it) u) (fun _ s2 => ∃ x H', Inv X pins σ H' s2 ∧ RelV x u ∧ J.yld i H x H' ∧ tn (i + 1) s2.heap ∧ ∀ b ∈ fp, H' b = none) E s1) E s
  done : ∀ (X : Cx), X.prog = P → X.w = w → X.K = K → X.calm = true → ∀ (i : Nat) (pins : List (Addr × Obj)) (s : Shared) (σ : St) (H : Hp) (E : Value → Shared → Prop), Inv X pins σ H s → (∀ b ∈ fp, FpOk X pins H b) → tn i s.heap → J.stop i H →
    wpAny (model P w) X.A (pyNext (.ref it)) (fun r s1 => r = none ∧ Inv X pins σ H s1) E s
  self : ∀ (A : Around) (i : Nat) (s : Shared) (Q : Value → Shared → Prop) (E : Value → Shared → Prop), tn i s.heap → Q (.ref it) s → wpAny (model P w) A (pyIter (.ref it)) Q E s
abbrev TI := St → Hp → (It → Hp → Prop) → Prop
/-- an iterator has come -/
def PIE (X : Cx) (pins : List (Addr × Obj)) (σ : St) (tg : Expr) (R : It → Hp → Prop) (itv : Value) (s2 : Shared) : Prop :=
  ∃ (it : Addr) (fp : List Addr) (tn : Nat → Heap → Prop) (J : It) (H' : Hp), itv = .ref it ∧ Inv X pins σ H' s2 ∧ Turn X.prog X.w X.K tg J fp it tn ∧ tn 0 s2.heap ∧ (∀ b ∈ fp, FpOk X pins H' b) ∧ R J H'
def PI (X : Cx) (tg iter : Expr) (wi : TI) : Prop :=
  ∀ (pins : List (Addr × Obj)) (s : Shared) (σ : St) (H : Hp) (R : It → Hp → Prop), Inv X pins σ H s → wi σ H R →
    wpAny (model X.prog X.w) X.A (eval iter X.env) (fun v s1 => wpAny (model X.prog X.w) X.A (pyIter v) (PIE X pins σ tg R) X.xe s1) X.xe s

/-- the step ahead of the store is nothing for an iterator that keeps no tuple -/
theorem go_of {M : Model} {A : Around} {E : Value → Shared → Prop} {s : Shared} {tg : Expr} {it : Addr} {u : Value} {o : Obj} {n : String} {vs : Array Value} {Q : Unit → Shared → Prop} (ho : s.heap.get? it = some o) (hc : o.cls = .type n) (hd : o.data = .fields vs)
    (hn : ["enumerate", "zip", "dict_itemiterator", "dict_reverseitemiterator", "odict_iterator", "itertools.zip_longest", "itertools.pairwise"].contains n = false) (hQ : Q () s) : wpAny M A (letOwnedTupleGo tg (.ref it) u) Q E s := by
  unfold letOwnedTupleGo
  cases tg <;> first
    | exact wpAny_pure hQ
    | (cases u <;> first
        | exact wpAny_pure hQ
        | (refine wpAny_bind (wpAny_load ho ?_)
           rw [hc, hd]
           show wpAny M A (if (["enumerate", "zip", "dict_itemiterator", "dict_reverseitemiterator", "odict_iterator", "itertools.zip_longest", "itertools.pairwise"].contains n && vs[0]? == some (rawInt _)) = true then _ else _) Q E s
           rw [if_neg (by intro h; rw [hn, Bool.false_and] at h; cases h)]
           exact wpAny_pure hQ))

/-- the list at a, as it stands at each turn (a loop may append to it) -/
def Itl (K : PySem.W.Frag) (a : Addr) : It :=
  ⟨fun i H => ∃ xs x, SqL K H a xs ∧ xs[i]? = some x, fun i H x H' => H' = H ∧ ∀ xs, SqL K H a xs → xs[i]? = some x, fun i H => ∃ xs, SqL K H a xs ∧ xs.length ≤ i⟩
def Itt (K : PySem.W.Frag) (a : Addr) : It :=
  ⟨fun i H => ∃ xs x, SqT K H a xs ∧ xs[i]? = some x, fun i H x H' => H' = H ∧ ∀ xs, SqT K H a xs → xs[i]? = some x, fun i H => ∃ xs, SqT K H a xs ∧ xs.length ≤ i⟩
/-- lo, lo + 1, .. (n of them) -/
def Itr (lo : Int) (n : Nat) : It := ⟨fun i _ => i < n, fun i H x H' => H' = H ∧ x = .int (lo + i), fun i _ => n ≤ i⟩
theorem turn_list {P : Program} {w : World} {K : PySem.W.Frag} {tg : Expr} (a it : Addr) : Turn P w K tg (Itl K a) [it] it (fun i h => h.IsListIter it a i) where
  mem := by simp
  obj := fun i h st b hb => by
    have e : b = it := by simpa using hb
    subst e
    obtain ⟨o, e, c, d⟩ := st
    exact ⟨o, e, fun v z => by rw [d] at z; cases z⟩
  keep := fun i h h' st k => st.at fun o e => k it (by simp) o e
  item := by
    intro X hP hw hK hc i pins s σ H E I hf st hg
    subst hP hw hK
    obtain ⟨xs, x, hq, hx⟩ := hg
    obtain ⟨its, rv, p, hz⟩ := I.list hq
    obtain ⟨u, hu, ru⟩ := rv.get hx
    obtain ⟨f0, f1, f2, f3, f4, f5⟩ := hf it (by simp)
    refine wpAny_pyNext_list_item st p.isList (x := u) (by simpa using hu) fun h' st' sb => ?_
    have I1 : Inv X pins σ H { s with heap := h' } := I.turned (t' := s.toks) (fun b o hb e => (sb.2 b hb).trans e) f0 f1 f3 f4 f5
    obtain ⟨o, e, c, d⟩ := id st'
    exact ⟨u, rfl, go_of (s := { s with heap := h' }) e c d (by decide) ⟨x, H, I1, ru, ⟨rfl, fun ys hy => by rw [I.list_inj hy hq]; exact hx⟩, st', fun b hb => (hf b hb).1⟩⟩
  done := by
    intro X hP hw hK hc i pins s σ H E I hf st hg
    subst hP hw hK
    obtain ⟨xs, hq, hx⟩ := hg
    obtain ⟨its, rv, p, hz⟩ := I.list hq
    obtain ⟨f0, f1, f2, f3, f4, f5⟩ := hf it (by simp)
    have hl := rv.length
    exact wpAny_pyNext_list_end (I.ok.hd hc) st p.isList (by simp; omega) fun h' eb => ⟨rfl, I.turned (t' := s.toks) (fun b o hb e => eb b o hb e) f0 f1 f3 f4 f5⟩
  self := fun _ _ _ _ _ st h => wpAny_pyIter_listiter st h
theorem turn_range {P : Program} {w : World} {K : PySem.W.Frag} {tg : Expr} (it : Addr) (lo : Int) (n : Nat) : Turn P w K tg (Itr lo n) [it] it (fun i h => IsRangeIter h it (lo + (i : Nat) * 1) ((n : Int) - (i : Nat)) 1) where
  mem := by simp
  obj := fun i h st b hb => by
    have e : b = it := by simpa using hb
    subst e
    exact ⟨_, st, fun v z => by
      have z' : Data.fields _ = Data.cell v := z
      cases z'⟩
  keep := fun i h h' st k => k it (by simp) _ st
  item := by
    intro X hP hw hK hc i pins s σ H E I hf st hg
    subst hP hw hK
    obtain ⟨f0, f1, f2, f3, f4, f5⟩ := hf it (by simp)
    have W := Walks.range (prog := X.prog) (w := X.w) (I.ok.hd hc) it lo 1 n
    refine W.item i s _ _ hg st fun v h' tk hv st' kk => ?_
    obtain ⟨t, rfl⟩ := hv
    have I1 : Inv X pins σ H { s with heap := h', toks := tk } := I.turned (fun b o hb e => kk b o (by simpa using hb) e) f0 f1 f3 f4 f5
    refine ⟨_, rfl, go_of (s := { s with heap := h', toks := tk }) (n := "range_iterator") st' rfl rfl (by decide) ⟨.int (lo + i), H, I1, ⟨t, ?_⟩, ⟨rfl, rfl⟩, st', fun b hb => (hf b hb).1⟩⟩
    rw [Int.mul_one]
  done := by
    intro X hP hw hK hc i pins s σ H E I hf st hg
    subst hP hw hK
    obtain ⟨f0, f1, f2, f3, f4, f5⟩ := hf it (by simp)
    exact wpAny_pyNext_range_end (I.ok.hd hc) st (by have : n ≤ i := hg; omega) fun h' eb => ⟨rfl, I.turned (t' := s.toks) (fun b o hb e => eb b o hb e) f0 f1 f3 f4 f5⟩
  self := fun _ _ _ _ _ st h => wpAny_pyIter_rangeiter st h
end L2

namespace L2
open PySem PySem.Spec PyProof.Rows
section
variable {X : Cx} {tg : Expr}
def iList (K : PySem.W.Frag) (tl : TE) : TI := fun σ H R => tl σ H fun x H1 => ∃ a, x = .ref a ∧ (∃ xs, SqL K H1 a xs) ∧ R (Itl K a) H1
def iTup (K : PySem.W.Frag) (tl : TE) : TI := fun σ H R => tl σ H fun x H1 => ∃ a, x = .ref a ∧ (∃ xs, SqT K H1 a xs) ∧ R (Itt K a) H1
theorem pi_list {l : Expr} {tl : TE} (hl : PE X l tl) : PI X tg l (iList X.K tl) := by
  intro pins s σ H R I h
  refine thn (hl pins s σ H _ I h) fun v s1 ⟨x, H1, I1, r1, q1⟩ => ?_
  obtain ⟨a, e, ⟨xs, hq⟩, q⟩ := q1
  subst e
  cases r1
  obtain ⟨its, rv, p, hz⟩ := I1.list hq
  refine wpAny_pyIter_list p.isList ?_
  refine ⟨s1.heap.objs.size, [s1.heap.objs.size], _, _, H1, rfl, I1.kept (t' := s1.toks) fun b o e => Heap.get?_push_of_some _ e, turn_list a _, ⟨_, Heap.get?_push_size _ rfl, rfl, rfl⟩, fun b hb => ?_, q⟩
  have e : b = s1.heap.objs.size := by simpa using hb
  subst e
  exact I1.fpOk (Nat.le_refl _) (I1.hok.fresh (Nat.le_refl _))
/-- a range object just made, walked -/
theorem range_it {pins : List (Addr × Obj)} {σ : St} {H : Hp} {s : Shared} {R : It → Hp → Prop} {E : Value → Shared → Prop} {lo hi : Int} {t u v : Tok} {tk : Nat} (I : Inv X pins σ H s) (h1 : -(2 ^ 62) ≤ lo) (h2 : lo < 2 ^ 62) (h3 : -(2 ^ 62) ≤ hi) (h4 : hi < 2 ^ 62)
    (q : R (Itr lo (hi - lo).toNat) H) : wpAny (model X.prog X.w) X.A (pyIter (.ref s.heap.objs.size)) (PIE X pins σ tg R) E { s with heap := s.heap.push { cls := .type "range", data := .fields #[.int lo t, .int hi u, .int 1 v] }, toks := tk } := by
  refine wpAny_pyIter_range (IsRange.new ..) (small_one h1 h2 h3 h4) ?_
  have I1 : Inv X pins σ H { s with heap := s.heap.push { cls := .type "range", data := .fields #[.int lo t, .int hi u, .int 1 v] }, toks := tk } := I.kept fun b o e => Heap.get?_push_of_some _ e
  refine ⟨(s.heap.push { cls := .type "range", data := .fields #[.int lo t, .int hi u, .int 1 v] }).objs.size, [(s.heap.push { cls := .type "range", data := .fields #[.int lo t, .int hi u, .int 1 v] }).objs.size], _, _, H, rfl,
    I1.kept (t' := tk) fun b o e => Heap.get?_push_of_some _ e, turn_range _ lo (hi - lo).toNat, ?_, fun b hb => ?_, q⟩
  · have e1 : lo + ((0 : Nat) : Int) * 1 = lo := by simp
    have e2 : (((hi - lo).toNat : Nat) : Int) - ((0 : Nat) : Int) = Builtin.Range.rangeSize lo hi 1 := by rw [rangeSize_one]; split <;> omega
    show IsRangeIter _ _ (lo + ((0 : Nat) : Int) * 1) ((((hi - lo).toNat : Nat) : Int) - ((0 : Nat) : Int)) 1
    rw [e1, e2]
    exact Heap.get?_push_size _ rfl
  · have e : b = (s.heap.push { cls := .type "range", data := .fields #[.int lo t, .int hi u, .int 1 v] }).objs.size := by simpa using hb
    subst e
    exact I1.fpOk (Nat.le_refl _) (I1.hok.fresh (Nat.le_refl _))
def iRng1 (ta : TA) : TI := fun σ H R => ta σ H fun vs H1 => ∃ j : Int, vs = [.int j] ∧ -(2 ^ 62) ≤ j ∧ j < 2 ^ 62 ∧ R (Itr 0 j.toNat) H1
def iRng2 (ta : TA) : TI := fun σ H R => ta σ H fun vs H1 => ∃ i j : Int, vs = [.int i, .int j] ∧ (-(2 ^ 62) ≤ i ∧ i < 2 ^ 62 ∧ -(2 ^ 62) ≤ j ∧ j < 2 ^ 62) ∧ R (Itr i (j - i).toNat) H1
theorem pi_range1 {a : Expr} {ta : TA} {p pos : Pos} (hg : Gl X "range") (hm : X.mg "range" = none) (ha : PA X [a] ta) (hs : starEach [a] X.env = [(false, eval a X.env)] := by rfl) : PI X tg (.Call (.Name "range" p) [a] [] pos) (iRng1 ta) := by
  intro pins s σ H R I h
  refine Call_ (ld_blt I hg hm boot_range (PyProof.Rows.callWith_type1 (thn (ha pos pins s σ H _ I h) fun us s1 ⟨vs, H1, I1, r1, q1⟩ => ?_) hs rfl))
  obtain ⟨j, e, q1, q2, q⟩ := q1
  subst e
  cases r1 with
  | cons r rr =>
    cases rr
    obtain ⟨t, rfl⟩ := r
    exact call_range_1 (range_it I1 (by omega) (by omega) q1 q2 (by simpa using q))
theorem pi_range2 {a b : Expr} {ta : TA} {p pos : Pos} (hg : Gl X "range") (hm : X.mg "range" = none) (ha : PA X [a, b] ta) (hs : starEach [a, b] X.env = [(false, eval a X.env), (false, eval b X.env)] := by rfl) (hs2 : starEach [b] X.env = [(false, eval b X.env)] := by rfl) :
    PI X tg (.Call (.Name "range" p) [a, b] [] pos) (iRng2 ta) := by
  intro pins s σ H R I h
  refine Call_ (ld_blt I hg hm boot_range (PyProof.Rows.callWith_type1 (thn (ha pos pins s σ H _ I h) fun us s1 ⟨vs, H1, I1, r1, q1⟩ => ?_) (by rw [hs, hs2]) (by rw [hs2]; rfl)))
  obtain ⟨i, j, e, ⟨q1, q2, q3, q4⟩, q⟩ := q1
  subst e
  cases r1 with
  | cons r rr =>
    cases rr with
    | cons r' rr =>
      cases rr
      obtain ⟨t, rfl⟩ := r
      obtain ⟨t', rfl⟩ := r'
      exact call_range_2 (range_it I1 q1 q2 q3 q4 q)

/-! ### for -/
/-- W: the invariant by the turn and a measure; N: what the body is to reach -/
def tFor (wi : TI) (g : TG) (tb : TS) : TS := fun D σ H => wi σ H fun J H1 => ∃ W : Nat → Nat → St → Hp → Prop, (∃ m, W 0 m σ H1) ∧ ∀ i m σ H, W i m σ H →
  (J.stop i H ∧ D.nx σ H) ∨ (J.go i H ∧ ∃ N : St → Hp → Prop, (∀ σ' H', N σ' H' → ∃ m', m' < m ∧ W (i + 1) m' σ' H') ∧ ∀ x H', J.yld i H x H' → g x σ H' fun σ2 H2 => tb { D with nx := N, ct := N, bk := D.nx } σ2 H2)
/-- the records at fp as they stand -/
def pinsAt (fp : List Addr) (h : Heap) : List (Addr × Obj) := fp.filterMap fun b => (h.get? b).map fun o => (b, o)
theorem mem_pinsAt {fp : List Addr} {h : Heap} {b : Addr} {o : Obj} (hb : b ∈ fp) (e : h.get? b = some o) : (b, o) ∈ pinsAt fp h := List.mem_filterMap.mpr ⟨b, hb, by rw [e]; rfl⟩
theorem of_pinsAt {fp : List Addr} {h : Heap} {p : Addr × Obj} (hp : p ∈ pinsAt fp h) : p.1 ∈ fp ∧ h.get? p.1 = some p.2 := by
  obtain ⟨b, hb, e⟩ := List.mem_filterMap.mp hp
  cases q : h.get? b with
  | none => rw [q] at e; cases e
  | some o =>
    rw [q] at e
    have e' : (b, o) = p := Option.some.inj e
    subst e'
    exact ⟨hb, q⟩
theorem Inv.pinned {pins : List (Addr × Obj)} {σ : St} {H : Hp} {s : Shared} {fp : List Addr} (I : Inv X pins σ H s) (hf : ∀ b ∈ fp, FpOk X pins H b) (ho : ∀ b ∈ fp, ∃ o, s.heap.get? b = some o ∧ ∀ v, o.data ≠ .cell v) : Inv X (pins ++ pinsAt fp s.heap) σ H s :=
  I.pins_of fun p hp => (List.mem_append.mp hp).elim (fun z => I.pin p (List.mem_append_right _ z)) fun z => by
    obtain ⟨hb, e⟩ := of_pinsAt z
    obtain ⟨f0, f1, f2, _⟩ := hf p.1 hb
    obtain ⟨o, e', d⟩ := ho p.1 hb
    rw [e] at e'; cases e'
    exact ⟨e, f0, f1, f2, d⟩
theorem Inv.unpinned {pins pl : List (Addr × Obj)} {σ : St} {H : Hp} {s : Shared} (I : Inv X (pins ++ pl) σ H s) : Inv X pins σ H s := I.pins_of fun p hp => I.pin p (List.mem_append_right _ (List.mem_append_left _ hp))
theorem ps_for {iter : Expr} {body : List Stmt} {wi : TI} {g : TG} {tb : TS} {pos : Pos} (hp : PassesOwn (model X.prog X.w) X.A X.env X.xe) (hc : X.calm = true) (hi : PI X tg iter wi) (hg : PG X tg g) (hb : PSs X body tb)
    (hs : ∀ x, foldedSetIterable iter X.env x = pure x := by intro _; rfl) : PS X (.For tg iter body [] pos) (tFor wi g tb) := by
  intro pins s σ H D I h
  refine wpAny_For (thn (hi pins s σ H _ I h) fun v s1 h1 => thn h1 fun itv s2 h2 => ?_) hs
  obtain ⟨it, fp, tn, J, H2, e, I2, T, st2, f2, W, ⟨m0, w0⟩, turn⟩ := h2
  subst e
  -- what stays true of the iterator's objects through the loop
  have stat : ∀ {H' : Hp}, (∀ b ∈ fp, H' b = none) → ∀ b ∈ fp, FpOk X pins H' b := fun hn b hb => ⟨hn b hb, (f2 b hb).2⟩
  refine codeAny_forLoop_any (fun n s' => ∃ i σ' H', Inv X pins σ' H' s' ∧ tn i s'.heap ∧ (∀ b ∈ fp, H' b = none) ∧ W i n σ' H') ?_ m0 ⟨0, σ, H2, I2, st2, fun b hb => (f2 b hb).1, w0⟩
  rintro n s3 ⟨i, σ3, H3, I3, st3, fr3, w3⟩
  rcases turn i n σ3 H3 w3 with ⟨stop, qn⟩ | ⟨go, N, hN, step⟩
  · refine wpAny_passesOwn hp (thn (T.done X rfl rfl rfl hc i pins s3 σ3 H3 X.xe I3 (stat fr3) st3 stop) fun r s4 ⟨hr, I4⟩ => ?_)
    subst hr
    exact wpAny_execs_nil ⟨σ3, H3, I4, qn⟩
  · refine wpAny_passesOwn hp (thn (T.item X rfl rfl rfl hc i pins s3 σ3 H3 X.xe I3 (stat fr3) st3 go) fun r s4 ⟨u, hr, h4⟩ => ?_)
    subst hr
    refine wpAny_passesOwn hp (thn h4 fun _ s5 ⟨x, H5, I5, r5, y5, st5, fr5⟩ => ?_)
    have I5' := I5.pinned (stat fr5) (T.obj _ _ st5)
    refine wpAny_passesOwn hp (thn (hg _ s5 σ3 H5 x u _ I5' r5 (step x H5 y5)) fun _ s6 ⟨σ6, H6, I6, q6⟩ => ?_)
    refine wpAny_passesOwn hp (thn (hb _ s6 σ6 H6 _ I6 q6) fun f s7 q7 => ?_)
    have again : ∀ {σ7 : St} {H7 : Hp}, Inv X (pins ++ pinsAt fp s5.heap) σ7 H7 s7 → N σ7 H7 → ∃ m, m < n ∧ ∃ i σ' H', Inv X pins σ' H' s7 ∧ tn i s7.heap ∧ (∀ b ∈ fp, H' b = none) ∧ W i m σ' H' := fun {σ7 H7} I7 n7 => by
      obtain ⟨m', hm, w7⟩ := hN σ7 H7 n7
      refine ⟨m', hm, i + 1, σ7, H7, I7.unpinned, T.keep _ _ _ st5 fun b hb o e => (I7.pin (b, o) (List.mem_append_right _ (List.mem_append_right _ (mem_pinsAt hb e)))).1, fun b hb => ?_, w7⟩
      obtain ⟨o, e, d⟩ := T.obj _ _ st5 b hb
      exact (I7.pin (b, o) (List.mem_append_right _ (List.mem_append_right _ (mem_pinsAt hb e)))).2.1
    cases f with
    | next => obtain ⟨σ7, H7, I7, n7⟩ := q7; exact again I7 n7
    | cont => obtain ⟨σ7, H7, I7, n7⟩ := q7; exact again I7 n7
    | brk => obtain ⟨σ7, H7, I7, q7⟩ := q7; exact ⟨σ7, H7, I7.unpinned, q7⟩
    | ret v => obtain ⟨x7, σ7, H7, I7, r7, q7⟩ := q7; exact ⟨x7, σ7, H7, I7.unpinned, r7, q7⟩
end

/-! ### the forms one uses -/
/-- over a list that the body leaves as it is -/
theorem for_list {K : PySem.W.Frag} {a : Addr} {xs : List V} {g : TG} {tb : TS} {D : Ends} {σ : St} {H : Hp} (Pv : Nat → St → Hp → Prop) (h0 : Pv 0 σ H) (hl : ∀ i σ H, i ≤ xs.length → Pv i σ H → SqL K H a xs)
    (hs : ∀ i x σ H, xs[i]? = some x → Pv i σ H → g x σ H fun σ2 H2 => tb { D with nx := Pv (i + 1), ct := Pv (i + 1), bk := D.nx } σ2 H2) (hd : ∀ σ H, Pv xs.length σ H → D.nx σ H) :
    ∃ W : Nat → Nat → St → Hp → Prop, (∃ m, W 0 m σ H) ∧ ∀ i m σ H, W i m σ H →
      ((Itl K a).stop i H ∧ D.nx σ H) ∨ ((Itl K a).go i H ∧ ∃ N : St → Hp → Prop, (∀ σ' H', N σ' H' → ∃ m', m' < m ∧ W (i + 1) m' σ' H') ∧ ∀ x H', (Itl K a).yld i H x H' → g x σ H' fun σ2 H2 => tb { D with nx := N, ct := N, bk := D.nx } σ2 H2) := by
  refine ⟨fun i m σ H => m = xs.length - i ∧ i ≤ xs.length ∧ Pv i σ H, ⟨xs.length, by simp, Nat.zero_le _, h0⟩, ?_⟩
  rintro i m σ H ⟨rfl, hi, p⟩
  have q := hl i σ H hi p
  by_cases hlt : i < xs.length
  · refine .inr ⟨⟨xs, xs[i], q, by simp [hlt]⟩, Pv (i + 1), fun σ' H' p' => ⟨xs.length - (i + 1), by omega, rfl, hlt, p'⟩, fun x H' y => ?_⟩
    obtain ⟨e, y⟩ := y
    subst e
    exact hs i x σ _ (y xs q) p
  · have e : i = xs.length := by omega
    subst e
    exact .inl ⟨⟨xs, q, Nat.le_refl _⟩, hd σ H p⟩
theorem for_tup {K : PySem.W.Frag} {a : Addr} {xs : List V} {g : TG} {tb : TS} {D : Ends} {σ : St} {H : Hp} (Pv : Nat → St → Hp → Prop) (h0 : Pv 0 σ H) (hl : ∀ i σ H, i ≤ xs.length → Pv i σ H → SqT K H a xs)
    (hs : ∀ i x σ H, xs[i]? = some x → Pv i σ H → g x σ H fun σ2 H2 => tb { D with nx := Pv (i + 1), ct := Pv (i + 1), bk := D.nx } σ2 H2) (hd : ∀ σ H, Pv xs.length σ H → D.nx σ H) :
    ∃ W : Nat → Nat → St → Hp → Prop, (∃ m, W 0 m σ H) ∧ ∀ i m σ H, W i m σ H →
      ((Itt K a).stop i H ∧ D.nx σ H) ∨ ((Itt K a).go i H ∧ ∃ N : St → Hp → Prop, (∀ σ' H', N σ' H' → ∃ m', m' < m ∧ W (i + 1) m' σ' H') ∧ ∀ x H', (Itt K a).yld i H x H' → g x σ H' fun σ2 H2 => tb { D with nx := N, ct := N, bk := D.nx } σ2 H2) := by
  refine ⟨fun i m σ H => m = xs.length - i ∧ i ≤ xs.length ∧ Pv i σ H, ⟨xs.length, by simp, Nat.zero_le _, h0⟩, ?_⟩
  rintro i m σ H ⟨rfl, hi, p⟩
  have q := hl i σ H hi p
  by_cases hlt : i < xs.length
  · refine .inr ⟨⟨xs, xs[i], q, by simp [hlt]⟩, Pv (i + 1), fun σ' H' p' => ⟨xs.length - (i + 1), by omega, rfl, hlt, p'⟩, fun x H' y => ?_⟩
    obtain ⟨e, y⟩ := y
    subst e
    exact hs i x σ _ (y xs q) p
  · have e : i = xs.length := by omega
    subst e
    exact .inl ⟨⟨xs, q, Nat.le_refl _⟩, hd σ H p⟩
theorem for_range {lo : Int} {n : Nat} {g : TG} {tb : TS} {D : Ends} {σ : St} {H : Hp} (Pv : Nat → St → Hp → Prop) (h0 : Pv 0 σ H)
    (hs : ∀ i σ H, i < n → Pv i σ H → g (.int (lo + i)) σ H fun σ2 H2 => tb { D with nx := Pv (i + 1), ct := Pv (i + 1), bk := D.nx } σ2 H2) (hd : ∀ σ H, Pv n σ H → D.nx σ H) :
    ∃ W : Nat → Nat → St → Hp → Prop, (∃ m, W 0 m σ H) ∧ ∀ i m σ H, W i m σ H →
      ((Itr lo n).stop i H ∧ D.nx σ H) ∨ ((Itr lo n).go i H ∧ ∃ N : St → Hp → Prop, (∀ σ' H', N σ' H' → ∃ m', m' < m ∧ W (i + 1) m' σ' H') ∧ ∀ x H', (Itr lo n).yld i H x H' → g x σ H' fun σ2 H2 => tb { D with nx := N, ct := N, bk := D.nx } σ2 H2) := by
  refine ⟨fun i m σ H => m = n - i ∧ i ≤ n ∧ Pv i σ H, ⟨n, by simp, Nat.zero_le _, h0⟩, ?_⟩
  rintro i m σ H ⟨rfl, hi, p⟩
  by_cases hlt : i < n
  · refine .inr ⟨hlt, Pv (i + 1), fun σ' H' p' => ⟨n - (i + 1), by omega, rfl, hlt, p'⟩, fun x H' y => ?_⟩
    obtain ⟨e, y⟩ := y
    subst e y
    exact hs i σ _ hlt p
  · have e : i = n := by omega
    subst e
    exact .inl ⟨Nat.le_refl _, hd σ H p⟩
end L2

namespace L2
open PySem PySem.Spec PyProof.Rows

abbrev R2 := V → V → Hp → VK → Prop
/-- a two-place operation on values: f is binaryOp op, inplaceOp op or compareOp op -/
def OpR (X : Cx) (f : Value → Value → Sem Value) (r : R2) : Prop :=
  ∀ (pins : List (Addr × Obj)) (s : Shared) (σ : St) (H : Hp) (x y : V) (v u : Value) (Q : VK), Inv X pins σ H s → RelV x v → RelV y u → r x y H Q →
    wpAny (model X.prog X.w) X.A (f v u) (EP X pins σ Q) X.xe s
/-- a one-place operation -/
def UnR (X : Cx) (f : Value → Sem Value) (r : V → Hp → VK → Prop) : Prop :=
  ∀ (pins : List (Addr × Obj)) (s : Shared) (σ : St) (H : Hp) (x : V) (v : Value) (Q : VK), Inv X pins σ H s → RelV x v → r x H Q →
    wpAny (model X.prog X.w) X.A (f v) (EP X pins σ Q) X.xe s
/-- a call of a value that is known (a builtin, a type) with values -/
def CallR (X : Cx) (f : Value) (r : List V → Hp → VK → Prop) : Prop :=
  ∀ (pins : List (Addr × Obj)) (s : Shared) (σ : St) (H : Hp) (xs : List V) (us : List Value) (Q : VK), Inv X pins σ H s → Vals xs us → r xs H Q →
    wpAny (model X.prog X.w) X.A (call f us) (EP X pins σ Q) X.xe s
/-- a value's truth -/
def TruR (X : Cx) (r : V → Hp → (Bool → Hp → Prop) → Prop) : Prop :=
  ∀ (pins : List (Addr × Obj)) (s : Shared) (σ : St) (H : Hp) (x : V) (v : Value) (Q : Bool → Hp → Prop), Inv X pins σ H s → RelV x v → r x H Q →
    wpAny (model X.prog X.w) X.A (truthy v) (TP X pins σ Q) X.xe s

def tOp (r : R2) (ta tb : TE) : TE := fun σ H Q => ta σ H fun x H1 => tb σ H1 fun y H2 => r x y H2 Q
def tUn (r : V → Hp → VK → Prop) (ta : TE) : TE := fun σ H Q => ta σ H fun x H1 => r x H1 Q
/-- ints in, under C, and a value out -/
def rI (C : Int → Int → Prop) (g : Int → Int → V) : R2 := fun x y H Q => ∃ i j, x = .int i ∧ y = .int j ∧ C i j ∧ Q (g i j) H
def rI0 (g : Int → Int → V) : R2 := fun x y H Q => ∃ i j, x = .int i ∧ y = .int j ∧ Q (g i j) H
def rU (g : Int → V) : V → Hp → VK → Prop := fun x H Q => ∃ i, x = .int i ∧ Q (g i) H

section
variable {X : Cx} {a b c : Expr} {ta tb tc : TE} {pos : Pos}

theorem binT (ha : PE X a ta) (hb : PE X b tb) {pins : List (Addr × Obj)} {s : Shared} {σ : St} {H : Hp} {R : V → V → Hp → Prop} (I : Inv X pins σ H s)
    (h : ta σ H fun x H1 => tb σ H1 fun y H2 => R x y H2) {Q : Value → Shared → Prop} {f : Value → Value → Sem Value}
    (hf : ∀ v u s2 x y H2, Inv X pins σ H2 s2 → RelV x v → RelV y u → R x y H2 → wpAny (model X.prog X.w) X.A (f v u) Q X.xe s2) :
    wpAny (model X.prog X.w) X.A (eval a X.env) (fun v s₁ => wpAny (model X.prog X.w) X.A (eval b X.env) (fun u s₂ => wpAny (model X.prog X.w) X.A (f v u) Q X.xe s₂) X.xe s₁) X.xe s := by
  refine thn (ha pins s σ H _ I h) fun v s1 ⟨x, H1, I1, r1, q1⟩ => ?_
  refine thn (hb pins s1 σ H1 _ I1 q1) fun u s2 ⟨y, H2, I2, r2, q2⟩ => ?_
  exact hf v u s2 x y H2 I2 r1 r2 q2

theorem pe_op {op : Operator} {r : R2} (ho : OpR X (binaryOp op) r) (ha : PE X a ta) (hb : PE X b tb) : PE X (.BinOp a op b pos) (tOp r ta tb) := by
  intro pins s σ H Q I h
  exact wpAny_BinOp (binT ha hb I h fun v u s2 x y H2 I2 rx ry q => ho pins s2 σ H2 x y v u Q I2 rx ry q)
theorem pe_un {op : UnaryOp} {r : V → Hp → VK → Prop} (ho : UnR X (unaryOp op) r) (ha : PE X a ta) : PE X (.UnaryOp op a pos) (tUn r ta) := by
  intro pins s σ H Q I h
  exact UnaryOp_ (thn (ha pins s σ H _ I h) fun v s1 ⟨x, H1, I1, r1, q1⟩ => ho pins s1 σ H1 x v Q I1 r1 q1)
/-! ### ints -/
theorem opI {f : Value → Value → Sem Value} {C : Int → Int → Prop} {g : Int → Int → Int}
    (rule : ∀ (i j : Int) (t u : Tok) (s : Shared) (Q : Value → Shared → Prop) (E : Value → Shared → Prop), C i j → Q (.int (g i j) s.toks) { s with toks := s.toks + 1 } → wpAny (model X.prog X.w) X.A (f (.int i t) (.int j u)) Q E s) :
    OpR X f (rI C fun i j => .int (g i j)) := by
  intro pins s σ H x y v u Q I rx ry h
  obtain ⟨i, j, rfl, rfl, hc, q⟩ := h
  obtain ⟨t, rfl⟩ := rx
  obtain ⟨t', rfl⟩ := ry
  exact rule i j t t' s _ _ hc ⟨.int (g i j), H, I.tok _, ⟨_, rfl⟩, q⟩
theorem opI0 {f : Value → Value → Sem Value} {g : Int → Int → Int}
    (rule : ∀ (i j : Int) (t u : Tok) (s : Shared) (Q : Value → Shared → Prop) (E : Value → Shared → Prop), Q (.int (g i j) s.toks) { s with toks := s.toks + 1 } → wpAny (model X.prog X.w) X.A (f (.int i t) (.int j u)) Q E s) :
    OpR X f (rI0 fun i j => .int (g i j)) := by
  intro pins s σ H x y v u Q I rx ry h
  obtain ⟨i, j, rfl, rfl, q⟩ := h
  obtain ⟨t, rfl⟩ := rx
  obtain ⟨t', rfl⟩ := ry
  exact rule i j t t' s _ _ ⟨.int (g i j), H, I.tok _, ⟨_, rfl⟩, q⟩
theorem opB0 {f : Value → Value → Sem Value} {g : Int → Int → Bool}
    (rule : ∀ (i j : Int) (t u : Tok) (s : Shared) (Q : Value → Shared → Prop) (E : Value → Shared → Prop), Q (.bool (g i j)) s → wpAny (model X.prog X.w) X.A (f (.int i t) (.int j u)) Q E s) :
    OpR X f (rI0 fun i j => .bl (g i j)) := by
  intro pins s σ H x y v u Q I rx ry h
  obtain ⟨i, j, rfl, rfl, q⟩ := h
  obtain ⟨t, rfl⟩ := rx
  obtain ⟨t', rfl⟩ := ry
  exact rule i j t t' s _ _ ⟨.bl (g i j), H, I, rfl, q⟩

def CDiv (i j : Int) : Prop := 0 < j ∧ j < 1073741824
def CPow (i j : Int) : Prop := 0 ≤ j ∧ j ≤ 1000000 ∧ i.natAbs < 2 ^ 64
def CMul (i j : Int) : Prop := (-(2 ^ 64) < i ∧ i < 2 ^ 64) ∨ (-(2 ^ 64) < j ∧ j < 2 ^ 64)
theorem CMul.ok {i j : Int} (h : CMul i j) : IntMulOk i j := by
  rcases h with ⟨h1, h2⟩ | ⟨h1, h2⟩
  · exact .of_left (intBits_le_64 h1 h2)
  · exact .of_right (intBits_le_64 h1 h2)
theorem op_add : OpR X (binaryOp .Add) (rI0 fun i j => .int (i + j)) := opI0 fun _ _ _ _ _ _ _ q => add_int q
theorem op_sub : OpR X (binaryOp .Sub) (rI0 fun i j => .int (i - j)) := opI0 fun _ _ _ _ _ _ _ q => sub_int q
theorem op_mul : OpR X (binaryOp .Mult) (rI CMul fun i j => .int (i * j)) := opI fun _ _ _ _ _ _ _ hc q => mul_int q hc.ok
/-- // by a positive divisor -/
theorem op_fdiv : OpR X (binaryOp .FloorDiv) (rI CDiv fun i j => .int (i / j)) := opI fun i j _ _ _ _ _ hc q => by
  have h1 : (0 : Int) < j := hc.1
  have h2 : j < 1073741824 := hc.2
  exact floordiv_int (by omega) (by rw [Int.fdiv_eq_ediv_of_nonneg i (by omega)]; exact q) (.inl (PyProof.noPylong_small (by omega)))
/-- % by a positive divisor of any size -/
theorem op_mod : OpR X (binaryOp .Mod) (rI (fun _ j => 0 < j) fun i j => .int (i % j)) := opI fun i j _ _ _ _ _ hc q => by
  have h1 : (0 : Int) < j := hc
  exact mod_int' (by omega) (by rw [Int.fmod_eq_emod_of_nonneg i (by omega)]; exact q)
theorem op_pow : OpR X (binaryOp .Pow) (rI CPow fun i j => .int (i ^ j.toNat)) := opI fun _ _ _ _ _ _ _ hc q => pow_int_small hc.1 hc.2.1 hc.2.2 q
theorem unI {f : Value → Sem Value} {g : Int → Int}
    (rule : ∀ (i : Int) (t : Tok) (s : Shared) (Q : Value → Shared → Prop) (E : Value → Shared → Prop), Q (.int (g i) s.toks) { s with toks := s.toks + 1 } → wpAny (model X.prog X.w) X.A (f (.int i t)) Q E s) :
    UnR X f (rU fun i => .int (g i)) := by
  intro pins s σ H x v Q I rx h
  obtain ⟨i, rfl, q⟩ := h
  obtain ⟨t, rfl⟩ := rx
  exact rule i t s _ _ ⟨.int (g i), H, I.tok _, ⟨_, rfl⟩, q⟩
theorem un_neg : UnR X (unaryOp .USub) (rU fun i => .int (-i)) := unI fun _ _ _ _ _ q => neg_int q
/-! ### bools among ints: n += (a < b) -/
end

/-! ### comparisons -/
/-- the scalars that == tells apart as data does -/
def scal : V → V → Bool
  | .non, .non => true | .non, .int _ => true | .int _, .non => true | .non, .bl _ => true | .bl _, .non => true | .non, .str _ => true | .str _, .non => true
  | .int _, .int _ => true | .bl _, .bl _ => true | .str _, .str _ => true | .byt _, .byt _ => true
  | .int _, .str _ => true | .str _, .int _ => true | .bl _, .str _ => true | .str _, .bl _ => true
  | _, _ => false
def rEq : R2 := fun x y H Q => scal x y = true ∧ Q (.bl (decide (x = y))) H
def rNe : R2 := fun x y H Q => scal x y = true ∧ Q (.bl (!decide (x = y))) H

theorem dec_int {i j : Int} : decide (V.int i = V.int j) = (i == j) := by
  rw [Bool.eq_iff_iff]
  simp
theorem dec_bl {i j : Bool} : decide (V.bl i = V.bl j) = (i == j) := by
  rw [Bool.eq_iff_iff]
  simp
theorem dec_str {i j : Str} : decide (V.str i = V.str j) = (i == j) := by
  rw [Bool.eq_iff_iff]
  simp
theorem dec_byt {i j : Array UInt8} : decide (V.byt i = V.byt j) = (i.toList == j.toList) := by
  rw [Bool.eq_iff_iff]
  cases i
  cases j
  simp

section
variable {X : Cx} {a b c : Expr} {ta tb tc : TE} {pos : Pos}
theorem fin_bl {pins : List (Addr × Obj)} {σ : St} {H : Hp} {s : Shared} {Q : VK} {k k' : Bool} (I : Inv X pins σ H s) (q : Q (.bl k) H) (e : k = k') : EP X pins σ Q (.bool k') s := by
  subst e
  exact ⟨.bl k, H, I, rfl, q⟩
theorem op_eq : OpR X (compareOp .Eq) rEq := by
  intro pins s σ H x y v u Q I rx ry h
  obtain ⟨hs, q⟩ := h
  cases x with
  | non =>
    cases rx
    cases y with
    | non => cases ry; exact PySem.EqNone.eq_none_none (fin_bl I q (by simp))
    | bl j => cases ry; exact PySem.EqNone.eq_none_bool (fin_bl I q (by simp))
    | int j => obtain ⟨t', rfl⟩ := ry; exact PySem.EqNone.eq_none_int (fin_bl I q (by simp))
    | str j => obtain ⟨t', rfl⟩ := ry; exact PySem.EqNone.eq_none_str (fin_bl I q (by simp))
    | _ => exact absurd (show false = true from hs) Bool.false_ne_true
  | bl i =>
    cases rx
    cases y with
    | non => cases ry; exact PySem.EqNone.eq_bool_none (fin_bl I q (by simp))
    | bl j => cases ry; exact eq_bool (fin_bl I q dec_bl)
    | str j => obtain ⟨t', rfl⟩ := ry; exact PySem.EqMixed.eq_bool_str (fin_bl I q (by simp))
    | _ => exact absurd (show false = true from hs) Bool.false_ne_true
  | int i =>
    obtain ⟨t, rfl⟩ := rx
    cases y with
    | non => cases ry; exact PySem.EqNone.eq_int_none (fin_bl I q (by simp))
    | int j => obtain ⟨t', rfl⟩ := ry; exact eq_int (fin_bl I q dec_int)
    | str j => obtain ⟨t', rfl⟩ := ry; exact PySem.EqMixed.eq_int_str (fin_bl I q (by simp))
    | _ => exact absurd (show false = true from hs) Bool.false_ne_true
  | str i =>
    obtain ⟨t, rfl⟩ := rx
    cases y with
    | non => cases ry; exact PySem.EqNone.eq_str_none (fin_bl I q (by simp))
    | bl j => cases ry; exact PySem.EqMixed.eq_str_bool (fin_bl I q (by simp))
    | int j => obtain ⟨t', rfl⟩ := ry; exact PySem.EqMixed.eq_str_int (fin_bl I q (by simp))
    | str j => obtain ⟨t', rfl⟩ := ry; exact eq_str (fin_bl I q dec_str)
    | _ => exact absurd (show false = true from hs) Bool.false_ne_true
  | byt i =>
    obtain ⟨t, rfl⟩ := rx
    cases y with
    | byt j => obtain ⟨t', rfl⟩ := ry; exact PySem.W.eq_bytes (fin_bl I q dec_byt)
    | _ => exact absurd (show false = true from hs) Bool.false_ne_true
  | _ => cases y <;> exact absurd (show false = true from hs) Bool.false_ne_true
theorem op_ne : OpR X (compareOp .NotEq) rNe := by
  intro pins s σ H x y v u Q I rx ry h
  obtain ⟨hs, q⟩ := h
  cases x with
  | non =>
    cases rx
    cases y with
    | non => cases ry; exact PySem.EqNone.ne_none_none (fin_bl I q (by simp))
    | bl j => cases ry; exact PySem.EqNone.ne_none_bool (fin_bl I q (by simp))
    | int j => obtain ⟨t', rfl⟩ := ry; exact PySem.EqNone.ne_none_int (fin_bl I q (by simp))
    | str j => obtain ⟨t', rfl⟩ := ry; exact PySem.EqNone.ne_none_str (fin_bl I q (by simp))
    | _ => exact absurd (show false = true from hs) Bool.false_ne_true
  | bl i =>
    cases rx
    cases y with
    | non => cases ry; exact PySem.EqNone.ne_bool_none (fin_bl I q (by simp))
    | bl j => cases ry; exact ne_bool (fin_bl I q (congrArg not dec_bl))
    | str j => obtain ⟨t', rfl⟩ := ry; exact PySem.EqMixed.ne_bool_str (fin_bl I q (by simp))
    | _ => exact absurd (show false = true from hs) Bool.false_ne_true
  | int i =>
    obtain ⟨t, rfl⟩ := rx
    cases y with
    | non => cases ry; exact PySem.EqNone.ne_int_none (fin_bl I q (by simp))
    | int j => obtain ⟨t', rfl⟩ := ry; exact ne_int (fin_bl I q (congrArg not dec_int))
    | str j => obtain ⟨t', rfl⟩ := ry; exact PySem.EqMixed.ne_int_str (fin_bl I q (by simp))
    | _ => exact absurd (show false = true from hs) Bool.false_ne_true
  | str i =>
    obtain ⟨t, rfl⟩ := rx
    cases y with
    | non => cases ry; exact PySem.EqNone.ne_str_none (fin_bl I q (by simp))
    | bl j => cases ry; exact PySem.EqMixed.ne_str_bool (fin_bl I q (by simp))
    | int j => obtain ⟨t', rfl⟩ := ry; exact PySem.EqMixed.ne_str_int (fin_bl I q (by simp))
    | str j => obtain ⟨t', rfl⟩ := ry; exact ne_str (fin_bl I q (congrArg not dec_str))
    | _ => exact absurd (show false = true from hs) Bool.false_ne_true
  | byt i =>
    obtain ⟨t, rfl⟩ := rx
    cases y with
    | byt j => obtain ⟨t', rfl⟩ := ry; exact PySem.W.ne_bytes (fin_bl I q (congrArg not dec_byt))
    | _ => exact absurd (show false = true from hs) Bool.false_ne_true
  | _ => cases y <;> exact absurd (show false = true from hs) Bool.false_ne_true

theorem op_lt : OpR X (compareOp .Lt) (rI0 fun i j => .bl (decide (i < j))) := opB0 fun _ _ _ _ _ _ _ q => lt_int q
theorem op_le : OpR X (compareOp .LtE) (rI0 fun i j => .bl (decide (i ≤ j))) := opB0 fun _ _ _ _ _ _ _ q => le_int q
theorem op_gt : OpR X (compareOp .Gt) (rI0 fun i j => .bl (decide (j < i))) := opB0 fun _ _ _ _ _ _ _ q => gt_int q
theorem op_ge : OpR X (compareOp .GtE) (rI0 fun i j => .bl (decide (j ≤ i))) := opB0 fun _ _ _ _ _ _ _ q => ge_int q
/-- is None, is not None: the right side a value none -/
theorem op_isN : OpR X (compareOp .Is) (fun x y H Q => y = .non ∧ Q (.bl (decide (x = .non))) H) := by
  intro pins s σ H x y v u Q I rx ry h
  obtain ⟨rfl, q⟩ := h
  cases ry
  refine is_none_gen (fin_bl I q ?_)
  cases x <;> first
    | (cases rx; rfl)
    | (obtain ⟨t, rfl⟩ := rx; rfl)
theorem op_notN : OpR X (compareOp .IsNot) (fun x y H Q => y = .non ∧ Q (.bl (!decide (x = .non))) H) := by
  intro pins s σ H x y v u Q I rx ry h
  obtain ⟨rfl, q⟩ := h
  cases ry
  refine isnot_none_gen (fin_bl I q ?_)
  cases x <;> first
    | (cases rx; rfl)
    | (obtain ⟨t, rfl⟩ := rx; rfl)

/-- two rules for one operation: by cases -/
theorem OpR.or {f : Value → Value → Sem Value} {r r' : R2} (h : OpR X f r) (h' : OpR X f r') : OpR X f (fun x y H Q => r x y H Q ∨ r' x y H Q) := by
  intro pins s σ H x y v u Q I rx ry q
  rcases q with q | q
  · exact h pins s σ H x y v u Q I rx ry q
  · exact h' pins s σ H x y v u Q I rx ry q

theorem nomark (b : Expr) {op : CmpOp} (h : op ≠ .In := by decide) (h2 : op ≠ .NotIn := by decide) : behindInMarks op b = false := by
  have e1 : (op == CmpOp.In) = false := by cases op <;> first | rfl | exact absurd rfl h
  have e2 : (op == CmpOp.NotIn) = false := by cases op <;> first | rfl | exact absurd rfl h2
  cases b <;> simp [behindInMarks, e1, e2]
/-- a comparison as a value; hm: nomark b, or (for in, not in) by with_unfolding_all rfl -/
theorem pe_cmpR {op : CmpOp} {r : R2} (ho : OpR X (compareOp op) r) (ha : PE X a ta) (hb : PE X b tb) (hm : behindInMarks op b = false) : PE X (.Compare a [op] [b] pos) (tOp r ta tb) := by
  intro pins s σ H Q I h
  exact wpAny_Compare1 (binT ha hb I h fun v u s2 x y H2 I2 rx ry q => ho pins s2 σ H2 x y v u Q I2 rx ry q) hm
/-- a reading of a value as a test -/
def tTest (t : TE) : TT := fun σ H Q => t σ H fun x H' => ∃ k, x = .bl k ∧ Q k H'
theorem pt_cmpR {op : CmpOp} {r : R2} (ho : OpR X (compareOp op) r) (ha : PE X a ta) (hb : PE X b tb) (hm : behindInMarks op b = false) : PT X (.Compare a [op] [b] pos) (tTest (tOp r ta tb)) := by
  intro pins s σ H Q I h
  refine wpAny_isTrue_Compare1 (thn (ha pins s σ H _ I h) fun v s1 ⟨x, H1, I1, r1, q1⟩ => thn (hb pins s1 σ H1 _ I1 q1) fun u s2 ⟨y, H2, I2, r2, q2⟩ =>
    thn (ho pins s2 σ H2 x y v u _ I2 r1 r2 q2) fun c s3 ⟨z, H3, I3, r3, k, e, q3⟩ => ?_) hm
  subst e
  cases r3
  exact wpAny_truthy_bool ⟨H3, I3, q3⟩
/-- a op1 b op2 c -/
def tChain (r r' : R2) (ta tb tc : TE) : TE := fun σ H Q => ta σ H fun x H1 => tb σ H1 fun y H2 => r x y H2 fun z H3 => ∃ k, z = .bl k ∧
  (if k = true then tc σ H3 fun w' H4 => r' y w' H4 Q else Q (.bl false) H3)
theorem pe_chain {op op' : CmpOp} {r r' : R2} (ho : OpR X (compareOp op) r) (ho' : OpR X (compareOp op') r') (ha : PE X a ta) (hb : PE X b tb) (hc : PE X c tc)
    (hm : lastMarks [op, op'] [b, c] = false := by with_unfolding_all rfl) : PE X (.Compare a [op, op'] [b, c] pos) (tChain r r' ta tb tc) := by
  intro pins s σ H Q I h
  refine Compare_chain (thn (ha pins s σ H _ I h) fun v s1 ⟨x, H1, I1, r1, q1⟩ => chain_link (thn (hb pins s1 σ H1 _ I1 q1) fun u s2 ⟨y, H2, I2, r2, q2⟩ =>
    thn (ho pins s2 σ H2 x y v u _ I2 r1 r2 q2) fun d s3 ⟨z, H3, I3, r3, k, e, q3⟩ => ?_)) hm
  subst e
  cases r3
  refine wpAny_truthy_bool ?_
  cases k with
  | false => exact ite_ff ⟨.bl false, H3, I3, rfl, q3⟩
  | true => exact ite_tt (chain_last (thn (hc pins s3 σ H3 _ I3 q3) fun w' s4 ⟨z', H4, I4, r4, q4⟩ => ho' pins s4 σ H4 y z' u w' Q I4 r2 r4 q4))
/-! ### truth -/
/-- a value's truth by the abstract heap -/
def TruV (K : PySem.W.Frag) (x : V) (H : Hp) (k : Bool) : Prop :=
  match x with
  | .non => k = false
  | .bl b => k = b
  | .int i => k = (i != 0)
  | .str y => y.length ≤ sizeLine ∧ k = ((y.length : Int) != 0)
  | .byt y => y.size ≤ sizeLine ∧ k = ((y.size : Int) != 0)
  | .ref p => (∃ xs, SqL K H p xs ∧ k = !xs.isEmpty) ∨ (∃ xs, SqT K H p xs ∧ k = !xs.isEmpty) ∨ ∃ kvs, H p = some (.dK kvs) ∧ k = !kvs.isEmpty
  | _ => False
theorem isEmpty_kv {κ : Type} {kvs : List (κ × V)} {vs : List (κ × Value)} (r : KV kvs vs) : (!vs.isEmpty) = !kvs.isEmpty := by
  cases r <;> rfl
theorem isEmpty_of {xs : List V} {its : List Value} (r : Vals xs its) : (!its.toArray.isEmpty) = !xs.isEmpty := by
  cases r <;> simp
theorem line63 : (sizeLine : Nat) < 2 ^ 63 := by rw [sizeLine_eq]; decide
theorem tru_ok : TruR X (fun x H Q => ∃ k, TruV X.K x H k ∧ Q k H) := by
  intro pins s σ H x v Q I rx h
  obtain ⟨k, e, q⟩ := h
  have hl := line63
  have hs : sizeLine = 16777216 := sizeLine_eq
  cases x with
  | non =>
    cases rx
    have e' : k = false := e
    subst e'
    exact truthy_none ⟨H, I, q⟩
  | bl b =>
    cases rx
    have e' : k = b := e
    subst e'
    exact wpAny_truthy_bool ⟨H, I, q⟩
  | int i =>
    obtain ⟨t, rfl⟩ := rx
    have e' : k = (i != 0) := e
    subst e'
    exact PySem.P.truthy_int ⟨H, I, q⟩
  | str y =>
    obtain ⟨t, rfl⟩ := rx
    obtain ⟨hy, e'⟩ : y.length ≤ sizeLine ∧ k = ((y.length : Int) != 0) := e
    subst e'
    exact PySem.P.truthy_str (by omega) ⟨H, I.tok _, q⟩
  | byt y =>
    obtain ⟨t, rfl⟩ := rx
    obtain ⟨hy, e'⟩ : y.size ≤ sizeLine ∧ k = ((y.size : Int) != 0) := e
    subst e'
    exact PySem.W.truthy_bytes (by omega) ⟨H, I.tok _, q⟩
  | ref p =>
    cases rx
    have e' : (∃ xs, SqL X.K H p xs ∧ k = !xs.isEmpty) ∨ (∃ xs, SqT X.K H p xs ∧ k = !xs.isEmpty) ∨ ∃ kvs, H p = some (.dK kvs) ∧ k = !kvs.isEmpty := e
    rcases e' with ⟨xs, hx, e'⟩ | ⟨xs, hx, e'⟩ | ⟨kvs, hx, e'⟩
    · subst e'
      obtain ⟨its, r, pl, hz⟩ := I.list hx
      have hlen := r.length
      exact wpAny_truthy_list pl.isList (by simp only [List.size_toArray]; omega) ⟨H, I.tok _, by rw [isEmpty_of r]; exact q⟩
    · subst e'
      obtain ⟨its, r, pl, hz⟩ := I.tuple hx
      have hlen := r.length
      exact truthy_tuple pl (by simp only [List.size_toArray]; omega) ⟨H, I.tok _, by rw [isEmpty_of r]; exact q⟩
    · subst e'
      obtain ⟨hz, hS, vs, r, m⟩ : kvs.length ≤ sizeLine ∧ (p == sysModules) = false ∧ ∃ vs, KV kvs vs ∧ s.heap.DictOf (mixKind X.prog X.w) p vs := I.hok p _ hx
      have hlen : kvs.length = vs.length := Paired.length r
      exact wpAny_truthy_dict hS m (by omega) ⟨H, I.tok _, by rw [isEmpty_kv r]; exact q⟩
  | _ => exact (show False from e).elim
/-- any expression whose test is its value's truth (a name, a call, a subscript, a field ..: he by fun _ => rfl) -/
theorem pt_truth (ha : PE X a ta) (he : ∀ whole, isTrue a X.env whole = (do let v ← whole; standAt a.pos; holding [v] (truthy v))) :
    PT X a (fun σ H Q => ta σ H fun x H' => ∃ k, TruV X.K x H' k ∧ Q k H') := by
  intro pins s σ H Q I h
  exact isTrue_plain (thn (ha pins s σ H _ I h) fun v s1 ⟨x, H1, I1, r1, q1⟩ => tru_ok pins s1 σ H1 x v Q I1 r1 q1) (he _)

/-! ### strs and bytes -/
/-! ### scalar builtins, by CallR -/
theorem vals1 {x : V} {us : List Value} (r : Vals [x] us) : ∃ u, us = [u] ∧ RelV x u := by
  cases r with
  | cons r1 r2 => cases r2; exact ⟨_, rfl, r1⟩
theorem vals2 {x y : V} {us : List Value} (r : Vals [x, y] us) : ∃ u w', us = [u, w'] ∧ RelV x u ∧ RelV y w' := by
  cases r with
  | cons r1 r2 =>
    cases r2 with
    | cons r3 r4 => cases r4; exact ⟨_, _, rfl, r1, r3⟩
theorem call_max2 (hc : X.calm = true) : CallR X (.builtin "max") (fun xs H Q => ∃ i j, xs = [.int i, .int j] ∧ Q (.int (if j > i then j else i)) H) := by
  intro pins s σ H xs us Q I r h
  obtain ⟨i, j, rfl, q⟩ := h
  obtain ⟨u, w', rfl, ⟨t, rfl⟩, ⟨t', rfl⟩⟩ := vals2 r
  refine max_two_ints (I.ok.hd hc) fun h' tk k => ⟨_, H, I.kept k, ?_, q⟩
  by_cases hj : j > i
  · rw [if_pos hj, if_pos hj]; exact ⟨_, rfl⟩
  · rw [if_neg hj, if_neg hj]; exact ⟨_, rfl⟩
theorem call_min2 (hc : X.calm = true) : CallR X (.builtin "min") (fun xs H Q => ∃ i j, xs = [.int i, .int j] ∧ Q (.int (if j < i then j else i)) H) := by
  intro pins s σ H xs us Q I r h
  obtain ⟨i, j, rfl, q⟩ := h
  obtain ⟨u, w', rfl, ⟨t, rfl⟩, ⟨t', rfl⟩⟩ := vals2 r
  refine min_two_ints (I.ok.hd hc) fun h' tk k => ⟨_, H, I.kept k, ?_, q⟩
  by_cases hj : j < i
  · rw [if_pos hj, if_pos hj]; exact ⟨_, rfl⟩
  · rw [if_neg hj, if_neg hj]; exact ⟨_, rfl⟩
theorem call_int1 : CallR X (.type "int") (fun xs H Q => (∃ i, xs = [.int i] ∧ Q (.int i) H) ∨ ∃ k, xs = [.bl k] ∧ Q (.int (if k then 1 else 0)) H) := by
  intro pins s σ H xs us Q I r h
  rcases h with ⟨i, rfl, q⟩ | ⟨k, rfl, q⟩
  · obtain ⟨u, rfl, t, rfl⟩ := vals1 r
    exact call_int_int ⟨.int i, H, I, ⟨_, rfl⟩, q⟩
  · obtain ⟨u, rfl, r1⟩ := vals1 r
    cases r1
    exact call_int_bool ⟨.int (if k then 1 else 0), H, I.tok _, ⟨_, rfl⟩, q⟩
end
end L2

namespace L2
open PySem PySem.Spec PyProof.Rows

/-! ### an instance, its attributes a map -/
structure ObjM (h : Heap) (x dx C : Addr) (mA : Str → Option Value) : Prop where
  obj : h.get? x = some (PySem.W.instObj C dx)
  ns : h.Ns1 dx mA
  ne : dx ≠ x

theorem lookIn_ns {h : Heap} {dx : Addr} {mA : Str → Option Value} (n : h.Ns1 dx mA) : ∃ od, h.get? dx = some od ∧ ∀ name, PySem.W.lookIn name od = some (mA name) := by
  obtain ⟨o, es, ep, ho, hd, hk, _, hm⟩ := n
  refine ⟨o, ho, fun name => ?_⟩
  have e := hm name
  unfold nsFind findBy at e
  rw [← Array.find?_toList] at e
  unfold PySem.W.lookIn
  rw [hd]
  dsimp only
  split
  · rename_i y q
    rw [q] at e
    exact congrArg some e
  · rename_i q
    rw [q] at e
    have a : es.toList.any (·.refKey) = false := by
      rw [List.any_eq_false]
      intro y hy
      obtain ⟨z, t, hkey⟩ := hk y (Array.mem_toList_iff.mp hy)
      simp [DictEntry.refKey, hkey]
    have a' : ¬ es.toList.any (·.refKey) = true := by rw [a]; exact Bool.false_ne_true
    rw [if_neg a']
    exact congrArg some e

theorem ObjM.look {h : Heap} {x dx C : Addr} {mA : Str → Option Value} (I : ObjM h x dx C mA) : ∃ od, PySem.W.InstAt h x (PySem.W.instObj C dx) C (some od) ∧ ∀ name, PySem.W.lookIn name od = some (mA name) :=
  let ⟨od, ho, hl⟩ := lookIn_ns I.ns
  ⟨od, ⟨I.obj, rfl, rfl, ho⟩, hl⟩

section
variable {prog : Program} {w : World} {A : Around} {E : Value → Shared → Prop} {s : Shared} {K : PySem.W.Frag} {x dx C f : Addr} {mA : Str → Option Value} {name : Str} {v : Value}

theorem get_map {expr : Bool} {Q : Value → Shared → Prop} (X : K.In s.heap) (I : ObjM s.heap x dx C mA) (hg : PySem.W.plainGet K C name = true) (hh : PySem.W.hasDictIn K C = true)
    (ha : PySem.W.findIn K (.ref C) name = some none) (hv : mA name = some v) (hv' : PySem.W.handedIn v = true) (h : Q v { s with toks := s.toks + 1 }) :
    wpAny (model prog w) A (getAttr (.ref x) name expr) Q E s := by
  obtain ⟨od, J, hl⟩ := I.look
  exact PySem.W.get_value X J (PySem.W.plainGet_of hg).1 (PySem.W.findObj_own hh ha rfl (by rw [hl, hv])) hv' h

theorem get_meth {pl : Sem Bool} {Q : Value × List Value → Shared → Prop} (X : K.In s.heap) (I : ObjM s.heap x dx C mA) (hg : PySem.W.plainGet K C name = true)
    (hf : PySem.W.findIn K (.ref C) name = some (some (.ref f))) (ht : PySem.W.isFn K (.ref f) = true) (hv : mA name = none) (h : Q (.ref f, [.ref x]) s) :
    wpAny (model prog w) A (getMethod (.ref x) name pl) Q E s := by
  obtain ⟨od, J, hl⟩ := I.look
  exact PySem.W.method_fn X J (PySem.W.plainGet_of hg).1 (PySem.W.plainGet_of hg).2 hf (beq_iff_eq.mp ht) (by show (PySem.W.lookIn name od).map (·.isSome) = some false; rw [hl, hv]; rfl) h

theorem set_map {ns : List Str} {Q : Unit → Shared → Prop} (X : K.In s.heap) (I : ObjM s.heap x dx C mA)
    (hs : PySem.W.findIn K (.ref C) "__setattr__" = some (some (.builtin "object.__setattr__"))) (hp : PySem.W.plainOver K C = true) (ht : PySem.W.takerIn K C name = some none) (hh : PySem.W.hasDictIn K C = true)
    (hw : PySem.Within mA ns) (hsz : ns.length ≤ sizeLine)
    (h : ∀ h', ObjM h' x dx C (fun y => if y = name then some v else mA y) → Heap.SameBut dx s.heap h' → Q () { s with heap := h', toks := s.toks + 2 }) :
    wpAny (model prog w) A (setAttr (.ref x) name v) Q E s := by
  obtain ⟨od, J, hl⟩ := I.look
  refine PySem.W.set_plain X J hs (PySem.W.osa_open (s := { s with toks := s.toks + 1 }) (r := none) X J hp ht fun b => ?_)
  obtain ⟨cd, hc, hd'⟩ := PySem.W.any_some hh
  have hx : s.heap.get? x = some ⟨.ref C, some dx, .plain, #[]⟩ := I.obj
  refine wpAny_bind (wpAny_pure (wpAny_bind (wpAny_bind (wpAny_loadPart hx (wpAny_bind (PySem.W.Looks.here (s := { s with toks := s.toks + 1 }) (PySem.W.looks_clsIn X hc) ?_))))))
  rw [hd']
  refine wpAny_pure (a := some dx) (wpAny_bind (wpAny_pure (wpAny_bind ?_)))
  refine wpAny_nsSet1 (s := { s with toks := s.toks + 1 }) I.ns fun h' hn2 hs2 => ?_
  obtain ⟨oD, esD, epD, hoD, hdD, hcD⟩ := hn2.count (PySem.Within.cons name v hw)
  refine wpAny_bind (wpAny_lookBehind hoD (by rw [hdD]; exact pastItsLine_dict (Nat.le_trans hcD (by rw [List.length_cons]; omega))) ?_)
  exact wpAny_pure (h _ ⟨(hs2.2 _ (Ne.symm I.ne)).trans I.obj, hn2, I.ne⟩ hs2)

/-- C(..): the dict at the heap's end, the instance behind it; then its __init__ -/
theorem make_map {R : Result → Shared → Prop} {vs : List Value} {kw : List (Str × Value)} (X : K.In s.heap) (hm : PySem.W.makesIn K C = true)
    (hi : PySem.W.findIn K (.ref C) "__init__" = some (some (.ref f))) (hf : PySem.W.typeIn K (.ref f) = some (.type "function"))
    (h : codeAny (model prog w) (A.under (.builtin "type.__call__" ⟨.ref C :: vs, kw⟩)) (.call (.ref f) ⟨.ref (s.heap.objs.size + 1) :: vs, kw⟩) (PySem.W.InitBack (s.heap.objs.size + 1) R)
      { s with heap := (s.heap.push PySem.W.emptyDict).push (PySem.W.instObj C s.heap.objs.size) }) :
    codeAny (model prog w) A (.call (.ref C) ⟨vs, kw⟩) R s := by
  obtain ⟨hh, g, d, t, os⟩ := s
  exact PySem.W.make_core (PySem.W.makes_of X hm) (PySem.W.looks_findIn X hi) (fun self => PySem.W.bind_fn X self hf) (.inl rfl) h
end

/-! ### the attributes as a list of pairs -/
def putF (f : Str) (v : V) : List (Str × V) → List (Str × V)
  | [] => [(f, v)]
  | (g, x) :: r => if g = f then (g, v) :: r else (g, x) :: putF f v r
theorem lookup_putF (f g : Str) (v : V) : ∀ fs : List (Str × V), (putF f v fs).lookup g = if g = f then some v else fs.lookup g
  | [] => by
    show List.lookup g [(f, v)] = _
    by_cases h : g = f
    · have hb : (g == f) = true := beq_iff_eq.mpr h
      simp only [List.lookup, hb, if_pos h]
    · have hb : (g == f) = false := beq_eq_false_iff_ne.mpr h
      simp only [List.lookup, hb, if_neg h]
  | (k, x) :: r => by
    have ih := lookup_putF f g v r
    rw [show putF f v ((k, x) :: r) = (if k = f then (k, v) :: r else (k, x) :: putF f v r) from rfl]
    by_cases hk : k = f
    · rw [if_pos hk]
      by_cases h : g = k
      · have hb : (g == k) = true := beq_iff_eq.mpr h
        simp only [List.lookup, hb, if_pos (h.trans hk)]
      · have hb : (g == k) = false := beq_eq_false_iff_ne.mpr h
        simp only [List.lookup, hb, if_neg (fun e : g = f => h (e.trans hk.symm))]
    · rw [if_neg hk]
      by_cases h : g = k
      · have hb : (g == k) = true := beq_iff_eq.mpr h
        simp only [List.lookup, hb, if_neg (fun e : g = f => hk (h.symm.trans e))]
      · have hb : (g == k) = false := beq_eq_false_iff_ne.mpr h
        simp only [List.lookup, hb]
        exact ih
theorem keys_putF (f : Str) (v : V) : ∀ fs : List (Str × V), f ∈ (putF f v fs).map (·.1) ∧ ∀ g, g ∈ fs.map (·.1) → g ∈ (putF f v fs).map (·.1)
  | [] => ⟨by simp [putF], fun g h => by simp at h⟩
  | (k, x) :: r => by
    obtain ⟨i1, i2⟩ := keys_putF f v r
    rw [show putF f v ((k, x) :: r) = (if k = f then (k, v) :: r else (k, x) :: putF f v r) from rfl]
    by_cases hk : k = f
    · rw [if_pos hk]
      subst hk
      exact ⟨by simp, fun g h => by simpa using h⟩
    · rw [if_neg hk]
      refine ⟨?_, fun g h => ?_⟩
      · rw [List.map_cons]
        exact List.mem_cons_of_mem _ i1
      · rw [List.map_cons] at h ⊢
        rcases List.mem_cons.mp h with e | e
        · exact List.mem_cons.mpr (.inl e)
        · exact List.mem_cons_of_mem _ (i2 g e)
theorem length_putF (f : Str) (v : V) : ∀ fs : List (Str × V), (putF f v fs).length ≤ fs.length + 1
  | [] => by simp [putF]
  | (k, x) :: r => by
    have ih := length_putF f v r
    rw [show putF f v ((k, x) :: r) = (if k = f then (k, v) :: r else (k, x) :: putF f v r) from rfl]
    by_cases hk : k = f
    · rw [if_pos hk, List.length_cons, List.length_cons]; omega
    · rw [if_neg hk, List.length_cons, List.length_cons]; omega

theorem RelO.some_of {v : V} {o : Option Value} (r : RelO (some v) o) : ∃ u, o = some u ∧ RelV v u := by
  cases o with
  | none => exact (show False from r).elim
  | some u => exact ⟨u, rfl, r⟩
theorem RelO.none_of {o : Option Value} (r : RelO none o) : o = none := by
  cases o with
  | none => rfl
  | some u => exact (show False from r).elim
theorem handed_of {v : V} {u : Value} (r : RelV v u) : PySem.W.handedIn u = true := by
  cases v with
  | non => cases (show u = Value.none from r); rfl
  | bl b => cases (show u = Value.bool b from r); rfl
  | int i => obtain ⟨t, e⟩ := (show ∃ t, u = Value.int i t from r); cases e; rfl
  | str x => obtain ⟨t, e⟩ := (show ∃ t, u = Value.str x t from r); cases e; rfl
  | byt b => obtain ⟨t, e⟩ := (show ∃ t, u = Value.bytes b t from r); cases e; rfl
  | flt b => obtain ⟨t, e⟩ := (show ∃ t, u = Value.float b t from r); cases e; rfl
  | ref a => cases (show u = Value.ref a from r); rfl
  | ty n => cases (show u = Value.type n from r); rfl

section
variable {P : Program} {w : World} {H H' : Hp} {h h' : Heap} {a C dx : Addr} {fs fs' : List (Str × V)}
theorem ins_get (hok : HOk P w H h) (e : H a = some (.ins C dx fs)) : ∃ mA, ObjM h a dx C mA ∧ (∀ f, RelO (fs.lookup f) (mA f)) ∧ PySem.Within mA (fs.map (·.1)) ∧ fs.length ≤ 1000 ∧ H dx = some (.own a) := by
  obtain ⟨d, z, ne, ob, mA, n, r, q⟩ := (show ObjOk P w H h a (.ins C dx fs) from hok a _ e)
  exact ⟨mA, ⟨ob, n, ne⟩, r, q, z, d⟩
end

/-! ### what of the text a class must have -/
structure Cls (K : PySem.W.Frag) (C : Addr) : Prop where
  pg : PySem.W.plainGet K C Str.empty = true
  hd : PySem.W.hasDictIn K C = true
  po : PySem.W.plainOver K C = true
  sa : PySem.W.findIn K (.ref C) "__setattr__" = some (some (.builtin "object.__setattr__"))
theorem Cls.get {K : PySem.W.Frag} {C : Addr} (c : Cls K C) (f : Str) : PySem.W.plainGet K C f = true := c.pg
/-- no class of it has the name -/
def NoAttr (K : PySem.W.Frag) (C : Addr) (f : Str) : Prop := PySem.W.findIn K (.ref C) f = some none
theorem NoAttr.taker {K : PySem.W.Frag} {C : Addr} {f : Str} (n : NoAttr K C f) : PySem.W.takerIn K C f = some none := by
  unfold PySem.W.takerIn
  rw [show PySem.W.findIn K (.ref C) f = some none from n]
  rfl
/-- a method: a plain def of the class or of one above it -/
structure Meth (K : PySem.W.Frag) (C : Addr) (m : Str) (f : Addr) : Prop where
  at_ : PySem.W.findIn K (.ref C) m = some (some (.ref f))
  fn : PySem.W.isFn K (.ref f) = true
  kp : PySem.W.keepIn K (.ref f) = true

section
variable {X : Cx} {pins : List (Addr × Obj)} {σ : St} {H : Hp} {s : Shared} {a C dx : Addr} {fs : List (Str × V)} {f : Str} {v : V} {A : Around} {E : Value → Shared → Prop}

theorem getattr_ok {b : Bool} {Q : Value → Shared → Prop} (I : Inv X pins σ H s) (e : H a = some (.ins C dx fs)) (c : Cls X.K C) (n : NoAttr X.K C f) (l : fs.lookup f = some v)
    (h : ∀ u s', Inv X pins σ H s' → RelV v u → Q u s') : wpAny (model X.prog X.w) A (getAttr (.ref a) f b) Q E s := by
  obtain ⟨mA, O, r, _, _, _⟩ := ins_get I.hok e
  obtain ⟨u, hu, ru⟩ := RelO.some_of (v := v) (o := mA f) (by rw [← l]; exact r f)
  exact get_map I.kIn O (c.get f) c.hd n hu (handed_of ru) (h u _ (I.tok _) ru)

theorem getmeth_ok {m : Str} {g : Addr} {pl : Sem Bool} {Q : Value × List Value → Shared → Prop} (I : Inv X pins σ H s) (e : H a = some (.ins C dx fs)) (c : Cls X.K C) (k : Meth X.K C m g) (l : fs.lookup m = none)
    (h : Q (.ref g, [.ref a]) s) : wpAny (model X.prog X.w) A (getMethod (.ref a) m pl) Q E s := by
  obtain ⟨mA, O, r, _, _, _⟩ := ins_get I.hok e
  have hn : mA m = none := RelO.none_of (by rw [← l]; exact r m)
  exact get_meth I.kIn O (c.get m) k.at_ k.fn hn h

theorem setattr_ok {y : V} {u : Value} {Q : Unit → Shared → Prop} (I : Inv X pins σ H s) (e : H a = some (.ins C dx fs)) (c : Cls X.K C) (n : NoAttr X.K C f) (hl : fs.length < 1000) (ry : RelV y u)
    (h : ∀ s', Inv X pins σ (upd H a (.ins C dx (putF f y fs))) s' → Q () s') : wpAny (model X.prog X.w) A (setAttr (.ref a) f u) Q E s := by
  obtain ⟨mA, O, r, wi, _, ho⟩ := ins_get I.hok e
  have hz : (fs.map (·.1)).length ≤ sizeLine := by rw [List.length_map, sizeLine_eq]; omega
  refine set_map I.kIn O c.sa c.po n.taker c.hd wi hz fun h' O' sb => h _ ?_
  have hd : ∃ o, h'.get? dx = some o := let ⟨o, _, _, e', _⟩ := O'.ns; ⟨o, e'⟩
  refine I.write (x := a) (e := dx) (by rw [e]; exact True.intro) (.inr ho) (fun b q hb z => (sb.2 b hb).trans z) hd ?_
  refine ⟨by rw [upd_ne O.ne]; exact ho, ?_, O.ne, O'.obj, _, O'.ns, fun g => ?_, fun g hg => ?_⟩
  · have := length_putF f y fs; omega
  · show RelO ((putF f y fs).lookup g) (if g = f then some u else mA g)
    rw [lookup_putF]
    by_cases q : g = f
    · rw [if_pos q, if_pos q]; exact ry
    · rw [if_neg q, if_neg q]; exact r g
  · by_cases q : g = f
    · rw [q]; exact (keys_putF f y fs).1
    · refine (keys_putF f y fs).2 g (wi g fun z => hg ?_)
      show (if g = f then some u else mA g) = none
      rw [if_neg q]; exact z

/-- a new instance, tracked, without attributes -/
theorem Inv.made (I : Inv X pins σ H s) : Inv X pins σ (upd (upd H s.heap.objs.size (.own (s.heap.objs.size + 1))) (s.heap.objs.size + 1) (.ins C s.heap.objs.size []))
    { s with heap := (s.heap.push PySem.W.emptyDict).push (PySem.W.instObj C s.heap.objs.size) } := by
  have e1 : (s.heap.push PySem.W.emptyDict).get? s.heap.objs.size = some PySem.W.emptyDict := Heap.get?_push_size s.heap rfl
  have e2 : ((s.heap.push PySem.W.emptyDict).push (PySem.W.instObj C s.heap.objs.size)).get? (s.heap.objs.size + 1) = some (PySem.W.instObj C s.heap.objs.size) := by
    have := Heap.get?_push_size (s.heap.push PySem.W.emptyDict) (o := PySem.W.instObj C s.heap.objs.size) rfl
    rwa [Heap.size_push] at this
  have e3 : (s.heap.push PySem.W.emptyDict).Ns s.heap.objs.size (fun _ => none) := ⟨PySem.W.emptyDict, #[], _, e1, rfl, (fun e he => absurd he (by simp)), fun _ => rfl⟩
  have I1 := I.laid (a := s.heap.objs.size) (o := .own (s.heap.objs.size + 1)) (h' := s.heap.push PySem.W.emptyDict) (t' := s.toks) (fun b u q => Heap.get?_push_of_some _ q) (Nat.le_refl _) ⟨_, e1⟩
  refine I1.laid (a := s.heap.objs.size + 1) (o := .ins C s.heap.objs.size []) (t' := s.toks) (fun b u q => Heap.get?_push_of_some _ q) (Nat.le_of_eq (Heap.size_push _ _)) ?_
  have ne : s.heap.objs.size ≠ s.heap.objs.size + 1 := Nat.ne_of_lt (Nat.lt_succ_self _)
  refine ⟨by rw [upd_ne ne, upd_same], Nat.zero_le _, ne, e2, fun _ => none, (Heap.Ns1.of_empty e3).at fun o q => Heap.get?_push_of_some _ q, fun _ => True.intro, fun y hy => absurd rfl hy⟩

/-- e.f where nothing but the object is asked: through attributeBase (super) and the last hold -/
theorem attr_of {prog : Program} {w : World} {env : Env} {e : Expr} {f : Str} {pos : Pos} {s : Shared} {Q : Value → Shared → Prop} (hb : attributeBase e f env (eval e env) = eval e env)
    (h : wpAny (model prog w) A (eval e env) (fun o s₁ => wpAny (model prog w) A (getAttr o f true) Q E s₁) E s) : wpAny (model prog w) A (eval (.Attribute e f pos) env) Q E s :=
  Attribute_any_ h (by rw [arm_eval_Attribute, hb])
end

/-! ### readings and rules -/
/-- e.f, an attribute of the instance -/
def tFld (K : PySem.W.Frag) (ta : TE) (f : Str) : TE := fun σ H Q => ta σ H fun x H1 => ∃ a C dx fs v, x = .ref a ∧ H1 a = some (.ins C dx fs) ∧ Cls K C ∧ NoAttr K C f ∧ fs.lookup f = some v ∧ Q v H1
/-- e.f = value -/
def sFld (K : PySem.W.Frag) (ta tv : TE) (f : Str) : TS := fun D σ H => tv σ H fun y H1 => ta σ H1 fun x H2 => ∃ a C dx fs, x = .ref a ∧ H2 a = some (.ins C dx fs) ∧ Cls K C ∧ NoAttr K C f ∧ fs.length < 1000 ∧
  D.nx σ (upd H2 a (.ins C dx (putF f y fs)))
section
variable {X : Cx} {o e value : Expr} {f : Str} {pos pos' tpos : Pos} {ta tv : TE}
theorem pe_fld (he : PE X e ta) (hb : attributeBase e f X.env (eval e X.env) = eval e X.env) : PE X (.Attribute e f pos) (tFld X.K ta f) := by
  intro pins s σ H Q I h
  refine attr_of hb (thn (he pins s σ H _ I h) fun u s1 ⟨x, H1, I1, rx, a, C, dx, fs, v, ex, ea, c, n, l, q⟩ => ?_)
  subst ex
  obtain rfl : u = Value.ref a := rx
  exact getattr_ok I1 ea c n l fun u' s2 I2 ru => ⟨v, H1, I2, ru, q⟩
theorem ps_fld (ha : PE X o ta) (hv : PE X value tv) (hs : swapsWith value (some (.Attribute o f pos')) pos.line X.env = pure false) : PS X (.Assign [.Attribute o f pos'] value pos) (sFld X.K ta tv f) := by
  intro pins s σ H D I h
  refine plainObj_wpAny_Assign_Attribute (thn (hv pins s σ H _ I h) fun u s1 ⟨y, H1, I1, ry, q⟩ => thn (ha pins s1 σ H1 _ I1 q) fun ov s2 ⟨x, H2, I2, rx, a, C, dx, fs, ex, ea, c, n, l, q2⟩ => ?_) hs
  subst ex
  obtain rfl : ov = Value.ref a := rx
  exact setattr_ok I2 ea c n l ry fun s3 I3 => ⟨σ, _, I3, q2⟩
end

/-! ### isinstance -/
section
variable {X : Cx} {pins : List (Addr × Obj)} {σ : St} {H : Hp} {s : Shared} {A : Around} {E : Value → Shared → Prop} {Q : Value → Shared → Prop} {c : Value} {b : Bool}
/-- the type of a value, as the fragment's deciders take it; for an instance its class -/
inductive TyOf (K : PySem.W.Frag) (H : Hp) : V → Value → Prop where
  | non : TyOf K H .non (.type "NoneType")
  | bl (x : Bool) : TyOf K H (.bl x) (.type "bool")
  | int (i : Int) : TyOf K H (.int i) (.type "int")
  | str (x : Str) : TyOf K H (.str x) (.type "str")
  | flt (x : UInt64) : TyOf K H (.flt x) (.type "float")
  | lst {a : Addr} {xs : List V} (e : H a = some (.lst xs)) : TyOf K H (.ref a) (.type "list")
  | frz {a : Addr} {o : Obj} {xs : List V} (e : H a = some (.frz o (.lst xs))) : TyOf K H (.ref a) (.type "list")
  | tup {a : Addr} {xs : List V} (e : H a = some (.tup xs)) : TyOf K H (.ref a) (.type "tuple")
  | dK {a : Addr} {kvs : List (Key × V)} (e : H a = some (.dK kvs)) : TyOf K H (.ref a) (.type "dict")
  | dT {a : Addr} {kvs : List (List Key × V)} (e : H a = some (.dT kvs)) : TyOf K H (.ref a) (.type "dict")
  | ins {a C dx : Addr} {fs : List (Str × V)} (e : H a = some (.ins C dx fs)) (cl : Cls K C) (ha : PySem.W.findIn K (.ref C) "__class__" = some (some (.builtin "object.__class__")))
      (hn : PySem.W.specialIn K (.builtin "object.__class__") "__get__" = some (some (.builtin "getset_descriptor.__get__"))) (htk : PySem.W.takesIn K (.builtin "object.__class__") = some true)
      (hm : PySem.W.mroIn K C (.type "object") = some true) : TyOf K H (.ref a) (.ref C)
/-- isinstance(x, c) for one class c, a built-in or an own one: kitOne's answer -/
theorem isinst_ok {x : V} {u t : Value} (I : Inv X pins σ H s) (rx : RelV x u) (ty : TyOf X.K H x t) (e : PySem.W.kitOne X.K t c = some b) (h : ∀ tk, Q (.bool b) { s with toks := tk }) :
    wpAny (model X.prog X.w) A (call (.builtin "isinstance") [u, c]) Q E s := by
  cases ty with
  | non => cases (show u = Value.none from rx); exact PySem.W.kia_one PySem.W.kitx_none I.kIn True.intro e (fun z => nomatch z) h
  | bl y => cases (show u = Value.bool y from rx); exact PySem.W.kia_one PySem.W.kitx_bool I.kIn True.intro e (fun z => nomatch z) h
  | int i => obtain ⟨t, q⟩ := (show ∃ t, u = Value.int i t from rx); cases q; exact PySem.W.kia_one PySem.W.kitx_int I.kIn True.intro e (fun z => nomatch z) h
  | str y => obtain ⟨t, q⟩ := (show ∃ t, u = Value.str y t from rx); cases q; exact PySem.W.kia_one PySem.W.kitx_str I.kIn True.intro e (fun z => nomatch z) h
  | flt y => obtain ⟨t, q⟩ := (show ∃ t, u = Value.float y t from rx); cases q; exact PySem.W.kia_one PySem.W.kitx_float I.kIn True.intro e (fun z => nomatch z) h
  | @lst a xs ea =>
    cases (show u = Value.ref a from rx)
    obtain ⟨_, _, n, _, h1⟩ := (show ObjOk X.prog X.w H s.heap a (.lst xs) from I.hok a _ ea)
    exact PySem.W.kia_one PySem.W.kitx_list I.kIn ⟨_, h1, rfl⟩ e (fun z => nomatch z) h
  | @frz a ob xs ea =>
    cases (show u = Value.ref a from rx)
    obtain ⟨_, _, _, n, _, h1⟩ := (show ObjOk X.prog X.w H s.heap a (.frz ob (.lst xs)) from I.hok a _ ea)
    exact PySem.W.kia_one PySem.W.kitx_list I.kIn ⟨_, h1, rfl⟩ e (fun z => nomatch z) h
  | @tup a xs ea =>
    cases (show u = Value.ref a from rx)
    obtain ⟨_, _, _, p⟩ := (show ObjOk X.prog X.w H s.heap a (.tup xs) from I.hok a _ ea)
    obtain ⟨o, h1, h2, _⟩ := p
    exact PySem.W.kia_one PySem.W.kitx_tuple I.kIn ⟨o, h1, h2⟩ e (fun z => nomatch z) h
  | @dK a kvs ea =>
    cases (show u = Value.ref a from rx)
    obtain ⟨_, _, vs, _, p⟩ := (show ObjOk X.prog X.w H s.heap a (.dK kvs) from I.hok a _ ea)
    obtain ⟨o, es, ep, h1, h2, _⟩ := p
    exact PySem.W.kia_one PySem.W.kitx_dict I.kIn ⟨o, h1, h2.1⟩ e (fun z => nomatch z) h
  | @dT a kvs ea =>
    cases (show u = Value.ref a from rx)
    obtain ⟨_, _, xs, _, o, es, ep, h1, h2, _⟩ := (show ObjOk X.prog X.w H s.heap a (.dT kvs) from I.hok a _ ea)
    exact PySem.W.kia_one PySem.W.kitx_dict I.kIn ⟨o, h1, h2.1⟩ e (fun z => nomatch z) h
  | @ins a C dx fs ea cl ha hn htk hm =>
    cases (show u = Value.ref a from rx)
    obtain ⟨mA, O, _⟩ := ins_get I.hok ea
    obtain ⟨od, J, _⟩ := O.look
    exact PySem.W.kia_one (PySem.W.kitx_own (cl.get _) cl.hd ha hn htk hm) I.kIn J e (fun z => nomatch z) h
end
end L2

namespace L2
open PySem PySem.Spec PyProof.Rows

/-! ### room -/
structure Room (k : Nat) (A : Around) : Prop where
  hd : A.handled = none
  dp : A.depth + 3 * k + 5 < recursionLimit
  un : A.units + 16 * k + 200 < cLine
  gd : A.guards = some []
theorem Room.mono {j k : Nat} {A : Around} (r : Room k A) (h : j ≤ k) : Room j A := ⟨r.hd, by have := r.dp; omega, by have := r.un; omega, r.gd⟩
theorem Room.deeper {k : Nat} {A : Around} (r : Room (k + 1) A) (env : Env) : Room k (A.deeper env) :=
  ⟨r.hd, by have := r.dp; show A.depth + 1 + 3 * k + 5 < _; omega, by have := r.un; show A.units + 3 + 16 * k + 200 < _; omega, r.gd⟩
theorem Room.in1 {k : Nat} {A : Around} (r : Room (k + 1) A) : Room k A.in1 :=
  ⟨r.hd, by have := r.dp; show A.depth + 3 * k + 5 < _; omega, by have := r.un; show A.units + 1 + 16 * k + 200 < _; omega, r.gd⟩
theorem make_depth {A : Around} {C : Addr} {us : List Value} {kw : List (Str × Value)} : (A.under (.builtin "type.__call__" ⟨.ref C :: us, kw⟩)).depth = A.depth + 1 := by
  first | rfl | simp [Around.under, Code.weight, Code.isCreation, Code.isGuard, Code.isCaller, Code.frames, Code.isFrame, guardIds]
theorem make_units {A : Around} {C : Addr} {us : List Value} {kw : List (Str × Value)} : (A.under (.builtin "type.__call__" ⟨.ref C :: us, kw⟩)).units = A.units + 1 := by
  first | rfl | simp [Around.under, Code.cUnits, Code.frames, Code.isFrame]
theorem make_guards {A : Around} {C : Addr} {us : List Value} {kw : List (Str × Value)} : (A.under (.builtin "type.__call__" ⟨.ref C :: us, kw⟩)).guards = A.guards := by
  first | rfl | simp [Around.under, Code.guards, Code.isGuard, guardIds, pushGuards]
theorem Room.make {k : Nat} {A : Around} (r : Room (k + 1) A) (C : Addr) (us : List Value) (kw : List (Str × Value)) : Room k (A.under (.builtin "type.__call__" ⟨.ref C :: us, kw⟩)) :=
  ⟨r.hd, by have := r.dp; rw [make_depth]; omega, by have := r.un; rw [make_units]; omega, by rw [make_guards]; exact r.gd⟩
theorem Room.depth {k : Nat} {A : Around} (r : Room k A) : A.depth < recursionLimit := by have := r.dp; omega
theorem Room.units {k : Nat} {A : Around} (r : Room k A) : A.units + 64 < cLine := by have := r.un; omega
/-! ### argument lists and displays -/
def tNil : TA := fun _ H Q => Q [] H
def tCons (ta : TE) (tr : TA) : TA := fun σ H Q => ta σ H fun x H1 => tr σ H1 fun xs H2 => Q (x :: xs) H2
section
variable {X : Cx} {e : Expr} {es : List Expr} {te : TE} {t : TA} {pos : Pos}
theorem pa_nil : PA X [] tNil := fun _ _ _ _ H Q I h => Calls.spliced_nil ⟨[], H, I, .nil, h⟩
theorem pa_cons (ha : PE X e te) (hr : PA X es t) (hs : starEach (e :: es) X.env = (false, eval e X.env) :: starEach es X.env := by rfl) : PA X (e :: es) (tCons te t) := by
  intro pos pins s σ H Q I h
  rw [hs]
  show wpAny _ _ (spliced ((false, eval e X.env) :: backTo pos (starEach es X.env))) _ _ s
  refine Calls.spliced_cons (thn (ha pins s σ H _ I h) fun u s1 ⟨x, H1, I1, r1, q1⟩ => ?_)
  exact thn (hr pos pins s1 σ H1 _ I1 q1) fun us s2 ⟨xs, H2, I2, r2, q2⟩ => ⟨x :: xs, H2, I2, .cons r1 r2, q2⟩

/-- a tuple, a list of written items -/
def tTup (t : TA) : TE := fun σ H Q => t σ H fun xs H1 => xs.length ≤ sizeLine ∧ ∀ p, H1 p = none → Q (.ref p) (upd H1 p (.tup xs))
def tLst (t : TA) : TE := fun σ H Q => t σ H fun xs H1 => xs.length ≤ sizeLine ∧ ∀ p, H1 p = none → Q (.ref p) (upd H1 p (.lst xs))
theorem pe_tup {x1} (h : PA X es t) : PE X (.Tuple es x1 pos) (tTup t) := by
  intro pins s σ H Q I hq
  refine wpAny_Tuple_spliced (thn (h pos pins s σ H _ I hq) fun us s1 ⟨xs, H1, I1, r, z, q⟩ => ⟨by rw [← r.length]; exact z, ?_⟩)
  have hf : H1 s1.heap.objs.size = none := I1.hok.fresh (Nat.le_refl _)
  refine ⟨.ref s1.heap.objs.size, upd H1 s1.heap.objs.size (.tup xs), I1.laid (t' := s1.toks) (fun b u e => Heap.get?_push_of_some _ e) (Nat.le_refl _) ?_, rfl, q _ hf⟩
  exact ⟨z, us, r, ⟨_, Heap.get?_push_size _ rfl, rfl, _, rfl⟩⟩
theorem pe_lst (h : PA X es t) : PE X (.List es pos) (tLst t) := by
  intro pins s σ H Q I hq
  refine wpAny_List_spliced (thn (h pos pins s σ H _ I hq) fun us s1 ⟨xs, H1, I1, r, z, q⟩ => ⟨by rw [← r.length]; exact z, ?_⟩)
  have hf : H1 s1.heap.objs.size = none := I1.hok.fresh (Nat.le_refl _)
  refine ⟨.ref s1.heap.objs.size, upd H1 s1.heap.objs.size (.lst xs), I1.laid (t' := s1.toks) (fun b u e => Heap.get?_push_of_some _ e) (Nat.le_refl _) ?_, rfl, q _ hf⟩
  exact ⟨z, us, 0, r, Heap.get?_push_size _ rfl⟩
end

/-! ### what a def promises -/
/-- a def's promise: the bound arguments in the parameters' order, the heap, the wanted end, the wanted exception -/
abbrev Sp := List V → Hp → VK → XK → Prop
/-- how an exception lies behind a call (file 08 gives it): the callers' frames, abstract heap and state ahead of the call, the wish, the exception, the state -/
abbrev CXT := List Env → Hp → Shared → XK → Value → Shared → Prop

/-- the state at a call -/
structure Env0 (P : Program) (w : World) (K : PySem.W.Frag) (mg : Str → Option Value) (base : Heap) (A : Around) (outer : List Env) (s : Shared) (H : Hp) : Prop where
  frames : A.frames = some outer
  mod : Mod K mg base
  bs : ∀ b o, base.get? b = some o → s.heap.get? b = some o ∧ H b = none
  bsz : base.objs.size ≤ s.heap.objs.size
  funs : s.heap.FunFrames base outer
  frf : ∀ b ∈ frs outer, H b = none
  hok : HOk P w H s.heap
  bare : AllBare s.gens
/-- a call's end -/
def CE (outer : List Env) (P : Program) (w : World) (H : Hp) (s : Shared) (Q : VK) (u : Value) (s' : Shared) : Prop :=
  ∃ v H', s'.os = s.os ∧ AllBare s'.gens ∧ Un (frs outer) [] H H' s.heap s'.heap ∧ HOk P w H' s'.heap ∧ RelV v u ∧ Q v H'
def CR (CX : CXT) (outer : List Env) (P : Program) (w : World) (H : Hp) (s : Shared) (Q : VK) (E : XK) (r : Result) (s' : Shared) : Prop :=
  match r with
  | .ok (.ret u) => CE outer P w H s Q u s'
  | .ok _ => False
  | .error e => CX outer H s E e s'
structure FnOk (P : Program) (w : World) (K : PySem.W.Frag) (mg : Str → Option Value) (base : Heap) (CX : CXT) (k : Nat) (f : Addr) (fd : FuncData) (ps : List Str) (sp : Sp) : Prop where
  len : ∀ vs H Q E, sp vs H Q E → vs.length = ps.length
  run : ∀ (A : Around) (outer : List Env) (s : Shared) (H : Hp) (args : Args) (us : List Value) (vs : List V) (Q : VK) (E : XK), Room k A → Env0 P w K mg base A outer s H → BindsTo s fd args (ps.zip us) → Vals vs us → sp vs H Q E →
    codeAny (model P w) A (.call (.ref f) args) (CR CX outer P w H s Q E) s
theorem FnOk.mono {P : Program} {w : World} {K : PySem.W.Frag} {mg : Str → Option Value} {base : Heap} {CX : CXT} {j k : Nat} {f : Addr} {fd : FuncData} {ps : List Str} {sp : Sp} (F : FnOk P w K mg base CX j f fd ps sp) (h : j ≤ k) :
    FnOk P w K mg base CX k f fd ps sp := ⟨F.len, fun A outer s H args us vs Q E hr => F.run A outer s H args us vs Q E (hr.mono h)⟩
/-- a weaker promise -/
theorem FnOk.imp {P : Program} {w : World} {K : PySem.W.Frag} {mg : Str → Option Value} {base : Heap} {CX : CXT} {k : Nat} {f : Addr} {fd : FuncData} {ps : List Str} {sp sp' : Sp} (F : FnOk P w K mg base CX k f fd ps sp)
    (h : ∀ vs H Q E, sp' vs H Q E → sp vs H Q E) : FnOk P w K mg base CX k f fd ps sp' :=
  ⟨fun vs H Q E q => F.len vs H Q E (h _ _ _ _ q), fun A outer s H args us vs Q E hr he hb hv hs => F.run A outer s H args us vs Q E hr he hb hv (h _ _ _ _ hs)⟩

theorem Env0.make {P : Program} {w : World} {K : PySem.W.Frag} {mg : Str → Option Value} {base : Heap} {A : Around} {outer : List Env} {s : Shared} {H : Hp} (e : Env0 P w K mg base A outer s H) (C : Addr) (us : List Value) (kw : List (Str × Value)) :
    Env0 P w K mg base (A.under (.builtin "type.__call__" ⟨.ref C :: us, kw⟩)) outer s H := ⟨by first | exact e.frames | (simpa [Around.under, Code.envs, Code.isFrame, pushEnvs] using e.frames), e.mod, e.bs, e.bsz, e.funs, e.frf, e.hok, e.bare⟩
theorem Env0.in1 {P : Program} {w : World} {K : PySem.W.Frag} {mg : Str → Option Value} {base : Heap} {A : Around} {outer : List Env} {s : Shared} {H : Hp} (e : Env0 P w K mg base A outer s H) :
    Env0 P w K mg base A.in1 outer s H := ⟨e.frames, e.mod, e.bs, e.bsz, e.funs, e.frf, e.hok, e.bare⟩

section
variable {X : Cx} {pins : List (Addr × Obj)} {σ : St} {H : Hp} {s s' : Shared}
/-- from a body: what a callee wants -/
theorem Inv.env0 (I : Inv X pins σ H s) : Env0 X.prog X.w X.K X.mg X.base X.A X.stack s H :=
  ⟨I.ok.frames, I.ok.mod, I.bs, Nat.le_trans I.ok.bsz I.sz, I.stack, I.stkFree, I.hok, I.bare⟩
/-- behind a call -/
theorem Inv.after {Q : VK} {u : Value} (I : Inv X pins σ H s) (h : CE X.stack X.prog X.w H s Q u s') : EP X pins σ Q u s' := by
  obtain ⟨v, H', os, bare, un, hok, r, q⟩ := h
  obtain ⟨hh, g, d, t, os'⟩ := s'
  obtain rfl : os' = s.os := os
  exact ⟨v, H', I.call (h' := hh) (g' := g) (d' := d) (t' := t) (ch := []) un hok bare (fun b z => absurd z (by simp)), r, q⟩
end

/-! ### calls -/
/-- f(..): the written arguments, then the defaults dvs; E: what is wanted of an exception -/
def tCall (sp : Sp) (dvs : List V) (E : XK) (t : TA) : TE := fun σ H Q => t σ H fun vs H1 => sp (vs ++ dvs) H1 Q E
/-- o.m(..) of an instance of the class at C -/
def tMeth (C : Addr) (m : Str) (sp : Sp) (dvs : List V) (E : XK) (ta : TE) (t : TA) : TE := fun σ H Q => ta σ H fun x H1 => ∃ a dx fs, x = .ref a ∧ H1 a = some (.ins C dx fs) ∧ fs.lookup m = none ∧
  t σ H1 fun vs H2 => sp (x :: (vs ++ dvs)) H2 Q E
/-- C(..): a new instance and its dict, then __init__ -/
def tMake (C : Addr) (sp : Sp) (dvs : List V) (E : XK) (t : TA) : TE := fun σ H Q => t σ H fun vs H1 => ∀ x dx, H1 x = none → H1 dx = none → dx ≠ x →
  sp (.ref x :: (vs ++ dvs)) (upd (upd H1 dx (.own x)) x (.ins C dx [])) (fun v H2 => v = .non ∧ Q (.ref x) H2) E

/-- how the parameters are bound: us the positional arguments, kw the keywords' values by name, ds the defaults that fill up -/
def Binds (K : PySem.W.Frag) (fd : FuncData) (ps : List Str) (ds : List Value) : Prop :=
  ∀ (s : Shared) (us : List Value), K.In s.heap → (us ++ ds).length = ps.length → BindsTo s fd ⟨us, []⟩ (ps.zip (us ++ ds))
/-- every parameter is given -/
theorem Binds.all {K : PySem.W.Frag} {fd : FuncData} {ps : List Str} (h : ∀ us : List Value, us.length = ps.length → bindArgs fd ⟨us, []⟩ = pure (ps.zip us)) : Binds K fd ps [] := fun s us _ hl => by
  rw [List.append_nil] at hl ⊢
  exact .of_eq (h us hl)

/-- an exception of a callee reaches what this body wants of exceptions -/
def Passes (CX : CXT) (X : Cx) (E : XK) : Prop := ∀ (pins : List (Addr × Obj)) (σ : St) (H : Hp) (s : Shared) (e : Value) (s' : Shared), Inv X pins σ H s → CX X.stack H s E e s' → X.xe e s'

section
variable {X : Cx} {CX : CXT} {k : Nat} {f C : Addr} {fd : FuncData} {ps : List Str} {sp : Sp} {dvs : List V} {ds : List Value} {E : XK} {x m : Str} {p pos apos : Pos} {e o : Expr} {es : List Expr} {ta : TE} {t : TA}

/-- the callee runs -/
theorem run_fn {pins : List (Addr × Obj)} {σ : St} {H : Hp} {s : Shared} {Q : VK} {us : List Value} {vs : List V} (F : FnOk X.prog X.w X.K X.mg X.base CX k f fd ps sp) (hr : Room k X.A) (hb : Binds X.K fd ps ds) (hd : Vals dvs ds) (hx : Passes CX X E)
    (I : Inv X pins σ H s) (r : Vals vs us) (h : sp (vs ++ dvs) H Q E) : wpAny (model X.prog X.w) X.A (call (.ref f) us) (EP X pins σ Q) X.xe s := by
  have r2 : Vals (vs ++ dvs) (us ++ ds) := r.append hd
  have hl : (us ++ ds).length = ps.length := by rw [← r2.length]; exact F.len _ _ _ _ h
  refine wpAny_call (codeAny_mono (F.run X.A X.stack s H ⟨us, []⟩ (us ++ ds) (vs ++ dvs) Q E hr I.env0 (hb s us I.kIn hl) r2 h) fun r s' hq => ?_)
  cases r with
  | error e => exact hx pins σ H s e s' I hq
  | ok fl =>
    cases fl with
    | ret u => exact I.after hq
    | next => exact False.elim hq
    | brk => exact False.elim hq
    | cont => exact False.elim hq

theorem pe_call (F : FnOk X.prog X.w X.K X.mg X.base CX k f fd ps sp) (hr : Room k X.A) (hg : Gl X x) (hm : X.mg x = some (.ref f)) (hk : PySem.W.keepIn X.K (.ref f) = true) (hb : Binds X.K fd ps ds) (hd : Vals dvs ds) (hx : Passes CX X E)
    (ha : PA X (e :: es) t) (hdb : (x == ("__debug__" : Str)) = false := by decide) (he : starEach (e :: es) X.env = (false, eval e X.env) :: starEach es X.env := by rfl) (hpl : (backTo pos (starEach es X.env)).any (·.1) = false := by rfl) :
    PE X (.Call (.Name x p) (e :: es) [] pos) (tCall sp dvs E t) := by
  intro pins s σ H Q I h
  refine wpAny_Call_Name_kw (ld_glob I hg hm ?_ hdb)
  refine PySem.W.callWith_K (h₀ := X.base) I.ok.mod.kin hk (thn (ha pos pins s σ H _ I h) fun us s1 ⟨vs, H1, I1, r, q⟩ => ⟨I1.kIn, ?_⟩) he hpl
  exact run_fn F hr hb hd hx I1 r q
/-- o.m() -/
theorem pe_meth0 {pl : Sem Bool} (he : PE X o ta) (c : Cls X.K C) (hm : Meth X.K C m f) (F : FnOk X.prog X.w X.K X.mg X.base CX k f fd ps sp) (hr : Room k X.A) (hb : Binds X.K fd ps ds) (hd : Vals dvs ds) (hx : Passes CX X E)
    (ht : eval (.Call (.Attribute o m apos) [] [] pos) X.env = (do
      let ov ← eval o X.env
      standAt apos.atName
      let (f, first) ← holding [ov] (getMethod ov m pl)
      callWith pos f first (backTo pos (starEach [] X.env)) (backToKw pos (keywordEach [] X.env))) := by rfl) :
    PE X (.Call (.Attribute o m apos) [] [] pos) (tMeth C m sp dvs E ta tNil) := by
  intro pins s σ H Q I h
  refine PySem.W.methodCall_KW (pl := pl) (thn (he pins s σ H _ I h) fun u s1 ⟨x, H1, I1, rx, a, dx, fs, ex, ea, l, q⟩ => ?_) ht
  subst ex
  obtain rfl : u = Value.ref a := rx
  refine getmeth_ok I1 ea c hm l ?_
  exact PySem.W.callWith_K0 (first := [.ref a]) I1.kIn hm.kp (run_fn (us := [.ref a]) (vs := [.ref a]) F hr hb hd hx I1 (.cons rfl .nil) q)

/-- what a class must have to be made -/
structure Mk (K : PySem.W.Frag) (C f : Addr) : Prop where
  makes : PySem.W.makesIn K C = true
  init : PySem.W.findIn K (.ref C) "__init__" = some (some (.ref f))
  fn : PySem.W.isFn K (.ref f) = true
  kp : PySem.W.keepIn K (.ref C) = true

theorem run_make {pins : List (Addr × Obj)} {σ : St} {H : Hp} {s : Shared} {Q : VK} {us : List Value} {vs : List V} (M : Mk X.K C f) (F : FnOk X.prog X.w X.K X.mg X.base CX k f fd ps sp) (hr : Room (k + 1) X.A) (hb : Binds X.K fd ps ds) (hd : Vals dvs ds)
    (hx : Passes CX X E) (I : Inv X pins σ H s) (r : Vals vs us)
    (h : ∀ x dx, H x = none → H dx = none → dx ≠ x → sp (.ref x :: (vs ++ dvs)) (upd (upd H dx (.own x)) x (.ins C dx [])) (fun v H2 => v = .non ∧ Q (.ref x) H2) E) :
    wpAny (model X.prog X.w) X.A (call (.ref C) us) (EP X pins σ Q) X.xe s := by
  have hq := h (s.heap.objs.size + 1) s.heap.objs.size (I.hok.fresh (Nat.le_succ _)) (I.hok.fresh (Nat.le_refl _)) (Nat.ne_of_lt (Nat.lt_succ_self _))
  have I2 := Inv.made (C := C) I
  have r2 : Vals (V.ref (s.heap.objs.size + 1) :: (vs ++ dvs)) (Value.ref (s.heap.objs.size + 1) :: (us ++ ds)) := .cons rfl (r.append hd)
  have hl : (Value.ref (s.heap.objs.size + 1) :: us ++ ds).length = ps.length := by
    have e := r2.length
    rw [F.len _ _ _ _ hq] at e
    exact e.symm
  refine wpAny_call (make_map (f := f) I.kIn M.makes M.init (beq_iff_eq.mp M.fn) (codeAny_mono (F.run _ X.stack _ _ ⟨Value.ref (s.heap.objs.size + 1) :: us, []⟩ (Value.ref (s.heap.objs.size + 1) :: (us ++ ds)) _ _ E (hr.make C us [])
    (I2.env0.make C us []) (hb _ (Value.ref (s.heap.objs.size + 1) :: us) I2.kIn hl) r2 hq) fun r s' hq' => ?_))
  cases r with
  | error e => exact hx pins σ _ _ e s' I2 hq'
  | ok fl =>
    cases fl with
    | ret u =>
      obtain ⟨v, H', I3, rv, ev, q3⟩ := I2.after hq'
      subst ev
      exact ⟨rv, ⟨V.ref (s.heap.objs.size + 1), H', I3, rfl, q3⟩⟩
    | next => exact False.elim hq'
    | brk => exact False.elim hq'
    | cont => exact False.elim hq'
theorem pe_make (M : Mk X.K C f) (F : FnOk X.prog X.w X.K X.mg X.base CX k f fd ps sp) (hr : Room (k + 1) X.A) (hg : Gl X x) (hm : X.mg x = some (.ref C)) (hb : Binds X.K fd ps ds) (hd : Vals dvs ds) (hx : Passes CX X E)
    (ha : PA X (e :: es) t) (hdb : (x == ("__debug__" : Str)) = false := by decide) (he : starEach (e :: es) X.env = (false, eval e X.env) :: starEach es X.env := by rfl) (hpl : (backTo pos (starEach es X.env)).any (·.1) = false := by rfl) :
    PE X (.Call (.Name x p) (e :: es) [] pos) (tMake C sp dvs E t) := by
  intro pins s σ H Q I h
  refine wpAny_Call_Name_kw (ld_glob I hg hm ?_ hdb)
  refine PySem.W.callWith_K (h₀ := X.base) I.ok.mod.kin M.kp (thn (ha pos pins s σ H _ I h) fun us s1 ⟨vs, H1, I1, r, q⟩ => ⟨I1.kIn, ?_⟩) he hpl
  exact run_make M F hr hb hd hx I1 r q
end

/-! ### keywords -/
section
variable {X : Cx} {CX : CXT} {k : Nat} {f C : Addr} {fd : FuncData} {ps ks : List Str} {sp : Sp} {E : XK} {x m : Str} {p pos apos kpos : Pos} {e o : Expr} {es : List Expr} {kws : List Keyword} {te ta : TE} {t tk : TA} {nm : Option Str}
variable {g : List Value → List Value → List Value} {gV : List V → List V → List V}
end

/-! ### a def's body keeps its promise -/
/-- names: the parameters first -/
structure FnScope (N P : List Str) (sc : Scope) : Prop where
  kind : sc.kind = .function
  co : sc.isCoroutine = false
  gen : sc.isGenerator = false
  nd : N.Nodup
  pre : N.take P.length = P
  par : ∀ x ∈ P, sc.names.lookup x = some .local ∨ sc.names.lookup x = some .cell
  nofree : ∀ y ∈ sc.names, y.2 ≠ .free

theorem bindL_out {kindOf : Str → Option NameKind} {x : Str} : ∀ {binds : List (Str × Value)} {m : Str → Option Value}, (∀ v, (x, v) ∉ binds) → bindL kindOf binds m x = m x
  | [], _, _ => rfl
  | (n, v) :: r, m, h => by
    unfold bindL
    rw [bindL_out fun w hw => h w (List.mem_cons_of_mem _ hw)]
    split
    · have : x ≠ n := by rintro rfl; exact h v List.mem_cons_self
      simp [this]
    · rfl
theorem bindC_out {kindOf : Str → Option NameKind} {x : Str} : ∀ {binds : List (Str × Value)} {m : Str → Option Value}, (∀ v, (x, v) ∉ binds) → bindC kindOf binds m x = m x
  | [], _, _ => rfl
  | (n, v) :: r, m, h => by
    unfold bindC
    rw [bindC_out fun w hw => h w (List.mem_cons_of_mem _ hw)]
    split
    · rfl
    · have : x ≠ n := by rintro rfl; exact h v List.mem_cons_self
      simp [this]
theorem bindL_get {kindOf : Str → Option NameKind} {x : Str} {v : Value} : ∀ {P : List Str} {vs : List Value} {i : Nat} {m : Str → Option Value}, P.Nodup → P[i]? = some x → vs[i]? = some v → kindOf x = some .local →
    bindL kindOf (P.zip vs) m x = some v
  | [], _, _, _, _, h, _, _ => by simp at h
  | _ :: _, [], _, _, _, _, h, _ => by simp at h
  | p :: P, w :: vs, 0, m, nd, h1, h2, hk => by
    simp at h1 h2; subst h1; subst h2
    show bindL kindOf ((p, w) :: P.zip vs) m p = _
    unfold bindL
    rw [bindL_out fun v hv => (List.nodup_cons.mp nd).1 (List.of_mem_zip hv).1, if_pos hk]
    simp
  | p :: P, w :: vs, i + 1, m, nd, h1, h2, hk => by
    show bindL kindOf ((p, w) :: P.zip vs) m x = _
    unfold bindL
    exact bindL_get (i := i) (List.nodup_cons.mp nd).2 (by simpa using h1) (by simpa using h2) hk
theorem bindC_get {kindOf : Str → Option NameKind} {x : Str} {v : Value} : ∀ {P : List Str} {vs : List Value} {i : Nat} {m : Str → Option Value}, P.Nodup → P[i]? = some x → vs[i]? = some v → kindOf x ≠ some .local →
    bindC kindOf (P.zip vs) m x = some v
  | [], _, _, _, _, h, _, _ => by simp at h
  | _ :: _, [], _, _, _, _, h, _ => by simp at h
  | p :: P, w :: vs, 0, m, nd, h1, h2, hk => by
    simp at h1 h2; subst h1; subst h2
    show bindC kindOf ((p, w) :: P.zip vs) m p = _
    unfold bindC
    rw [bindC_out fun v hv => (List.nodup_cons.mp nd).1 (List.of_mem_zip hv).1, if_neg hk]
    simp
  | p :: P, w :: vs, i + 1, m, nd, h1, h2, hk => by
    show bindC kindOf ((p, w) :: P.zip vs) m x = _
    unfold bindC
    exact bindC_get (i := i) (List.nodup_cons.mp nd).2 (by simpa using h1) (by simpa using h2) hk

/-- the names' values at the entry -/
def start (N : List Str) (vs : List V) : St := vs.map some ++ List.replicate (N.length - vs.length) none

/-- the context of a def's body, at its entry; an exception leaves the frame, then lies as CX says -/
def cxOf (CX : CXT) (P : Program) (w : World) (K : PySem.W.Frag) (mg : Str → Option Value) (base : Heap) (N : List Str) (qual : Str) (scope : Scope) (f : Addr) (cd : Value) (A : Around) (outer : List Env) (s : Shared) (H : Hp) (E : XK) : Cx where
  prog := P
  w := w
  K := K
  mg := mg
  base := base
  A := A.deeper (envOfC qual scope s.heap.objs.size f cd)
  N := N
  s₀ := s
  H₀ := H
  env := envOfC qual scope s.heap.objs.size f cd
  outer := outer
  stack := envOfC qual scope s.heap.objs.size f cd :: outer
  ex := []
  calm := true
  fn := fun _ => true
  pn := []
  xe := fun e s' => wpAny (model P w) (A.deeper (envOfC qual scope s.heap.objs.size f cd)) (leaving (envOfC qual scope s.heap.objs.size f cd) e) (fun _ s'' => CX outer H s E e s'') (fun e' s'' => CX outer H s E e' s'') s'

theorem cell_has {sc : Scope} {n : Nat} {x : Str} (h : sc.names.lookup x = some .cell) : ∃ c, (cellsFrom n sc.names []).lookup x = some c := by
  have q := PySem.W.cellsFrom_some sc.names n [] (.inl h)
  exact Option.isSome_iff_exists.mp q

theorem inv_start {CX : CXT} {P : Program} {w : World} {K : PySem.W.Frag} {mg : Str → Option Value} {base : Heap} {N ps : List Str} {qual : Str} {scope : Scope} {f : Addr} {cd : Value} {A : Around} {outer : List Env} {s s1 : Shared} {H : Hp} {E : XK} {us : List Value} {vs : List V}
    (S : FnScope N ps scope) (hd : A.handled = none) (e0 : Env0 P w K mg base A outer s H) (hl : vs.length = ps.length) (r : Vals vs us)
    (x : InCallC s s.heap.objs.size (bindL (envOfC qual scope s.heap.objs.size f cd).kindOf (ps.zip us) fun _ => none) (cellsFrom (s.heap.objs.size + 1) scope.names []) (bindC (envOfC qual scope s.heap.objs.size f cd).kindOf (ps.zip us) fun _ => none) s1) :
    Inv (cxOf CX P w K mg base N qual scope f cd A outer s H E) [] (start N vs) H s1 := by
  have hpl : ps.length ≤ N.length := by have := congrArg List.length S.pre; rw [List.length_take] at this; omega
  obtain ⟨h1, tk, rfl, hk⟩ := x.done
  have noA : ∀ b : Addr, b ∉ (cxOf CX P w K mg base N qual scope f cd A outer s H E).ex := fun b z => absurd (show b ∈ ([] : List Addr) from z) (by simp)
  refine ⟨⟨e0.mod, S.kind, rfl, rfl, Nat.le_refl _, fun y z c h1 h2 => ?_, fun y hy => ?_, fun y c _ h => ?_, fun _ => hd, Around.frames_deeper e0.frames, .inr ⟨rfl, rfl⟩, fun b z => absurd z (noA b), e0.bs, e0.bsz, fun b _ _ => noA b, fun b z => absurd z (noA b), e0.funs, e0.frf⟩,
    rfl, e0.bare, Un.kept hk, ⟨_, x.toInCall.ns, fun i y v h1 h2 h3 => ?_⟩, fun y c h => ⟨_, x.cell y c h⟩, e0.hok.fresh (Nat.le_refl _), fun y c h => ?_, fun p hp => absurd (show p ∈ ([] : List (Addr × Obj)) from hp) (by simp), e0.hok.kept hk, ?_⟩
  · exact name_of_addr x.apart (PySem.mem_of_lookup h1) (PySem.mem_of_lookup h2)
  · have hy : scope.names.lookup y = some .cell ∨ scope.names.lookup y = some .free := hy
    rcases hy with hy | hy
    · exact cell_has hy
    · exact absurd rfl (S.nofree _ (PySem.mem_of_lookup hy))
  · exact Nat.le_of_lt (x.above y c (PySem.mem_of_lookup h))
  · have hi : i < vs.length := by
      unfold start at h2
      by_cases hi : i < vs.length
      · exact hi
      · rw [List.getElem?_append_right (by simpa using hi)] at h2
        rw [List.getElem?_replicate] at h2
        split at h2 <;> cases h2
    have ha : vs[i]? = some v := by
      unfold start at h2
      rw [List.getElem?_append_left (by simpa using hi), List.getElem?_map] at h2
      cases e : vs[i]? with
      | none => rw [e] at h2; cases h2
      | some a => rw [e] at h2; cases h2; rfl
    obtain ⟨u, hu, rv⟩ := r.get ha
    have hp : ps[i]? = some y := by
      rw [← S.pre, List.getElem?_take_of_lt (by omega)]; exact h1
    have ndP : ps.Nodup := by rw [← S.pre]; exact S.nd.sublist (List.take_sublist _ _)
    refine ⟨u, rv, ?_⟩
    rcases S.par y (List.mem_of_getElem? hp) with k | k
    · exact .inl ⟨k, bindL_get ndP hp hu k⟩
    · obtain ⟨c, e⟩ := cell_has (n := s.heap.objs.size + 1) k
      refine .inr ⟨.inl k, c, e, ?_⟩
      have q := x.cell y c e
      rw [bindC_get ndP hp hu (by show scope.names.lookup y ≠ _; rw [k]; decide)] at q
      exact q
  · exact e0.hok.fresh (Nat.le_of_lt (x.above y c (PySem.mem_of_lookup h)))
  · unfold start
    show _ = N.length
    rw [List.length_append, List.length_map, List.length_replicate]
    omega

/-- THE RULE: a def (or a method) of the text, by its body. The body's reading t is chosen for each entry; it is run at the parameters' values -/
theorem fn_of {CX : CXT} {P : Program} {w : World} {K : PySem.W.Frag} {mg : Str → Option Value} {base : Heap} {k : Nat} {f : Addr} {name qual : Str} {params : Arguments} {body : List Stmt} {scope : Scope} {dV kV doc pm cdv ct oc : Value} {an od : Option Addr}
    {osl : Array (Option Value)} {N ps : List Str} {sp : Sp} (lk : K.lookup f = some ⟨oc, od, .func (PySem.W.fnOf name qual params body scope dV kV doc pm an cdv ct), osl⟩) (hcd : PySem.W.codeIn K cdv qual = true) (S : FnScope N ps scope)
    (len : ∀ vs H Q E, sp vs H Q E → vs.length = ps.length)
    (hbody : ∀ (A : Around) (outer : List Env) (s : Shared) (H : Hp) (vs : List V) (Q : VK) (E : XK), Room k (A.deeper (envOfC qual scope s.heap.objs.size f cdv)) → sp vs H Q E →
      ∃ t, PSs (cxOf CX P w K mg base N qual scope f cdv A outer s H E) body t ∧ t { nx := fun _ H' => Q .non H', rt := Q } (start N vs) H) :
    FnOk P w K mg base CX (k + 1) f (PySem.W.fnOf name qual params body scope dV kV doc pm an cdv ct) ps sp := by
  refine ⟨len, fun A outer s H args us vs Q E hr e0 hb r hsp => ?_⟩
  have hl := len _ _ _ _ hsp
  have KX : K.In s.heap := e0.mod.kin.keeps fun b o e => (e0.bs b o e).1
  have lim : s.heap.NoLimit := e0.mod.nolimit.keeps fun b o e => (e0.bs b o e).1
  have hkind : ∀ y ∈ ps.zip us, scope.names.lookup y.1 = some .local ∨ (scope.names.lookup y.1 = some .cell ∧ ((cellsFrom (s.heap.objs.size + 1) scope.names []).lookup y.1).isSome = true) := fun ⟨n, v⟩ hy => by
    rcases S.par n (List.of_mem_zip hy).1 with q | q
    · exact .inl q
    · exact .inr ⟨q, PySem.W.cellsFrom_some _ _ _ (.inl q)⟩
  refine codeAny_call_function hr.depth (KX _ _ lk) rfl S.co S.gen rfl (PySem.W.codeRec_of KX hcd) (hb _ _ _ _ ?_)
  refine wpAny_newFunctionEnv_cells S.kind hkind fun env he s1 x => ?_
  subst he
  refine ⟨lim.keeps x.toInCall.keep, codeAny_func ?_⟩
  obtain ⟨t, ht, hq⟩ := hbody A outer s H vs Q E (hr.deeper _) hsp
  have I : Inv (cxOf CX P w K mg base N qual scope f cdv A outer s H E) [] (start N vs) H s1 := inv_start S hr.hd e0 hl r x
  refine wpAny_mono (ht [] s1 (start N vs) H _ I hq) (fun fl s' hs => ?_) fun e s' hs => hs
  have fin : ∀ {σ' : St} {H' : Hp} {v : V} {u : Value}, Inv (cxOf CX P w K mg base N qual scope f cdv A outer s H E) [] σ' H' s' → RelV v u → Q v H' → CE outer P w H s Q u s' :=
    fun {σ' H' v u} J rv q => ⟨v, H', J.os, J.bare, J.base, J.hok, rv, q⟩
  cases fl with
  | ret u =>
    obtain ⟨v, σ', H', J, rv, q⟩ := hs
    exact fin J rv q
  | next =>
    obtain ⟨σ', H', J, q⟩ := hs
    exact fin (v := V.non) (u := Value.none) J rfl q
  | brk =>
    obtain ⟨_, _, _, q⟩ := hs
    exact False.elim q
  | cont =>
    obtain ⟨_, _, _, q⟩ := hs
    exact False.elim q
end L2

namespace L2
open PySem PySem.Spec PyProof.Rows
section
variable {X : Cx} {x : Str} {p pos : Pos} {e : Expr} {es : List Expr} {t : TA} {id T : String} {r : List V → Hp → VK → Prop}

def tCB (r : List V → Hp → VK → Prop) (t : TA) : TE := fun σ H Q => t σ H fun vs H1 => r vs H1 Q
/-- f(e, ..), f a built-in function -/
theorem pe_callB (hc : CallR X (.builtin id) r) (hg : Gl X x) (hm : X.mg x = none) (hv : bootBuiltins x = some (.builtin id)) (ha : PA X (e :: es) t) (hn : x ≠ "__name__" := by decide) (hdb : (x == ("__debug__" : Str)) = false := by decide)
    (he : starEach (e :: es) X.env = (false, eval e X.env) :: starEach es X.env := by rfl) (hpl : (backTo pos (starEach es X.env)).any (·.1) = false := by rfl) : PE X (.Call (.Name x p) (e :: es) [] pos) (tCB r t) := by
  intro pins s σ H Q I h
  refine wpAny_Call_Name_kw (ld_blt I hg hm hv ?_ hn hdb)
  exact PyProof.Rows.callWith_builtin1 (thn (ha pos pins s σ H _ I h) fun us s1 ⟨vs, H1, I1, r1, q1⟩ => hc pins s1 σ H1 vs us Q I1 r1 q1) he hpl
/-- T(e, ..), T a built-in type -/
theorem pe_callTy (hc : CallR X (.type T) r) (hg : Gl X x) (hm : X.mg x = none) (hv : bootBuiltins x = some (.type T)) (ha : PA X (e :: es) t) (hn : x ≠ "__name__" := by decide) (hdb : (x == ("__debug__" : Str)) = false := by decide)
    (he : starEach (e :: es) X.env = (false, eval e X.env) :: starEach es X.env := by rfl) (hpl : (backTo pos (starEach es X.env)).any (·.1) = false := by rfl) : PE X (.Call (.Name x p) (e :: es) [] pos) (tCB r t) := by
  intro pins s σ H Q I h
  refine wpAny_Call_Name_kw (ld_blt I hg hm hv ?_ hn hdb)
  exact PyProof.Rows.callWith_type1 (thn (ha pos pins s σ H _ I h) fun us s1 ⟨vs, H1, I1, r1, q1⟩ => hc pins s1 σ H1 vs us Q I1 r1 q1) he hpl
end
end L2

namespace HT
open PySem PyProof.Rows

section
open PySem.SeqAt
open PySem.AutoSeq1 (wpAny_loadPart')
open PySem.MeetsSeq PySem.MeetsSeq2 PySem.MeetsSeq3

end

section
variable {prog : Program} {w : World} {A : Around} {E : Value → Shared → Prop} {s : Shared}

/-! ### t[a:b], not the whole -/
/-- a slice's bound as a place among n (d where it is left out) -/
def sIx (n d : Nat) : Option Int → Nat
  | none => d
  | some v => if v < 0 then (v + (n : Int)).toNat else min v.toNat n
end
end HT

namespace L2
open PySem PySem.Spec PyProof.Rows

/-! ### the parts of a slice -/
abbrev TO := St → Hp → (Option Int → Hp → Prop) → Prop
/-- a slice's part (left out, or an int) -/
def PO (X : Cx) (e : Option Expr) (t : TO) : Prop :=
  ∀ (pins : List (Addr × Obj)) (s : Shared) (σ : St) (H : Hp) (Q : Option Int → Hp → Prop), Inv X pins σ H s → t σ H Q →
    wpAny (model X.prog X.w) X.A (evalPart e X.env) (fun u s' => ∃ o H', Inv X pins σ H' s' ∧ IsPart u o ∧ Q o H') X.xe s
def tNoPart : TO := fun _ H Q => Q none H
def tPart (t : TE) : TO := fun σ H Q => t σ H fun x H1 => ∃ i, x = .int i ∧ Q (some i) H1

section
variable {X : Cx} {e : Expr} {te : TE} {lo hi : Option Expr} {tl th : TO} {pos p2 : Pos}

theorem po_some (h : PE X e te) : PO X (some e) (tPart te) := by
  intro pins s σ H Q I hw
  rw [evalPart_some]
  refine thn (h pins s σ H _ I hw) fun u s1 ⟨x, H1, I1, r1, q1⟩ => ?_
  obtain ⟨i, rfl, q⟩ := q1
  obtain ⟨t, rfl⟩ := r1
  exact ⟨some i, H1, I1, .int i t, q⟩

/-- what a slice of a value is, by values: the slice object stands at sl -/
def SlR (X : Cx) (r : V → Option Int → Option Int → Hp → VK → Prop) : Prop :=
  ∀ (pins : List (Addr × Obj)) (s : Shared) (σ : St) (H : Hp) (x : V) (v vl vu : Value) (lo hi : Option Int) (sl : Addr) (Q : VK), Inv X pins σ H s → RelV x v → s.heap.IsSliceOf sl vl vu .none → IsPart vl lo → IsPart vu hi → r x lo hi H Q →
    ∃ T id, typeLookup (.type T) "__getitem__" = pure (some (.builtin id)) ∧ s.TypeIs v T ∧ wpAny (model X.prog X.w) X.A (getItem v (.ref sl)) (EP X pins σ Q) X.xe s
theorem SlR.or {r r' : V → Option Int → Option Int → Hp → VK → Prop} (h : SlR X r) (h' : SlR X r') : SlR X (fun x lo hi H Q => r x lo hi H Q ∨ r' x lo hi H Q) := by
  intro pins s σ H x v vl vu lo hi sl Q I rx hs pl pu q
  rcases q with q | q
  · exact h pins s σ H x v vl vu lo hi sl Q I rx hs pl pu q
  · exact h' pins s σ H x v vl vu lo hi sl Q I rx hs pl pu q
def tSl (r : V → Option Int → Option Int → Hp → VK → Prop) (te : TE) (tl th : TO) : TE := fun σ H Q => te σ H fun x H1 => tl σ H1 fun l H2 => th σ H2 fun u H3 => r x l u H3 Q
/-- a[lo:hi], any a -/
theorem pe_slice {r : V → Option Int → Option Int → Hp → VK → Prop} (hr : SlR X r) (he : PE X e te) (hl : PO X lo tl) (hu : PO X hi th) : PE X (.Subscript e (.Slice lo hi none p2) pos) (tSl r te tl th) := by
  intro pins s σ H Q I h
  refine Subscript_ (thn (he pins s σ H _ I h) fun v s1 ⟨x, H1, I1, r1, q1⟩ => ?_)
  refine wpAny_Slice (thn (hl pins s1 σ H1 _ I1 q1) fun vl s2 ⟨l, H2, I2, pl, q2⟩ => thn (hu pins s2 σ H2 _ I2 q2) fun vu s3 ⟨u, H3, I3, pu, q3⟩ => ?_)
  rw [evalPart_none]
  refine wpAny_pure ?_
  have I4 : Inv X pins σ H3 { s3 with heap := s3.heap.push { cls := .type "slice", data := .fields #[vl, vu, .none] } } := I3.kept (t' := s3.toks) fun b ob q => Heap.get?_push_of_some _ q
  obtain ⟨T, id, hT, ht, hg⟩ := hr pins { s3 with heap := s3.heap.push { cls := .type "slice", data := .fields #[vl, vu, .none] } } σ H3 x v vl vu l u s3.heap.objs.size Q I4 r1 (Heap.IsSliceOf.new ..) pl pu q3
  show wpAny (model X.prog X.w) X.A (subscriptTail e (.Slice lo hi none p2) v (.ref s3.heap.objs.size)) (EP X pins σ Q) X.xe { s3 with heap := s3.heap.push { cls := .type "slice", data := .fields #[vl, vu, .none] } }
  exact tail_any (ops := [.ref s3.heap.objs.size, v]) ht hT hg (by with_unfolding_all rfl)

/-- the items of xs[lo:hi] -/
def cutV (xs : List V) (lo hi : Option Int) : List V := (xs.drop (HT.sIx xs.length 0 lo)).take (HT.sIx xs.length xs.length hi - HT.sIx xs.length 0 lo)
theorem cutV_length (xs : List V) (lo hi : Option Int) : (cutV xs lo hi).length ≤ xs.length := by
  unfold cutV
  rw [List.length_take, List.length_drop]
  omega
/-! ### t < u, t + u -/
end
end L2

namespace L2
open PySem PySem.Spec PyProof.Rows

/-! ### places -/
/-- the place that an index of any sign means -/
def ixN (n : Nat) (i : Int) : Option Nat := if 0 ≤ i then (if i < n then some i.toNat else none) else if -(n : Int) ≤ i then some (i + n).toNat else none
def atI {α : Type} (xs : List α) (i : Int) : Option α := (ixN xs.length i).bind fun j => xs[j]?
theorem ixN_seq {n : Nat} {i : Int} {j : Nat} (h : ixN n i = some j) : seqIndex? i n = some j ∧ j < n ∧ -(n : Int) ≤ i ∧ i < n := by
  unfold ixN at h
  by_cases h0 : 0 ≤ i
  · rw [if_pos h0] at h
    by_cases h1 : i < n
    · rw [if_pos h1] at h
      have e : i.toNat = j := Option.some.inj h
      exact ⟨by rw [seqIndex_of h0 h1, e], by omega, by omega, h1⟩
    · rw [if_neg h1] at h; cases h
  · rw [if_neg h0] at h
    by_cases h1 : -(n : Int) ≤ i
    · rw [if_pos h1] at h
      have e : (i + n).toNat = j := Option.some.inj h
      exact ⟨by rw [seqIndex_neg (by omega) h1, e], by omega, h1, by omega⟩
    · rw [if_neg h1] at h; cases h
theorem atI_get {α : Type} {xs : List α} {i : Int} {v : α} (h : atI xs i = some v) : ∃ j, seqIndex? i xs.length = some j ∧ xs[j]? = some v ∧ j < xs.length ∧ -(xs.length : Int) ≤ i ∧ i < xs.length := by
  unfold atI at h
  cases e : ixN xs.length i with
  | none => rw [e] at h; cases h
  | some j =>
    rw [e] at h
    obtain ⟨h1, h2, h3, h4⟩ := ixN_seq e
    exact ⟨j, h1, h, h2, h3, h4⟩
theorem atI_nat {α : Type} {xs : List α} {j : Nat} {v : α} (h : xs[j]? = some v) : atI xs (j : Int) = some v := by
  have hj : j < xs.length := (List.getElem?_eq_some_iff.mp h).1
  have e : ixN xs.length (j : Int) = some j := by
    unfold ixN
    rw [if_pos (by omega), if_pos (by omega)]; simp
  unfold atI; rw [e]; exact h
/-! ### what may be subscripted -/
/-- what stands as an index of a plain subscript -/
def PlainIx (b : Expr) : Prop := ∀ o i, subscripted b false o i = operate [o, i] (getItem o i)
/-- a subscript by values -/
def IxR (X : Cx) (r : R2) : Prop :=
  ∀ (value slice : Expr) (pins : List (Addr × Obj)) (s : Shared) (σ : St) (H : Hp) (x y : V) (v u : Value) (Q : VK), Inv X pins σ H s → RelV x v → RelV y u → r x y H Q →
    subscripted slice false v u = operate [v, u] (getItem v u) → wpAny (model X.prog X.w) X.A (subscriptTail value slice v u) (EP X pins σ Q) X.xe s
/-- a call of a builtin's method by values: the receiver, the arguments -/
def MtR (X : Cx) (id : String) (r : V → List V → Hp → VK → Prop) : Prop :=
  ∀ (pins : List (Addr × Obj)) (s : Shared) (σ : St) (H : Hp) (x : V) (xs : List V) (v : Value) (us : List Value) (Q : VK), Inv X pins σ H s → RelV x v → Vals xs us → r x xs H Q →
    wpAny (model X.prog X.w) X.A (call (.builtin id) (v :: us)) (EP X pins σ Q) X.xe s
section
variable {X : Cx} {a b : Expr} {ta tb : TE} {pos : Pos}
theorem IxR.or {r r' : R2} (h : IxR X r) (h' : IxR X r') : IxR X (fun x y H Q => r x y H Q ∨ r' x y H Q) := by
  intro value slice pins s σ H x y v u Q I rx ry q hs
  rcases q with q | q
  · exact h value slice pins s σ H x y v u Q I rx ry q hs
  · exact h' value slice pins s σ H x y v u Q I rx ry q hs
theorem MtR.or {id : String} {r r' : V → List V → Hp → VK → Prop} (h : MtR X id r) (h' : MtR X id r') : MtR X id (fun x xs H Q => r x xs H Q ∨ r' x xs H Q) := by
  intro pins s σ H x xs v us Q I rx rs q
  rcases q with q | q
  · exact h pins s σ H x xs v us Q I rx rs q
  · exact h' pins s σ H x xs v us Q I rx rs q
/-- a[b] -/
theorem pe_ix {r : R2} (hr : IxR X r) (ha : PE X a ta) (hb : PE X b tb) (hs : PlainIx b) : PE X (.Subscript a b pos) (tOp r ta tb) := by
  intro pins s σ H Q I h
  exact Subscript_ (binT ha hb I h fun v u s2 x y H2 I2 rx ry q => hr a b pins s2 σ H2 x y v u Q I2 rx ry q (hs _ _))

def rIxL (K : PySem.W.Frag) : R2 := fun x y H Q => ∃ p xs i v, x = .ref p ∧ y = .int i ∧ SqL K H p xs ∧ atI xs i = some v ∧ Q v H
def rIxT (K : PySem.W.Frag) : R2 := fun x y H Q => ∃ p xs i v, x = .ref p ∧ y = .int i ∧ SqT K H p xs ∧ atI xs i = some v ∧ Q v H
def rIxS : R2 := fun x y H Q => ∃ z i c, x = .str z ∧ y = .int i ∧ z.length ≤ sizeLine ∧ atI z.cps.toList i = some c ∧ Q (.str ⟨#[c]⟩) H
theorem ix_list : IxR X (rIxL X.K) := by
  intro value slice pins s σ H x y v u Q I rx ry h hs
  obtain ⟨p, xs, i, z, rfl, rfl, hq, he, q⟩ := h
  cases rx
  obtain ⟨t, rfl⟩ := ry
  obtain ⟨its, r, pl, hz⟩ := I.list hq
  obtain ⟨j, h1, h2, h3, h4, h5⟩ := atI_get he
  obtain ⟨w, ew, rw'⟩ := r.get h2
  have hl := r.length
  have hn := line63
  have fin : EP X pins σ Q w s := ⟨z, H, I, rw', q⟩
  by_cases h0 : 0 ≤ i
  · have hj : i.toNat = j := by
      rw [seqIndex_of h0 h5] at h1
      exact Option.some.inj h1
    exact item_listR pl.isList h0 (by omega) (by rw [hj]; simpa using ew) fin hs
  · have hj : (i + (its.toArray.size : Int)).toNat = j := by
      rw [seqIndex_neg (by omega) h4] at h1
      rw [List.size_toArray, ← hl]
      exact Option.some.inj h1
    exact subscriptTail_builtinR (x := w) pl.isList.typeIs slot_list_getitem.lookup
      (wpAny_getItem_list_neg (Q := fun r s' => r = w ∧ EP X pins σ Q r s') pl.isList (by omega) (by rw [List.size_toArray] <;> omega) (by omega) (by rw [hj]; simpa using ew) ⟨rfl, fin⟩) hs
theorem ix_tup : IxR X (rIxT X.K) := by
  intro value slice pins s σ H x y v u Q I rx ry h hs
  obtain ⟨p, xs, i, z, rfl, rfl, hq, he, q⟩ := h
  cases rx
  obtain ⟨t, rfl⟩ := ry
  obtain ⟨its, r, pl, hz⟩ := I.tuple hq
  obtain ⟨j, h1, h2, h3, h4, h5⟩ := atI_get he
  obtain ⟨w, ew, rw'⟩ := r.get h2
  have hl := r.length
  have hn := line63
  have fin : EP X pins σ Q w s := ⟨z, H, I, rw', q⟩
  exact subscriptTail_builtinR (x := w) pl.typeIs slot_tuple_getitem.lookup
    (getItem_tuple (j := j) (Q := fun r s' => r = w ∧ EP X pins σ Q r s') pl (by omega) (by omega) (by rw [List.size_toArray, ← hl]; exact h1) (by simpa using ew) ⟨rfl, fin⟩) hs
/-! ### xs[i] = v, any sign -/
theorem Inv.lst {pins : List (Addr × Obj)} {σ : St} {H : Hp} {s : Shared} {p : Addr} {xs : List V} (I : Inv X pins σ H s) (h : H p = some (.lst xs)) :
    ∃ (its : List Value) (n : Nat), Vals xs its ∧ s.heap.get? p = some { cls := .type "list", data := .seq its.toArray n } ∧ xs.length ≤ sizeLine := by
  obtain ⟨z, its, n, r, e⟩ := I.hok p _ h
  exact ⟨its, n, r, e, z⟩
/-! ### slices -/
theorem slice_bounds (lo hi : Option Int) (n : Nat) : (sliceBounds lo hi none n).1 = ((HT.sIx n 0 lo : Nat) : Int) ∧ (sliceBounds lo hi none n).2.1 = ((HT.sIx n n hi : Nat) : Int) ∧ (sliceBounds lo hi none n).2.2 = 1 := by
  refine ⟨?_, ?_, rfl⟩
  · cases lo with
    | none => simp [sliceBounds, HT.sIx]
    | some i =>
      simp only [sliceBounds, HT.sIx, Option.getD_none, show (1 : Int) > 0 by decide, if_true]
      by_cases h : i < 0
      · simp only [h, if_true] <;> omega
      · simp only [h, if_false] <;> omega
  · cases hi with
    | none => simp [sliceBounds, HT.sIx]
    | some i =>
      simp only [sliceBounds, HT.sIx, Option.getD_none, show (1 : Int) > 0 by decide, if_true]
      by_cases h : i < 0
      · simp only [h, if_true] <;> omega
      · simp only [h, if_false] <;> omega
theorem slicePick_cut (its : List Value) (lo hi : Option Int) : slicePick its.toArray lo hi none = ((its.drop (HT.sIx its.length 0 lo)).take (HT.sIx its.length its.length hi - HT.sIx its.length 0 lo)).toArray := by
  obtain ⟨h1, h2, h3⟩ := slice_bounds lo hi its.toArray.size
  unfold slicePick
  rw [h1, h2, h3]
  simp only [sliceRange_one, pick_run, List.size_toArray] <;> rfl
/-- xs[lo:hi] of a list: a new list -/
def rSlL (K : PySem.W.Frag) : V → Option Int → Option Int → Hp → VK → Prop := fun x lo hi H Q => ∃ a xs, x = .ref a ∧ SqL K H a xs ∧ ∀ p, H p = none → Q (.ref p) (upd H p (.lst (cutV xs lo hi)))
theorem sl_list : SlR X (rSlL X.K) := by
  intro pins s σ H x v vl vu lo hi sl Q I rx hs pl pu h
  obtain ⟨a, xs, rfl, hx, q⟩ := h
  cases rx
  obtain ⟨its, r, ht, hz⟩ := I.list hx
  have hlen := r.length
  refine ⟨"list", _, slot_list_getitem.lookup, ht.isList.typeIs, ?_⟩
  refine wpAny_getItem_list_slice ht.isList hs pl pu .none (by simp) ?_ (by rw [List.size_toArray] <;> omega)
  rw [slicePick_cut, ← hlen]
  refine ⟨.ref s.heap.objs.size, _, I.laid (t' := s.toks) (o := .lst (cutV xs lo hi)) (fun b ob q => Heap.get?_push_of_some _ q) (Nat.le_refl _) ?_, rfl, q _ (I.hok.fresh (Nat.le_refl _))⟩
  exact ⟨Nat.le_trans (cutV_length xs lo hi) hz, _, 0, (r.drop (HT.sIx xs.length 0 lo)).take (HT.sIx xs.length xs.length hi - HT.sIx xs.length 0 lo), Heap.get?_push_size _ rfl⟩

/-! ### in, not in: flat items -/
def flatV : V → Bool
  | .non => true
  | .bl _ => true
  | .int _ => true
  | .str _ => true
  | _ => false
/-- == of flat values -/
def eqV : V → V → Bool
  | .non, .non => true
  | .bl a, .bl b => a == b
  | .bl a, .int b => (if a then 1 else 0) == b
  | .int a, .bl b => a == (if b then 1 else 0)
  | .int a, .int b => a == b
  | .str a, .str b => a == b
  | _, _ => false
theorem eqAt_V {A : Around} {s : Shared} {y x : V} {u v : Value} (ry : RelV y u) (rx : RelV x v) (fy : flatV y = true) (fx : flatV x = true) : SeqAt.EqAt A s u v (eqV y x) := by
  cases y with
  | non =>
    cases ry
    cases x with
    | non => cases rx; exact SeqAt.EqAt.same _
    | bl b => cases rx; exact SeqAt.EqAt.none_bool b
    | int b => obtain ⟨t, rfl⟩ := rx; exact SeqAt.EqAt.none_int b t
    | str b => obtain ⟨t, rfl⟩ := rx; exact SeqAt.EqAt.none_str b t
    | _ => exact absurd (show false = true from fx) Bool.false_ne_true
  | bl a =>
    cases ry
    cases x with
    | non => cases rx; exact SeqAt.EqAt.bool_none a
    | bl b => cases rx; exact SeqAt.EqAt.bool_bool a b
    | int b => obtain ⟨t, rfl⟩ := rx; exact SeqAt.EqAt.bool_int a b t
    | str b => obtain ⟨t, rfl⟩ := rx; exact SeqAt.EqAt.bool_str a b t
    | _ => exact absurd (show false = true from fx) Bool.false_ne_true
  | int a =>
    obtain ⟨t', rfl⟩ := ry
    cases x with
    | non => cases rx; exact SeqAt.EqAt.int_none a t'
    | bl b => cases rx; exact SeqAt.EqAt.int_bool a t' b
    | int b => obtain ⟨t, rfl⟩ := rx; exact SeqAt.EqAt.int_int a t' b t
    | str b => obtain ⟨t, rfl⟩ := rx; exact SeqAt.EqAt.int_str a t' b t
    | _ => exact absurd (show false = true from fx) Bool.false_ne_true
  | str a =>
    obtain ⟨t', rfl⟩ := ry
    cases x with
    | non => cases rx; exact SeqAt.EqAt.str_none a t'
    | bl b => cases rx; exact SeqAt.EqAt.str_bool a t' b
    | int b => obtain ⟨t, rfl⟩ := rx; exact SeqAt.EqAt.str_int a t' b t
    | str b => obtain ⟨t, rfl⟩ := rx; exact SeqAt.EqAt.str_str a t' b t
    | _ => exact absurd (show false = true from fx) Bool.false_ne_true
  | _ => exact absurd (show false = true from fy) Bool.false_ne_true
/-- the items' answers, read off the values (a value's own answer does not lean on its token) -/
def eqU (x : V) (u : Value) : Bool := match u with
  | .none => eqV .non x
  | .bool b => eqV (.bl b) x
  | .int i _ => eqV (.int i) x
  | .str z _ => eqV (.str z) x
  | _ => false
theorem eqU_of {x y : V} {u : Value} (r : RelV y u) (f : flatV y = true) : eqU x u = eqV y x := by
  cases y with
  | non => cases r; rfl
  | bl b => cases r; rfl
  | int i => obtain ⟨t, rfl⟩ := r; rfl
  | str z => obtain ⟨t, rfl⟩ := r; rfl
  | _ => exact absurd (show false = true from f) Bool.false_ne_true
theorem any_eqU {x : V} : ∀ {xs : List V} {us : List Value}, Vals xs us → xs.all flatV = true → us.any (eqU x) = xs.any fun y => eqV y x
  | _, _, .nil, _ => rfl
  | y :: xs, u :: us, .cons r t, f => by
    rw [List.all_cons, Bool.and_eq_true] at f
    rw [List.any_cons, List.any_cons, eqU_of r f.1, any_eqU t f.2]
theorem mem_eqAt {A : Around} {s : Shared} {x : V} {v : Value} (rx : RelV x v) (fx : flatV x = true) : ∀ {xs : List V} {us : List Value}, Vals xs us → xs.all flatV = true → ∀ u ∈ us, SeqAt.EqAt A s u v (eqU x u)
  | _, _, .nil, _ => fun u hu => by cases hu
  | y :: xs, u :: us, .cons r t, f => fun u' hu => by
    rw [List.all_cons, Bool.and_eq_true] at f
    rcases List.mem_cons.mp hu with rfl | hu
    · rw [eqU_of r f.1]; exact eqAt_V r rx f.1 fx
    · exact mem_eqAt rx fx t f.2 u' hu
def inV (x : V) (xs : List V) : Bool := xs.any fun y => eqV y x
/-- x in a list or tuple of flat items -/
def rIn (K : PySem.W.Frag) (neg : Bool) : R2 := fun x y H Q => ∃ p xs, y = .ref p ∧ (SqL K H p xs ∨ SqT K H p xs) ∧ flatV x = true ∧ xs.all flatV = true ∧ Q (.bl (if neg then !inV x xs else inV x xs)) H
theorem op_in_seq : OpR X (compareOp .In) (rIn X.K false) := by
  intro pins s σ H x y v u Q I rx ry h
  obtain ⟨p, xs, rfl, hq, fx, fs, q⟩ := h
  cases ry
  rcases hq with hq | hq
  · obtain ⟨its, r, pl, hz⟩ := I.list hq
    refine SeqAt.in_listAt (eqU x) pl.isList (fun w hw => mem_eqAt rx fx r fs w (by simpa using hw)) ⟨.bl _, H, I, rfl, ?_⟩
    rw [show its.toArray.any (eqU x) = its.any (eqU x) by simp, any_eqU r fs]
    exact q
  · obtain ⟨its, r, pl, hz⟩ := I.tuple hq
    refine SeqAt.in_tupleAt (eqU x) pl (fun w hw => mem_eqAt rx fx r fs w (by simpa using hw)) ⟨.bl _, H, I, rfl, ?_⟩
    rw [show its.toArray.any (eqU x) = its.any (eqU x) by simp, any_eqU r fs]
    exact q
/-! ### len, list(x), tuple(x) of any list or tuple that is read -/
theorem call_len_seq : CallR X (.builtin "len") (fun xs H Q => ∃ p ys, xs = [.ref p] ∧ (SqL X.K H p ys ∨ SqT X.K H p ys) ∧ Q (.int ys.length) H) := by
  intro pins s σ H xs us Q I r h
  obtain ⟨p, ys, rfl, hq, q⟩ := h
  obtain ⟨u, rfl, rx⟩ := vals1 r
  cases rx
  have hn := line63
  rcases hq with hq | hq
  · obtain ⟨its, r', pl, hz⟩ := I.list hq
    have hlen := r'.length
    exact Calls.call_len_list pl.isList (by simp only [List.size_toArray] <;> omega) ⟨.int ys.length, H, I.tok _, ⟨s.toks + 1, by rw [List.size_toArray, hlen]⟩, q⟩
  · obtain ⟨its, r', pl, hz⟩ := I.tuple hq
    have hlen := r'.length
    exact len_tuple pl (by simp only [List.size_toArray] <;> omega) ⟨.int ys.length, H, I.tok _, ⟨s.toks + 1, by rw [List.size_toArray, hlen]⟩, q⟩
theorem CallR.or {f : Value} {r r' : List V → Hp → VK → Prop} (h : CallR X f r) (h' : CallR X f r') : CallR X f (fun xs H Q => r xs H Q ∨ r' xs H Q) := by
  intro pins s σ H xs us Q I rs q
  rcases q with q | q
  · exact h pins s σ H xs us Q I rs q
  · exact h' pins s σ H xs us Q I rs q
/-! ### the call of a builtin's method: o.m(..) -/
/-- the value is of that builtin type -/
def tyV (K : PySem.W.Frag) (T : String) (x : V) (H : Hp) : Prop := match x with
  | .str _ => T = "str"
  | .int _ => T = "int"
  | .ref p => (T = "list" ∧ ∃ xs, SqL K H p xs) ∨ (T = "tuple" ∧ ∃ o, K.lookup p = some o ∧ o.cls = .type "tuple" ∧ o.dict = none) ∨
      (T = "dict" ∧ ((∃ kvs, H p = some (.dK kvs)) ∨ ∃ kvs, H p = some (.dT kvs))) ∨ (T = "set" ∧ ∃ S n, H p = some (.set S n))
  | _ => False
theorem tyV_is {pins : List (Addr × Obj)} {σ : St} {H : Hp} {s : Shared} {T : String} {x : V} {v : Value} (I : Inv X pins σ H s) (r : RelV x v) (ty : tyV X.K T x H) :
    s.TypeIs v T ∧ ∀ a, v = .ref a → ∃ ob, s.heap.get? a = some ob ∧ ob.dict = none := by
  cases x with
  | str z =>
    obtain ⟨t, rfl⟩ := r
    cases (show T = "str" from ty)
    exact ⟨typeIs_str s z t, fun _ e => nomatch e⟩
  | int i =>
    obtain ⟨t, rfl⟩ := r
    cases (show T = "int" from ty)
    exact ⟨typeIs_int s i t, fun _ e => nomatch e⟩
  | ref p =>
    cases r
    rcases ty with ⟨rfl, xs, hq⟩ | ⟨rfl, o, hk, hc, hd⟩ | ⟨rfl, hk⟩ | ⟨rfl, S, n, hk⟩
    · obtain ⟨its, _, pl, _⟩ := I.list hq
      refine ⟨pl.isList.typeIs, fun a e => ?_⟩
      cases e
      obtain ⟨o, n, e, c, hd, _⟩ := pl
      exact ⟨o, e, hd⟩
    · refine ⟨⟨o, I.kIn p o hk, hc⟩, fun a e => ?_⟩
      cases e
      exact ⟨o, I.kIn _ o hk, hd⟩
    · have z : ∃ o, s.heap.get? p = some o ∧ o.ExactDict := by
        rcases hk with ⟨kvs, hk⟩ | ⟨kvs, hk⟩
        · obtain ⟨_, _, _, _, o, _, _, e, ex, _⟩ := I.hok p _ hk
          exact ⟨o, e, ex⟩
        · obtain ⟨_, _, _, _, o, _, _, e, ex, _⟩ := I.hok p _ hk
          exact ⟨o, e, ex⟩
      obtain ⟨o, e, ex⟩ := z
      refine ⟨⟨o, e, ex.1⟩, fun a e2 => ?_⟩
      cases e2
      exact ⟨o, e, ex.2.1⟩
    · obtain ⟨o, _, _, _, e, ex, _⟩ := I.hok p _ hk
      refine ⟨⟨o, e, ex.1⟩, fun a e2 => ?_⟩
      cases e2
      exact ⟨o, e, ex.2.1⟩
  | _ => exact False.elim ty
def tBM (K : PySem.W.Frag) (T : String) (r : V → List V → Hp → VK → Prop) (to : TE) (t : TA) : TE := fun σ H Q => to σ H fun x H1 => tyV K T x H1 ∧ t σ H1 fun xs H2 => r x xs H2 Q
variable {o e : Expr} {es : List Expr} {to : TE} {t : TA} {name : Str} {apos cpos : Pos} {T id : String} {r : V → List V → Hp → VK → Prop}
theorem pe_bm (pa : PlainAttrs T) (slot : Slot T name id) (hty : typeOf (.builtin id) = pure (.type "method_descriptor")) (hm : MtR X id r) (ho : PE X o to) (ha : PA X (e :: es) t)
    (hbase : attributeBase o name X.env (eval o X.env) = eval o X.env := by rfl)
    (hfew : ((backTo cpos (starEach (e :: es) X.env)).all (fun x => !x.1) && (backToKw cpos (keywordEach [] X.env)).all (fun x => x.1.isSome)
      && decide ((e :: es).length + ([] : List Keyword).length + (if ([] : List Keyword).isEmpty then 0 else 1) < 30)) = true := by rfl)
    (hline : (apos.endLine == cpos.line) = true := by rfl) (hs : starEach (e :: es) X.env = (false, eval e X.env) :: starEach es X.env := by rfl) (hplain : (backTo cpos (starEach es X.env)).any (·.1) = false := by rfl) :
    PE X (.Call (.Attribute o name apos) (e :: es) [] cpos) (tBM X.K T r to t) := by
  intro pins s σ H Q I h
  refine wpAny_Call_method_late hbase hfew hline rfl (thn (ho pins s σ H _ I h) fun v s1 ⟨x, H1, I1, r1, ty, q1⟩ => ?_)
  obtain ⟨h1, h2⟩ := tyV_is I1 r1 ty
  refine ⟨T, id, pa, slot, hty, h1, h2, ?_⟩
  have hA := ha cpos pins s1 σ H1 _ I1 q1
  rw [hs] at hA ⊢
  refine Calls.callWith_builtin (by show (false || (backTo cpos (starEach es X.env)).any (·.1)) = false; rw [hplain] <;> rfl) (Calls.evalArgs_plain ?_)
  exact thn hA fun us s2 ⟨vs, H2, I2, r2, q2⟩ => hm pins s2 σ H2 x vs v us Q I2 r1 r2 q2
/- xs.append(e), list.index on a module's tuple .. are MtR facts of 06m -/
end
end L2

namespace L2
open PySem PySem.Spec PyProof.Rows

def MtM (X : Cx) (id : String) (r : V → List V → Hp → VK → Prop) : Prop :=
  ∀ (pins : List (Addr × Obj)) (s : Shared) (σ : St) (H : Hp) (x : V) (xs : List V) (v : Value) (us : List Value) (Q : VK), Inv X pins σ H s → RelV x v → Vals xs us → r x xs H Q →
    wpAny (model X.prog X.w) X.A (call (.builtin id) (v :: us)) (EP X pins σ Q) X.xe s

/-! ### lists of values -/
theorem Vals.one : ∀ {x : V} {us : List Value}, Vals [x] us → ∃ u, us = [u] ∧ RelV x u
  | _, _, .cons r .nil => ⟨_, rfl, r⟩
theorem Vals.two : ∀ {x y : V} {us : List Value}, Vals [x, y] us → ∃ u v, us = [u, v] ∧ RelV x u ∧ RelV y v
  | _, _, _, .cons r (.cons q .nil) => ⟨_, _, rfl, r, q⟩
theorem Vals.zero : ∀ {us : List Value}, Vals [] us → us = []
  | _, .nil => rfl
theorem Vals.reverse {xs : List V} {us : List Value} (h : Vals xs us) : Vals xs.reverse us.reverse := by
  induction h with
  | nil => exact .nil
  | cons r t ih => rw [List.reverse_cons, List.reverse_cons]; exact Vals.append ih (.cons r .nil)
theorem Vals.rep {xs : List V} {us : List Value} (h : Vals xs us) : ∀ k : Nat, Vals (List.replicate k xs).flatten (List.replicate k us).flatten
  | 0 => .nil
  | k + 1 => by
    rw [List.replicate_succ, List.replicate_succ, List.flatten_cons, List.flatten_cons]
    exact Vals.append h (Vals.rep h k)
theorem foldl_rep (its : List Value) : ∀ (k : Nat) (acc : List Value),
    List.foldl (fun x1 x2 => x1 ++ x2) acc.toArray (List.replicate k its.toArray) = (acc ++ (List.replicate k its).flatten).toArray
  | 0, acc => by simp
  | k + 1, acc => by
    have e : acc.toArray ++ its.toArray = (acc ++ its).toArray := by simp
    have e2 : (acc ++ its) ++ (List.replicate k its).flatten = acc ++ (List.replicate (k + 1) its).flatten := by
      rw [List.replicate_succ, List.flatten_cons, List.append_assoc]
    rw [← e2, ← foldl_rep its k (acc ++ its), ← e, List.replicate_succ, List.foldl_cons]

section
variable {X : Cx} {pins : List (Addr × Obj)} {σ : St} {H : Hp} {s : Shared} {l b : Addr} {xs ys zs : List V}

/-! ### the two steps: a tracked list is rewritten, a new list is laid -/
theorem Inv.lset {its its' : List Value} {n : Nat} {f : Array Value → Array Value} {t' : Nat} (I : Inv X pins σ H s) (hH : H l = some (.lst xs))
    (e : s.heap.get? l = some { cls := .type "list", data := .seq its.toArray n }) (hf : f its.toArray = its'.toArray) (hv : Vals ys its') (hz : ys.length ≤ sizeLine) :
    Inv X pins σ (upd H l (.lst ys)) { s with heap := s.heap.update l (Obj.mapSeq f), toks := t' } := by
  have q := PySem.IsL.update e f
  rw [hf] at q
  refine I.write (x := l) (e := l) (by rw [hH]; exact trivial) (.inl rfl) (fun b' u hb hu => (Heap.get?_update_other s.heap (Obj.mapSeq f) (Ne.symm hb)).trans hu) ⟨_, q⟩ ?_
  exact ⟨hz, its', _, hv, q⟩
theorem Inv.lnew {its : List Value} {t' : Nat} (I : Inv X pins σ H s) (hv : Vals ys its) (hz : ys.length ≤ sizeLine) :
    Inv X pins σ (upd H s.heap.objs.size (.lst ys)) { s with heap := s.heap.push { cls := .type "list", data := .seq its.toArray }, toks := t' } :=
  I.laid (fun _ _ q => Heap.get?_push_of_some _ q) (Nat.le_refl _) ⟨hz, its, 0, hv, Heap.get?_push_size _ rfl⟩
theorem Inv.fresh (I : Inv X pins σ H s) : H s.heap.objs.size = none := I.hok.fresh (Nat.le_refl _)
theorem Inv.lstM (I : Inv X pins σ H s) (hH : H l = some (.lst xs)) : xs.length ≤ sizeLine ∧ ∃ (its : List Value) (n : Nat), Vals xs its ∧ xs.length = its.length ∧ s.heap.get? l = some { cls := .type "list", data := .seq its.toArray n } := by
  obtain ⟨z, its, n, r, e⟩ := I.hok l _ hH
  exact ⟨z, its, n, r, r.length, e⟩

theorem notLongL {n : Nat} (h : n ≤ sizeLine) : Builtin.List.listTooLong n = false := by
  unfold Builtin.List.listTooLong
  exact decide_eq_false (by omega)
end

section
variable {X : Cx}

/-! ### methods -/
def rAppend : V → List V → Hp → VK → Prop := fun x vs H Q => ∃ l xs y, x = .ref l ∧ vs = [y] ∧ H l = some (.lst xs) ∧ xs.length < sizeLine ∧ Q .non (upd H l (.lst (xs ++ [y])))
theorem mt_append : MtM X "list.append" rAppend := by
  intro pins s σ H x vs v us Q I rx rv h
  obtain ⟨l, xs, y, rfl, rfl, hH, hz, q⟩ := h
  cases rx
  obtain ⟨u, rfl, ru⟩ := rv.one
  obtain ⟨z, its, n, r, hl, e⟩ := I.lstM hH
  refine call_meets F.slot_list_append ⟨_, e, rfl⟩ F.entry_list_append (F.args_list_append_2 _ _) (PySem.list_append l its.toArray n u (by rw [List.size_toArray]; omega)) ⟨e, ?_⟩
  refine ⟨.non, _, I.lset (its' := its ++ [u]) hH e (by simp) (r.append (.cons ru .nil)) ?_, rfl, q⟩
  rw [List.length_append, List.length_singleton]
  omega

/-! ### list + list, list += list, list * int -/
def rCat : R2 := fun x y H Q => ∃ l b xs zs, x = .ref l ∧ y = .ref b ∧ H l = some (.lst xs) ∧ H b = some (.lst zs) ∧ xs.length + zs.length ≤ sizeLine ∧ ∀ p, H p = none → Q (.ref p) (upd H p (.lst (xs ++ zs)))
theorem op_cat : OpR X (binaryOp .Add) rCat := by
  intro pins s σ H x y v u Q I rx ry h
  obtain ⟨l, b, xs, zs, rfl, rfl, hH, hB, hz, q⟩ := h
  cases rx
  cases ry
  obtain ⟨z, its, n, r, hl, e⟩ := I.lstM hH
  obtain ⟨z2, its2, n2, r2, hl2, e2⟩ := I.lstM hB
  refine PySem.P.add_list e e2 ?_ (by rw [List.size_toArray, List.size_toArray]; omega)
  have ea : its.toArray ++ its2.toArray = (its ++ its2).toArray := by simp
  rw [ea]
  exact ⟨.ref _, _, I.lnew (t' := s.toks) (r.append r2) (by rw [List.length_append]; omega), rfl, q _ I.fresh⟩
/-- a list times an int (a negative one is nothing) -/
def rRep : R2 := fun x y H Q => ∃ l k xs, x = .ref l ∧ y = .int k ∧ H l = some (.lst xs) ∧ -(2 ^ 63) ≤ k ∧ k < 2 ^ 63 ∧ xs.length * k.toNat ≤ sizeLine ∧
  ∀ p, H p = none → Q (.ref p) (upd H p (.lst (List.replicate k.toNat xs).flatten))
theorem len_rep {α : Type} (xs : List α) (k : Nat) : (List.replicate k xs).flatten.length = k * xs.length := by
  induction k with
  | zero => simp
  | succ k ih => rw [List.replicate_succ, List.flatten_cons, List.length_append, ih, Nat.succ_mul, Nat.add_comm]
theorem op_rep : OpR X (binaryOp .Mult) rRep := by
  intro pins s σ H x y v u Q I rx ry h
  obtain ⟨l, k, xs, rfl, rfl, hH, h1, h2, hz, q⟩ := h
  cases rx
  obtain ⟨t, rfl⟩ := ry
  obtain ⟨z, its, n, r, hl, e⟩ := I.lstM hH
  have hlen : its.toArray.size * k.toNat ≤ sizeLine := by rw [List.size_toArray, ← hl]; exact hz
  have hcap : ¬ its.toArray.size * k.toNat > (2 ^ 63 - 1) / 8 := by
    have : (sizeLine : Nat) ≤ (2 ^ 63 - 1) / 8 := by decide
    omega
  have hfit : ¬ (!Builtin.List.listFitsIndex k) = true := by
    rw [fitsIndex_both h1 h2]
    exact Bool.false_ne_true
  have hlong : ¬ Builtin.List.listTooLong (its.toArray.size * k.toNat) = true := by
    rw [notLongL hlen]
    exact Bool.false_ne_true
  have hnew : List.foldl (fun x1 x2 => x1 ++ x2) #[] (List.replicate (if its.toArray.isEmpty = true then 0 else k.toNat) its.toArray) = (List.replicate k.toNat its).flatten.toArray := by
    have f0 : ∀ m : Nat, List.foldl (fun x1 x2 => x1 ++ x2) #[] (List.replicate m its.toArray) = (List.replicate m its).flatten.toArray := fun m => by
      have := foldl_rep its m []
      rw [List.nil_append] at this
      exact this
    rw [f0]
    cases its with
    | nil => simp
    | cons a r' => rw [if_neg (by simp)]
  refine wpAny_binaryOp_repeat_ref (T := "list") (U := "int") (by decide) ⟨_, e, rfl⟩ (fun s' => typeIs_int s' k t) noFill_list_mul F.fills_int_mul F.slot_int_rmul repeat_list F.slot_int_index.lookup
    (call_meets F.slot_int_rmul (typeIs_int s k t) F.entry_int_rmul (F.args_int_rmul_2 _ _) (int___rmul___int_list k t l its.toArray n)
      ⟨e, rfl, ⟨_, e, rfl⟩, call_meets F.slot_list_mul ⟨_, e, rfl⟩ F.entry_list_mul (F.args_list_mul_2 _ _) (AutoListH.list___mul___list_int_3 l its.toArray n k t hfit hcap hlong) ⟨e, ?_⟩⟩)
  rw [hnew]
  exact ⟨.ref _, _, I.lnew (t' := s.toks) (r.rep k.toNat) (by rw [len_rep, Nat.mul_comm]; exact hz), rfl, q _ I.fresh⟩

/-! ### del xs[i] -/
end

/-! ### xs[a:b] = ys -/
section
variable {prog : Program} {w : World} {A : Around} {E : Value → Shared → Prop} {s : Shared}
end

section
variable {X : Cx}
end
end L2

namespace Att
open PySem PySem.W PySem.Calls PyProof.Rows

/-! ### the script -/
theorem ints_of_wellAll {P : Params} {h : Heap} : ∀ (ns : List Int) (vs : List Value), WellAll P h vs (ns.map WData.int) → IntsAre vs ns := by
  intro ns
  induction ns with
  | nil =>
    intro vs w
    rw [List.map_nil] at w
    cases w
    exact .nil
  | cons n ns ih =>
    intro vs w
    rw [List.map_cons] at w
    cases w with
    | cons a b =>
      cases a
      exact .cons _ _ (ih _ b)

theorem script_of {l : OpenLaw} {n : Nat} (hn : l.most = some n) {P : Params} {h : Heap} {args : List WData} {vals : List Value}
    (hpre : l.row.toRowW.claim.pre args = true) (hwl : WellAll P h vals args) :
    ∃ a vs ns, vals = [Value.ref a] ∧ args = [WData.list (ns.map WData.int)] ∧ h.get? a = some { cls := .type "list", data := .seq vs.toArray } ∧ IntsAre vs ns ∧ ns.length ≤ n := by
  have hsh : WShape.hasAll [] args [.list .int] = true := (pre_splitW hpre).1
  have hc : l.pre.holds [] { args := args } = true := (pre_splitW hpre).2
  obtain ⟨d, r, rfl, h1, h2⟩ := hasAllW_cons hsh
  obtain rfl := hasAllW_nil h2
  obtain ⟨xs, rfl, h3⟩ := hasW_list h1
  obtain ⟨ns, rfl⟩ := items_int h3
  have hlen : ns.length ≤ n := by
    unfold OpenLaw.pre at hc
    have h4 : (WTm.not (.lt (.lit (.int (n : Int))) (.len (.arg 0)))).holds [] { args := [.list (ns.map .int)] } = true := by
      have h4 := (holds_andW hc).1
      rw [hn] at h4
      exact h4
    have h5 := condW_of h4 (w_not (w_lt w_lit (w_len_list (w_arg rfl))))
    rw [List.length_map] at h5
    refine Nat.le_of_not_lt fun q => ?_
    have q' : (n : Int) < ((ns.length : Nat) : Int) := by omega
    first
      | (rw [decide_eq_true q'] at h5; exact absurd h5 (by decide))
      | (simp at h5; omega)
  cases hwl with
  | cons w1 w2 =>
    cases w2
    cases w1 with
    | list ho hall => exact ⟨_, _, ns, rfl, rfl, ho, ints_of_wellAll ns _ hall, hlen⟩

theorem post_true (l : OpenLaw) (args : List WData) : l.row.toRowW.claim.post args (.bool true) args = true :=
  postW_of (r := l.row.toRowW) (X := (true == true))
    (show WShape.has [] (.bool true) .bool = true by first | rfl | decide | simp [WShape.has, WShape.arms, WShape.armsAll])
    (show (WTm.eq .res (.lit (.bool true))).value [] { args := args, res := some (.bool true), after := args } = some (.bool (true == true)) from w_eq_bool (w_res rfl) w_lit) rfl

/-! ### the attachment: holds_open's last premise (the goal 'hc' behind k_head) from a wpAny of the law's body -/
/-- the same from a codeAny of the CALL (for a layer whose function contracts speak of calls) -/
theorem attach_call {l : OpenLaw} {n : Nat} {q : Program} {loose : List Str} {XP : (Str → Option Value) → Heap → Prop} {YP : World → Heap → Prop} {d : DefRec}
    (hn : l.most = some n) (hdf : d.params.defaults = [])
    (call : ∀ (w : World) (s₀ s₁ : Shared) (mg mb : Str → Option Value) (fa : Addr) (o : Obj) (pm cd doc : Value) (a : Addr) (vs : List Value) (ns : List Int),
      Ground q loose [] XP w s₀ mg mb s₁.heap → YP w s₁.heap →
      s₁.heap.get? fa = some o → o.data = .func (docDef d.name d.params d.body d.scope pm cd doc) → s₁.heap.CodeRec cd d.name → mg d.name = some (.ref fa) →
      s₁.heap.get? a = some { cls := .type "list", data := .seq vs.toArray } → IntsAre vs ns → ns.length ≤ n → s₁.gens = #[] →
      codeAny (model l.prog w) callerA (.call (.ref fa) ⟨[.ref a], []⟩) (fun r s' => r = .ok (.ret (.bool true)) ∧ OldK s₁.heap s'.heap ∧ s'.os = s₁.os ∧ AllBare s'.gens) s₁) :
    WalkO q loose XP YP l.row.toRowW d [] (fun f vs => PySem.call f vs) := by
  intro w s₀ s₁ mg mb G Y fa o pm cd doc dV kV ho hd hcd hD hmg hg args vals as hpre hlay hrd hwl hlo
  obtain rfl : dV = .none := Dflts.none hD hdf
  obtain rfl : kV = .none := Dflts.noKw hD
  obtain ⟨a, vs, ns, rfl, rfl, hobj, hints, hlen⟩ := script_of hn hpre hwl
  refine enter_call (codeAny_mono (call w s₀ s₁ mg mb fa o pm cd doc a vs ns G Y ho (fd_plain hd) hcd hmg hobj hints hlen hg) fun r s' hq => ?_)
  obtain ⟨rfl, h2, h3, h4⟩ := hq
  exact ⟨.inl ⟨.bool true, .bool true, [], rfl, fun _ => rfl, .bool true, post_true l _, fun _ => ⟨List.Pairwise.nil, fun _ hm => (nomatch hm)⟩⟩, h2, h3, h4⟩

/-! ### rules over ANY heap (no ledger) from facts about the written part K: the library's own take a ledger (News) for what they write -/
section
variable {prog : Program} {w : World} {A : Around} {E : Value → Shared → Prop} {s : Shared} {K : Frag}

/-! the whole heap as the ledger: makes every rule that writes through a ledger a rule over any heap -/
def ledger (h : Heap) (L d : Addr) : List (Addr × Obj) := (List.range h.objs.size).filterMap fun a => if a = L ∨ a = d then none else (h.get? a).map fun o => (a, o)
end
end Att

namespace L2
open PySem PySem.Spec PyProof.Rows

theorem vals_ints : ∀ {vs : List Value} {ns : List Int}, IntsAre vs ns → Vals (ns.map V.int) vs
  | _, _, .nil => .nil
  | _, _, .cons n t h => .cons ⟨t, rfl⟩ (vals_ints h)

/-- nothing is tracked but the script, known to the object (or it is an object of the module) -/
def Only (H : Hp) : Prop := ∀ b, H b = none ∨ ∃ o xs, H b = some (.frz o (.lst xs))

/-- THE HEAD: the law's promise, at the heap behind the top. F, the promise of the law's def, may use that base is part of the heap (so K.In base, base.Ns mainGlobals mg stand in Mod) -/
theorem law_call {P : Program} {w : World} {K : PySem.W.Frag} {mg mb : Str → Option Value} {CX : CXT} {k : Nat} {fa a : Addr} {fd : FuncData} {x : Str} {sp : Sp} {s₁ : Shared} {vs : List Value} {ns : List Int}
    (KX : K.In s₁.heap) (hns : s₁.heap.Ns mainGlobals mg) (hb : s₁.heap.Ns builtinsNs mb) (hbb : ∀ x : Str, x ≠ "__name__" → mb x = bootBuiltins x) (hlim : s₁.heap.NoLimit) (hg : s₁.gens = #[])
    (ha : s₁.heap.get? a = some { cls := .type "list", data := .seq vs.toArray }) (hi : IntsAre vs ns) (hl : ns.length ≤ sizeLine) (hr : Room k callerA)
    (F : ∀ base : Heap, K.In base → base.Ns mainGlobals mg → FnOk P w K mg base CX k fa fd [x] sp) (hbind : ∀ (s : Shared) (u : Value), BindsTo s fd ⟨[u], []⟩ [(x, u)])
    (hsp : ∀ H : Hp, Only H → SqL K H a (ns.map V.int) → sp [.ref a] H (fun v _ => v = .bl true) fun _ _ _ => False)
    (hCX : ∀ H e s', CX [] H s₁ (fun _ _ _ => False) e s' → False) :
    codeAny (model P w) callerA (.call (.ref fa) ⟨[.ref a], []⟩) (fun r s' => r = .ok (.ret (.bool true)) ∧ OldK s₁.heap s'.heap ∧ s'.os = s₁.os ∧ AllBare s'.gens) s₁ := by
  have rv := vals_ints hi
  have lenV := hi.length
  -- from an abstract heap in which nothing but the script may be tracked
  have core : ∀ H : Hp, Only H → SqL K H a (ns.map V.int) → HOk P w H s₁.heap → (∀ b, H b ≠ none → b = a) → (H a ≠ none → K.lookup a = none) →
      codeAny (model P w) callerA (.call (.ref fa) ⟨[.ref a], []⟩) (fun r s' => r = .ok (.ret (.bool true)) ∧ OldK s₁.heap s'.heap ∧ s'.os = s₁.os ∧ AllBare s'.gens) s₁ := by
    intro H hO hS hok hA hK
    have base_of : ∀ {b : Addr} {o : Obj}, s₁.heap.get? b = some o → H b = none → (hidT s₁.heap H).get? b = some o := fun e n => hidT_get e n
    have noA : ∀ {b : Addr} {o : Obj} {es : Array DictEntry} {ep : Nat}, s₁.heap.get? b = some o → o.data = .dict es ep → H b = none := fun {b o es ep} e d => by
      cases q : H b with
      | none => rfl
      | some u =>
        have e' : b = a := hA b (by rw [q]; simp)
        subst e'
        rw [ha] at e; cases e
        have d' : Data.seq vs.toArray _ = Data.dict es ep := d
        cases d'
    have nsK : ∀ {b : Addr} {m : Str → Option Value}, s₁.heap.Ns b m → (hidT s₁.heap H).Ns b m := fun {b m} ⟨o, es, ep, e, d, r⟩ => ⟨o, es, ep, base_of e (noA e d), d, r⟩
    have hKb : K.In (hidT s₁.heap H) := fun b o e => base_of (KX b o e) (by
      cases q : H b with
      | none => rfl
      | some u =>
        have e' : b = a := hA b (by rw [q]; simp)
        subst e'
        rw [hK (by rw [q]; simp)] at e; cases e)
    have hM : Mod K mg (hidT s₁.heap H) := ⟨hKb, nsK hns, ⟨mb, nsK hb, hbb⟩, let ⟨mc, h1, h2⟩ := hlim; ⟨mc, nsK h1, h2⟩⟩
    have e0 : Env0 P w K mg (hidT s₁.heap H) callerA [] s₁ H := ⟨rfl, hM, fun b o e => of_hidT e, Nat.le_of_eq (hidT_size _ _), trivial, fun b hb => absurd (show b ∈ ([] : List Addr) from hb) (by simp), hok, .of_eq hg⟩
    refine codeAny_mono ((F _ hKb (nsK hns)).run callerA [] s₁ H ⟨[.ref a], []⟩ [.ref a] [.ref a] _ _ hr e0 (hbind s₁ (.ref a)) (.cons rfl .nil) (hsp H hO hS)) fun r s' h => ?_
    cases r with
    | error e => exact (hCX H e s' h).elim
    | ok fl =>
      cases fl with
      | next => exact False.elim h
      | brk => exact False.elim h
      | cont => exact False.elim h
      | ret u =>
        obtain ⟨v, H', os, bare, un, hok', r', q⟩ := h
        have q' : v = .bl true := q
        subst q'
        obtain rfl : u = Value.bool true := r'
        refine ⟨rfl, OldK.of_keep fun b o e => ?_, os, bare⟩
        cases q : H b with
        | none => exact un.keep b o e q (by intro z; exact absurd (show b ∈ ([] : List Addr) from z) (by simp)) (by simp)
        | some u =>
          rcases hO b with z | ⟨ob, xs, z⟩
          · rw [q] at z; cases z
          · have z2 := un.frzs b ob _ z
            obtain ⟨e1, _⟩ := hok b _ z
            obtain ⟨e2, _⟩ := hok' b _ z2
            rw [e] at e1; cases e1
            exact e2
  cases hk : K.lookup a with
  | some o =>
    -- the script is one of the module's own objects
    have e := KX a o hk
    rw [ha] at e
    cases e
    refine core (fun _ => none) (fun _ => .inl rfl) (.inr ⟨_, vs.toArray, _, hk, rfl, rfl, rfl, by rw [List.size_toArray, lenV]; exact hl, by simpa using rv⟩) (fun b u z => by have z' : (none : Option HO) = some u := z; cases z') (fun b z => absurd rfl z) fun z => absurd rfl z
  | none =>
    refine core (fun b => if b = a then some (.frz { cls := .type "list", data := .seq vs.toArray } (.lst (ns.map V.int))) else none) (fun b => ?_) (.inl (.inr ⟨{ cls := .type "list", data := .seq vs.toArray }, if_pos rfl⟩)) (fun b u z => ?_) (fun b z => ?_) fun _ => hk
    · by_cases hb : b = a
      · exact .inr ⟨_, _, if_pos hb⟩
      · exact .inl (if_neg hb)
    · by_cases hb : b = a
      · have z' := (if_pos hb).symm.trans z
        cases z'
        subst hb
        exact ⟨ha, by rw [List.length_map]; exact hl, vs, _, rv, ha⟩
      · have z' := (if_neg hb).symm.trans z
        cases z'
    · by_cases hb : b = a
      · exact hb
      · exact absurd (if_neg hb) z
end L2

namespace L2
open PySem PySem.Spec PyProof.Rows

/-- the goal that k_head leaves (case hc), from the law's promise. F gives the function object fd (K's own) once, then the promise over every base -/
theorem walk_of {l : PySem.W.OpenLaw} {n k : Nat} {q : Program} {loose : List Str} {XP : (Str → Option Value) → Heap → Prop} {YP : World → Heap → Prop} {d : DefRec} {K : Params → PySem.W.Frag} {CX : World → CXT} {sp : World → Sp} {x : Str}
    (hn : l.most = some n) (hn2 : n ≤ sizeLine) (hdf : d.params.defaults = []) (hr : Room k callerA)
    (hY : ∀ (w : World) (h : Heap), YP w h → (K w.params).In h)
    (F : ∀ (w : World) (mg : Str → Option Value) (fa : Addr) (h : Heap), (K w.params).In h → h.Ns mainGlobals mg → mg d.name = some (.ref fa) →
      ∃ fd : FuncData, (∀ (s : Shared) (u : Value), BindsTo s fd ⟨[u], []⟩ [(x, u)]) ∧
        ∀ base : Heap, (K w.params).In base → base.Ns mainGlobals mg → FnOk l.prog w (K w.params) mg base (CX w) k fa fd [x] (sp w))
    (hsp : ∀ (w : World) (H : Hp) (a : Addr) (ns : List Int), ns.length ≤ n → Only H → SqL (K w.params) H a (ns.map V.int) → sp w [.ref a] H (fun v _ => v = .bl true) fun _ _ _ => False)
    (hCX : ∀ (w : World) (H : Hp) (s : Shared) (e : Value) (s' : Shared), CX w [] H s (fun _ _ _ => False) e s' → False) :
    PySem.W.WalkO q loose XP YP l.row.toRowW d [] (fun f vs => PySem.call f vs) := by
  refine Att.attach_call hn hdf fun w s₀ s₁ mg mb fa o pm cd doc a vs ns G Y ho hd hcd hmg hobj hints hlen hg => ?_
  have KX := hY w _ Y
  obtain ⟨fd, hb, hF⟩ := F w mg fa _ KX G.T.g hmg
  exact law_call KX G.T.g G.T.b G.T.builtins G.T.nolimit hg hobj hints (Nat.le_trans hlen hn2) hr hF hb (fun H hO hS => hsp w H a ns hlen hO hS) fun H e s' => hCX w H s₁ e s'
end L2

/- THE LAST THEOREM (shape; LID, My.* are yours):
   My.Adr: a structure of the addresses that your layer names (classes, functions); My.Txt K t: a structure (Prop) of the equations over K;
   My.txt_mk : {K} {implicit addresses ..} (e1 : nsIn K mainGlobals "law" = some (some (.ref f))) (e2 : K.lookup f = some ⟨oc, od, .func (fnOf "law" "law" params body scope dV kV doc pm an cdv ct), sl⟩) (e3 : codeIn K cdv "law" = true) .. : ∃ t, My.Txt K t

(the tactic k_is has no namespace: write k_is) -/

/-! SHORT WORDS over the layer: a def of the text, its body, what a loop and a test want. -/
namespace L2
open PySem PySem.Spec PyProof.Rows

/-! ### the text by places -/
/-- the j-th statement of a class's body -/
def inClass (s : Stmt) (j : Nat) : Stmt := match s with
  | .ClassDef _ _ _ body _ _ _ _ _ _ _ => body.getD j (.Pass ⟨0, 0, 0, 0⟩)
  | _ => .Pass ⟨0, 0, 0, 0⟩
def defArgs (s : Stmt) : Arguments := match s with
  | .FunctionDef _ a _ _ _ _ _ _ _ _ => a
  | _ => { posonlyargs := [], args := [], vararg := none, kwonlyargs := [], kw_defaults := [], kwarg := none, defaults := [] }
def defBody (s : Stmt) : List Stmt := match s with
  | .FunctionDef _ _ b _ _ _ _ _ _ _ => b
  | _ => []
def defScope (s : Stmt) : Scope := match s with
  | .FunctionDef _ _ _ _ _ _ sc _ _ _ => sc
  | _ => { kind := .function, names := [], isGenerator := false, isCoroutine := false }

/-! ### no exception leaves a def -/
abbrev CX0 : CXT := fun _ _ _ _ _ _ => False
abbrev E0 : XK := fun _ _ _ => False
theorem pass0 {X : Cx} : Passes CX0 X E0 := fun _ _ _ _ _ _ _ h => h.elim

/-! ### a def (or method) of the text as it stands behind the top -/
structure Fun (K : PySem.W.Frag) (x qual : Str) (st : Stmt) (f : Addr) (fd : FuncData) : Prop where
  ex : ∃ (oc : Value) (od : Option Addr) (kV doc pm : Value) (an : Option Addr) (cdv ct : Value) (osl : Array (Option Value)),
    fd = PySem.W.fnOf x qual (defArgs st) (defBody st) (defScope st) .none kV doc pm an cdv ct ∧ K.lookup f = some ⟨oc, od, .func fd, osl⟩ ∧ PySem.W.codeIn K cdv qual = true
  kp : PySem.W.keepIn K (.ref f) = true
section
variable {P : Program} {w : World} {K : PySem.W.Frag} {mg : Str → Option Value} {base : Heap}
/-- THE RULE for a def: its body as a term of rules, and the reading of that term -/
theorem Fun.ok {x qual : Str} {st : Stmt} {f : Addr} {fd : FuncData} {N ps : List Str} {k : Nat} {sp : Sp} (F : Fun K x qual st f fd) (S : FnScope N ps (defScope st)) (len : ∀ vs H Q E, sp vs H Q E → vs.length = ps.length)
    (hbody : ∀ (cdv : Value) (A : Around) (outer : List Env) (s : Shared) (H : Hp) (vs : List V) (Q : VK) (E : XK), Room k (A.deeper (envOfC qual (defScope st) s.heap.objs.size f cdv)) → sp vs H Q E →
      ∃ t, PSs (cxOf CX0 P w K mg base N qual (defScope st) f cdv A outer s H E).nox (defBody st) t ∧ t { nx := fun _ H' => Q .non H', rt := Q } (start N vs) H) : FnOk P w K mg base CX0 (k + 1) f fd ps sp := by
  obtain ⟨oc, od, kV, doc, pm, an, cdv, ct, osl, rfl, lk, hcd⟩ := F.ex
  refine fn_of lk hcd S len fun A outer s H vs Q E hr hsp => ?_
  obtain ⟨t, h, q⟩ := hbody cdv A outer s H vs Q E hr hsp
  exact ⟨t, h.nox, q⟩
/-- how its arguments bind (no defaults): h is «fun _ _ _ _ _ _ us hl => match us, hl with | [_, _], _ => rfl», one _ a parameter -/
theorem Fun.binds {x qual : Str} {st : Stmt} {f : Addr} {fd : FuncData} {ps : List Str} (F : Fun K x qual st f fd)
    (h : ∀ (kV doc pm : Value) (an : Option Addr) (cdv ct : Value) (us : List Value), us.length = ps.length → bindArgs (PySem.W.fnOf x qual (defArgs st) (defBody st) (defScope st) .none kV doc pm an cdv ct) ⟨us, []⟩ = pure (ps.zip us)) : Binds K fd ps [] := by
  obtain ⟨oc, od, kV, doc, pm, an, cdv, ct, osl, rfl, lk, hcd⟩ := F.ex
  exact .all (h kV doc pm an cdv ct)
theorem fun_mk {x qual : Str} {st : Stmt} {f : Addr} {oc : Value} {od an : Option Addr} {osl : Array (Option Value)} {kV doc pm cdv ct : Value} (l : K.lookup f = some ⟨oc, od, .func (PySem.W.fnOf x qual (defArgs st) (defBody st) (defScope st) .none kV doc pm an cdv ct), osl⟩)
    (c : PySem.W.codeIn K cdv qual = true) (k : PySem.W.keepIn K (.ref f) = true) : Fun K x qual st f (PySem.W.fnOf x qual (defArgs st) (defBody st) (defScope st) .none kV doc pm an cdv ct) := ⟨⟨oc, od, kV, doc, pm, an, cdv, ct, osl, rfl, l, c⟩, k⟩
end
theorem hu_of {A : Around} {k : Nat} (hr : Room k A) : A.units + 1 < cLine := Nat.lt_of_le_of_lt (Nat.add_le_add_left (by decide : 1 ≤ 64) _) hr.units
theorem small1000 {n : Nat} (h : n ≤ 1000) : n < sizeLine := Nat.lt_of_le_of_lt h (by decide)

/-! ### expressions in short: the name that stands in the i-th slot -/
section
variable {X : Cx}
theorem pv (i : Nat) {x : Str} {pos : Pos} (hN : X.N[i]? = some x := by rfl) (hv : Vis X.env.scope x := by first | exact Or.inl rfl | exact Or.inr (Or.inl rfl) | exact Or.inr (Or.inr rfl)) (hd : (x == ("__debug__" : Str)) = false := by decide)
    (hcd : (x == ("__classdict__" : Str)) = false := by decide) : PE X (.Name x pos) (tVar i) := pe_var hN hv hd hcd
end

/-! ### tests -/
theorem ite2 {c A B : Prop} [Decidable c] (h1 : c → A) (h2 : ¬ c → B) : if c then A else B := by
  by_cases h : c
  · rw [if_pos h]
    exact h1 h
  · rw [if_neg h]
    exact h2 h
/-! ### heaps -/
/-- all that was tracked is as it was -/
def Same (H H' : Hp) : Prop := ∀ b o, H b = some o → H' b = some o
theorem Same.refl (H : Hp) : Same H H := fun _ _ h => h
theorem Same.trans {H H1 H2 : Hp} (a : Same H H1) (b : Same H1 H2) : Same H H2 := fun c o h => b c o (a c o h)
theorem Same.free {H H' : Hp} (e : Same H H') {l : Addr} (h : H' l = Option.none) : H l = Option.none := by
  cases q : H l with
  | none => rfl
  | some o =>
    rw [e l o q] at h
    cases h
theorem Same.seq {K : PySem.W.Frag} {H H' : Hp} {a : Addr} {xs : List V} (e : Same H H') (h : SqL K H a xs) : SqL K H' a xs := by
  rcases h with (h | ⟨o, h⟩) | h
  · exact .inl (.inl (e _ _ h))
  · exact .inl (.inr ⟨o, e _ _ h⟩)
  · exact .inr h

end L2
/-! List comprehensions over the hand layer: one for, at most one if; the block has names of its own and cells of the def's. -/
namespace L2
open PySem PySem.Spec PyProof.Rows

/-- the comprehension's turns, no exception leaving -/
theorem lc_loop {prog : Program} {w : World} {A : Around} {R : Result → Shared → Prop} {s : Shared} {elt tg iter : Expr} {ifs : List Expr} {scope : Scope} {pos : Pos} {it acc : Value} {env : Env} (J : Nat → Shared → Prop)
    (turn : ∀ k s0, J k s0 → wpAny (model prog w) A (pyNext it) (fun r s1 => match r with
      | none => R (.ok .next) s1
      | some v => wpAny (model prog w) A (letOwnedTupleGo tg it v) (fun _ s2 => wpAny (model prog w) A (assign tg env v) (fun _ s3 =>
          wpAny (model prog w) A (forIn ifs true fun c r => if r = true then do let ok ← isTrue c env (eval c env); pure (ForInStep.yield ok) else pure (ForInStep.yield r)) (fun ok s4 =>
            if ok = true then wpAny (model prog w) A (eval elt env) (fun x s5 => wpAny (model prog w) A (call (.builtin "list.append") [acc, x]) (fun _ s6 => ∃ j, j < k ∧ J j s6) (fun _ _ => False) s5) (fun _ _ => False) s4
            else ∃ j, j < k ∧ J j s4) (fun _ _ => False) s3) (fun _ _ => False) s2) (fun _ _ => False) s1) (fun _ _ => False) s0)
    (k : Nat) (h : J k s) : codeAny (model prog w) A (.compLoop (.ListComp elt [⟨tg, iter, ifs, 0⟩] scope pos) 0 it acc env) R s := by
  refine codeAny_loop rfl J (fun k0 s0 hJ => ?_) k h
  show wpAny _ A ((compTurn (.ListComp elt [⟨tg, iter, ifs, 0⟩] scope pos) 0 it acc env).onRaise (fun x => do noteFrame x env; theTreesLotGoes x)) _ _ s0
  refine wpAny_noted ?_
  rw [compTurn_list]
  refine wpAny_bind (wpAny_standAt (wpAny_bind (wpAny_mono (turn k0 s0 hJ) (fun r s1 h1 => ?_) fun _ _ f => f.elim)))
  cases r with
  | none => exact wpAny_pure h1
  | some v =>
    refine wpAny_bind (wpAny_mono h1 (fun _ s2 h2 => wpAny_bind (wpAny_mono h2 (fun _ s3 h3 => wpAny_bind (wpAny_mono h3 (fun ok s4 h4 => ?_) fun _ _ f => f.elim)) fun _ _ f => f.elim)) fun _ _ f => f.elim)
    cases ok with
    | false => exact wpAny_pure ⟨rfl, h4⟩
    | true => exact wpAny_bind (wpAny_bind (wpAny_mono h4 (fun x s5 h5 => wpAny_bind (wpAny_mono h5 (fun _ s6 h6 => wpAny_pure (wpAny_pure ⟨rfl, h6⟩)) fun _ _ f => f.elim)) fun _ _ f => f.elim))

/-- the tests behind if -/
def PTs (X : Cx) (ifs : List Expr) (t : TT) : Prop :=
  ∀ (pins : List (Addr × Obj)) (s : Shared) (σ : St) (H : Hp) (Q : Bool → Hp → Prop), Inv X pins σ H s → t σ H Q →
    wpAny (model X.prog X.w) X.A (forIn ifs true fun c r => if r = true then do let ok ← isTrue c X.env (eval c X.env); pure (ForInStep.yield ok) else pure (ForInStep.yield r)) (TP X pins σ Q) X.xe s
def tYes : TT := fun _ H Q => Q true H
theorem pts_nil {X : Cx} : PTs X [] tYes := fun _ _ _ H _ I h => wpAny_tests_nil ⟨H, I, h⟩
theorem pts_one {X : Cx} {c : Expr} {t : TT} (h : PT X c t) : PTs X [c] t := fun pins s σ H Q I hw => wpAny_tests_one (h pins s σ H Q I hw)

/-- the block's context: its own names, then names of the def's by their cells -/
def cxLc (X : Cx) (N : List Str) (scope : Scope) (cl : List (Str × Addr)) (C : Addr) (s : Shared) (H : Hp) (fp : List Addr) : Cx where
  prog := X.prog
  w := X.w
  K := X.K
  mg := X.mg
  base := X.base
  A := X.A
  N := N
  s₀ := s
  H₀ := H
  env := compEnvC scope cl C X.env
  outer := X.stack
  stack := X.stack
  ex := fp
  fn := fun _ => false
  calm := X.calm
  pn := []
  xe := fun _ _ => False
/-- what the block knows of the def's slots: n own names, then the slots js -/
def pick (n : Nat) (js : List Nat) (σ : St) : St := List.replicate n none ++ js.map fun j => (σ[j]?).join

/-- what of the text a comprehension must have -/
structure LcOk (X : Cx) (N : List Str) (n : Nat) (js : List Nat) (scope : Scope) (cl : List (Str × Addr)) : Prop where
  clos : closureFor scope X.env = pure cl
  nocell : ∀ y ∈ scope.names, y.2 ≠ .cell
  kind : scope.kind = .function
  names : ∀ y ∈ scope.names, y.2 = .local → scope.names.lookup y.1 = some .local
  cells : ∀ x c, cl.lookup x = some c → X.env.cells.lookup x = some c
  has : ∀ x, ((relabel scope X.env).names.lookup x = some .cell ∨ (relabel scope X.env).names.lookup x = some .free) → ∃ c, cl.lookup x = some c
  len : n + js.length = N.length
  free : ∀ (i : Nat) (x : Str), N[n + i]? = some x → ∃ j c, js[i]? = some j ∧ X.N[j]? = some x ∧ (X.env.scope.names.lookup x = some .cell ∨ X.env.scope.names.lookup x = some .free) ∧
    ((relabel scope X.env).names.lookup x = some .cell ∨ (relabel scope X.env).names.lookup x = some .free) ∧ cl.lookup x = some c

section
variable {X : Cx} {pins : List (Addr × Obj)} {σ : St} {H : Hp} {s : Shared} {N : List Str} {n : Nat} {js : List Nat} {scope : Scope} {cl : List (Str × Addr)}
theorem LcOk.ok (L : LcOk X N n js scope cl) (I : Inv X pins σ H s) {fp : List Addr} (hf : ∀ b ∈ fp, FpOk X pins H b) (hlt : ∀ b ∈ fp, b < s.heap.objs.size) {C : Addr} (hC : s.heap.objs.size ≤ C) : (cxLc X N scope cl C s H fp).Ok where
  mod := I.ok.mod
  kind := L.kind
  glob := I.ok.glob
  blt := I.ok.blt
  above := hC
  inj := fun x y c h1 h2 => I.ok.inj x y c (L.cells x c h1) (L.cells y c h2)
  has := fun x hx => L.has x hx
  cab := fun x c hx _ => by cases hx
  hd := I.ok.hd
  frames := I.ok.frames
  stk := .inl rfl
  exf := fun b hb => ⟨Nat.ne_of_lt (Nat.lt_of_lt_of_le (hlt b hb) hC), fun x c e => (hf b hb).2.2.2.2.1 x c (L.cells x c e)⟩
  bs := I.bs
  bsz := Nat.le_trans I.ok.bsz I.sz
  noex := fun b o e hb => by
    rcases (hf b hb).2.2.2.1 with z | z
    · exact I.ok.noex b o e z
    · exact absurd (Nat.lt_of_lt_of_le (Heap.lt_size (I.ok.bs b o e).1) z) (Nat.lt_irrefl _)
  exfs := fun b hb hz => by
    rcases List.mem_cons.mp (I.stkSub b hz) with z | z
    · exact (hf b hb).2.1 z
    · exact (hf b hb).2.2.1 z
  funs := I.stack
  frf := I.stkFree

theorem pick_get {n : Nat} {js : List Nat} {σ : St} {i : Nat} {v : V} (h : (pick n js σ)[i]? = some (some v)) : ∃ k j, i = n + k ∧ js[k]? = some j ∧ σ[j]? = some (some v) := by
  unfold pick at h
  by_cases hi : i < n
  · rw [List.getElem?_append_left (by simpa using hi), List.getElem?_replicate] at h
    split at h <;> cases h
  · rw [List.getElem?_append_right (by simpa using hi), List.length_replicate, List.getElem?_map] at h
    cases e : js[i - n]? with
    | none => rw [e] at h; cases h
    | some j =>
      rw [e] at h
      refine ⟨i - n, j, by omega, e, ?_⟩
      cases e2 : σ[j]? with
      | none => rw [Option.map_some, e2] at h; cases h
      | some o =>
        rw [Option.map_some, e2] at h
        have h' : o = some v := Option.some.inj h
        rw [h']

theorem Inv.lc (L : LcOk X N n js scope cl) (I : Inv X pins σ H s) {fp : List Addr} (hf : ∀ b ∈ fp, FpOk X pins H b) (hlt : ∀ b ∈ fp, b < s.heap.objs.size) {D C : Addr} {h1 : Heap} {m : Str → Option Value} {tk : Nat}
    (hD : s.heap.objs.size ≤ D) (hC : s.heap.objs.size ≤ C) (hDC : D ≠ C) (hn : h1.Ns C m) (old : ∀ b o, s.heap.get? b = some o → h1.get? b = some o) {k : Nat} (hl : h1.get? D = some { cls := .type "list", data := .seq ([] : List Value).toArray k }) :
    Inv (cxLc X N scope cl C s H fp) [] (pick n js σ) (upd H D (.lst [])) { s with heap := h1, toks := tk } where
  ok := L.ok I hf hlt hC
  os := rfl
  bare := I.bare
  base := Un.laid old hD (I.hok.fresh hD)
  loc := by
    refine ⟨m, hn, fun i x v e1 e2 e3 => ?_⟩
    obtain ⟨k, j, rfl, ej, eσ⟩ := pick_get e2
    obtain ⟨j', c, ej', eN, kx, kr, ec⟩ := L.free k x e1
    rw [ej] at ej'
    cases ej'
    obtain ⟨mx, hmx, hl'⟩ := I.loc
    obtain ⟨u, r, lk⟩ := hl' j x v eN eσ (kx.elim (fun z => .inr (.inl z)) fun z => .inr (.inr z))
    refine ⟨u, r, .inr ⟨kr, c, ec, ?_⟩⟩
    have hcx := L.cells x c ec
    rcases lk with ⟨z, _⟩ | ⟨_, c', e', hc'⟩
    · have z' : X.env.scope.names.lookup x = some .local := z
      rcases kx with y | y <;> rw [y] at z' <;> cases z'
    · rw [hcx] at e'
      cases e'
      obtain ⟨o, ho, hd⟩ := hc'
      exact ⟨o, old _ _ ho, hd⟩
  cell := fun x c e => by
    obtain ⟨v, o, ho, hd⟩ := I.cell x c (L.cells x c e)
    exact ⟨v, o, old _ _ ho, hd⟩
  free := by
    show upd H D (.lst []) C = none
    rw [upd_ne (Ne.symm hDC)]
    exact I.hok.fresh hC
  freeC := fun x c e => by
    obtain ⟨v, o, ho, hd⟩ := I.cell x c (L.cells x c e)
    rw [upd_ne (Nat.ne_of_lt (Nat.lt_of_lt_of_le (Heap.lt_size ho) hD))]
    exact I.freeC x c (L.cells x c e)
  pin := fun p hp => absurd (show p ∈ ([] : List (Addr × Obj)) from hp) (by simp)
  hok := I.hok.laid old hD ⟨Nat.zero_le _, [], k, .nil, hl⟩
  len := by
    show (pick n js σ).length = N.length
    unfold pick
    rw [List.length_append, List.length_replicate, List.length_map]
    exact L.len

/-- behind the block, its own frame let go -/
theorem Inv.unlc {fp : List Addr} {C : Addr} {σ' : St} {H' : Hp} {s' : Shared} {h' : Heap} (I : Inv X pins σ H s) (hf : ∀ b ∈ fp, FpOk X pins H b) (hC : s.heap.objs.size ≤ C) (I' : Inv (cxLc X N scope cl C s H fp) [] σ' H' s') (hs : Heap.SameBut C s'.heap h') :
    Inv X pins σ H' { s' with heap := h' } := by
  have nC : ∀ b o, s.heap.get? b = some o → b ≠ C := fun b o e => Nat.ne_of_lt (Nat.lt_of_lt_of_le (Heap.lt_size e) hC)
  have hfree : H' C = none := I'.free
  have u := I'.base
  refine I.call' (ch := fp) (s' := { s' with heap := h' }) I'.os ⟨fun b o e n hb hx => ?_, fun b o e n hb hx => ?_, u.free, fun b o e hx => ?_, u.tups, u.frzs, u.tbls⟩ (fun b ob e => ?_) I'.bare fun b hb => ⟨(hf b hb).2.2.2.1, (hf b hb).2.1, (hf b hb).2.2.2.2.1, (hf b hb).2.2.2.2.2⟩
  · exact (hs.2 b (nC b o e)).trans (u.keep b o e n hb hx)
  · obtain ⟨sl, q⟩ := u.slot b o e n hb hx
    exact ⟨sl, (hs.2 b (nC b o e)).trans q⟩
  · obtain ⟨o', q⟩ := u.there b o e hx
    exact ⟨o', (hs.2 b (nC b o e)).trans q⟩
  · refine (I'.hok b ob e).stay (fun c w' hc q => (hs.2 c ?_).trans q) (fun _ q => q) fun _ _ q => q
    rintro rfl
    rcases hc with rfl | hc
    · rw [hfree] at e
      cases e
    · rw [hfree] at hc
      cases hc

/-- the reading: W the invariant by the turn and a measure; D the new list -/
def tLc (wi : TI) (n : Nat) (js : List Nat) (g : TG) (tt : TT) (te : TE) : TE := fun σ H Q => wi σ H fun J H1 => ∀ D, H1 D = none → ∃ W : Nat → Nat → St → Hp → Prop, (∃ m, W 0 m (pick n js σ) (upd H1 D (.lst []))) ∧ ∀ i m σ' H', W i m σ' H' →
  (J.stop i H' ∧ Q (.ref D) H') ∨ (J.go i H' ∧ ∃ Nx : St → Hp → Prop, (∀ σ2 H2, Nx σ2 H2 → ∃ m', m' < m ∧ W (i + 1) m' σ2 H2) ∧
    ∀ x H2, J.yld i H' x H2 → g x σ' H2 fun σ3 H3 => tt σ3 H3 fun ok H4 => if ok = true then te σ3 H4 fun y H5 => ∃ ys, H5 D = some (.lst ys) ∧ ys.length < sizeLine ∧ Nx σ3 (upd H5 D (.lst (ys ++ [y]))) else Nx σ3 H4)

theorem lc_core {elt tg iter : Expr} {ifs : List Expr} {pos : Pos} {g : TG} {tt : TT} {te : TE} {it : Addr} {fp : List Addr} {tn : Nat → Heap → Prop} {J : It} {Q : V → Hp → Prop} {E : Value → Shared → Prop} {RR : Value → Addr → Result → Shared → Prop}
    (L : LcOk X N n js scope cl) (hc : X.calm = true) (I : Inv X pins σ H s) (T : Turn X.prog X.w X.K tg J fp it tn) (t0 : tn 0 s.heap) (hf : ∀ b ∈ fp, FpOk X pins H b)
    (hg : ∀ C s0 H0 fp0, PG (cxLc X N scope cl C s0 H0 fp0) tg g) (ht : ∀ C s0 H0 fp0, PTs (cxLc X N scope cl C s0 H0 fp0) ifs tt) (he : ∀ C s0 H0 fp0, PE (cxLc X N scope cl C s0 H0 fp0) elt te)
    (hw : ∀ D, H D = none → ∃ W : Nat → Nat → St → Hp → Prop, (∃ m, W 0 m (pick n js σ) (upd H D (.lst []))) ∧ ∀ i m σ' H', W i m σ' H' →
      (J.stop i H' ∧ Q (.ref D) H') ∨ (J.go i H' ∧ ∃ Nx : St → Hp → Prop, (∀ σ2 H2, Nx σ2 H2 → ∃ m', m' < m ∧ W (i + 1) m' σ2 H2) ∧
        ∀ x H2, J.yld i H' x H2 → g x σ' H2 fun σ3 H3 => tt σ3 H3 fun ok H4 => if ok = true then te σ3 H4 fun y H5 => ∃ ys, H5 D = some (.lst ys) ∧ ys.length < sizeLine ∧ Nx σ3 (upd H5 D (.lst (ys ++ [y]))) else Nx σ3 H4))
    (fin : ∀ D C σ' H' s', s.heap.objs.size ≤ C → Inv (cxLc X N scope cl C s H fp) [] σ' H' s' → Q (.ref D) H' → RR (.ref D) C (.ok .next) s') :
    wpAny (model X.prog X.w) X.A (newList []) (fun acc s1 => wpAny (model X.prog X.w) X.A (newFunctionEnv scope X.env.globals cl [] X.env.qual none .none (some X.env)) (fun cenv s2 =>
      codeAny (model X.prog X.w) X.A (.compStart (.ListComp elt [⟨tg, iter, ifs, 0⟩] scope pos) 0 (.ref it) acc { cenv with scope := relabel scope X.env }) (RR acc cenv.locals) s2) E s1) E s := by
  refine wpAny_newObj_type (wpAny_newFunctionEnv L.nocell (by intro y hy; simp at hy) (fun h1 hn1 hs1 => ?_) L.kind)
  dsimp only at hn1 hs1 ⊢
  generalize hG : s.heap.push { cls := .type "list", dict := none, data := .seq ([] : List Value).toArray } = G at hn1 hs1 ⊢
  have eC : G.objs.size = s.heap.objs.size + 1 := by rw [← hG, Heap.size_push]
  have hC : s.heap.objs.size ≤ G.objs.size := by rw [eC]; exact Nat.le_succ _
  have hDC : s.heap.objs.size ≠ G.objs.size := by rw [eC]; exact Nat.ne_of_lt (Nat.lt_succ_self _)
  have hlt : ∀ b ∈ fp, b < s.heap.objs.size := fun b hb => by
    obtain ⟨o, e, _⟩ := T.obj 0 _ t0 b hb
    exact Heap.lt_size e
  have old : ∀ b o, s.heap.get? b = some o → h1.get? b = some o := fun b o e => by
    have hb := Heap.lt_size e
    exact hs1.extBut b o (Nat.ne_of_lt (Nat.lt_of_lt_of_le hb hC)) (Heap.get?_push_of_some _ (hG ▸ Heap.get?_push_of_some _ e))
  have hl : h1.get? s.heap.objs.size = some { cls := .type "list", data := .seq ([] : List Value).toArray 0 } := hs1.extBut _ _ hDC (Heap.get?_push_of_some _ (hG ▸ Heap.get?_push_size _ rfl))
  have I1 : ∀ tk, Inv (cxLc X N scope cl G.objs.size s H fp) [] (pick n js σ) (upd H s.heap.objs.size (.lst [])) { s with heap := h1, toks := tk } := fun tk => Inv.lc L I hf hlt (Nat.le_refl _) hC hDC hn1 old hl
  have t1 : tn 0 h1 := T.keep _ _ _ t0 fun b _ o e => old b o e
  obtain ⟨W, ⟨m0, w0⟩, step⟩ := hw s.heap.objs.size (I.hok.fresh (Nat.le_refl _))
  have fr1 : ∀ b ∈ fp, upd H s.heap.objs.size (.lst []) b = none := fun b hb => by
    rw [upd_ne (Nat.ne_of_lt (hlt b hb))]
    exact (hf b hb).1
  have fps : ∀ {H' : Hp}, (∀ b ∈ fp, H' b = none) → ∀ b ∈ fp, FpOk (cxLc X N scope cl G.objs.size s H fp) [] H' b := fun {H'} hn b hb => by
    refine ⟨hn b hb, Nat.ne_of_lt (Nat.lt_of_lt_of_le (hlt b hb) hC), fun hz => ?_, .inl hb, fun x c e => (hf b hb).2.2.2.2.1 x c (L.cells x c e), fun p hp => absurd (show p ∈ ([] : List (Addr × Obj)) from hp) (by simp)⟩
    rcases List.mem_cons.mp (I.stkSub b hz) with z | z
    · exact (hf b hb).2.1 z
    · exact (hf b hb).2.2.1 z
  have loop : ∀ s0 : Shared, s0 = { s with heap := h1, toks := s.toks + ([] : List (Str × Value)).length } →
      codeAny (model X.prog X.w) X.A (.compLoop (.ListComp elt [⟨tg, iter, ifs, 0⟩] scope pos) 0 (.ref it) (.ref s.heap.objs.size) (compEnvC scope cl G.objs.size X.env)) (RR (.ref s.heap.objs.size) G.objs.size) s0 := by
    rintro s0 rfl
    refine lc_loop (fun k s' => ∃ i σ' H', Inv (cxLc X N scope cl G.objs.size s H fp) [] σ' H' s' ∧ tn i s'.heap ∧ (∀ b ∈ fp, H' b = none) ∧ W i k σ' H') ?_ m0 ⟨0, _, _, I1 _, t1, fr1, w0⟩
    rintro k s3 ⟨i, σ3, H3, I3, t3, fr3, w3⟩
    rcases step i k σ3 H3 w3 with ⟨stop, qn⟩ | ⟨go, Nx, hN, body⟩
    · refine thn (T.done (cxLc X N scope cl G.objs.size s H fp) rfl rfl rfl hc i [] s3 σ3 H3 _ I3 (fps fr3) t3 stop) fun r s4 ⟨hr, I4⟩ => ?_
      subst hr
      exact fin _ _ σ3 H3 s4 hC I4 qn
    · refine thn (T.item (cxLc X N scope cl G.objs.size s H fp) rfl rfl rfl hc i [] s3 σ3 H3 _ I3 (fps fr3) t3 go) fun r s4 ⟨u, hr, h4⟩ => ?_
      subst hr
      refine thn h4 fun _ s5 ⟨x, H5, I5, r5, y5, t5, fr5⟩ => ?_
      have I5' := I5.pinned (fps fr5) (T.obj _ _ t5)
      refine thn (hg _ _ _ _ _ s5 σ3 H5 x u _ I5' r5 (body x H5 y5)) fun _ s6 ⟨σ6, H6, I6, q6⟩ => ?_
      have again : ∀ {σ7 : St} {H7 : Hp} {s7 : Shared}, Inv (cxLc X N scope cl G.objs.size s H fp) ([] ++ pinsAt fp s5.heap) σ7 H7 s7 → Nx σ7 H7 →
          ∃ j, j < k ∧ ∃ i σ' H', Inv (cxLc X N scope cl G.objs.size s H fp) [] σ' H' s7 ∧ tn i s7.heap ∧ (∀ b ∈ fp, H' b = none) ∧ W i j σ' H' := fun {σ7 H7 s7} I7 n7 => by
        obtain ⟨m', hm, w7⟩ := hN σ7 H7 n7
        refine ⟨m', hm, i + 1, σ7, H7, I7.unpinned, T.keep _ _ _ t5 fun b hb o e => (I7.pin (b, o) (List.mem_append_right _ (List.mem_append_right _ (mem_pinsAt hb e)))).1, fun b hb => ?_, w7⟩
        obtain ⟨o, e, _⟩ := T.obj _ _ t5 b hb
        exact (I7.pin (b, o) (List.mem_append_right _ (List.mem_append_right _ (mem_pinsAt hb e)))).2.1
      refine thn (ht _ _ _ _ _ s6 σ6 H6 _ I6 q6) fun ok s7 ⟨H7, I7, q7⟩ => ?_
      cases ok with
      | false =>
        rw [if_neg (by decide)] at q7 ⊢
        exact again I7 q7
      | true =>
        rw [if_pos rfl] at q7 ⊢
        refine thn (he _ _ _ _ _ s7 σ6 H7 _ I7 q7) fun v s8 ⟨y, H8, I8, r8, ys, e8, z8, q8⟩ => ?_
        refine thn (mt_append _ s8 σ6 H8 (.ref s.heap.objs.size) [y] (.ref s.heap.objs.size) [v] (fun _ H9 => Nx σ6 H9) I8 rfl (.cons r8 .nil) ⟨_, ys, y, rfl, rfl, e8, z8, q8⟩) fun _ s9 ⟨_, H9, I9, _, q9⟩ => ?_
        exact again I9 q9
  exact codeAny_compStart_list (loop _ rfl) (T.self X.A 0 _ _ _ t1 (loop _ rfl))

/-- [elt for tg in iter if ..] as a value -/
theorem pe_lc {elt tg iter : Expr} {ifs : List Expr} {pos : Pos} {wi : TI} {g : TG} {tt : TT} {te : TE} (L : LcOk X N n js scope cl) (hc : X.calm = true) (hi : PI X tg iter wi)
    (hg : ∀ C s0 H0 fp0, PG (cxLc X N scope cl C s0 H0 fp0) tg g) (ht : ∀ C s0 H0 fp0, PTs (cxLc X N scope cl C s0 H0 fp0) ifs tt) (he : ∀ C s0 H0 fp0, PE (cxLc X N scope cl C s0 H0 fp0) elt te)
    (hs : ∀ x, foldedSetIterable iter X.env x = pure x := by intro _; rfl) : PE X (.ListComp elt [⟨tg, iter, ifs, 0⟩] scope pos) (tLc wi n js g tt te) := by
  intro pins s σ H Q I h
  rw [eval_ListComp]
  refine wpAny_comprehension_free (use := none) rfl hs L.clos L.kind L.names (thn (hi pins s σ H _ I h) fun v s1 h1 => thn h1 fun itv s2 h2 => ?_)
  obtain ⟨it, fp, tn, J, H2, e, I2, T, t2, f2, hw⟩ := h2
  subst e
  refine lc_core (RR := fun acc C => compPost (model X.prog X.w) X.A X.xe none (EP X pins σ Q) acc C) L hc I2 T t2 f2 hg ht he hw ?_
  intro D C σ' H' s' hC I' q
  obtain ⟨m, hn, _⟩ := I'.loc
  exact ⟨m, hn, fun h' hs' => ⟨.ref D, H', I2.unlc f2 hC I' hs', rfl, q⟩⟩

end
end L2
/-! More rules over the hand layer: calls in short, is True, isinstance, data of any depth and its ==. -/
namespace L2
open PySem PySem.Spec PyProof.Rows

/-! ### a def of the text that may be called -/
structure Cal (P : Program) (w : World) (K : PySem.W.Frag) (mg : Str → Option Value) (base : Heap) (k : Nat) (x : Str) (dvs : List V) (sp : Sp) : Prop where
  ex : ∃ (f : Addr) (fd : FuncData) (ps : List Str) (ds : List Value), FnOk P w K mg base CX0 k f fd ps sp ∧ mg x = some (.ref f) ∧ PySem.W.keepIn K (.ref f) = true ∧ Binds K fd ps ds ∧ Vals dvs ds
section
variable {X : Cx} {k : Nat} {sp : Sp} {dvs : List V} {x : Str} {p pos : Pos} {e : Expr} {es : List Expr} {t : TA}
theorem pe_cal (c : Cal X.prog X.w X.K X.mg X.base k x dvs sp) (hr : Room k X.A) (hg : Gl X x) (ha : PA X (e :: es) t) (hdb : (x == ("__debug__" : Str)) = false := by decide)
    (he : starEach (e :: es) X.env = (false, eval e X.env) :: starEach es X.env := by rfl) (hpl : (backTo pos (starEach es X.env)).any (·.1) = false := by rfl) : PE X (.Call (.Name x p) (e :: es) [] pos) (tCall sp dvs E0 t) := by
  obtain ⟨f, fd, ps, ds, F, hm, hk, hb, hd⟩ := c.ex
  exact pe_call F hr hg hm hk hb hd pass0 ha hdb he hpl
end

section
variable {X : Cx}
/-! ### is True, is not False -/
/-! ### isinstance(x, a built-in class) -/
theorem call_isinst : CallR X (.builtin "isinstance") (fun xs H Q => ∃ x n t b, xs = [x, .ty n] ∧ TyOf X.K H x t ∧ PySem.W.kitOne X.K t (.type n) = some b ∧ Q (.bl b) H) := by
  intro pins s σ H xs us Q I r h
  obtain ⟨x, n, t, b, rfl, ty, e, q⟩ := h
  obtain ⟨u, c, rfl, ru, rc⟩ := r.two
  cases rc
  exact isinst_ok I ru ty e fun tk => ⟨.bl b, H, I.tok tk, rfl, q⟩
theorem kit_ii {K : PySem.W.Frag} : PySem.W.kitOne K (.type "int") (.type "int") = some true := by rfl
theorem kit_ib {K : PySem.W.Frag} : PySem.W.kitOne K (.type "int") (.type "bool") = some false := by rfl
theorem kit_bi {K : PySem.W.Frag} : PySem.W.kitOne K (.type "bool") (.type "int") = some true := by rfl
theorem kit_bb {K : PySem.W.Frag} : PySem.W.kitOne K (.type "bool") (.type "bool") = some true := by rfl
/-- a thing that is no int and no bool -/
def Other (K : PySem.W.Frag) (H : Hp) (x : V) : Prop := ∃ n, TyOf K H x (.type n) ∧ (n = "NoneType" ∨ n = "str" ∨ n = "list" ∨ n = "tuple" ∨ n = "dict")
theorem Other.kit {K : PySem.W.Frag} {H : Hp} {x : V} (h : Other K H x) : ∃ n, TyOf K H x (.type n) ∧ PySem.W.kitOne K (.type n) (.type "int") = some false := by
  obtain ⟨n, h1, h2⟩ := h
  refine ⟨n, h1, ?_⟩
  rcases h2 with rfl | rfl | rfl | rfl | rfl <;> rfl
/-- what a thing is as a whole number: some i, or none -/
def Th (K : PySem.W.Frag) (H : Hp) (x : V) : Option Int → Prop
  | some i => x = .int i
  | none => (∃ b, x = .bl b) ∨ Other K H x
end

/-! ### data of any depth -/
mutual
def Rep (K : PySem.W.Frag) (H : Hp) : PyData → V → Prop
  | .none, x => x = .non
  | .bool b, x => x = .bl b
  | .int i, x => x = .int i
  | .str z, x => x = .str z
  | .list ds, x => ∃ a xs, x = .ref a ∧ SqL K H a xs ∧ Reps K H ds xs
  | .tuple ds, x => ∃ a xs, x = .ref a ∧ SqT K H a xs ∧ Reps K H ds xs
  | .dict _, _ => False
def Reps (K : PySem.W.Frag) (H : Hp) : List PyData → List V → Prop
  | [], xs => xs = []
  | d :: ds, xs => ∃ x r, xs = x :: r ∧ Rep K H d x ∧ Reps K H ds r
end
theorem SqL.same {K : PySem.W.Frag} {H H' : Hp} {a : Addr} {xs : List V} (e : Same H H') (h : SqL K H a xs) : SqL K H' a xs := e.seq h
theorem SqT.same {K : PySem.W.Frag} {H H' : Hp} {a : Addr} {xs : List V} (e : Same H H') (h : SqT K H a xs) : SqT K H' a xs := by
  rcases h with (h | ⟨o, h⟩) | h
  · exact .inl (.inl (e _ _ h))
  · exact .inl (.inr ⟨o, e _ _ h⟩)
  · exact .inr h
mutual
theorem Rep.same {K : PySem.W.Frag} {H H' : Hp} (e : Same H H') : ∀ (d : PyData) (x : V), Rep K H d x → Rep K H' d x
  | .none, _, h => h
  | .bool _, _, h => h
  | .int _, _, h => h
  | .str _, _, h => h
  | .list ds, x, h => by
    obtain ⟨a, xs, e1, h1, h2⟩ := h
    exact ⟨a, xs, e1, h1.same e, Reps.same e ds xs h2⟩
  | .tuple ds, x, h => by
    obtain ⟨a, xs, e1, h1, h2⟩ := h
    exact ⟨a, xs, e1, h1.same e, Reps.same e ds xs h2⟩
  | .dict _, _, h => h
theorem Reps.same {K : PySem.W.Frag} {H H' : Hp} (e : Same H H') : ∀ (ds : List PyData) (xs : List V), Reps K H ds xs → Reps K H' ds xs
  | [], _, h => h
  | d :: ds, xs, h => by
    obtain ⟨x, r, e1, h1, h2⟩ := h
    exact ⟨x, r, e1, Rep.same e d x h1, Reps.same e ds r h2⟩
end
theorem Reps.length {K : PySem.W.Frag} {H : Hp} : ∀ {ds : List PyData} {xs : List V}, Reps K H ds xs → ds.length = xs.length
  | [], xs, h => by
    cases (show xs = [] from h)
    rfl
  | d :: ds, _, h => by
    obtain ⟨x, r, rfl, _, h2⟩ := h
    rw [List.length_cons, List.length_cons, h2.length]
theorem Reps.get {K : PySem.W.Frag} {H : Hp} : ∀ {ds : List PyData} {xs : List V} (i : Nat) {x : V}, Reps K H ds xs → xs[i]? = some x → ∃ d, ds[i]? = some d ∧ Rep K H d x
  | [], _, i, x, h, e => by
    rw [show _ = _ from h] at e
    cases e
  | d :: ds, _, i, x, h, e => by
    obtain ⟨y, r, rfl, h1, h2⟩ := h
    cases i with
    | zero =>
      cases e
      exact ⟨d, rfl, h1⟩
    | succ i =>
      obtain ⟨d', e', h'⟩ := h2.get i (x := x) (by simpa using e)
      exact ⟨d', by simpa using e', h'⟩
theorem Reps.snoc {K : PySem.W.Frag} {H : Hp} : ∀ {ds : List PyData} {xs : List V} {d : PyData} {x : V}, Reps K H ds xs → Rep K H d x → Reps K H (ds ++ [d]) (xs ++ [x])
  | [], _, d, x, h, h' => by
    rw [show _ = _ from h]
    exact ⟨x, [], rfl, h', rfl⟩
  | d0 :: ds, _, d, x, h, h' => by
    obtain ⟨y, r, rfl, h1, h2⟩ := h
    exact ⟨y, r ++ [x], rfl, h1, h2.snoc h'⟩
mutual
theorem Rep.reads {X : Cx} {pins : List (Addr × Obj)} {σ : St} {H : Hp} {s : Shared} (I : Inv X pins σ H s) : ∀ (d : PyData) (x : V) (u : Value), Rep X.K H d x → RelV x u → ∃ as, Reads s.heap u d as
  | .none, x, u, h, r => by
    cases (show x = V.non from h)
    cases r
    exact ⟨_, .none⟩
  | .bool b, x, u, h, r => by
    cases (show x = V.bl b from h)
    cases r
    exact ⟨_, .bool b⟩
  | .int i, x, u, h, r => by
    cases (show x = V.int i from h)
    obtain ⟨t, rfl⟩ := r
    exact ⟨_, .int i t⟩
  | .str z, x, u, h, r => by
    cases (show x = V.str z from h)
    obtain ⟨t, rfl⟩ := r
    exact ⟨_, .str z t⟩
  | .list ds, x, u, h, r => by
    obtain ⟨a, xs, rfl, h1, h2⟩ := h
    cases r
    obtain ⟨its, rv, ⟨o, n, e, c, _, dt⟩, _⟩ := I.list h1
    obtain ⟨as, q⟩ := Reps.reads I ds xs its h2 rv
    exact ⟨_, .list e c dt (by simpa using q)⟩
  | .tuple ds, x, u, h, r => by
    obtain ⟨a, xs, rfl, h1, h2⟩ := h
    cases r
    obtain ⟨its, rv, ⟨o, e, c, n, dt⟩, _⟩ := I.tuple h1
    obtain ⟨as, q⟩ := Reps.reads I ds xs its h2 rv
    exact ⟨_, .tuple e c dt (by simpa using q)⟩
  | .dict _, _, _, h, _ => h.elim
theorem Reps.reads {X : Cx} {pins : List (Addr × Obj)} {σ : St} {H : Hp} {s : Shared} (I : Inv X pins σ H s) : ∀ (ds : List PyData) (xs : List V) (us : List Value), Reps X.K H ds xs → Vals xs us → ∃ as, ReadsAll s.heap us ds as
  | [], xs, us, h, r => by
    cases (show xs = [] from h)
    cases r
    exact ⟨_, .nil⟩
  | d :: ds, xs, us, h, r => by
    obtain ⟨x, rest, rfl, h1, h2⟩ := h
    cases r with
    | cons r1 r2 =>
      obtain ⟨as, q⟩ := Rep.reads I d x _ h1 r1
      obtain ⟨bs, q2⟩ := Reps.reads I ds rest _ h2 r2
      exact ⟨_, .cons q q2⟩
end
section
variable {X : Cx}
def rNeD (K : PySem.W.Frag) : R2 := fun x y H Q => ∃ d e, Rep K H d x ∧ Rep K H e y ∧ SeqAt.shaped d = true ∧ SeqAt.shaped e = true ∧ Q (.bl (!PyData.eqv d e)) H
theorem op_neD (hu : X.A.units + 64 < cLine) : OpR X (compareOp .NotEq) (rNeD X.K) := by
  intro pins s σ H x y v u Q I rx ry h
  obtain ⟨d, e, h1, h2, s1, s2, q⟩ := h
  obtain ⟨as, r1⟩ := Rep.reads I d x v h1 rx
  obtain ⟨bs, r2⟩ := Rep.reads I e y u h2 ry
  exact ne_dataH r1 r2 s1 s2 hu ⟨.bl _, H, I, rfl, q⟩
end
end L2
/-! What the laws' own texts share: promises over ints, the draw _law_at. -/
namespace L2
open PySem PySem.Spec PyProof.Rows

/-! ### argument lists, the star looked at once; a structure, so that the elaborator does not look into it -/
def noStar : Expr → Bool
  | .Starred .. => false
  | _ => true
theorem starEach_cons {e : Expr} {es : List Expr} {env : Env} (h : noStar e = true) : starEach (e :: es) env = (false, eval e env) :: starEach es env := by
  cases e <;> first | rfl | cases h
structure QA (X : Cx) (es : List Expr) (t : TA) : Prop where
  pa : PA X es t
theorem qn {X : Cx} : QA X [] tNil := ⟨pa_nil⟩
theorem qc {X : Cx} {e : Expr} {es : List Expr} {te : TE} {t : TA} (ha : PE X e te) (hr : QA X es t) (h : noStar e = true := by rfl) : QA X (e :: es) (tCons te t) := ⟨pa_cons ha hr.pa (starEach_cons h)⟩
theorem pe_lstq {X : Cx} {es : List Expr} {t : TA} {pos : Pos} (h : QA X es t) : PE X (.List es pos) (tLst t) := pe_lst h.pa
theorem pe_tupq {X : Cx} {es : List Expr} {t : TA} {pos : Pos} {k : Nat} (h : QA X es t) : PE X (.Tuple es k pos) (tTup t) := pe_tup h.pa

/-! ### promises of defs that take and give ints: under C, the value f, the heap as it was -/
def spI1 (C : Int → Prop) (f : Int → Int) : Sp := fun vs H Q _ => ∃ a, vs = [.int a] ∧ C a ∧ Q (.int (f a)) H
def spI2 (C : Int → Int → Prop) (f : Int → Int → Int) : Sp := fun vs H Q _ => ∃ a b, vs = [.int a, .int b] ∧ C a b ∧ Q (.int (f a b)) H
def spI3 (C : Int → Int → Int → Prop) (f : Int → Int → Int → Int) : Sp := fun vs H Q _ => ∃ a b c, vs = [.int a, .int b, .int c] ∧ C a b c ∧ Q (.int (f a b c)) H
/-- no bound that a factor breaks -/
def Sm (a : Int) : Prop := -1000000000000 ≤ a ∧ a ≤ 1000000000000
theorem Sm.mulL {a b : Int} (h : Sm a) : CMul a b := .inl ⟨Int.lt_of_lt_of_le (by decide) h.1, Int.lt_of_le_of_lt h.2 (by decide)⟩
theorem Sm.mulR {a b : Int} (h : Sm b) : CMul a b := .inr ⟨Int.lt_of_lt_of_le (by decide) h.1, Int.lt_of_le_of_lt h.2 (by decide)⟩
theorem cm_left {a b : Int} (h1 : -1000000000000 ≤ a) (h2 : a ≤ 1000000000000) : CMul a b := Sm.mulL ⟨h1, h2⟩
theorem cm_right {a b : Int} (h1 : -1000000000000 ≤ b) (h2 : b ≤ 1000000000000) : CMul a b := Sm.mulR ⟨h1, h2⟩

theorem same_new {H : Hp} {p : Addr} {o : HO} (hp : H p = none) : Same H (upd H p o) := fun b u e => by
  rw [upd_ne (ne_of_none e hp)]
  exact e
theorem same_upd {H H' : Hp} {r : Addr} {o : HO} (hs : Same H H') (hr : H r = none) : Same H (upd H' r o) := fun b u e => by
  rw [upd_ne (ne_of_none e hr)]
  exact hs b u e
theorem atI_ex {xs : List V} {i : Int} {R : V → Prop} (h0 : 0 ≤ i) (h1 : i < (xs.length : Int)) (h : ∀ v ∈ xs, R v) : ∃ v, atI xs i = some v ∧ R v := by
  obtain ⟨j, hj⟩ : ∃ j : Nat, i = (j : Int) := ⟨_, (Int.toNat_of_nonneg h0).symm⟩
  subst hj
  have hl : j < xs.length := by omega
  exact ⟨xs[j], atI_nat (List.getElem?_eq_getElem hl), h _ (List.getElem_mem hl)⟩

/-! ### loops that stand as one word in a reading, until they are shown by a word of one's own -/
def LoopR (n : Nat) (g : TG) (tb : TS) (D : Ends) (σ : St) (H : Hp) : Prop := ∃ W : Nat → Nat → St → Hp → Prop, (∃ m, W 0 m σ H) ∧ ∀ i m σ H, W i m σ H →
  ((Itr 0 n).stop i H ∧ D.nx σ H) ∨ ((Itr 0 n).go i H ∧ ∃ N : St → Hp → Prop, (∀ σ' H', N σ' H' → ∃ m', m' < m ∧ W (i + 1) m' σ' H') ∧ ∀ x H', (Itr 0 n).yld i H x H' → g x σ H' fun σ2 H2 => tb { D with nx := N, ct := N, bk := D.nx } σ2 H2)
theorem tFor_rng1 {ta : TA} {g : TG} {tb : TS} {D : Ends} {σ : St} {H : Hp} : tFor (iRng1 ta) g tb D σ H = ta σ H fun vs H1 => ∃ j : Int, vs = [.int j] ∧ -(2 ^ 62) ≤ j ∧ j < 2 ^ 62 ∧ LoopR j.toNat g tb D σ H1 := rfl
theorem LoopR.by {n : Nat} {g : TG} {tb : TS} {D : Ends} {σ : St} {H : Hp} (Pv : Nat → St → Hp → Prop) (h0 : Pv 0 σ H)
    (hs : ∀ i σ H, i < n → Pv i σ H → g (.int i) σ H fun σ2 H2 => tb { D with nx := Pv (i + 1), ct := Pv (i + 1), bk := D.nx } σ2 H2) (hd : ∀ σ H, Pv n σ H → D.nx σ H) : LoopR n g tb D σ H :=
  for_range (lo := 0) (n := n) Pv h0 (fun i σ H hi p => by rw [Int.zero_add]; exact hs i σ H hi p) hd
/-- the same, the turn's end as a letter R -/
theorem LoopR.run {n : Nat} {g : TG} {tb : TS} {D : Ends} {σ : St} {H : Hp} (Pv : Nat → St → Hp → Prop) (h0 : Pv 0 σ H)
    (hs : ∀ i σ H, i < n → Pv i σ H → ∀ R : St → Hp → Prop, (∀ σ' H', Pv (i + 1) σ' H' → R σ' H') → g (.int i) σ H fun σ2 H2 => tb { D with nx := R, ct := R, bk := D.nx } σ2 H2) (hd : ∀ σ H, Pv n σ H → D.nx σ H) : LoopR n g tb D σ H :=
  LoopR.by Pv h0 (fun i σ H hi p => hs i σ H hi p _ fun _ _ z => z) hd
def LoopL (K : PySem.W.Frag) (a : Addr) (g : TG) (tb : TS) (D : Ends) (σ : St) (H : Hp) : Prop := ∃ W : Nat → Nat → St → Hp → Prop, (∃ m, W 0 m σ H) ∧ ∀ i m σ H, W i m σ H →
  ((Itl K a).stop i H ∧ D.nx σ H) ∨ ((Itl K a).go i H ∧ ∃ N : St → Hp → Prop, (∀ σ' H', N σ' H' → ∃ m', m' < m ∧ W (i + 1) m' σ' H') ∧ ∀ x H', (Itl K a).yld i H x H' → g x σ H' fun σ2 H2 => tb { D with nx := N, ct := N, bk := D.nx } σ2 H2)
theorem tFor_lst {K : PySem.W.Frag} {tl : TE} {g : TG} {tb : TS} {D : Ends} {σ : St} {H : Hp} : tFor (iList K tl) g tb D σ H = tl σ H fun x H1 => ∃ a, x = .ref a ∧ (∃ xs, SqL K H1 a xs) ∧ LoopL K a g tb D σ H1 := rfl
theorem LoopL.by {K : PySem.W.Frag} {a : Addr} {xs : List V} {g : TG} {tb : TS} {D : Ends} {σ : St} {H : Hp} (Pv : Nat → St → Hp → Prop) (h0 : Pv 0 σ H) (hl : ∀ i σ H, i ≤ xs.length → Pv i σ H → SqL K H a xs)
    (hs : ∀ i x σ H, xs[i]? = some x → Pv i σ H → g x σ H fun σ2 H2 => tb { D with nx := Pv (i + 1), ct := Pv (i + 1), bk := D.nx } σ2 H2) (hd : ∀ σ H, Pv xs.length σ H → D.nx σ H) : LoopL K a g tb D σ H :=
  for_list Pv h0 hl hs hd

theorem LoopL.run {K : PySem.W.Frag} {a : Addr} {xs : List V} {g : TG} {tb : TS} {D : Ends} {σ : St} {H : Hp} (Pv : Nat → St → Hp → Prop) (h0 : Pv 0 σ H) (hl : ∀ i σ H, i ≤ xs.length → Pv i σ H → SqL K H a xs)
    (hs : ∀ i x σ H, xs[i]? = some x → Pv i σ H → ∀ R : St → Hp → Prop, (∀ σ' H', Pv (i + 1) σ' H' → R σ' H') → g x σ H fun σ2 H2 => tb { D with nx := R, ct := R, bk := D.nx } σ2 H2) (hd : ∀ σ H, Pv xs.length σ H → D.nx σ H) : LoopL K a g tb D σ H :=
  LoopL.by Pv h0 hl (fun i x σ H hi p => hs i x σ H hi p _ fun _ _ z => z) hd
/-- a block cut behind its first statement: what holds there, the rest from there, the first statement to there -/
theorem seq_cut {t u : TS} {D : Ends} {σ : St} {H : Hp} (J : St → Hp → Prop) (ht : ∀ R : St → Hp → Prop, (∀ σ' H', J σ' H' → R σ' H') → t { D with nx := R } σ H) (hu : ∀ σ' H', J σ' H' → u D σ' H') : tSeq t u D σ H := ht (u D) hu

/-! ### a def with defaults -/
structure FunD (K : PySem.W.Frag) (x qual : Str) (st : Stmt) (ds : List Value) (f : Addr) (fd : FuncData) : Prop where
  ex : ∃ (oc : Value) (od : Option Addr) (kV doc pm : Value) (an : Option Addr) (cdv ct : Value) (osl : Array (Option Value)) (T : Addr) (oT : Obj) (n : Nat),
    fd = PySem.W.fnOf x qual (defArgs st) (defBody st) (defScope st) (.ref T) kV doc pm an cdv ct ∧ K.lookup f = some ⟨oc, od, .func fd, osl⟩ ∧ PySem.W.codeIn K cdv qual = true ∧ K.lookup T = some oT ∧ oT.data = .seq ds.toArray n
  kp : PySem.W.keepIn K (.ref f) = true
section
variable {P : Program} {w : World} {K : PySem.W.Frag} {mg : Str → Option Value} {base : Heap}
theorem FunD.ok {x qual : Str} {st : Stmt} {ds : List Value} {f : Addr} {fd : FuncData} {N ps : List Str} {k : Nat} {sp : Sp} (F : FunD K x qual st ds f fd) (S : FnScope N ps (defScope st)) (len : ∀ vs H Q E, sp vs H Q E → vs.length = ps.length)
    (hbody : ∀ (cdv : Value) (A : Around) (outer : List Env) (s : Shared) (H : Hp) (vs : List V) (Q : VK) (E : XK), Room k (A.deeper (envOfC qual (defScope st) s.heap.objs.size f cdv)) → sp vs H Q E →
      ∃ t, PSs (cxOf CX0 P w K mg base N qual (defScope st) f cdv A outer s H E).nox (defBody st) t ∧ t { nx := fun _ H' => Q .non H', rt := Q } (L2.start N vs) H) : FnOk P w K mg base CX0 (k + 1) f fd ps sp := by
  obtain ⟨oc, od, kV, doc, pm, an, cdv, ct, osl, T, oT, n, rfl, lk, hcd, _, _⟩ := F.ex
  refine fn_of lk hcd S len fun A outer s H vs Q E hr hsp => ?_
  obtain ⟨t, h, q⟩ := hbody cdv A outer s H vs Q E hr hsp
  exact ⟨t, h.nox, q⟩
theorem FunD.binds {x qual : Str} {st : Stmt} {ds es : List Value} {f : Addr} {fd : FuncData} {ps : List Str} (F : FunD K x qual st ds f fd)
    (h : ∀ (T : Addr) (kV doc pm : Value) (an : Option Addr) (cdv ct : Value) (us : List Value), (us ++ es).length = ps.length →
      ∃ k, bindArgs (PySem.W.fnOf x qual (defArgs st) (defBody st) (defScope st) (.ref T) kV doc pm an cdv ct) ⟨us, []⟩ = seqItems? (PySem.W.fnOf x qual (defArgs st) (defBody st) (defScope st) (.ref T) kV doc pm an cdv ct).defaults >>= k ∧ k (some ds.toArray) = pure (ps.zip (us ++ es))) : Binds K fd ps es := by
  obtain ⟨oc, od, kV, doc, pm, an, cdv, ct, osl, T, oT, n, rfl, lk, hcd, hT, hd⟩ := F.ex
  intro s us hK hl
  obtain ⟨k, h1, h2⟩ := h T kV doc pm an cdv ct us hl
  exact .of_defaults rfl (hK _ _ hT) hd h1 h2
end

/-! ### the draw -/
end L2
/-! What a comprehension must have, by looks that compute; loops of comprehensions as one word. -/
namespace L2
open PySem PySem.Spec PyProof.Rows
theorem mem_of_look {α : Type} {x : Str} {c : α} : ∀ {l : List (Str × α)}, l.lookup x = some c → (x, c) ∈ l
  | [], h => by cases h
  | (y, d) :: l, h => by
    rw [List.lookup_cons] at h
    cases e : x == y with
    | true =>
      rw [e] at h
      have h1 : x = y := by simpa using e
      have h2 : d = c := Option.some.inj h
      rw [h1, h2]
      exact List.mem_cons_self
    | false =>
      rw [e] at h
      exact List.mem_cons_of_mem _ (mem_of_look h)
def isCF (k : Option NameKind) : Bool := match k with
  | some .cell => true
  | some .free => true
  | _ => false
theorem isCF_of {k : Option NameKind} (h : isCF k = true) : k = some .cell ∨ k = some .free := by
  unfold isCF at h
  split at h
  · exact .inl rfl
  · exact .inr rfl
  · cases h
/-- the cells that a block takes over lie as the def's do -/
inductive CellsIn (big : List (Str × Addr)) : List (Str × Addr) → Prop
  | nil : CellsIn big []
  | cons {x : Str} {c : Addr} {l : List (Str × Addr)} : big.lookup x = some c → CellsIn big l → CellsIn big ((x, c) :: l)
theorem CellsIn.mem {big : List (Str × Addr)} {x : Str} {c : Addr} : ∀ {l : List (Str × Addr)}, CellsIn big l → (x, c) ∈ l → big.lookup x = some c
  | _, .nil, h => by cases h
  | _, .cons e r, h => by
    rcases List.mem_cons.mp h with z | z
    · cases z
      exact e
    · exact r.mem z
theorem lcok {X : Cx} {N : List Str} {n : Nat} {js : List Nat} {scope : Scope} {cl : List (Str × Addr)} (clos : closureFor scope X.env = pure cl := by rfl) (nocell : (scope.names.all fun y => !(y.2 == .cell)) = true := by rfl) (kind : scope.kind = .function := by rfl)
    (names : (scope.names.all fun y => !(y.2 == .local) || scope.names.lookup y.1 == some .local) = true := by rfl) (cells : CellsIn X.env.cells cl := by repeat' first | exact CellsIn.nil | refine CellsIn.cons rfl ?_)
    (has : ((relabel scope X.env).names.all fun y => !(isCF (some y.2)) || (cl.lookup y.1).isSome) = true := by rfl) (len : n + js.length = N.length := by rfl)
    (free : ((N.drop n).zip js).all (fun p => X.N[p.2]? == some p.1 && isCF (X.env.scope.names.lookup p.1) && isCF ((relabel scope X.env).names.lookup p.1) && (cl.lookup p.1).isSome) = true := by rfl) : LcOk X N n js scope cl where
  clos := clos
  nocell := fun y hy e => by
    have h := List.all_eq_true.mp nocell y hy
    rw [e] at h
    cases h
  kind := kind
  names := fun y hy e => by
    have h := List.all_eq_true.mp names y hy
    rw [e] at h
    simpa using h
  cells := fun x c h => cells.mem (mem_of_look h)
  has := fun x h => by
    have key : ∀ k, (relabel scope X.env).names.lookup x = some k → isCF (some k) = true → ∃ c, cl.lookup x = some c := fun k e hk => by
      have h1 := List.all_eq_true.mp has (x, k) (mem_of_look e)
      rw [hk] at h1
      exact Option.isSome_iff_exists.mp (by simpa using h1)
    rcases h with h | h
    · exact key _ h rfl
    · exact key _ h rfl
  len := len
  free := fun i x h => by
    have hd : (N.drop n)[i]? = some x := by rw [List.getElem?_drop]; exact h
    have hi : i < (N.drop n).length := (List.getElem?_eq_some_iff.mp hd).1
    have hj : i < js.length := by rw [List.length_drop] at hi; omega
    have hz : ((N.drop n).zip js)[i]? = some (x, js[i]) := by
      rw [List.getElem?_zip_eq_some]
      exact ⟨hd, List.getElem?_eq_getElem hj⟩
    have h1 := List.all_eq_true.mp free (x, js[i]) (List.mem_of_getElem? hz)
    simp only [Bool.and_eq_true, beq_iff_eq] at h1
    obtain ⟨⟨⟨a1, a2⟩, a3⟩, a4⟩ := h1
    obtain ⟨c, hc⟩ := Option.isSome_iff_exists.mp a4
    exact ⟨js[i], c, List.getElem?_eq_getElem hj, a1, isCF_of a2, isCF_of a3, hc⟩

/-! ### loops of comprehensions as one word -/
def LcL (K : PySem.W.Frag) (a : Addr) (g : TG) (tt : TT) (te : TE) (σ0 : St) (H1 : Hp) (Q : VK) : Prop := ∀ D, H1 D = none → ∃ W : Nat → Nat → St → Hp → Prop, (∃ m, W 0 m σ0 (upd H1 D (.lst []))) ∧ ∀ i m σ' H', W i m σ' H' →
  ((Itl K a).stop i H' ∧ Q (.ref D) H') ∨ ((Itl K a).go i H' ∧ ∃ Nx : St → Hp → Prop, (∀ σ2 H2, Nx σ2 H2 → ∃ m', m' < m ∧ W (i + 1) m' σ2 H2) ∧
    ∀ x H2, (Itl K a).yld i H' x H2 → g x σ' H2 fun σ3 H3 => tt σ3 H3 fun ok H4 => if ok = true then te σ3 H4 fun y H5 => ∃ ys, H5 D = some (.lst ys) ∧ ys.length < sizeLine ∧ Nx σ3 (upd H5 D (.lst (ys ++ [y]))) else Nx σ3 H4)
theorem tLc_lst {K : PySem.W.Frag} {tl : TE} {n : Nat} {js : List Nat} {g : TG} {tt : TT} {te : TE} {σ : St} {H : Hp} {Q : VK} :
    tLc (iList K tl) n js g tt te σ H Q = tl σ H fun x H1 => ∃ a, x = .ref a ∧ (∃ xs, SqL K H1 a xs) ∧ LcL K a g tt te (pick n js σ) H1 Q := rfl
/-- over a list that stays: Pv by the turn, the new list's address D -/
theorem LcL.by {K : PySem.W.Frag} {a : Addr} {xs : List V} {g : TG} {tt : TT} {te : TE} {σ0 : St} {H1 : Hp} {Q : VK} (Pv : Addr → Nat → St → Hp → Prop) (h0 : ∀ D, H1 D = none → Pv D 0 σ0 (upd H1 D (.lst [])))
    (hl : ∀ D i σ H, H1 D = none → i ≤ xs.length → Pv D i σ H → SqL K H a xs)
    (hs : ∀ D i x σ H, H1 D = none → xs[i]? = some x → Pv D i σ H → g x σ H fun σ3 H3 => tt σ3 H3 fun ok H4 => if ok = true then te σ3 H4 fun y H5 => ∃ ys, H5 D = some (.lst ys) ∧ ys.length < sizeLine ∧ Pv D (i + 1) σ3 (upd H5 D (.lst (ys ++ [y]))) else Pv D (i + 1) σ3 H4)
    (hd : ∀ D σ H, H1 D = none → Pv D xs.length σ H → Q (.ref D) H) : LcL K a g tt te σ0 H1 Q := by
  intro D hD
  refine ⟨fun i m σ H => m = xs.length - i ∧ i ≤ xs.length ∧ Pv D i σ H, ⟨xs.length, by simp, Nat.zero_le _, h0 D hD⟩, ?_⟩
  rintro i m σ H ⟨rfl, hi, p⟩
  have q := hl D i σ H hD hi p
  by_cases hlt : i < xs.length
  · refine .inr ⟨⟨xs, xs[i], q, by simp [hlt]⟩, Pv D (i + 1), fun σ' H' p' => ⟨xs.length - (i + 1), by omega, rfl, hlt, p'⟩, fun x H' y => ?_⟩
    obtain ⟨e, y⟩ := y
    subst e
    exact hs D i x σ _ hD (y xs q) p
  · have e : i = xs.length := by omega
    subst e
    exact .inl ⟨⟨xs, q, Nat.le_refl _⟩, hd D σ H hD p⟩
def LcR (n0 : Nat) (g : TG) (tt : TT) (te : TE) (σ0 : St) (H1 : Hp) (Q : VK) : Prop := ∀ D, H1 D = none → ∃ W : Nat → Nat → St → Hp → Prop, (∃ m, W 0 m σ0 (upd H1 D (.lst []))) ∧ ∀ i m σ' H', W i m σ' H' →
  ((Itr 0 n0).stop i H' ∧ Q (.ref D) H') ∨ ((Itr 0 n0).go i H' ∧ ∃ Nx : St → Hp → Prop, (∀ σ2 H2, Nx σ2 H2 → ∃ m', m' < m ∧ W (i + 1) m' σ2 H2) ∧
    ∀ x H2, (Itr 0 n0).yld i H' x H2 → g x σ' H2 fun σ3 H3 => tt σ3 H3 fun ok H4 => if ok = true then te σ3 H4 fun y H5 => ∃ ys, H5 D = some (.lst ys) ∧ ys.length < sizeLine ∧ Nx σ3 (upd H5 D (.lst (ys ++ [y]))) else Nx σ3 H4)
theorem tLc_rng1 {ta : TA} {n : Nat} {js : List Nat} {g : TG} {tt : TT} {te : TE} {σ : St} {H : Hp} {Q : VK} :
    tLc (iRng1 ta) n js g tt te σ H Q = ta σ H fun vs H1 => ∃ j : Int, vs = [.int j] ∧ -(2 ^ 62) ≤ j ∧ j < 2 ^ 62 ∧ LcR j.toNat g tt te (pick n js σ) H1 Q := rfl
theorem LcR.by {n0 : Nat} {g : TG} {tt : TT} {te : TE} {σ0 : St} {H1 : Hp} {Q : VK} (Pv : Addr → Nat → St → Hp → Prop) (h0 : ∀ D, H1 D = none → Pv D 0 σ0 (upd H1 D (.lst [])))
    (hs : ∀ D i σ H, H1 D = none → i < n0 → Pv D i σ H → g (.int i) σ H fun σ3 H3 => tt σ3 H3 fun ok H4 => if ok = true then te σ3 H4 fun y H5 => ∃ ys, H5 D = some (.lst ys) ∧ ys.length < sizeLine ∧ Pv D (i + 1) σ3 (upd H5 D (.lst (ys ++ [y]))) else Pv D (i + 1) σ3 H4)
    (hd : ∀ D σ H, H1 D = none → Pv D n0 σ H → Q (.ref D) H) : LcR n0 g tt te σ0 H1 Q := by
  intro D hD
  refine ⟨fun i m σ H => m = n0 - i ∧ i ≤ n0 ∧ Pv D i σ H, ⟨n0, by simp, Nat.zero_le _, h0 D hD⟩, ?_⟩
  rintro i m σ H ⟨rfl, hi, p⟩
  by_cases hlt : i < n0
  · refine .inr ⟨hlt, Pv D (i + 1), fun σ' H' p' => ⟨n0 - (i + 1), by omega, rfl, hlt, p'⟩, fun x H' y => ?_⟩
    obtain ⟨e, y⟩ := y
    subst e y
    rw [Int.zero_add]
    exact hs D i σ _ hD hlt p
  · have e : i = n0 := by omega
    subst e
    exact .inl ⟨Nat.le_refl _, hd D σ H hD p⟩
end L2
/-! Cells, rows and pictures as data; where they lie. -/
namespace L2
open PySem PySem.Spec PyProof.Rows
abbrev Cel := Str × Int
abbrev Pict := List (List Cel)
def celD (c : Cel) : PyData := .tuple [.str c.1, .int c.2]
def rowD (r : List Cel) : PyData := .list (r.map celD)
def picD (p : Pict) : PyData := .list (p.map rowD)
def okC (c : Cel) : Prop := PyData.strOk c.1 = true
structure IsPic (p : Pict) (w h : Nat) : Prop where
  hh : p.length = h
  ww : ∀ r ∈ p, r.length = w
  ok : ∀ r ∈ p, ∀ c ∈ r, okC c
  w1 : 1 ≤ w
  w2 : w ≤ 24
  h1 : 1 ≤ h
  h2 : h ≤ 12
theorem Reps.at {K : PySem.W.Frag} {H : Hp} : ∀ {ds : List PyData} {xs : List V} (i : Nat) {d : PyData}, Reps K H ds xs → ds[i]? = some d → ∃ x, xs[i]? = some x ∧ Rep K H d x
  | [], _, i, d, _, e => by cases e
  | d0 :: ds, _, i, d, h, e => by
    obtain ⟨y, r, rfl, h1, h2⟩ := h
    cases i with
    | zero =>
      cases e
      exact ⟨y, rfl, h1⟩
    | succ i =>
      obtain ⟨x, e', h'⟩ := h2.at i (d := d) (by simpa using e)
      exact ⟨x, by simpa using e', h'⟩
section
variable {K : PySem.W.Frag} {H : Hp}
end
/-! ### a list of new pairs -/
def Tups (H : Hp) : List (Int × Int) → List V → Prop
  | [], xs => xs = []
  | p :: l, xs => ∃ t r, xs = .ref t :: r ∧ H t = some (.tup [.int p.1, .int p.2]) ∧ Tups H l r
theorem Tups.same {H H' : Hp} (e : ∀ b xs, H b = some (.tup xs) → H' b = some (.tup xs)) : ∀ {l : List (Int × Int)} {xs : List V}, Tups H l xs → Tups H' l xs
  | [], _, h => h
  | p :: l, _, h => by
    obtain ⟨t, r, e1, h1, h2⟩ := h
    exact ⟨t, r, e1, e _ _ h1, h2.same e⟩
theorem Tups.length {H : Hp} : ∀ {l : List (Int × Int)} {xs : List V}, Tups H l xs → xs.length = l.length
  | [], _, h => by rw [show _ = [] from h]; rfl
  | p :: l, _, h => by
    obtain ⟨t, r, rfl, _, h2⟩ := h
    rw [List.length_cons, List.length_cons, h2.length]
theorem Tups.snoc {H : Hp} {p : Int × Int} {t : Addr} (ht : H t = some (.tup [.int p.1, .int p.2])) : ∀ {l : List (Int × Int)} {xs : List V}, Tups H l xs → Tups H (l ++ [p]) (xs ++ [.ref t])
  | [], _, h => by
    rw [show _ = [] from h]
    exact ⟨t, [], rfl, ht, rfl⟩
  | q :: l, _, h => by
    obtain ⟨u, r, rfl, h1, h2⟩ := h
    exact ⟨u, r ++ [.ref t], rfl, h1, h2.snoc ht⟩
theorem Tups.at {H : Hp} : ∀ {l : List (Int × Int)} {xs : List V} (i : Nat) {x : V}, Tups H l xs → xs[i]? = some x → ∃ (t : Addr) (p : Int × Int), x = .ref t ∧ H t = some (.tup [.int p.1, .int p.2])
  | [], _, i, x, h, e => by
    rw [show _ = [] from h] at e
    cases e
  | p :: l, _, i, x, h, e => by
    obtain ⟨t, r, rfl, h1, h2⟩ := h
    cases i with
    | zero =>
      cases e
      exact ⟨t, p, rfl, h1⟩
    | succ i => exact h2.at i (by simpa using e)

/-! ### the places at which two pictures differ -/
def cellAt (p : Pict) (i j : Nat) : Cel := (p.getD i []).getD j (Str.ofString "", 0)
theorem cell_get {p : Pict} {w h : Nat} (ip : IsPic p w h) {i j : Nat} (hi : i < h) (hj : j < w) : ∃ r, p[i]? = some r ∧ r.length = w ∧ r[j]? = some (cellAt p i j) ∧ okC (cellAt p i j) := by
  have hl : i < p.length := by rw [ip.hh]; exact hi
  have hm : p[i] ∈ p := List.getElem_mem hl
  have hw := ip.ww _ hm
  have hj' : j < p[i].length := by rw [hw]; exact hj
  have e : cellAt p i j = p[i][j] := by
    unfold cellAt
    have e1 : p.getD i [] = p[i] := by rw [List.getD_eq_getElem?_getD, List.getElem?_eq_getElem hl, Option.getD_some]
    rw [e1, List.getD_eq_getElem?_getD, List.getElem?_eq_getElem hj', Option.getD_some]
  refine ⟨p[i], List.getElem?_eq_getElem hl, hw, ?_, ?_⟩
  · rw [e, List.getElem?_eq_getElem hj']
  · rw [e]
    exact ip.ok _ hm _ (List.getElem_mem hj')
end L2
/-! Lists that grow: what they hold lies in a part of the heap that is not changed. -/
namespace L2
open PySem PySem.Spec PyProof.Rows
/-- the list at r holds ds; what they are lies in a part G that has neither r nor av -/
def Bld (K : PySem.W.Frag) (H0 H : Hp) (av : List Addr) (r : Addr) (ds : List PyData) : Prop := ∃ G vs, Same H0 G ∧ Same G H ∧ (∀ b ∈ r :: av, G b = none) ∧ H r = some (.lst vs) ∧ Reps K G ds vs
section
variable {K : PySem.W.Frag} {H0 H H1 : Hp} {av : List Addr} {r t l : Addr} {ds es : List PyData} {d : PyData}
theorem Bld.new (hs : Same H0 H) (ha : ∀ b ∈ av, H0 b = none) (hr : H r = none) : Bld K H0 (upd H r (.lst [])) av r [] := by
  refine ⟨H0, [], fun _ _ e => e, same_upd hs (hs.free hr), fun b hb => ?_, upd_same, rfl⟩
  rcases List.mem_cons.mp hb with z | z
  · rw [z]
    exact hs.free hr
  · exact ha b z
theorem Bld.same (b : Bld K H0 H av r ds) (hs : Same H H1) : Bld K H0 H1 av r ds := by
  obtain ⟨G, vs, h1, h2, h3, h4, h5⟩ := b
  exact ⟨G, vs, h1, h2.trans hs, h3, hs _ _ h4, h5⟩
theorem Bld.base (b : Bld K H0 H av r ds) : Same H0 H := by
  obtain ⟨G, vs, h1, h2, _⟩ := b
  exact h1.trans h2
theorem Bld.lst (b : Bld K H0 H av r ds) : ∃ vs, H r = some (.lst vs) ∧ vs.length = ds.length := by
  obtain ⟨G, vs, h1, h2, h3, h4, h5⟩ := b
  exact ⟨vs, h4, h5.length.symm⟩
/-- a new tuple of flat things goes in -/
theorem Bld.tup {cs vs : List V} (b : Bld K H0 H av r ds) (hv : H r = some (.lst vs)) (ha : ∀ c ∈ av, ∃ o, H c = some o) (ht : H t = none) (hc : ∀ G, Reps K G es cs) :
    Bld K H0 (upd (upd H t (.tup cs)) r (.lst (vs ++ [.ref t]))) av r (ds ++ [.tuple es]) := by
  obtain ⟨G, ws, h1, h2, h3, h4, h5⟩ := b
  rw [hv] at h4
  cases h4
  have nr : t ≠ r := fun z => by rw [z, hv] at ht; cases ht
  have gt : G t = none := h2.free ht
  refine ⟨upd G t (.tup cs), _, h1.trans (same_new gt), fun c o q => ?_, fun c hc' => ?_, upd_same, ?_⟩
  · by_cases z : c = t
    · rw [z] at q ⊢
      rw [upd_same] at q
      rw [upd_ne nr, upd_same]
      exact q
    · rw [upd_ne z] at q
      have nc : c ≠ r := fun y => by rw [y, h3 r List.mem_cons_self] at q; cases q
      rw [upd_ne nc, upd_ne z]
      exact h2 _ _ q
  · have nc : c ≠ t := fun y => by
      rcases List.mem_cons.mp hc' with z | z
      · exact nr (y.symm.trans z)
      · obtain ⟨o, q⟩ := ha c z
        rw [y, ht] at q
        cases q
    rw [upd_ne nc]
    exact h3 c hc'
  · exact (Reps.same (same_new gt) _ _ h5).snoc ⟨t, cs, rfl, SqT.of upd_same, hc _⟩
/-- a list that was built goes in -/
theorem Bld.row {vs : List V} {G : Hp} (h1 : Same H0 G) (h3 : ∀ b ∈ r :: av, G b = none) (h5 : Reps K G ds vs) (b : Bld K G H (r :: av) l es) (hv : H r = some (.lst vs)) (nl : ∀ c ∈ r :: av, c ≠ l) :
    Bld K H0 (upd H r (.lst (vs ++ [.ref l]))) av r (ds ++ [.list es]) := by
  obtain ⟨G2, us, k1, k2, k3, k4, k5⟩ := b
  have gl : G2 l = none := k3 l List.mem_cons_self
  have nr : l ≠ r := (nl r List.mem_cons_self).symm
  have sn : Same G2 (upd G2 l (.lst us)) := same_new gl
  refine ⟨upd G2 l (.lst us), _, (h1.trans k1).trans sn, fun c o q => ?_, fun c hc => ?_, upd_same, ?_⟩
  · by_cases z : c = l
    · rw [z] at q ⊢
      rw [upd_same] at q
      rw [upd_ne nr, k4]
      exact q
    · rw [upd_ne z] at q
      have nc : c ≠ r := fun y => by rw [y, k3 r (List.mem_cons_of_mem _ List.mem_cons_self)] at q; cases q
      rw [upd_ne nc]
      exact k2 _ _ q
  · rw [upd_ne (nl c hc)]
    exact k3 c (List.mem_cons_of_mem _ hc)
  · exact (Reps.same (k1.trans sn) _ _ h5).snoc ⟨l, us, rfl, SqL.of upd_same, Reps.same sn _ _ k5⟩
theorem Bld.done (b : Bld K H0 H av r ds) : Rep K H (.list ds) (.ref r) := by
  obtain ⟨G, vs, h1, h2, h3, h4, h5⟩ := b
  exact ⟨r, vs, rfl, SqL.of h4, Reps.same h2 _ _ h5⟩
end
end L2
/-! A picture whose rows are lists of its own, that are changed in place. -/
namespace L2
open PySem PySem.Spec PyProof.Rows
def Grid (K : PySem.W.Frag) (H0 H : Hp) (r : Addr) (p : Pict) : Prop := ∃ (G : Hp) (as : List Addr), Same H0 G ∧ Same G H ∧ (∀ a ∈ r :: as, G a = none) ∧ (r :: as).Nodup ∧ H r = some (.lst (as.map V.ref)) ∧ as.length = p.length ∧
  ∀ (i : Nat) row, p[i]? = some row → ∃ a us, as[i]? = some a ∧ H a = some (.lst us) ∧ Reps K G (row.map celD) us
section
variable {K : PySem.W.Frag} {H0 H H1 : Hp} {r b t : Addr} {p : Pict} {row : List Cel}
theorem Grid.new (hs : Same H0 H) (hr : H r = none) : Grid K H0 (upd H r (.lst [])) r [] := by
  refine ⟨H0, [], fun _ _ e => e, same_upd hs (hs.free hr), fun b hb => ?_, by simp, upd_same, rfl, fun i row q => by simp at q⟩
  rw [List.mem_singleton.mp hb]
  exact hs.free hr
theorem Grid.same (g : Grid K H0 H r p) (hs : Same H H1) : Grid K H0 H1 r p := by
  obtain ⟨G, as, h1, h2, h3, h4, h5, h6, h7⟩ := g
  refine ⟨G, as, h1, h2.trans hs, h3, h4, hs _ _ h5, h6, fun i row q => ?_⟩
  obtain ⟨a, us, k1, k2, k3⟩ := h7 i row q
  exact ⟨a, us, k1, hs _ _ k2, k3⟩
theorem Grid.base (g : Grid K H0 H r p) : Same H0 H := by
  obtain ⟨G, as, h1, h2, _⟩ := g
  exact h1.trans h2
theorem Grid.lst (g : Grid K H0 H r p) : ∃ vs, H r = some (.lst vs) ∧ vs.length = p.length := by
  obtain ⟨G, as, h1, h2, h3, h4, h5, h6, h7⟩ := g
  exact ⟨_, h5, by rw [List.length_map]; exact h6⟩
theorem Grid.put {ys vs : List V} {H2 : Hp} (g : Grid K H0 H r p) (hv : H r = some (.lst vs)) (hy : Reps K H0 (row.map celD) ys) (hb : H b = none) (hs : Same H H2) (hb2 : H2 b = some (.lst ys)) : Grid K H0 (upd H2 r (.lst (vs ++ [.ref b]))) r (p ++ [row]) := by
  obtain ⟨G, as, h1, h2, h3, h4, h5, h6, h7⟩ := g
  rw [hv] at h5
  have h5 : vs = as.map V.ref := by cases h5; rfl
  subst h5
  have nb : ∀ (c : Addr) (o : HO), H c = some o → c ≠ b := fun c o q z => by
    rw [z, hb] at q
    cases q
  have inH : ∀ c ∈ as, ∃ o, H c = some o := fun c hc => by
    obtain ⟨i, hi, e⟩ := List.getElem_of_mem hc
    obtain ⟨a, us, k1, k2, _⟩ := h7 i _ (List.getElem?_eq_getElem (h6 ▸ hi))
    rw [List.getElem?_eq_getElem hi] at k1
    cases k1
    exact ⟨_, e ▸ k2⟩
  have nr := nb r _ hv
  have nin : b ∉ as := fun z => by
    obtain ⟨o, q⟩ := inH b z
    exact nb b o q rfl
  obtain ⟨n1, n2⟩ := List.nodup_cons.mp h4
  refine ⟨G, as ++ [b], h1, fun c o q => ?_, fun c hc => ?_, ?_, by rw [List.map_append]; exact upd_same, by simp [h6], fun i y q => ?_⟩
  · have c1 : c ≠ r := fun z => by rw [z, h3 r List.mem_cons_self] at q; cases q
    rw [upd_ne c1]
    exact hs _ _ (h2 _ _ q)
  · rcases List.mem_cons.mp hc with z | z
    · rw [z]
      exact h3 r List.mem_cons_self
    · rcases List.mem_append.mp z with z | z
      · exact h3 c (List.mem_cons_of_mem _ z)
      · rw [List.mem_singleton.mp z]
        exact h2.free hb
  · rw [List.nodup_cons]
    refine ⟨fun z => ?_, List.nodup_append.mpr ⟨n2, by simp, fun x hx y hy z => ?_⟩⟩
    · rcases List.mem_append.mp z with z | z
      · exact n1 z
      · exact nr (List.mem_singleton.mp z)
    · rw [z, List.mem_singleton.mp hy] at hx
      exact nin hx
  · by_cases hi : i < p.length
    · rw [List.getElem?_append_left hi] at q
      obtain ⟨a, us, k1, k2, k3⟩ := h7 i y q
      have ar : a ≠ r := fun z => n1 (z ▸ List.mem_of_getElem? k1)
      exact ⟨a, us, by rw [List.getElem?_append_left (h6 ▸ hi)]; exact k1, by rw [upd_ne ar]; exact hs _ _ k2, k3⟩
    · have e : i = p.length := by
        have := (List.getElem?_eq_some_iff.mp q).1
        simp at this
        omega
      subst e
      simp only [List.getElem?_concat_length, Option.some.injEq] at q
      subst q
      exact ⟨b, ys, by rw [← h6]; simp, by rw [upd_ne nr.symm]; exact hb2, Reps.same h1 _ _ hy⟩
theorem Grid.push {ys vs : List V} (g : Grid K H0 H r p) (hv : H r = some (.lst vs)) (hy : Reps K H0 (row.map celD) ys) (hb : H b = none) : Grid K H0 (upd (upd H b (.lst ys)) r (.lst (vs ++ [.ref b]))) r (p ++ [row]) := g.put hv hy hb (same_new hb) upd_same
theorem Reps.set {G : Hp} : ∀ {ds : List PyData} {xs : List V} (j : Nat) {d : PyData} {x : V}, Reps K G ds xs → Rep K G d x → Reps K G (ds.set j d) (xs.set j x)
  | [], _, j, d, x, h, _ => by
    rw [show _ = [] from h]
    rfl
  | d0 :: ds, _, j, d, x, h, h' => by
    obtain ⟨y, q, rfl, h1, h2⟩ := h
    cases j with
    | zero => exact ⟨x, q, rfl, h', h2⟩
    | succ j => exact ⟨y, _, rfl, h1, h2.set j h'⟩
theorem rep_cel {c : Cel} {u : V} (h : Rep K H (celD c) u) : ∃ t, u = .ref t ∧ SqT K H t [.str c.1, .int c.2] := by
  obtain ⟨t, xs, rfl, h1, x1, q1, rfl, e1, x2, q2, rfl, e2, e3⟩ := h
  cases e1
  cases e2
  cases e3
  exact ⟨t, rfl, h1⟩
/-- a cell of it, and the same with another cell there -/
theorem Grid.cell {i j : Nat} {c : Cel} (g : Grid K H0 H r p) (hi : p[i]? = some row) (hj : row[j]? = some c) : ∃ vs a us t, H r = some (.lst vs) ∧ atI vs (i : Int) = some (.ref a) ∧ H a = some (.lst us) ∧ us.length = row.length ∧ atI us (j : Int) = some (.ref t) ∧ SqT K H t [.str c.1, .int c.2] ∧
    ∀ H2 t2 z n, Same H H2 → H2 t2 = none → Grid K H0 (upd (upd H2 t2 (.tup [.str z, .int n])) a (.lst (us.set j (.ref t2)))) r (p.set i (row.set j (z, n))) := by
  obtain ⟨G, as, h1, h2, h3, h4, h5, h6, h7⟩ := g
  obtain ⟨a, us, k1, k2, k3⟩ := h7 i row hi
  obtain ⟨u, hu, ru⟩ := k3.at j (d := celD c) (by rw [List.getElem?_map, hj]; rfl)
  obtain ⟨t, rfl, ht⟩ := rep_cel (Rep.same h2 _ _ ru)
  obtain ⟨n1, n2⟩ := List.nodup_cons.mp h4
  have am : a ∈ as := List.mem_of_getElem? k1
  have ar : a ≠ r := fun z => n1 (z ▸ am)
  refine ⟨_, a, us, t, h5, atI_nat (by rw [List.getElem?_map, k1]; rfl), k2, by rw [← k3.length, List.length_map], atI_nat hu, ht, fun H2 t2 z n hs ht2 => ?_⟩
  have nt : ∀ (b : Addr) (o : HO), H2 b = some o → b ≠ t2 := fun b o q y => by
    rw [y, ht2] at q
    cases q
  have gt : G t2 = none := (h2.trans hs).free ht2
  have sn : Same G (upd G t2 (.tup [.str z, .int n])) := same_new gt
  refine ⟨upd G t2 (.tup [.str z, .int n]), as, h1.trans sn, fun b o q => ?_, fun b hb => ?_, h4, ?_, by rw [List.length_set]; exact h6, fun i' y q => ?_⟩
  · have na : b ≠ a := fun y => by
      rw [y] at q
      by_cases w : a = t2
      · exact nt a _ (hs _ _ k2) w
      · rw [upd_ne w, h3 a (List.mem_cons_of_mem _ am)] at q
        cases q
    rw [upd_ne na]
    by_cases w : b = t2
    · rw [w] at q ⊢
      rw [upd_same] at q ⊢
      exact q
    · rw [upd_ne w] at q ⊢
      exact hs _ _ (h2 _ _ q)
  · have nb : b ≠ t2 := by
      rcases List.mem_cons.mp hb with y | y
      · rw [y]
        exact nt r _ (hs _ _ h5)
      · obtain ⟨k, hk, e⟩ := List.getElem_of_mem y
        obtain ⟨a', us', m1, m2, _⟩ := h7 k _ (List.getElem?_eq_getElem (h6 ▸ hk))
        rw [List.getElem?_eq_getElem hk] at m1
        cases m1
        rw [← e]
        exact nt _ _ (hs _ _ m2)
    rw [upd_ne nb]
    exact h3 b hb
  · rw [upd_ne ar.symm, upd_ne (nt r _ (hs _ _ h5))]
    exact hs _ _ h5
  · by_cases e : i' = i
    · subst e
      have hl : i' < p.length := (List.getElem?_eq_some_iff.mp hi).1
      rw [List.getElem?_set_self hl] at q
      cases q
      refine ⟨a, _, k1, upd_same, ?_⟩
      rw [List.map_set]
      exact (Reps.same sn _ _ k3).set j ⟨t2, _, rfl, SqT.of upd_same, .str z, _, rfl, rfl, .int n, [], rfl, rfl, rfl⟩
    · rw [List.getElem?_set_ne (Ne.symm e)] at q
      obtain ⟨a', us', m1, m2, m3⟩ := h7 i' y q
      have na : a' ≠ a := fun w => by
        rw [w] at m1
        have l1 := (List.getElem?_eq_some_iff.mp m1)
        have l2 := (List.getElem?_eq_some_iff.mp k1)
        exact e ((List.getElem_inj n2).mp (l1.2.trans l2.2.symm))
      exact ⟨a', us', m1, by rw [upd_ne na, upd_ne (nt a' _ (hs _ _ m2))]; exact hs _ _ m2, Reps.same sn _ _ m3⟩
theorem Grid.done (g : Grid K H0 H r p) : Rep K H (picD p) (.ref r) := by
  obtain ⟨G, as, h1, h2, h3, h4, h5, h6, h7⟩ := g
  refine ⟨r, _, rfl, SqL.of h5, ?_⟩
  clear h5 h4 h3
  induction p generalizing as with
  | nil =>
    cases as with
    | nil => rfl
    | cons _ _ => cases h6
  | cons y p ih =>
    cases as with
    | nil => cases h6
    | cons a as =>
      obtain ⟨a', us, k1, k2, k3⟩ := h7 0 y rfl
      cases k1
      exact ⟨.ref a, as.map V.ref, rfl, ⟨a, us, rfl, SqL.of k2, Reps.same h2 _ _ k3⟩, ih as (by simpa using h6) fun i z q => h7 (i + 1) z (by simpa using q)⟩
end
end L2
/-! Rules whose reading names the text's facts, not the context's: for comprehensions' blocks. -/
namespace L2
open PySem PySem.Spec PyProof.Rows
section
variable {X : Cx} {K : PySem.W.Frag}
end
end L2
namespace L2
open PySem PySem.Spec PyProof.Rows
/-- the sum of two lists, wherever they lie -/
def rSum (K : PySem.W.Frag) : R2 := fun x y H Q => ∃ l b xs zs, x = .ref l ∧ y = .ref b ∧ SqL K H l xs ∧ SqL K H b zs ∧ xs.length + zs.length ≤ sizeLine ∧ ∀ p, H p = none → Q (.ref p) (upd H p (.lst (xs ++ zs)))
theorem sum_of {X : Cx} {K : PySem.W.Frag} (hK : X.K = K) : OpR X (binaryOp .Add) (rSum K) := by
  subst hK
  intro pins s σ H x y v u Q I rx ry h
  obtain ⟨l, b, xs, zs, rfl, rfl, hH, hB, hz, q⟩ := h
  cases rx
  cases ry
  obtain ⟨its, r, ⟨o1, n1, e1, c1, d1, m1⟩, z1⟩ := I.list hH
  obtain ⟨ita, r2, ⟨o2, n2, e2, c2, d2, m2⟩, z2⟩ := I.list hB
  obtain ⟨g1, g2, g3, g4⟩ := o1
  obtain ⟨f1, f2, f3, f4⟩ := o2
  simp only at c1 d1 m1 c2 d2 m2
  subst c1 d1 m1 c2 d2 m2
  have hs : its.length + ita.length ≤ sizeLine := by
    rw [← r.length, ← r2.length]
    exact hz
  have ea : its.toArray ++ ita.toArray = (its ++ ita).toArray := by simp
  refine concat_meets ⟨_, e1, rfl⟩ ⟨_, e2, rfl⟩ noFill_list_add seq_list_add F.slot_list_add F.entry_list_add (F.args_list_add_2 _ _) (list_addW l b its.toArray ita.toArray n1 n2 none none g4 f4 (by simpa using hs)) ⟨e1, e2, ?_⟩
  rw [ea]
  exact ⟨.ref _, _, I.lnew (t' := s.toks) (r.append r2) (by rw [List.length_append]; omega), rfl, q _ I.fresh⟩
theorem Reps.drop {K : PySem.W.Frag} {H : Hp} : ∀ {ds : List PyData} {xs : List V} (k : Nat), Reps K H ds xs → Reps K H (ds.drop k) (xs.drop k)
  | [], _, k, h => by
    rw [show _ = [] from h]
    simp only [List.drop_nil]
    rfl
  | d :: ds, _, k, h => by
    obtain ⟨y, q, rfl, h1, h2⟩ := h
    cases k with
    | zero => exact ⟨y, q, rfl, h1, h2⟩
    | succ k => exact h2.drop k
theorem Reps.take {K : PySem.W.Frag} {H : Hp} : ∀ {ds : List PyData} {xs : List V} (k : Nat), Reps K H ds xs → Reps K H (ds.take k) (xs.take k)
  | [], _, k, h => by
    rw [show _ = [] from h]
    simp only [List.take_nil]
    rfl
  | d :: ds, _, k, h => by
    obtain ⟨y, q, rfl, h1, h2⟩ := h
    cases k with
    | zero => rfl
    | succ k => exact ⟨y, _, rfl, h1, h2.take k⟩
theorem Reps.append {K : PySem.W.Frag} {H : Hp} : ∀ {ds es : List PyData} {xs ys : List V}, Reps K H ds xs → Reps K H es ys → Reps K H (ds ++ es) (xs ++ ys)
  | [], _, _, _, h, h' => by
    rw [show _ = [] from h]
    exact h'
  | d :: ds, _, _, _, h, h' => by
    obtain ⟨y, q, rfl, h1, h2⟩ := h
    exact ⟨y, _, rfl, h1, h2.append h'⟩
theorem IsPic.more {p : Pict} {w h : Nat} (ip : IsPic p w h) (h2 : h < 12) : IsPic (p ++ p.take 1) w (h + 1) := by
  have hm : ∀ r, r ∈ p ++ p.take 1 → r ∈ p := fun r hr => (List.mem_append.mp hr).elim id List.mem_of_mem_take
  have := ip.h1
  exact ⟨by rw [List.length_append, List.length_take, ip.hh]; omega, fun r hr => ip.ww r (hm r hr), fun r hr => ip.ok r (hm r hr), ip.w1, ip.w2, by omega, by omega⟩
theorem IsPic.rows {p : Pict} {w h w' : Nat} (g : List Cel → List Cel) (ip : IsPic p w h) (hg : ∀ r ∈ p, (g r).length = w') (hm : ∀ r c, c ∈ g r → c ∈ r) (h1 : 1 ≤ w') (h2 : w' ≤ 24) : IsPic (p.map g) w' h := by
  refine ⟨by rw [List.length_map, ip.hh], fun r hr => ?_, fun r hr c hc => ?_, h1, h2, ip.h1, ip.h2⟩
  · obtain ⟨y, hy, rfl⟩ := List.mem_map.mp hr
    exact hg y hy
  · obtain ⟨y, hy, rfl⟩ := List.mem_map.mp hr
    exact ip.ok y hy c (hm y c hc)
def turnP (p : Pict) (h w : Nat) : Pict := (List.range w).map fun c => (List.range h).map fun i => cellAt p i c
theorem IsPic.turn {p : Pict} {w h : Nat} (ip : IsPic p w h) (hw : w ≤ 12) : IsPic (turnP p h w) h w := by
  refine ⟨by simp [turnP], fun r hr => ?_, fun r hr c hc => ?_, ip.h1, by have := ip.h2; omega, ip.w1, hw⟩
  · obtain ⟨y, _, rfl⟩ := List.mem_map.mp hr
    simp
  · obtain ⟨y, hy, rfl⟩ := List.mem_map.mp hr
    obtain ⟨i, hi, rfl⟩ := List.mem_map.mp hc
    obtain ⟨_, _, _, _, ok⟩ := cell_get ip (List.mem_range.mp hi) (List.mem_range.mp hy)
    exact ok
end L2
/-! Exceptions of the text's own classes over the hand layer: raised, passing a frame, caught. -/
namespace L2
open PySem PySem.Spec PyProof.Rows

theorem dict_mapF (o : Obj) (f : Array Value → Array Value) : (o.mapFields f).dict = o.dict := by
  rcases o with ⟨_, _, q, _⟩
  cases q <;> rfl
/-- an exception in flight: its object, its newest entry (fp: these records) -/
def Fly (h : Heap) (e C : Addr) (fp : List Addr) : Prop := ∃ oe vs, h.get? e = some oe ∧ (oe.cls = .ref C ∧ oe.dict = none) ∧ oe.data = .fields vs ∧ 1 < vs.size ∧
  ((vs[1]? = some .none ∧ fp = [e]) ∨ ∃ T oT ts, vs[1]? = some (.ref T) ∧ T ≠ e ∧ h.get? T = some oT ∧ oT.data = .fields ts ∧ ts[3]? = some .none ∧ fp = [e, T])
theorem Fly.mem {h : Heap} {e C : Addr} {fp : List Addr} (F : Fly h e C fp) : ∀ b ∈ fp, ∃ o vs, h.get? b = some o ∧ o.data = .fields vs := by
  obtain ⟨oe, vs, he, _, hd, _, ⟨_, rfl⟩ | ⟨T, oT, ts, _, _, hT, hdT, _, rfl⟩⟩ := F
  · intro b hb
    cases List.mem_singleton.mp hb
    exact ⟨oe, vs, he, hd⟩
  · intro b hb
    rcases List.mem_cons.mp hb with rfl | hb
    · exact ⟨oe, vs, he, hd⟩
    · cases List.mem_singleton.mp hb
      exact ⟨oT, ts, hT, hdT⟩
theorem Fly.self {h : Heap} {e C : Addr} {fp : List Addr} (F : Fly h e C fp) : e ∈ fp := by
  obtain ⟨_, _, _, _, _, _, ⟨_, rfl⟩ | ⟨_, _, _, _, _, _, _, _, rfl⟩⟩ := F <;> exact List.mem_cons_self
theorem Fly.keep {h h' : Heap} {e C : Addr} {fp : List Addr} (F : Fly h e C fp) (k : ∀ b ∈ fp, ∀ o, h.get? b = some o → h'.get? b = some o) : Fly h' e C fp := by
  have hs := F.self
  obtain ⟨oe, vs, he, hc, hd, hz, h1 | ⟨T, oT, ts, h1, h2, hT, hdT, h3, rfl⟩⟩ := F
  · exact ⟨oe, vs, k _ hs _ he, hc, hd, hz, .inl h1⟩
  · exact ⟨oe, vs, k _ hs _ he, hc, hd, hz, .inr ⟨T, oT, ts, h1, h2, k _ (by simp) _ hT, hdT, h3, rfl⟩⟩

section
variable {M : Model} {A : Around} {E : Value → Shared → Prop} {s : Shared}
/-- what a frame's entry changes: the records fp, the frames' slots -/
structure Noted (fs fp : List Addr) (h h' : Heap) : Prop where
  keep : ∀ b o, h.get? b = some o → b ∉ fp → b ∉ fs → h'.get? b = some o
  slot : ∀ b o, h.get? b = some o → b ∉ fp → ∃ sl, h'.get? b = some { o with slots := sl }
  there : ∀ b o, h.get? b = some o → ∃ o', h'.get? b = some o'
theorem Noted.size {fs fp : List Addr} {h h' : Heap} (n : Noted fs fp h h') (hp : h'.objs.size < h.objs.size → False) : h.objs.size ≤ h'.objs.size := Nat.not_lt.mp hp

theorem entry_wp {base : Heap} {env : Env} {outer : List Env} {L e C : Addr} {oe : Obj} {vs : Array Value} {head : Value} {hadNext : Bool} {Q : Unit → Shared → Prop}
    (hfr : A.frames = some (env :: outer)) (hl : s.heap.FunFrames base (env :: outer)) (hf : env.frame = some L) (he : s.heap.get? e = some oe) (hc : oe.cls = .ref C ∧ oe.dict = none) (hd : oe.data = .fields vs) (hz : 1 < vs.size)
    (h : ∀ h' T, s.heap.objs.size ≤ T → s.heap.objs.size ≤ h'.objs.size → Noted (frs (env :: outer)) [e] s.heap h' → Fly h' e C [e, T] → Q () { s with heap := h' }) :
    wpAny M A (do let a ← frameOf env; let pl ← entryPlaceOf L hadNext; let b ← EntryCells.newEntry head a .none (rawInt L) .none pl; setField (.ref e) 1 b) (fun _ s' => wpAny M A (setFlight (.ref e) none) Q E s') E s := by
  have ef : e ∉ frs (env :: outer) := fun hm => by
    obtain ⟨_, o, ho, hn⟩ := hl.mem hm
    rw [he] at ho
    cases ho
    exact hn vs hd
  refine wpAny_bind (wpAny_frameOf_fun hfr hl hf fun h1 s1 => ?_)
  refine wpAny_bind (wpAny_entryPlaceOf fun pl hp => ?_)
  unfold EntryCells.newEntry newFields
  refine wpAny_bind (wpAny_newObj_type ?_ (hp.sizeOk5 _ _ _ _ _))
  generalize hO : ({ cls := .type "traceback", dict := none, data := .fields ([head, .ref L, .none, rawInt L, .none] ++ (if pl.isEmpty then List.replicate 6 Value.none else pl)).toArray } : Obj) = O
  have he1 : h1.get? e = some oe := (s1.2.1 e ef).trans he
  have he2 : (h1.push O).get? e = some oe := Heap.get?_push_of_some _ he1
  refine wpAny_setField he2 hd hz ?_
  have nTe : h1.objs.size ≠ e := Nat.ne_of_gt (Heap.lt_size he1)
  have hd3 := Obj.data_mapFields hd (·.setIfInBounds 1 (Value.ref h1.objs.size))
  have he3 := Heap.get?_update_self (Obj.mapFields (·.setIfInBounds 1 (Value.ref h1.objs.size))) he2 (Obj.isFreed_of_fields hd3)
  have hOd : O.data = .fields ([head, .ref L, .none, rawInt L, .none] ++ (if pl.isEmpty then List.replicate 6 Value.none else pl)).toArray := by rw [← hO]
  have hOf : O.isFreed = false := Obj.isFreed_of_fields hOd
  have hT3 : ((h1.push O).update e (Obj.mapFields (·.setIfInBounds 1 (Value.ref h1.objs.size)))).get? h1.objs.size = some O := (Heap.get?_update_other (h1.push O) (Obj.mapFields (·.setIfInBounds 1 (Value.ref h1.objs.size))) (Ne.symm nTe)).trans (Heap.get?_push_size h1 hOf)
  unfold setFlight
  refine wpAny_bind (wpAny_field he3 hd3 (x := .ref h1.objs.size) (by simp [hz]) ?_)
  rw [if_pos (show (Value.ref h1.objs.size != Value.none) = true from by simp)]
  have h3 : 3 < ([head, .ref L, .none, rawInt L, .none] ++ (if pl.isEmpty then List.replicate 6 Value.none else pl)).toArray.size := by
    simp only [List.size_toArray, List.length_append, List.length_cons, List.length_nil]
    omega
  have kp : ∀ b o, b ≠ e → h1.get? b = some o → (((h1.push O).update e (Obj.mapFields (·.setIfInBounds 1 (Value.ref h1.objs.size)))).update h1.objs.size (Obj.mapFields (·.setIfInBounds 3 ((none : Option Addr).elim Value.none fun f => rawInt f)))).get? b = some o := fun b o hb q => by
    rw [Heap.get?_update_other _ _ (Nat.ne_of_gt (Heap.lt_size q)), Heap.get?_update_other _ _ (Ne.symm hb)]
    exact Heap.get?_push_of_some _ q
  have hd4 := Obj.data_mapFields hOd (·.setIfInBounds 3 ((none : Option Addr).elim Value.none fun f => rawInt f))
  have he4 : (((h1.push O).update e (Obj.mapFields (·.setIfInBounds 1 (Value.ref h1.objs.size)))).update h1.objs.size (Obj.mapFields (·.setIfInBounds 3 ((none : Option Addr).elim Value.none fun f => rawInt f)))).get? e = some (oe.mapFields (·.setIfInBounds 1 (Value.ref h1.objs.size))) :=
    (Heap.get?_update_other _ _ nTe).trans he3
  refine wpAny_setField hT3 hOd h3 (h _ h1.objs.size (Nat.le_of_eq s1.1.symm) ?_ ⟨?_, ?_, ?_⟩ ?_)
  · rw [Heap.size_after_update, Heap.size_after_update, Heap.size_push, s1.1]
    exact Nat.le_succ _
  · intro b o q nb nf
    exact kp b o (fun z => nb (by simp [z])) ((s1.2.1 b nf).trans q)
  · intro b o q nb
    obtain ⟨sl, q2⟩ := s1.2.2 b o q
    exact ⟨sl, kp b _ (fun z => nb (by simp [z])) q2⟩
  · intro b o q
    by_cases z : b = e
    · rw [z]
      exact ⟨_, he4⟩
    · obtain ⟨sl, q2⟩ := s1.2.2 b o q
      exact ⟨_, kp b _ z q2⟩
  · refine ⟨_, _, he4, ⟨(Obj.cls_mapFields _ _).trans hc.1, (dict_mapF _ _).trans hc.2⟩, hd3, by simpa using hz, .inr ⟨_, _, _, by simp [hz], nTe, Heap.get?_update_self _ hT3 (Obj.isFreed_of_fields hd4), hd4, ?_, rfl⟩⟩
    rw [Array.getElem?_setIfInBounds_self_of_lt h3]
    rfl
theorem note_wp {base : Heap} {env : Env} {outer : List Env} {L e C : Addr} {fp : List Addr} {Q : Unit → Shared → Prop}
    (hfr : A.frames = some (env :: outer)) (hl : s.heap.FunFrames base (env :: outer)) (hf : env.frame = some L) (F : Fly s.heap e C fp)
    (h : ∀ h' T, s.heap.objs.size ≤ T → s.heap.objs.size ≤ h'.objs.size → Noted (frs (env :: outer)) fp s.heap h' → Fly h' e C [e, T] → Q () { s with heap := h' }) :
    wpAny M A (noteFrame (.ref e) env) (fun _ s' => wpAny M A (setFlight (.ref e) none) Q E s') E s := by
  obtain ⟨oe, vs, he, hc, hd, hz, ⟨h1, rfl⟩ | ⟨T, oT, ts, h1, nT, hT, hdT, h3, rfl⟩⟩ := F
  · unfold noteFrame
    simp only [hf]
    refine wpAny_bind (wpAny_field he hd h1 ?_)
    rw [if_neg (by decide)]
    exact entry_wp hfr hl hf he hc hd hz h
  · unfold noteFrame
    simp only [hf]
    refine wpAny_bind (wpAny_field he hd h1 ?_)
    rw [if_pos (show (Value.ref T != Value.none) = true from by simp)]
    refine wpAny_bind (wpAny_field hT hdT h3 ?_)
    rw [if_neg (show ¬ ((Value.none == rawInt L) = true) from by simp [rawInt])]
    refine wpAny_bind (wpAny_setField hT hdT (Array.getElem?_eq_some_iff.mp h3).1 ?_)
    have oth : ∀ b, b ≠ T → (s.heap.update T (Obj.mapFields (·.setIfInBounds 3 Value.none))).get? b = s.heap.get? b := fun b hb => Heap.get?_update_other _ _ (Ne.symm hb)
    have hd4 := Obj.data_mapFields hdT (·.setIfInBounds 3 Value.none)
    have hT4 := Heap.get?_update_self (Obj.mapFields (·.setIfInBounds 3 Value.none)) hT (Obj.isFreed_of_fields hd4)
    have noR : ∀ b o, s.heap.get? b = some o → (∀ vs, o.data ≠ .fields vs) → b ≠ T := fun b o hb hn z => by
      rw [z, hT] at hb
      cases hb
      exact hn ts hdT
    refine entry_wp (s := { s with heap := s.heap.update T (Obj.mapFields (·.setIfInBounds 3 Value.none)) }) hfr (hl.of_keeps fun b o hb hn => ⟨o, (oth b (noR b o hb hn)).trans hb, rfl⟩) hf ((oth e (Ne.symm nT)).trans he) hc hd hz fun h' T' z1 z2 N F' => ?_
    have sz : (s.heap.update T (Obj.mapFields (·.setIfInBounds 3 Value.none))).objs.size = s.heap.objs.size := Heap.size_after_update _ _ _
    have z1' : s.heap.objs.size ≤ T' := by rw [← sz]; exact z1
    have z2' : s.heap.objs.size ≤ h'.objs.size := by rw [← sz]; exact z2
    refine h h' T' z1' z2' ⟨fun b o q nb nf => ?_, fun b o q nb => ?_, fun b o q => ?_⟩ F'
    · have nbT : b ≠ T := fun z => nb (by simp [z])
      exact N.keep b o ((oth b nbT).trans q) (fun z => nb (by rw [List.mem_singleton] at z; simp [z])) nf
    · have nbT : b ≠ T := fun z => nb (by simp [z])
      exact N.slot b o ((oth b nbT).trans q) (fun z => nb (by rw [List.mem_singleton] at z; simp [z]))
    · by_cases z : b = T
      · rw [z]
        exact N.there T _ hT4
      · exact N.there b o ((oth b z).trans q)
theorem leave_wp {base : Heap} {env : Env} {outer : List Env} {L e C : Addr} {fp : List Addr} {Q : Unit → Shared → Prop}
    (hfr : A.frames = some (env :: outer)) (hl : s.heap.FunFrames base (env :: outer)) (hf : env.frame = some L) (F : Fly s.heap e C fp)
    (h : ∀ h' T, s.heap.objs.size ≤ T → s.heap.objs.size ≤ h'.objs.size → Noted (frs (env :: outer)) fp s.heap h' → Fly h' e C [e, T] → Q () { s with heap := h' }) :
    wpAny M A (leaving env (.ref e)) Q E s := by
  unfold leaving
  exact wpAny_bind (note_wp hfr hl hf F h)
end

/-! ### how an exception lies behind a call -/
/-- its records are younger than the call, nothing else of the caller's is changed -/
def CX1 (P : Program) (w : World) : CXT := fun outer H s E ev s' => ∃ e C fp H', ev = .ref e ∧ Fly s'.heap e C fp ∧ (∀ b ∈ fp, s.heap.get? b = none ∧ H' b = none) ∧ s'.os = s.os ∧ AllBare s'.gens ∧ Un (frs outer) [] H H' s.heap s'.heap ∧ HOk P w H' s'.heap ∧ E (.ref C) none H'
/-- its records are not the frame's, not pinned, not there at the entry -/
def FpX (X : Cx) (pins : List (Addr × Obj)) (H : Hp) (b : Addr) : Prop :=
  H b = none ∧ b ≠ X.env.locals ∧ b ∉ X.fs ∧ (b ∈ X.ex ∨ X.s₀.heap.get? b = none) ∧ (∀ x c, X.env.cells.lookup x = some c → c ≠ b) ∧ ∀ p ∈ X.pn ++ pins, p.1 ≠ b
theorem Inv.fpX {X : Cx} {pins : List (Addr × Obj)} {σ : St} {H H' : Hp} {s : Shared} {b : Addr} (I : Inv X pins σ H s) (hb : s.heap.get? b = none) (hn : H' b = none) : FpX X pins H' b := by
  have no : ∀ c o, s.heap.get? c = some o → c ≠ b := fun c o q z => by
    rw [z, hb] at q
    cases q
  refine ⟨hn, fun z => ?_, fun z => ?_, ?_, fun x c q => ?_, fun p hp => no _ _ (I.pin p hp).1⟩
  · obtain ⟨m, ⟨o, _, _, ho, _⟩, _⟩ := I.loc
    exact no _ _ ho z.symm
  · obtain ⟨_, o, ho, _⟩ := I.funs.mem z
    exact no _ _ ho rfl
  · by_cases hx : b ∈ X.ex
    · exact .inl hx
    · refine .inr ?_
      cases q : X.s₀.heap.get? b with
      | none => rfl
      | some o =>
        obtain ⟨o', q'⟩ := I.base.there b o q hx
        exact absurd rfl (no _ _ q')
  · obtain ⟨v, o, ho, _⟩ := I.cell x c q
    exact no _ _ ho
/-- an exception that comes up in a body -/
def Up (X : Cx) (W : XK) (ev : Value) (s' : Shared) : Prop := ∃ pins σ H e C fp, ev = .ref e ∧ Inv X pins σ H s' ∧ Fly s'.heap e C fp ∧ (∀ b ∈ fp, FpX X pins H b) ∧ W (.ref C) none H
/-- the body's wish is met by exceptions that come up so -/
def Lifts (X : Cx) (W : XK) : Prop := ∀ ev s', Up X W ev s' → X.xe ev s'
theorem Lifts.passes {X : Cx} {W : XK} (L : Lifts X W) : Passes (CX1 X.prog X.w) X W := by
  rintro pins σ H s ev s' I ⟨e, C, fp, H', rfl, F, hf, os, bare, un, hok, hw⟩
  have I' : Inv X pins σ H' s' := I.call' (ch := []) os un hok bare fun b z => absurd z (by simp)
  exact L _ _ ⟨pins, σ, H', e, C, fp, rfl, I', F, fun b hb => I.fpX (H' := H') (hf b hb).1 (hf b hb).2, hw⟩
/-- a def's body: an exception leaves the frame -/
theorem lifts_def {P : Program} {w : World} {K : PySem.W.Frag} {mg : Str → Option Value} {base : Heap} {N : List Str} {qual : Str} {scope : Scope} {f : Addr} {cd : Value} {A : Around} {outer : List Env} {s : Shared} {H : Hp} {E : XK} :
    Lifts (cxOf (CX1 P w) P w K mg base N qual scope f cd A outer s H E) E := by
  rintro ev s' ⟨pins, σ, H', e, C, fp, rfl, I, F, hf, hw⟩
  show wpAny (model P w) _ (leaving _ (.ref e)) _ _ s'
  refine leave_wp (base := base) (outer := outer) (L := s.heap.objs.size) I.ok.frames I.stack rfl F fun h' T z1 z2 N F' => ?_
  have fz : ∀ b ∈ fp, s.heap.get? b = none ∧ H' b = none := fun b hb => by
    obtain ⟨k0, _, _, k1, _⟩ := hf b hb
    rcases k1 with k1 | k1
    · exact absurd (show b ∈ ([] : List Addr) from k1) (by simp)
    · exact ⟨k1, k0⟩
  have old : ∀ b o, s.heap.get? b = some o → b ∉ fp := fun b o q z => by
    rw [(fz b z).1] at q
    cases q
  have u := I.base
  have notr : ∀ b o, H' b = some o → b ∉ fp ∧ b ∉ frs (envOfC qual scope s.heap.objs.size f cd :: outer) := fun b o q => by
    refine ⟨fun z => ?_, fun z => ?_⟩
    · rw [(fz b z).2] at q
      cases q
    · rw [I.stkFree b z] at q
      cases q
  refine ⟨e, C, [e, T], H', rfl, F', fun b hb => ?_, I.os, I.bare, ⟨fun b o q n hb hx => ?_, fun b o q n hb hx => ?_, u.free, fun b o q hx => ?_, u.tups, u.frzs, u.tbls⟩, fun b ob q => ?_, hw⟩
  · rcases List.mem_cons.mp hb with rfl | hb
    · exact fz _ F.self
    · cases List.mem_singleton.mp hb
      exact ⟨Heap.get?_none_of_le (Nat.le_trans I.sz z1), I.hok.fresh z1⟩
  · refine N.keep b o (u.keep b o q n hb hx) (old b o q) fun z => ?_
    rcases List.mem_cons.mp z with z | z
    · exact absurd (Heap.lt_size q) (by rw [z]; exact Nat.lt_irrefl _)
    · exact hb z
  · obtain ⟨sl, q1⟩ := u.slot b o q n hb hx
    obtain ⟨sl', q2⟩ := N.slot b _ q1 (old b o q)
    exact ⟨sl', q2⟩
  · obtain ⟨o', q1⟩ := u.there b o q hx
    exact N.there b o' q1
  · refine (I.hok b ob q).stay (fun c w' hc q2 => ?_) (fun _ z => z) fun _ _ z => z
    have hcH : ∃ o, H' c = some o := by
      rcases hc with z | z
      · rw [z]
        exact ⟨_, q⟩
      · exact ⟨_, z⟩
    obtain ⟨oc, hoc⟩ := hcH
    exact N.keep c w' q2 (notr c oc hoc).1 (notr c oc hoc).2
/-- behind a frame's entry the state is as it was -/
theorem Inv.noted {X : Cx} {pins : List (Addr × Obj)} {σ : St} {H : Hp} {s : Shared} {h' : Heap} {fp : List Addr} (I : Inv X pins σ H s) (N : Noted (frs X.stack) fp s.heap h') (hf : ∀ b ∈ fp, FpX X pins H b) : Inv X pins σ H { s with heap := h' } := by
  have old : ∀ b o, X.s₀.heap.get? b = some o → b ∉ X.ex → b ∉ fp := fun b o q hx z => by
    rcases (hf b z).2.2.2.1 with k | k
    · exact hx k
    · rw [k] at q
      cases q
  have far : ∀ b, b ≠ X.env.locals → b ∉ X.fs → b ∉ frs X.stack := fun b h1 h2 z => (List.mem_cons.mp (I.stkSub b z)).elim h1 h2
  have up : ∀ b o, X.s₀.heap.get? b = some o → b ≠ X.env.locals := fun b o q z => absurd (Heap.lt_size q) (by rw [z]; exact Nat.not_lt.mpr I.ok.above)
  have cel : ∀ x c, X.env.cells.lookup x = some c → ∀ v, s.heap.IsCell c v → h'.IsCell c v := fun x c q v ⟨o, ho, hd⟩ => by
    obtain ⟨sl, q2⟩ := N.slot c o ho fun z => (hf c z).2.2.2.2.1 x c q rfl
    exact ⟨_, q2, hd⟩
  have u := I.base
  refine ⟨I.ok, I.os, I.bare, ⟨fun b o q n hb hx => ?_, fun b o q n hb hx => ?_, u.free, fun b o q hx => ?_, u.tups, u.frzs, u.tbls⟩, ?_, fun x c q => ?_, I.free, I.freeC, fun p hp => ?_, fun b ob q => ?_, I.len⟩
  · exact N.keep b o (u.keep b o q n hb hx) (old b o q hx) (far b (up b o q) hb)
  · obtain ⟨sl, q1⟩ := u.slot b o q n hb hx
    obtain ⟨sl', q2⟩ := N.slot b _ q1 (old b o q hx)
    exact ⟨sl', q2⟩
  · obtain ⟨o', q1⟩ := u.there b o q hx
    exact N.there b o' q1
  · obtain ⟨m, ⟨o, es, ep, ho, r⟩, hl⟩ := I.loc
    obtain ⟨sl, q2⟩ := N.slot _ o ho fun z => (hf _ z).2.1 rfl
    refine ⟨m, ⟨_, es, ep, q2, r⟩, fun i x v e1 e2 e3 => ?_⟩
    obtain ⟨w', rw', l⟩ := hl i x v e1 e2 e3
    refine ⟨w', rw', ?_⟩
    rcases l with l | ⟨k, c, q, z⟩
    · exact .inl l
    · exact .inr ⟨k, c, q, cel x c q _ z⟩
  · obtain ⟨v, z⟩ := I.cell x c q
    exact ⟨v, cel x c q v z⟩
  · obtain ⟨q, n, ne, nf, d⟩ := I.pin p hp
    exact ⟨N.keep p.1 p.2 q (fun z => (hf _ z).2.2.2.2.2 p hp rfl) (far _ ne nf), n, ne, nf, d⟩
  · refine (I.hok b ob q).stay (fun c w' hc q2 => ?_) (fun _ z => z) fun _ _ z => z
    have hcH : ∃ o, H c = some o := by
      rcases hc with z | z
      · rw [z]
        exact ⟨_, q⟩
      · exact ⟨_, z⟩
    obtain ⟨oc, hoc⟩ := hcH
    refine N.keep c w' q2 (fun z => ?_) fun z => ?_
    · rw [(hf c z).1] at hoc
      cases hoc
    · rw [I.stkFree c z] at hoc
      cases hoc
end L2
/-! isinstance of an exception of the text's own classes. -/
namespace L2
open PySem PySem.W PySem.Spec PySem.Calls PyProof.Rows
/-- what of the text an exception's class must have -/
structure XClass (K : PySem.W.Frag) (C : Addr) : Prop where
  ga : findIn K (.ref C) "__getattribute__" = some (some (.builtin "BaseException.__getattribute__"))
  gh : findIn K (.ref C) "__getattr__" = some none
  cl : findIn K (.ref C) "__class__" = some (some (.builtin "object.__class__"))
  sp : specialIn K (.builtin "object.__class__") "__get__" = some (some (.builtin "getset_descriptor.__get__"))
  tk : takesIn K (.builtin "object.__class__") = some true
  mo : mroIn K C (.type "object") = some true
  mb : mroIn K C (.type "BaseException") = some true
  cs : (clsIn K C).isSome = true
section
variable {prog : Program} {w : World} {A : Around} {E : Value → Shared → Prop} {s : Shared} {K : PySem.W.Frag} {e C : Addr} {oe : Obj}
theorem exc_class {Q : Option Value → Shared → Prop} (XC : XClass K C) (X : K.In s.heap) (I : InstAt s.heap e oe C none) (h : Q (some (.ref C)) { s with toks := s.toks + 1 }) : wpAny (model prog w) A (getAttr? (.ref e) "__class__") Q E s := by
  obtain ⟨hh, g, d, t, os⟩ := s
  have L0 := I.type (M := model prog w)
  have L1 := looks_findIn (M := model prog w) X XC.ga
  have L2 := looks_findIn (M := model prog w) X XC.gh
  have L3 := looks_mroIn (M := model prog w) X XC.mb
  have hf : findObj K C none "__class__" = some (.bind (.builtin "getset_descriptor.__get__") (.builtin "object.__class__")) := by
    obtain ⟨cd, hc⟩ := Option.isSome_iff_exists.mp XC.cs
    unfold findObj
    rw [hc, Option.bind_some, XC.cl, Option.bind_some]
    simp [XC.sp, XC.tk]
  have L4 := looks_find (M := model prog w) X I hf
  have gaB := F.attr_ValueError.ga.bind (.ref e)
  have hx2 : (Value.builtin "BaseException.__getattribute__" == Value.builtin "object.__getattribute__") = false := by decide +kernel
  have hx1 : (onTheHeap (Value.ref C) && Value.builtin "BaseException.__getattribute__" == Value.builtin "object.__getattribute__") = false := by rw [hx2]; rfl
  unfold getAttr? getAttrBy? getAttrBy
  refine wpAny_bind (wpAny_mkText (wpAny_bind (wpAny_attempt (wpAny_holding (wpAny_bind (L0.at (wpAny_bind (L1.at ?_))))))))
  show wpAny _ _ (if (onTheHeap (Value.ref C) && Value.builtin "BaseException.__getattribute__" == Value.builtin "object.__getattribute__") = true then _ else getAttrByItsOwn _ _ _ _ _ _) _ _ _
  rw [hx1, if_neg (by decide)]
  unfold getAttrByItsOwn hookBefore
  rw [if_pos (show onTheHeap (Value.ref C) = true by rfl)]
  refine wpAny_bind (L2.at ?_)
  refine wpAny_bind (wpAny_attempt (wpAny_holding ?_))
  unfold callGetattribute boundAndCalled
  rw [if_neg (by decide)]
  refine wpAny_bind (wpAny_of_eq gaB ?_)
  refine wpAny_call (codeAny_call_builtin F.attr_ValueError.ga.plain F.entry_bexc_ga ?_)
  have hk : builtinKind "BaseException.__getattribute__" = some .slot := by decide +kernel
  have hsp : splitId "BaseException.__getattribute__" = some ("BaseException", "__getattribute__") := by decide +kernel
  have ha := F.args_bexc_ga (.ref e) (.str "__class__" t)
  simp only [checkBuiltinCall, hk, hsp]
  refine wpAny_bind ?_
  unfold isInstance
  repeat lk
  refine wpAny_run (h := none) (class_get (ox := oe) (od := none) X I XC.mo ?_)
  refine wpAny_pure (wpAny_pure ?_)
  exact handed_on rfl (wpAny_pure h)
theorem kitx_exc (XC : XClass K C) : KitX K (.ref e) (.ref C) (fun h => InstAt h e oe C none) where
  ty := fun _ _ _ I => I.type
  it := fun _ _ X _ => by
    obtain ⟨cd, hc⟩ := Option.isSome_iff_exists.mp XC.cs
    unfold clsIn at hc
    split at hc
    · rename_i c' d' cd' sl' ho
      intro A' Q' E' s' k q
      unfold isType loadHead
      exact wpAny_bind (wpAny_loadPart (k _ _ (X _ _ ho)) (wpAny_pure q))
    · cases hc
  ne := fun h tp dd its n sl X htp => by
    obtain ⟨cd, hc⟩ := Option.isSome_iff_exists.mp XC.cs
    refine Bool.eq_false_iff.mpr fun q => ?_
    have z : C = tp := Value.ref.inj (beq_iff_eq.mp q)
    subst z
    unfold clsIn at hc
    split at hc
    · rename_i c' d' cd' sl' ho
      have z := (X _ _ ho).symm.trans htp
      cases z
    · cases hc
  ca := fun X I k => exc_class XC X I k
end
end L2
/-! raise of an exception of the text's own classes, over the hand layer. -/
namespace L2
open PySem PySem.W PySem.Spec PySem.Calls PyProof.Rows
/-- what is tracked is there -/
theorem objok_there {P : Program} {w : World} {H : Hp} {h : Heap} {a : Addr} {o : HO} (x : ObjOk P w H h a o) : ∃ u, h.get? a = some u := by
  cases o with
  | lst xs =>
    obtain ⟨_, _, _, _, q⟩ := x
    exact ⟨_, q⟩
  | tup xs =>
    obtain ⟨_, _, _, ⟨_, q, _⟩⟩ := x
    exact ⟨_, q⟩
  | dK kvs =>
    obtain ⟨_, _, _, _, o, _, _, q, _⟩ := x
    exact ⟨_, q⟩
  | dT kvs =>
    obtain ⟨_, _, _, _, o, _, _, q, _⟩ := x
    exact ⟨_, q⟩
  | set S n =>
    obtain ⟨o, _, _, _, q, _⟩ := x
    exact ⟨_, q⟩
  | ins C dx fs =>
    obtain ⟨_, _, _, q, _⟩ := x
    exact ⟨_, q⟩
  | own y => exact x
  | xd fs =>
    obtain ⟨_, ⟨o, _, _, q, _⟩, _⟩ := x
    exact ⟨_, q⟩
  | rng lo hi =>
    obtain ⟨_, _, _, q⟩ := x
    exact ⟨_, q⟩
  | frz o u => exact ⟨_, x.1⟩
  | tbl ps => exact ⟨_, x⟩
  | met f y => exact ⟨_, x⟩
  | ext φ => exact x.2.1
theorem hok_none {P : Program} {w : World} {H : Hp} {h : Heap} {a : Addr} (x : HOk P w H h) (n : h.get? a = none) : H a = none := by
  cases q : H a with
  | none => rfl
  | some o =>
    obtain ⟨u, z⟩ := objok_there (x a o q)
    rw [n] at z
    cases z
/-- a class of the text's own whose road to the built-in one is bare -/
structure XMake (K : PySem.W.Frag) (C : Addr) : Prop where
  ex : ∃ B nid iid bmB, ExcBaseFacts B nid iid bmB ∧ excIn K C bmB nid = true
/-- what an own class is, as an object -/
theorem XMake.obj {K : PySem.W.Frag} {C : Addr} {h : Heap} (m : XMake K C) (X : K.In h) : ∃ B nid iid bmB, ExcBaseFacts B nid iid bmB ∧ ∃ bm ns nm qn bs hd sn sub ab col dd k0 k1 k2 k3 k5 mN,
    h.get? C = some (excClassObj nm qn C ns bs bm hd sn sub ab col dd k0 k1 k2 k3 k5 nid) ∧ h.Ns ns mN ∧ mN "__init__" = none ∧ OwnTail h bmB bm := by
  obtain ⟨B, nid, iid, bmB, F, z⟩ := m.ex
  refine ⟨B, nid, iid, bmB, F, ?_⟩
  unfold excIn at z
  split at z
  · rename_i d0 c0 s0 lk0
    split at z
    · rename_i A0 tl j0 j1 j2 j3 nm0 j5 hm0 hs0
      rw [Bool.and_eq_true, Bool.and_eq_true, Bool.and_eq_true, Bool.and_eq_true, Bool.and_eq_true] at z
      obtain ⟨⟨⟨⟨⟨z1, z2⟩, z3⟩, z4⟩, z5⟩, z6⟩ := z
      rw [beq_iff_eq.mp z1] at hm0
      rw [beq_iff_eq.mp z2] at hs0
      obtain ⟨n0, b0, r0, y0, q0, h0, t0, u0, a0, l0, del0⟩ := c0
      have e3 : del0 = false := by simpa using z3
      have e1 : r0 = .ref C :: tl := hm0
      have e2 : s0 = #[j0, j1, j2, j3, some (.builtin nid), j5] := by
        cases s0
        exact congrArg Array.mk hs0
      subst e1 e2 e3
      have g1 := Heap.Ns.of_isNs (isNs_of_in X z5)
      have g2 := nsMap_none_of_in X z5 (beq_iff_eq.mp z6)
      exact ⟨tl, y0, n0, q0, b0, h0, t0, u0, a0, l0, d0, j0, j1, j2, j3, j5, _, X _ _ lk0, g1, g2, tail_of_in X z4⟩
    · cases z
  · cases z
def tRaise (t : TA) (C : Addr) (W : XK) : TS := fun _ σ H => t σ H fun vs H1 => vs.length ≤ sizeLine ∧ W (.ref C) none H1
theorem ps_raise {X : Cx} {W : XK} {C : Addr} {x : Str} {np cpos pos : Pos} {e : Expr} {es : List Expr} {t : TA} (L : Lifts X W) (m : XMake X.K C) (hc : X.calm = true) (hg : Gl X x) (hm : X.mg x = some (.ref C)) (ha : PA X (e :: es) t)
    (hs : starEach (e :: es) X.env = (false, eval e X.env) :: starEach es X.env := by rfl) (hpl : (backTo cpos (starEach (e :: es) X.env)).any (·.1) = false := by rfl) (hdb : (x == ("__debug__" : Str)) = false := by decide) :
    PS X (.Raise (some (.Call (.Name x np) (e :: es) [] cpos)) none pos) (tRaise t C W) := by
  intro pins s σ H D I h
  obtain ⟨B, nid, iid, bmB, F, bm, ns, nm, qn, bs, hd, sn, sub, ab, col, dd, k0, k1, k2, k3, k5, mN, lc, ln, hni, TL⟩ := m.obj I.mod.kin
  refine wpAny_Raise_call_subT (nm := nm) (q := qn) (N := ns) (bs := bs) (hdct := hd) (sn := sn) (sub := sub) (ab := ab) (col := col) (dd := dd) (k0 := k0) (k1 := k1) (k2 := k2) (k3 := k3) (k5 := k5) F (TL.hasType F.hasBase) (I.ok.hd hc) hpl hni (ld_glob I hg hm ⟨rfl, ?_⟩ hdb)
  have ar := ha cpos pins s σ H _ I h
  rw [hs] at ar ⊢
  refine evalArgs_plain (thn ar fun us s1 ⟨vs, H1, I1, r, z, q⟩ => ?_)
  refine ⟨rfl, by rw [← r.length]; exact z, I1.bk _ _ lc, ln.keeps I1.bk, TL.keeps I1.bk, fun h' e' M => ?_⟩
  obtain ⟨t0, ht, _, _⟩ := M.there
  have I2 : Inv X pins σ H1 { s1 with heap := h' } := I1.kept (t' := s1.toks) M.keeps
  refine L _ _ ⟨pins, σ, H1, e', C, [e'], rfl, I2, ⟨_, _, ht, ⟨rfl, rfl⟩, rfl, Nat.lt_of_sub_pos (Nat.zero_lt_succ 4), .inl ⟨rfl, rfl⟩⟩, fun b hb => ?_, q⟩
  cases List.mem_singleton.mp hb
  exact I1.fpX M.new (hok_none I1.hok M.new)
/-- a def of the text that may raise -/
theorem Fun.okX {P : Program} {w : World} {K : PySem.W.Frag} {mg : Str → Option Value} {base : Heap} {x qual : Str} {st : Stmt} {f : Addr} {fd : FuncData} {N ps : List Str} {k : Nat} {sp : Sp} (F : Fun K x qual st f fd) (S : FnScope N ps (defScope st))
    (len : ∀ vs H Q E, sp vs H Q E → vs.length = ps.length)
    (hbody : ∀ (cdv : Value) (A : Around) (outer : List Env) (s : Shared) (H : Hp) (vs : List V) (Q : VK) (E : XK), Room k (A.deeper (envOfC qual (defScope st) s.heap.objs.size f cdv)) → sp vs H Q E →
      ∃ t, PSs (cxOf (CX1 P w) P w K mg base N qual (defScope st) f cdv A outer s H E) (defBody st) t ∧ t { nx := fun _ H' => Q .non H', rt := Q } (start N vs) H) : FnOk P w K mg base (CX1 P w) (k + 1) f fd ps sp := by
  obtain ⟨oc, od, kV, doc, pm, an, cdv, ct, osl, rfl, lk, hcd⟩ := F.ex
  exact fn_of lk hcd S len fun A outer s H vs Q E hr hsp => hbody cdv A outer s H vs Q E hr hsp
end L2
/-! try and except of the text's own classes, over the hand layer. -/
namespace L2
open PySem PySem.W PySem.Spec PySem.Calls PyProof.Rows
/-- within a try: what comes up is wanted as Z says; what was pinned stays so -/
abbrev Cx.tried (X : Cx) (pins : List (Addr × Obj)) (Z : Value → Shared → Prop) : Cx := { X with pn := X.pn ++ pins, xe := Z }
/-- within a suite: e is handled, and pinned; nothing comes up -/
abbrev Cx.suite (X : Cx) (pins : List (Addr × Obj)) (e : Addr) : Cx := { X with A := X.A.mark (some (.ref e)), calm := false, pn := X.pn ++ pins, xe := fun _ _ => False }
section
variable {X : Cx} {pins ps : List (Addr × Obj)} {σ : St} {H : Hp} {s : Shared} {Z : Value → Shared → Prop} {e : Addr}
theorem Inv.tried (I : Inv X pins σ H s) (Z : Value → Shared → Prop) : Inv (X.tried pins Z) [] σ H s :=
  ⟨⟨I.ok.mod, I.ok.kind, I.ok.glob, I.ok.blt, I.ok.above, I.ok.inj, I.ok.has, I.ok.cab, I.ok.hd, I.ok.frames, I.ok.stk, I.ok.exf, I.ok.bs, I.ok.bsz, I.ok.noex, I.ok.exfs, I.ok.funs, I.ok.frf⟩,
    I.os, I.bare, I.base, I.loc, I.cell, I.free, I.freeC, fun p hp => I.pin p (by simpa using hp), I.hok, I.len⟩
theorem Inv.untried (I : Inv (X.tried pins Z) ps σ H s) : Inv X pins σ H s :=
  ⟨⟨I.ok.mod, I.ok.kind, I.ok.glob, I.ok.blt, I.ok.above, I.ok.inj, I.ok.has, I.ok.cab, I.ok.hd, I.ok.frames, I.ok.stk, I.ok.exf, I.ok.bs, I.ok.bsz, I.ok.noex, I.ok.exfs, I.ok.funs, I.ok.frf⟩,
    I.os, I.bare, I.base, I.loc, I.cell, I.free, I.freeC, fun p hp => I.pin p (List.mem_append_left _ hp), I.hok, I.len⟩
theorem Inv.suite (I : Inv X pins σ H s) (e : Addr) (hz : (X.A.mark (some (.ref e))).frames = X.A.frames) : Inv (X.suite pins e) [] σ H s :=
  ⟨⟨I.ok.mod, I.ok.kind, I.ok.glob, I.ok.blt, I.ok.above, I.ok.inj, I.ok.has, I.ok.cab, fun z => (Bool.noConfusion z), hz.trans I.ok.frames, I.ok.stk, I.ok.exf, I.ok.bs, I.ok.bsz, I.ok.noex, I.ok.exfs, I.ok.funs, I.ok.frf⟩,
    I.os, I.bare, I.base, I.loc, I.cell, I.free, I.freeC, fun p hp => I.pin p (by simpa using hp), I.hok, I.len⟩
theorem Inv.unsuite (I : Inv (X.suite pins e) ps σ H s) (c : X.calm = true → X.A.handled = none) (hz : (X.A.mark (some (.ref e))).frames = X.A.frames) : Inv X pins σ H s :=
  ⟨⟨I.ok.mod, I.ok.kind, I.ok.glob, I.ok.blt, I.ok.above, I.ok.inj, I.ok.has, I.ok.cab, c, hz.symm.trans I.ok.frames, I.ok.stk, I.ok.exf, I.ok.bs, I.ok.bsz, I.ok.noex, I.ok.exfs, I.ok.funs, I.ok.frf⟩,
    I.os, I.bare, I.base, I.loc, I.cell, I.free, I.freeC, fun p hp => I.pin p (List.mem_append_left _ hp), I.hok, I.len⟩
/-- the name of the exception goes behind the suite -/
theorem Inv.forget (I : Inv X pins σ H s) : Inv X pins (List.replicate X.N.length none) H s :=
  I.weak (by rw [List.length_replicate]; exact I.len.symm) fun i v q => by
    rw [List.getElem?_replicate] at q
    split at q <;> cases q
theorem name_goes {M : Model} {A : Around} {E : Value → Shared → Prop} {n : Str} {pos : Pos} {Q : Unit → Shared → Prop} (I : Inv X pins σ H s) (hl : X.env.kindOf n = some .local) (h : ∀ s', Inv X pins (List.replicate X.N.length none) H s' → Q () s') :
    wpAny M A (do bindName X.env n .none; unbindBehindTheSuite X.env n pos) Q E s := by
  obtain ⟨m, hn, _⟩ := id I.loc
  obtain ⟨oL, _, _, hoL, _⟩ := id hn
  refine wpAny_nameGoes hl hn (by rw [I.ok.kind]; rfl) fun h' m' hn' hs => h _ ?_
  have kp : ∀ b o, b ≠ X.env.locals → s.heap.get? b = some o → h'.get? b = some o := fun b o nb q => (hs.2 b nb).trans q
  have far : ∀ b o, X.s₀.heap.get? b = some o → b ≠ X.env.locals := fun b o q z => absurd (Heap.lt_size q) (by rw [z]; exact Nat.not_lt.mpr I.ok.above)
  have u := I.base
  refine ⟨I.ok, I.os, I.bare, ⟨fun b o q nn hb hx => kp b o (far b o q) (u.keep b o q nn hb hx), fun b o q nn hb hx => ?_, u.free, fun b o q hx => ?_, u.tups, u.frzs, u.tbls⟩, ⟨m', hn', fun i x v _ q _ => ?_⟩, fun x c q => ?_, I.free, I.freeC, fun p hp => ?_, fun b ob q => ?_, List.length_replicate⟩
  · obtain ⟨sl, q1⟩ := u.slot b o q nn hb hx
    exact ⟨sl, kp b _ (far b o q) q1⟩
  · obtain ⟨o', q1⟩ := u.there b o q hx
    exact ⟨o', kp b o' (far b o q) q1⟩
  · rw [List.getElem?_replicate] at q
    split at q <;> cases q
  · obtain ⟨v, o, ho, hd⟩ := I.cell x c q
    exact ⟨v, o, kp c o (I.cne x c q) ho, hd⟩
  · obtain ⟨q, nn, ne, nf, d⟩ := I.pin p hp
    exact ⟨kp p.1 p.2 ne q, nn, ne, nf, d⟩
  · refine (I.hok b ob q).stay (fun c w' hc q2 => kp c w' (fun z => ?_) q2) (fun _ z => z) fun _ _ z => z
    have hcH : ∃ o, H c = some o := by
      rcases hc with z | z
      · rw [z]
        exact ⟨_, q⟩
      · exact ⟨_, z⟩
    obtain ⟨oc, hoc⟩ := hcH
    rw [z, I.free] at hoc
    cases hoc
/-- the place of its flight is taken away once more -/
theorem flight_wp {M : Model} {A : Around} {E : Value → Shared → Prop} {e C T : Addr} {fs : List Addr} {Q : Unit → Shared → Prop} (F : Fly s.heap e C [e, T]) (h : ∀ h', Noted fs [e, T] s.heap h' → Fly h' e C [e, T] → Q () { s with heap := h' }) :
    wpAny M A (setFlight (.ref e) none) Q E s := by
  obtain ⟨oe, vs, he, hc, hd, hz, ⟨_, z⟩ | ⟨T', oT, ts, h1, nT, hT, hdT, h3, z⟩⟩ := F
  · cases z
  · cases z
    unfold setFlight
    refine wpAny_bind (wpAny_field he hd h1 ?_)
    rw [if_pos (show (Value.ref T != Value.none) = true from by simp)]
    have l3 := (Array.getElem?_eq_some_iff.mp h3).1
    refine wpAny_setField hT hdT l3 ?_
    have d4 := Obj.data_mapFields hdT (·.setIfInBounds 3 ((none : Option Addr).elim Value.none fun f => rawInt f))
    have g4 := Heap.get?_update_self (Obj.mapFields (·.setIfInBounds 3 ((none : Option Addr).elim Value.none fun f => rawInt f))) hT (Obj.isFreed_of_fields d4)
    have oth : ∀ b, b ≠ T → (s.heap.update T (Obj.mapFields (·.setIfInBounds 3 ((none : Option Addr).elim Value.none fun f => rawInt f)))).get? b = s.heap.get? b := fun b hb => Heap.get?_update_other _ _ (Ne.symm hb)
    refine h _ ⟨fun b o q nb _ => (oth b fun z => nb (by simp [z])).trans q, fun b o q nb => ⟨o.slots, (oth b fun z => nb (by simp [z])).trans q⟩, fun b o q => ?_⟩ ⟨oe, vs, (oth e (Ne.symm nT)).trans he, hc, hd, hz, .inr ⟨T, _, _, h1, nT, g4, d4, ?_, rfl⟩⟩
    · by_cases z : b = T
      · rw [z]
        exact ⟨_, g4⟩
      · exact ⟨o, (oth b z).trans q⟩
    · rw [Array.getElem?_setIfInBounds_self_of_lt l3]
      rfl
/-- a try with one except, as a name: the suite returns; G: what it wants of what is returned -/
def tTry (tb : TS) (G : VK → Prop) : TS := fun D σ H => tb D σ H ∧ G D.rt
theorem ps_try {body : List Stmt} {x n : Str} {np hpos pos : Pos} {b0 : Stmt} {suite : List Stmt} {tb : TS} {W : XK} {G : VK → Prop} {i N : Nat} {D : Addr} (hN : X.N.length = N) (hnd : X.N.Nodup) (hi : X.N[i]? = some n) (hl : X.env.kindOf n = some .local)
    (hg : Gl X x) (hm : X.mg x = some (.ref D)) (hx : ∀ C H, W (.ref C) none H → exmOne X.K (.ref C) (.ref D) = some true)
    (hb : ∀ pins Z, Lifts (X.tried pins Z) W → PSs (X.tried pins Z) body tb)
    (hs : ∀ pins e C oe H' rt, W (.ref C) none H' → H' e = none → (e, oe) ∈ pins → (oe.cls = .ref C ∧ oe.dict = none) → (∃ vs, oe.data = .fields vs) → G rt → ∃ ts, PSs (X.suite pins e) (b0 :: suite) ts ∧ ts { nx := fun _ _ => False, rt := rt } ((List.replicate N none).set i (some (.ref e))) H')
    (hst : X.stack = X.env :: X.outer := by rfl) (hfr : X.env.frame = some X.env.locals := by rfl) (hdb : (x == ("__debug__" : Str)) = false := by decide) :
    PS X (.Try body [.ExceptHandler (some (.Name x np)) (some n) (b0 :: suite) hpos] [] [] pos) (tTry tb G) := by
  intro pins s σ H B I ⟨h1, h2⟩
  refine wpAny_Try_except ?_
  have mono : ∀ Z, Lifts (X.tried pins Z) W → wpAny (model X.prog X.w) X.A (execs body X.env) (fun f s₁ => match f with | .next => wpAny (model X.prog X.w) X.A (execs [] X.env) (SP X pins B) X.xe s₁ | f => SP X pins B f s₁) Z s := fun Z L => by
    refine wpAny_mono (hb pins Z L [] s σ H B (I.tried Z) h1) (fun f s1 q => ?_) fun _ _ z => z
    cases f with
    | next =>
      obtain ⟨σ', H', J, q⟩ := q
      exact wpAny_execs_nil ⟨σ', H', J.untried, q⟩
    | brk =>
      obtain ⟨σ', H', J, q⟩ := q
      exact ⟨σ', H', J.untried, q⟩
    | cont =>
      obtain ⟨σ', H', J, q⟩ := q
      exact ⟨σ', H', J.untried, q⟩
    | ret u =>
      obtain ⟨v, σ', H', J, r, q⟩ := q
      exact ⟨v, σ', H', J.untried, r, q⟩
  refine mono _ ?_
  rintro ev s' ⟨pins', σ', H', e, C, fp, rfl, I', F, hf, hw⟩
  have fr : X.A.frames = some (X.env :: X.outer) := I.ok.frames.trans (by rw [hst])
  have st : s'.heap.FunFrames X.base (X.env :: X.outer) := by
    have z := I'.stack
    rw [show (X.tried pins _).stack = X.env :: X.outer from hst] at z
    exact z
  refine note_wp (base := X.base) (outer := X.outer) fr st hfr F fun h' T z1 z2 NN F' => ?_
  rw [← hst] at NN
  have fT : FpX X pins H' T := (I'.untried).fpX (Heap.get?_none_of_le z1) (I'.hok.fresh z1)
  have fe : FpX X pins H' e := by
    obtain ⟨k0, k1, k2, k3, k4, k5⟩ := hf e F.self
    exact ⟨k0, k1, k2, k3, k4, fun p hp => k5 p (List.mem_append_left _ hp)⟩
  have I2 : Inv X pins (List.replicate X.N.length none) H' { s' with heap := h' } := (I'.noted NN hf).untried.forget
  have I3 := I2.suite e rfl
  have hfp : ∀ b ∈ [e, T], FpX X pins H' b := fun b hb => by
    rcases List.mem_cons.mp hb with z | z
    · rw [z]
      exact fe
    · rw [List.mem_singleton.mp z]
      exact fT
  refine wpAny_handleBy_cons (codeAny_handlers_test (ld_glob I3 hg hm ?_ hdb)) (by intro q; cases q)
  have LT : Looks (model X.prog X.w) h' (typeOf (.ref e)) (.ref C) := by
    obtain ⟨oe, _, he, hc, _⟩ := F'
    exact hc.1 ▸ (Looks.ld he).andThen .now
  refine (exm_one I3.kIn LT (hx C H' hw)).here ?_
  refine codeAny_handlers_suite_as (flight_wp (fs := frs X.stack) F' fun h5 N5 F5 => ?_)
  have I5 : Inv X pins (List.replicate X.N.length none) H' { s' with heap := h5 } := I2.noted N5 hfp
  obtain ⟨oe, vs, he, hc, hd, _⟩ := F5
  have I6 : Inv X (pins ++ [(e, oe)]) (List.replicate X.N.length none) H' { s' with heap := h5 } := I5.pins_of fun p hp => by
    rcases List.mem_append.mp hp with z | z
    · exact I5.pin p (List.mem_append_right _ z)
    · rw [List.mem_singleton.mp z]
      exact ⟨he, fe.1, fe.2.1, fe.2.2.1, fun v q => by rw [hd] at q; cases q⟩
  have I7 := I6.suite e rfl
  refine store_ok (X := X.suite (pins ++ [(e, oe)]) e) I7 hnd hi (.inl hl) (v := .ref e) rfl (fun s6 I8 => ?_) (.inr hl)
  obtain ⟨ts, ht, g⟩ := hs (pins ++ [(e, oe)]) e C oe H' _ hw fe.1 (by simp) hc ⟨vs, hd⟩ h2
  rw [← hN] at g
  refine wpAny_mono (ht [] s6 _ H' _ I8 g) (fun f s7 q => ?_) fun _ _ z => z.elim
  cases f with
  | next =>
    obtain ⟨_, _, _, q⟩ := q
    exact q.elim
  | brk =>
    obtain ⟨_, _, _, q⟩ := q
    exact q.elim
  | cont =>
    obtain ⟨_, _, _, q⟩ := q
    exact q.elim
  | ret u =>
    obtain ⟨v, σ7, H7, J, r, q⟩ := q
    have J2 := J.unsuite I.ok.hd rfl
    refine name_goes J2 hl fun s8 J3 => ⟨v, _, H7, J3.pins_of fun p hp => J3.pin p ?_, r, q⟩
    exact List.mem_append_right _ (List.mem_append_left _ hp)
/-- isinstance of the exception that is handled -/
theorem call_isexc {C : Addr} {oe : Obj} (XC : XClass X.K C) (hp : (e, oe) ∈ X.pn) (hc : oe.cls = .ref C ∧ oe.dict = none) (hd : ∃ vs, oe.data = .fields vs) :
    CallR X (.builtin "isinstance") (fun xs H Q => (∃ D b, xs = [.ref e, .ref D] ∧ kitOne X.K (.ref C) (.ref D) = some b ∧ Q (.bl b) H) ∨ ∃ n b, xs = [.ref e, .ty n] ∧ kitOne X.K (.ref C) (.type n) = some b ∧ Q (.bl b) H) := by
  intro pins s σ H xs us Q I r h
  have at0 : InstAt s.heap e oe C none := by
    obtain ⟨vs, hd⟩ := hd
    refine ⟨(I.pin _ (List.mem_append_left _ hp)).1, hc.1, ?_, ?_⟩
    · unfold notCls
      rw [hd]
    · rw [hc.2]
      trivial
  rcases h with ⟨D, b, rfl, k, q⟩ | ⟨n, b, rfl, k, q⟩
  · obtain ⟨u, c, rfl, ru, rc⟩ := r.two
    cases ru
    cases rc
    exact kia_one (kitx_exc (oe := oe) XC) I.kIn at0 k (fun z => nomatch z) fun tk => ⟨.bl b, H, I.tok tk, rfl, q⟩
  · obtain ⟨u, c, rfl, ru, rc⟩ := r.two
    cases ru
    cases rc
    exact kia_one (kitx_exc (oe := oe) XC) I.kIn at0 k (fun z => nomatch z) fun tk => ⟨.bl b, H, I.tok tk, rfl, q⟩
end
/-- a def of the text that may raise, called -/
structure CalX (P : Program) (w : World) (K : PySem.W.Frag) (mg : Str → Option Value) (base : Heap) (k : Nat) (x : Str) (dvs : List V) (sp : Sp) : Prop where
  ex : ∃ (f : Addr) (fd : FuncData) (ps : List Str) (ds : List Value), FnOk P w K mg base (CX1 P w) k f fd ps sp ∧ mg x = some (.ref f) ∧ keepIn K (.ref f) = true ∧ Binds K fd ps ds ∧ Vals dvs ds
theorem pass1 {X : Cx} : Passes (CX1 X.prog X.w) X E0 := by
  rintro pins σ H s ev s' I ⟨e, C, fp, H', rfl, F, hf, os, bare, un, hok, hw⟩
  exact hw.elim
theorem pe_calX {X : Cx} {k : Nat} {sp : Sp} {dvs : List V} {W : XK} {x : Str} {p pos : Pos} {e : Expr} {es : List Expr} {t : TA} (c : CalX X.prog X.w X.K X.mg X.base k x dvs sp) (ps : Passes (CX1 X.prog X.w) X W) (hr : Room k X.A) (hg : Gl X x) (ha : PA X (e :: es) t)
    (hdb : (x == ("__debug__" : Str)) = false := by decide) (hse : starEach (e :: es) X.env = (false, eval e X.env) :: starEach es X.env := by rfl) (hpl : (backTo pos (starEach es X.env)).any (·.1) = false := by rfl) :
    PE X (.Call (.Name x p) (e :: es) [] pos) (tCall sp dvs W t) := by
  obtain ⟨f, fd, qs, ds, F, hm, hk, hb, hd⟩ := c.ex
  exact pe_call F hr hg hm hk hb hd ps ha hdb hse hpl
end L2
/-! List comprehensions whose block has one cell of its own (a comprehension within reads it). -/
namespace L2
open PySem PySem.Spec PyProof.Rows
def cxLcC (X : Cx) (N : List Str) (scope : Scope) (cl : List (Str × Addr)) (y : Str) (C : Addr) (s : Shared) (H : Hp) (fp : List Addr) : Cx :=
  { cxLc X N scope cl C s H fp with env := compEnvC scope ((y, C + 1) :: cl) C X.env, fn := fun x => x == y }
structure LcOkC (X : Cx) (N : List Str) (n : Nat) (js : List Nat) (scope : Scope) (cl : List (Str × Addr)) (y : Str) : Prop where
  clos : closureFor scope X.env = pure cl
  one : ∀ k, cellsFrom k scope.names cl = (y, k) :: cl
  onep : ∀ h : Heap, pushCells h scope.names = h.push { cls := .type "cell", data := .cell none }
  kind : scope.kind = .function
  names : ∀ y ∈ scope.names, y.2 = .local → scope.names.lookup y.1 = some .local
  cells : ∀ x c, cl.lookup x = some c → X.env.cells.lookup x = some c
  has : ∀ x, ((relabel scope X.env).names.lookup x = some .cell ∨ (relabel scope X.env).names.lookup x = some .free) → x = y ∨ ∃ c, cl.lookup x = some c
  len : n + js.length = N.length
  free : ∀ (i : Nat) (x : Str), N[n + i]? = some x → ∃ j c, js[i]? = some j ∧ X.N[j]? = some x ∧ (X.env.scope.names.lookup x = some .cell ∨ X.env.scope.names.lookup x = some .free) ∧
    ((relabel scope X.env).names.lookup x = some .cell ∨ (relabel scope X.env).names.lookup x = some .free) ∧ cl.lookup x = some c ∧ x ≠ y
theorem own_look {cl : List (Str × Addr)} {y x : Str} {k c : Addr} (h : List.lookup x ((y, k) :: cl) = some c) : (x = y ∧ c = k) ∨ cl.lookup x = some c := by
  rw [List.lookup_cons] at h
  cases q : x == y with
  | true =>
    rw [q] at h
    exact .inl ⟨beq_iff_eq.mp q, (Option.some.inj h).symm⟩
  | false =>
    rw [q] at h
    exact .inr h
theorem own_else {cl : List (Str × Addr)} {y x : Str} {k : Addr} (h : x ≠ y) : List.lookup x ((y, k) :: cl) = cl.lookup x := by
  rw [List.lookup_cons, beq_eq_false_iff_ne.mpr h]
theorem own_self {cl : List (Str × Addr)} {y : Str} {k : Addr} : List.lookup y ((y, k) :: cl) = some k := by
  rw [List.lookup_cons, beq_self_eq_true]
section
variable {X : Cx} {pins : List (Addr × Obj)} {σ : St} {H : Hp} {s : Shared} {N : List Str} {n : Nat} {js : List Nat} {scope : Scope} {cl : List (Str × Addr)} {y : Str}
theorem LcOkC.far (L : LcOkC X N n js scope cl y) {fp : List Addr} {C b c : Addr} {x : Str} {z : Nat} (hf : ∀ b ∈ fp, FpOk X pins H b) (hlt : b < z) (hb : b ∈ fp) (hC : z ≤ C) (e : List.lookup x ((y, C + 1) :: cl) = some c) : c ≠ b := by
  rcases own_look e with ⟨_, q⟩ | q
  · rw [q]
    exact Nat.ne_of_gt (Nat.lt_of_lt_of_le hlt (Nat.le_succ_of_le hC))
  · exact (hf b hb).2.2.2.2.1 x c (L.cells x c q)
theorem LcOkC.low (L : LcOkC X N n js scope cl y) (I : Inv X pins σ H s) {x : Str} {c : Addr} (e : cl.lookup x = some c) : c < s.heap.objs.size := by
  obtain ⟨v, o, ho, _⟩ := I.cell x c (L.cells x c e)
  exact Heap.lt_size ho
theorem LcOkC.ok (L : LcOkC X N n js scope cl y) (I : Inv X pins σ H s) {fp : List Addr} (hf : ∀ b ∈ fp, FpOk X pins H b) (hlt : ∀ b ∈ fp, b < s.heap.objs.size) {C : Addr} (hC : s.heap.objs.size ≤ C) : (cxLcC X N scope cl y C s H fp).Ok where
  mod := I.ok.mod
  kind := L.kind
  glob := I.ok.glob
  blt := I.ok.blt
  above := hC
  inj := fun x x' c h1 h2 => by
    rcases own_look h1 with ⟨e1, q1⟩ | q1 <;> rcases own_look h2 with ⟨e2, q2⟩ | q2
    · rw [e1, e2]
    · exact absurd (Nat.lt_of_lt_of_le (L.low I q2) hC) (by rw [q1]; exact Nat.not_lt.mpr (Nat.le_succ C))
    · exact absurd (Nat.lt_of_lt_of_le (L.low I q1) hC) (by rw [q2]; exact Nat.not_lt.mpr (Nat.le_succ C))
    · exact I.ok.inj x x' c (L.cells x c q1) (L.cells x' c q2)
  has := fun x hx => by
    rcases L.has x hx with e | ⟨c, e⟩
    · rw [e]
      exact ⟨_, own_self⟩
    · by_cases q : x = y
      · rw [q]
        exact ⟨_, own_self⟩
      · exact ⟨c, (own_else q).trans e⟩
  cab := fun x c hx e => by
    have hx : x = y := beq_iff_eq.mp hx
    rw [hx] at e
    cases (own_self.symm.trans e)
    exact Nat.le_succ_of_le hC
  hd := I.ok.hd
  frames := I.ok.frames
  stk := .inl rfl
  exf := fun b hb => ⟨Nat.ne_of_lt (Nat.lt_of_lt_of_le (hlt b hb) hC), fun x c e => L.far hf (hlt b hb) hb hC e⟩
  bs := I.bs
  bsz := Nat.le_trans I.ok.bsz I.sz
  noex := fun b o e hb => by
    rcases (hf b hb).2.2.2.1 with z | z
    · exact I.ok.noex b o e z
    · exact absurd (Nat.lt_of_lt_of_le (Heap.lt_size (I.ok.bs b o e).1) z) (Nat.lt_irrefl _)
  exfs := fun b hb hz => by
    rcases List.mem_cons.mp (I.stkSub b hz) with z | z
    · exact (hf b hb).2.1 z
    · exact (hf b hb).2.2.1 z
  funs := I.stack
  frf := I.stkFree
end
end L2
namespace L2
open PySem PySem.Spec PyProof.Rows

/-! ### lists of pairs as tables -/
section
variable {κ : Type} [DecidableEq κ]
def valV (kvs : List (κ × V)) (k : κ) : Option V := (kvs.find? fun kv => decide (kv.1 = k)).map (·.2)
/-- in its place, or at the end -/
def putK (kvs : List (κ × V)) (k : κ) (v : V) : List (κ × V) :=
  if (kvs.any fun kv => decide (kv.1 = k)) = true then kvs.map (fun kv => if kv.1 = k then (kv.1, v) else kv) else kvs ++ [(k, v)]
def dropK (kvs : List (κ × V)) (k : κ) : List (κ × V) := kvs.filter fun kv => decide (kv.1 ≠ k)

theorem valV_pos {p : κ × V} {r : List (κ × V)} {k : κ} (e : p.1 = k) : valV (p :: r) k = some p.2 := by simp [valV, List.find?_cons, e]
theorem valV_neg {p : κ × V} {r : List (κ × V)} {k : κ} (e : ¬ p.1 = k) : valV (p :: r) k = valV r k := by simp [valV, List.find?_cons, e]
theorem valV_any (k : κ) : ∀ kvs : List (κ × V), (kvs.any fun kv => decide (kv.1 = k)) = (valV kvs k).isSome
  | [] => rfl
  | p :: r => by
    rw [List.any_cons]
    by_cases e : p.1 = k
    · simp only [valV_pos e, decide_eq_true e, Bool.true_or, Option.isSome_some]
    · rw [valV_neg e, decide_eq_false e, Bool.false_or]; exact valV_any k r
theorem length_putK (kvs : List (κ × V)) (k : κ) (v : V) : (putK kvs k v).length ≤ kvs.length + 1 := by
  unfold putK
  split
  · rw [List.length_map]; omega
  · rw [List.length_append, List.length_cons, List.length_nil]; omega
theorem putK_new {kvs : List (κ × V)} {k : κ} (v : V) (h : valV kvs k = none) : putK kvs k v = kvs ++ [(k, v)] := by
  unfold putK
  rw [valV_any, h]
  exact if_neg (by decide)

theorem RelO.isSome_eq {o : Option V} {u : Option Value} (r : RelO o u) : o.isSome = u.isSome := by
  cases o with
  | none => cases u with
    | none => rfl
    | some _ => exact (show False from r).elim
  | some _ => cases u with
    | none => exact (show False from r).elim
    | some _ => rfl
theorem RelO.getD {o : Option V} {u : Option Value} {d : V} {d' : Value} (r : RelO o u) (rd : RelV d d') : RelV (o.getD d) (u.getD d') := by
  cases o with
  | none => cases u with
    | none => exact rd
    | some _ => exact (show False from r).elim
  | some _ => cases u with
    | none => exact (show False from r).elim
    | some _ => exact r

/-- raw tables of the same keys -/
theorem KV.val {kvs : List (κ × V)} {vs : List (κ × Value)} (r : KV kvs vs) (k : κ) : RelO (valV kvs k) (valueAt vs k) := by
  unfold KV at r
  induction r with
  | nil => exact True.intro
  | @cons p q ps qs h t ih =>
    obtain ⟨h1, h2⟩ := h
    by_cases e : p.1 = k
    · have e' : q.1 = k := h1.symm.trans e
      have b : valueAt (q :: qs) k = some q.2 := by simp [valueAt, List.find?_cons, e']
      rw [valV_pos e, b]; exact h2
    · have e' : ¬ q.1 = k := fun z => e (h1.trans z)
      have b : valueAt (q :: qs) k = valueAt qs k := by simp [valueAt, List.find?_cons, e']
      rw [valV_neg e, b]; exact ih
theorem KV.any {kvs : List (κ × V)} {vs : List (κ × Value)} (r : KV kvs vs) (k : κ) : (kvs.any fun kv => decide (kv.1 = k)) = vs.any fun kv => decide (kv.1 = k) := by
  unfold KV at r
  induction r with
  | nil => rfl
  | cons h t ih => rw [List.any_cons, List.any_cons, ih, h.1]
theorem KV.repl {kvs : List (κ × V)} {vs : List (κ × Value)} (r : KV kvs vs) (k : κ) {y : V} {u : Value} (ry : RelV y u) :
    KV (kvs.map fun kv => if kv.1 = k then (kv.1, y) else kv) (vs.map fun kv => if kv.1 = k then (kv.1, u) else kv) := by
  unfold KV at r ⊢
  induction r with
  | nil => exact .nil
  | @cons p q ps qs h t ih =>
    rw [List.map_cons, List.map_cons]
    refine .cons ?_ ih
    obtain ⟨h1, h2⟩ := h
    by_cases e : p.1 = k
    · rw [if_pos e, if_pos (h1.symm.trans e)]; exact ⟨h1, ry⟩
    · rw [if_neg e, if_neg (fun z => e (h1.trans z))]; exact ⟨h1, h2⟩
theorem KV.put {kvs : List (κ × V)} {vs : List (κ × Value)} (r : KV kvs vs) (k : κ) {y : V} {u : Value} (ry : RelV y u) : KV (putK kvs k y) (stored vs k u) := by
  unfold putK stored
  rw [r.any k]
  by_cases e : (vs.any fun kv => decide (kv.1 = k)) = true
  · rw [if_pos e, if_pos e]; exact r.repl k ry
  · rw [if_neg e, if_neg e]; exact Paired.snoc r ⟨rfl, ry⟩
theorem KV.drop {kvs : List (κ × V)} {vs : List (κ × Value)} (r : KV kvs vs) (k : κ) : KV (dropK kvs k) (without vs k) := by
  unfold KV at r ⊢
  unfold dropK without
  induction r with
  | nil => exact .nil
  | @cons p q ps qs h t ih =>
    obtain ⟨h1, h2⟩ := h
    rw [List.filter_cons, List.filter_cons]
    by_cases e : p.1 = k
    · have a : ¬ decide (p.1 ≠ k) = true := by simp [e]
      have b : ¬ decide (q.1 ≠ k) = true := by simp [h1.symm.trans e]
      rw [if_neg a, if_neg b]; exact ih
    · have e' : ¬ q.1 = k := fun z => e (h1.trans z)
      have a : decide (p.1 ≠ k) = true := by simp [e]
      have b : decide (q.1 ≠ k) = true := by simp [e']
      rw [if_pos a, if_pos b]; exact .cons ⟨h1, h2⟩ ih
theorem KV.keys {kvs : List (κ × V)} {vs : List (κ × Value)} (r : KV kvs vs) : kvs.map (·.1) = vs.map (·.1) := by
  unfold KV at r
  induction r with
  | nil => rfl
  | cons h t ih => rw [List.map_cons, List.map_cons, ih, h.1]
theorem KV.length {kvs : List (κ × V)} {vs : List (κ × Value)} (r : KV kvs vs) : kvs.length = vs.length := Paired.length r
end


/-! ### a tracked dict, its keys ints and texts or tuples of these -/
theorem kV_is {P : Program} {w : World} {k : Key} {u : Value} (r : RelV (kV k) u) : (mixKind P w).is k u = true := by
  cases k with
  | inl i => obtain ⟨t, e⟩ := (show ∃ t, u = Value.int i t from r); subst e; exact mixKind_int P w i t
  | inr x => obtain ⟨t, e⟩ := (show ∃ t, u = Value.str x t from r); subst e; exact mixKind_str P w x t
theorem items_are {P : Program} {w : World} : ∀ {ks : List Key} {us : List Value}, Vals (ks.map kV) us → ItemsAre (mixKind P w) ks us
  | [], _, r => by rw [List.map_nil] at r; cases r; exact .nil
  | k :: ks, _, r => by
    rw [List.map_cons] at r
    cases r with
    | cons h t => exact .cons (kV_is h) (items_are t)

/-- raw entries of a dict with tuple keys -/
abbrev KT (H : Hp) : List (List Key × V) → List (List Key × Addr × Value) → Prop := Paired fun p q => p.1 = q.1 ∧ H q.2.1 = some (.tup (p.1.map kV)) ∧ RelV p.2 q.2.2
theorem KT.val {H : Hp} {kvs : List (List Key × V)} {xs : List (List Key × Addr × Value)} (r : KT H kvs xs) (k : List Key) : RelO (valV kvs k) ((atKey xs k).map (·.2)) := by
  induction r with
  | nil => exact True.intro
  | @cons p q ps qs h t ih =>
    obtain ⟨h1, _, h2⟩ := h
    by_cases e : p.1 = k
    · have e' : q.1 = k := h1.symm.trans e
      have b : atKey (q :: qs) k = some q.2 := by simp [atKey, List.find?_cons, e']
      rw [valV_pos e, b]; exact h2
    · have e' : ¬ q.1 = k := fun z => e (h1.trans z)
      have b : atKey (q :: qs) k = atKey qs k := by simp [atKey, List.find?_cons, e']
      rw [valV_neg e, b]; exact ih
theorem KT.repl {H : Hp} {kvs : List (List Key × V)} {xs : List (List Key × Addr × Value)} (r : KT H kvs xs) (k : List Key) {y : V} {u : Value} (ry : RelV y u) :
    KT H (kvs.map fun kv => if kv.1 = k then (kv.1, y) else kv) (xs.map (putAt k u)) := by
  induction r with
  | nil => exact .nil
  | @cons p q ps qs h t ih =>
    rw [List.map_cons, List.map_cons]
    refine .cons ?_ ih
    obtain ⟨h1, h2, h3⟩ := h
    unfold putAt
    by_cases e : p.1 = k
    · rw [if_pos e, if_pos (h1.symm.trans e)]; exact ⟨h1, h2, ry⟩
    · rw [if_neg e, if_neg (fun z => e (h1.trans z))]; exact ⟨h1, h2, h3⟩
theorem KT.put {H : Hp} {kvs : List (List Key × V)} {xs : List (List Key × Addr × Value)} (r : KT H kvs xs) (k : List Key) {b : Addr} {y : V} {u : Value} (hb : H b = some (.tup (k.map kV))) (ry : RelV y u) :
    KT H (putK kvs k y) (storedH xs k b u) := by
  have e : (kvs.any fun kv => decide (kv.1 = k)) = (atKey xs k).isSome := by
    rw [valV_any, (r.val k).isSome_eq, Option.isSome_map]
  unfold putK storedH
  rw [e]
  by_cases q : (atKey xs k).isSome = true
  · rw [if_pos q, if_pos q]; exact r.repl k ry
  · rw [if_neg q, if_neg q]; exact Paired.snoc r ⟨rfl, hb, ry⟩
theorem KT.keeps {H H' : Hp} {kvs : List (List Key × V)} {xs : List (List Key × Addr × Value)} (r : KT H kvs xs) (ht : ∀ b ys, H b = some (.tup ys) → H' b = some (.tup ys)) : KT H' kvs xs :=
  Paired.mapP r fun _ _ z => ⟨z.1, ht _ _ z.2.1, z.2.2⟩

section
variable {P : Program} {w : World} {H : Hp} {h : Heap} {a : Addr}
theorem rd_of {u : HO} (ok : HOk P w H h) (e : Rd H a u) : ObjOk P w H h a u := e.ok ok
theorem dk_rd {kvs : List (Key × V)} (ok : HOk P w H h) (e : Rd H a (.dK kvs)) : kvs.length ≤ sizeLine ∧ (a == sysModules) = false ∧ ∃ vs, KV kvs vs ∧ h.DictOf (mixKind P w) a vs :=
  show ObjOk P w H h a (.dK kvs) from rd_of ok e
theorem dk_of {kvs : List (Key × V)} (ok : HOk P w H h) (e : H a = some (.dK kvs)) : kvs.length ≤ sizeLine ∧ (a == sysModules) = false ∧ ∃ vs, KV kvs vs ∧ h.DictOf (mixKind P w) a vs := dk_rd ok (.inl e)
/-- a tracked tuple of ints and texts is a key -/
theorem key_of {ks : List Key} (ok : HOk P w H h) (e : H a = some (.tup (ks.map kV))) : (tupleKind (mixKind P w)).is h ks a := by
  obtain ⟨_, its, r, o, h1, h2, n, h3⟩ := (show ObjOk P w H h a (.tup (ks.map kV)) from ok a _ e)
  exact ⟨o, its.toArray, n, h1, h2, h3, by simpa using items_are r⟩
theorem dt_rd {kvs : List (List Key × V)} (ok : HOk P w H h) (e : Rd H a (.dT kvs)) : kvs.length ≤ sizeLine ∧ (a == sysModules) = false ∧
    ∃ xs, KT H kvs xs ∧ h.DictOfH (tupleKind (mixKind P w)) a xs := by
  obtain ⟨z, y, xs, r, o, es, ep, h1, h2, h3, h4, h5⟩ := (show ObjOk P w H h a (.dT kvs) from rd_of ok e)
  refine ⟨z, y, xs, r, o, es, ep, h1, h2, h3, h4, fun x hx => ?_, h5⟩
  have all : ∀ {l : List (List Key × V)} {m : List (List Key × Addr × Value)}, KT H l m → ∀ x ∈ m, (tupleKind (mixKind P w)).is h x.1 x.2.1 := by
    intro l m q
    induction q with
    | nil => intro x hx; exact nomatch hx
    | @cons p q ps qs hq t ih =>
      intro x hx
      rcases List.mem_cons.mp hx with e | hx
      · subst e
        exact key_of ok (by rw [← hq.1]; exact hq.2.1)
      · exact ih x hx
  exact all r x hx
theorem dt_of {kvs : List (List Key × V)} (ok : HOk P w H h) (e : H a = some (.dT kvs)) : kvs.length ≤ sizeLine ∧ (a == sysModules) = false ∧
    ∃ xs, KT H kvs xs ∧ h.DictOfH (tupleKind (mixKind P w)) a xs := dt_rd ok (.inl e)
end

/-- what the dict at a holds at the key y -/
def DGet (H : Hp) (a : Addr) (y : V) (r : Option V) : Prop :=
  (∃ kvs k, Rd H a (.dK kvs) ∧ y = kV k ∧ r = valV kvs k) ∨ ∃ kvs k b, Rd H a (.dT kvs) ∧ y = .ref b ∧ H b = some (.tup (k.map kV)) ∧ r = valV kvs k
/-- the heap behind a[y] = v -/
def DPut (H : Hp) (a : Addr) (y v : V) (H' : Hp) : Prop :=
  (∃ kvs k, H a = some (.dK kvs) ∧ y = kV k ∧ kvs.length < sizeLine ∧ H' = upd H a (.dK (putK kvs k v))) ∨
  ∃ kvs k b, H a = some (.dT kvs) ∧ y = .ref b ∧ H b = some (.tup (k.map kV)) ∧ kvs.length < sizeLine ∧ H' = upd H a (.dT (putK kvs k v))
theorem DGet.k {H : Hp} {a : Addr} {kvs : List (Key × V)} {k : Key} (e : H a = some (.dK kvs)) : DGet H a (kV k) (valV kvs k) := .inl ⟨kvs, k, .inl e, rfl, rfl⟩
theorem DGet.t {H : Hp} {a b : Addr} {kvs : List (List Key × V)} {k : List Key} (e : H a = some (.dT kvs)) (eb : H b = some (.tup (k.map kV))) : DGet H a (.ref b) (valV kvs k) := .inr ⟨kvs, k, b, .inl e, rfl, eb, rfl⟩
theorem DPut.k {H : Hp} {a : Addr} {kvs : List (Key × V)} {k : Key} {v : V} (e : H a = some (.dK kvs)) (hl : kvs.length < sizeLine) : DPut H a (kV k) v (upd H a (.dK (putK kvs k v))) := .inl ⟨kvs, k, e, rfl, hl, rfl⟩
theorem DPut.t {H : Hp} {a b : Addr} {kvs : List (List Key × V)} {k : List Key} {v : V} (e : H a = some (.dT kvs)) (eb : H b = some (.tup (k.map kV))) (hl : kvs.length < sizeLine) :
    DPut H a (.ref b) v (upd H a (.dT (putK kvs k v))) := .inr ⟨kvs, k, b, e, rfl, eb, hl, rfl⟩


section
variable {X : Cx} {pins : List (Addr × Obj)} {σ : St} {H : Hp} {s : Shared} {a : Addr} {y v : V} {u r : Value} {o : Option V} {A : Around} {E : Value → Shared → Prop}

theorem Inv.big (I : Inv X pins σ H s) : sysModules < s.heap.objs.size := by
  have h : mainGlobals < s.heap.objs.size := (I.mod.glob.keeps I.bk).lt
  exact Nat.lt_trans (by decide) h

/-- d[y], there -/
theorem d_getItem {Q : Value → Shared → Prop} (hu : A.units + 1 < cLine) (I : Inv X pins σ H s) (g : DGet H a y (some v)) (ry : RelV y u) (h : ∀ w' s', Inv X pins σ H s' → RelV v w' → Q w' s') :
    wpAny (model X.prog X.w) A (getItem (.ref a) u) Q E s := by
  rcases g with ⟨kvs, k, e, ey, l⟩ | ⟨kvs, k, b, e, ey, eb, l⟩
  · subst ey
    obtain ⟨z, hd, vs, rel, dd⟩ := dk_rd I.hok e
    obtain ⟨w', hw, rw'⟩ := RelO.some_of (v := v) (o := valueAt vs k) (by rw [l]; exact rel.val k)
    exact wpAny_getItem_of (kV_is ry) dd.mapOf hw (h w' _ (I.tok _) rw')
  · subst ey
    cases (show u = Value.ref b from ry)
    obtain ⟨z, hd, xs, rel, dd⟩ := dt_rd I.hok e
    obtain ⟨w', hw, rw'⟩ := RelO.some_of (v := v) (o := (atKey xs k).map (·.2)) (by rw [l]; exact rel.val k)
    obtain ⟨p, hp, hp2⟩ := Option.map_eq_some_iff.mp hw
    refine wpAny_getItem_heap (tupleKind_room_in1 hu) (key_of I.hok eb) dd hp ?_
    rw [hp2]
    exact h w' _ (I.tok _) rw'
/-- a dict's object is replaced -/
theorem d_write {h' : Heap} {t' : Nat} {ob : HO} (I : Inv X pins σ H s) (mu : Mut (H a)) (hs : Heap.SameBut a s.heap h') (he : ∃ q, h'.get? a = some q) (new : ObjOk X.prog X.w (upd H a ob) h' a ob) :
    Inv X pins σ (upd H a ob) { s with heap := h', toks := t' } :=
  I.write (x := a) (e := a) mu (.inl rfl) (fun b q hb z => (hs.2 b hb).trans z) he new
theorem dk_new {P : Program} {w : World} {H' : Hp} {h' : Heap} {kvs : List (Key × V)} {vs : List (Key × Value)} (z : kvs.length ≤ sizeLine) (hd : (a == sysModules) = false) (rel : KV kvs vs) (dd : h'.DictOf (mixKind P w) a vs) :
    ObjOk P w H' h' a (.dK kvs) := ⟨z, hd, vs, rel, dd⟩
/-- d[y] = v -/
theorem d_setItem {H' : Hp} {Q : Unit → Shared → Prop} (hu : A.units + 1 < cLine) (I : Inv X pins σ H s) (g : DPut H a y v H') (ry : RelV y u) (rv : RelV v r) (h : ∀ s', Inv X pins σ H' s' → Q () s') :
    wpAny (model X.prog X.w) A (setItem (.ref a) u r) Q E s := by
  rcases g with ⟨kvs, k, e, ey, l, eH⟩ | ⟨kvs, k, b, e, ey, eb, l, eH⟩
  · subst ey eH
    obtain ⟨z, hd, vs, rel, dd⟩ := dk_of I.hok e
    have hz : vs.length ≤ sizeLine := by rw [← rel.length]; exact z
    have hl : (putK kvs k v).length ≤ sizeLine := by have := length_putK kvs k v; omega
    refine wpAny_setItem_pairs (hsz := hz) (kV_is ry) dd fun h' dd' hs => h _ ?_
    have he : ∃ q, h'.get? a = some q := let ⟨q, _, _, hq, _⟩ := dd'; ⟨q, hq⟩
    exact d_write I (by rw [e]; exact True.intro) hs he (dk_new hl hd (rel.put k rv) dd')
  · subst ey eH
    cases (show u = Value.ref b from ry)
    obtain ⟨z, hd, xs, rel, dd⟩ := dt_of I.hok e
    have hz : xs.length ≤ sizeLine := by rw [← Paired.length rel]; exact z
    have hl : (putK kvs k v).length ≤ sizeLine := by have := length_putK kvs k v; omega
    refine wpAny_setItem_heap (hsz := hz) (tupleKind_room_in1 hu) (key_of I.hok eb) dd fun h' dd' hs => h _ ?_
    obtain ⟨q, es, ep, hq, h2, h3, h4, _, h5⟩ := dd'
    refine d_write I (by rw [e]; exact True.intro) hs ⟨q, hq⟩ ⟨hl, hd, _, (rel.put k eb rv).keeps fun c ys ec => ?_, q, es, ep, hq, h2, h3, h4, h5⟩
    rw [upd_ne (ne_of ec e (fun z => nomatch z))]
    exact ec
end

section
variable {X : Cx} {pins : List (Addr × Obj)} {σ : St} {H : Hp} {s : Shared} {a : Addr} {kvs : List (Key × V)} {k : Key} {u : Value} {A : Around} {E : Value → Shared → Prop}
end


/-! ### readings and rules -/
/-- the element of a subscription, not a slice -/
def NoSl (i : Expr) : Prop := ∀ ov iv, subscripted i false ov iv = operate [ov, iv] (getItem ov iv)
theorem subD_of {prog : Program} {w : World} {A : Around} {E : Value → Shared → Prop} {s : Shared} {env : Env} {value slice : Expr} {pos : Pos} {T id : String} {Q : Value → Shared → Prop}
    (hl : typeLookup (.type T) "__getitem__" = pure (some (.builtin id))) (hs : NoSl slice)
    (h : wpAny (model prog w) A (eval value env) (fun o s₁ => wpAny (model prog w) A (eval slice env) (fun i s₂ => s₂.TypeIs o T ∧ wpAny (model prog w) A (getItem o i) Q E s₂) E s₁) E s) :
    wpAny (model prog w) A (eval (.Subscript value slice pos) env) Q E s := by
  refine Subscript_ (wpAny_mono h (fun o s₁ h₁ => wpAny_mono h₁ (fun i s₂ h₂ => ?_) fun _ _ x => x) fun _ _ x => x)
  obtain ⟨hT, h₂⟩ := h₂
  unfold subscriptTail
  refine wpAny_bind ?_
  rw [getitemInPython_of_ne hT.not_modules]
  refine wpAny_bind (wpAny_specialOf hT hl ?_)
  have fin : wpAny (model prog w) A (subscripted slice false o i) (fun r s₃ => wpAny (model prog w) A (letTemporaryGo value o r >>= fun _ => pure r) Q E s₃) E s₂ := by
    rw [hs o i]
    exact wpAny_operating (wpAny_mono h₂ (fun r s₃ h₃ => wpAny_bind (wpAny_letTemporaryGo (wpAny_pure h₃))) fun _ _ x => x)
  first
    | exact wpAny_pure (wpAny_bind fin)
    | exact wpAny_bind (wpAny_pure (wpAny_bind fin))
    | exact wpAny_bind fin

theorem dict_typeIs {X : Cx} {pins : List (Addr × Obj)} {σ : St} {H : Hp} {s : Shared} {a : Addr} {y : V} {o : Option V} (I : Inv X pins σ H s) (g : DGet H a y o) : s.TypeIs (.ref a) "dict" := by
  rcases g with ⟨kvs, k, e, _, _⟩ | ⟨kvs, k, b, e, _, _, _⟩
  · obtain ⟨_, _, vs, _, dd⟩ := dk_rd I.hok e
    exact dd.typeIs
  · obtain ⟨_, _, xs, _, dd⟩ := dt_rd I.hok e
    exact dd.typeIs
/-- d[y] -/
def tDGet (td ty : TE) : TE := fun σ H Q => td σ H fun x H1 => ty σ H1 fun y H2 => ∃ a v, x = .ref a ∧ DGet H2 a y (some v) ∧ Q v H2
/-- d[y] = v -/
def sDPut (td ty tv : TE) : TS := fun D σ H => tv σ H fun v H1 => td σ H1 fun x H2 => ty σ H2 fun y H3 => ∃ a H4, x = .ref a ∧ DPut H3 a y v H4 ∧ D.nx σ H4
section
variable {X : Cx} {o i e value : Expr} {pos pos' tpos : Pos} {td ty tv : TE}
theorem pe_dget (hu : X.A.units + 1 < cLine) (ho : PE X o td) (hi : PE X i ty) (hs : NoSl i) : PE X (.Subscript o i pos) (tDGet td ty) := by
  intro pins s σ H Q I h
  refine subD_of PySem.F.slot_dict_getitem.lookup hs (thn (ho pins s σ H _ I h) fun u s1 ⟨x, H1, I1, rx, q1⟩ => thn (hi pins s1 σ H1 _ I1 q1) fun iv s2 ⟨y, H2, I2, ry, a, v, ex, g, q2⟩ => ?_)
  subst ex
  obtain rfl : u = Value.ref a := rx
  exact ⟨dict_typeIs I2 g, d_getItem hu I2 g ry fun w' s3 I3 rw' => ⟨v, H2, I3, rw', q2⟩⟩
theorem ps_dput (hu : X.A.units + 1 < cLine) (ho : PE X o td) (hi : PE X i ty) (hv : PE X value tv) (hs : swapsWith value (some (.Subscript o i pos')) pos.line X.env = pure false) :
    PS X (.Assign [.Subscript o i pos'] value pos) (sDPut td ty tv) := by
  intro pins s σ H D I h
  refine wpAny_Assign_Subscript (thn (hv pins s σ H _ I h) fun r s1 ⟨v, H1, I1, rv, q1⟩ => thn (ho pins s1 σ H1 _ I1 q1) fun u s2 ⟨x, H2, I2, rx, q2⟩ => thn (hi pins s2 σ H2 _ I2 q2) fun iv s3 ⟨y, H3, I3, ry, a, H4, ex, g, q3⟩ => ?_) hs
  subst ex
  obtain rfl : u = Value.ref a := rx
  exact d_setItem hu I3 g ry rv fun s4 I4 => ⟨σ, H4, I4, q3⟩
end


/-! ### displays -/
theorem dk_empty {P : Program} {w : World} {H : Hp} (h : Heap) (hb : sysModules < h.objs.size) : ObjOk P w H (h.push { cls := .type "dict", data := .dict #[] }) h.objs.size (.dK []) :=
  ⟨Nat.zero_le _, beq_eq_false_iff_ne.mpr (Ne.symm (Nat.ne_of_lt hb)), [], .nil, Heap.DictOf.new h⟩
section
variable {X : Cx} {pos : Pos}
end

/-- the pairs of a display, from the left -/
def tPairs : List (TE × TE) → St → Hp → (List (V × V) → Hp → Prop) → Prop
  | [], _, H, Q => Q [] H
  | (tk, tv) :: r, σ, H, Q => tk σ H fun x H1 => tv σ H1 fun y H2 => tPairs r σ H2 fun ps H3 => Q ((x, y) :: ps) H3
abbrev VV : List (V × V) → List (Value × Value) → Prop := Paired fun p q => RelV p.1 q.1 ∧ RelV p.2 q.2
def PPs (X : Cx) (pos : Pos) (keys : List (Option Expr)) (values : List Expr) (trs : List (TE × TE)) : Prop :=
  ∀ (pins : List (Addr × Obj)) (s : Shared) (σ : St) (H : Hp) (Q : List (V × V) → Hp → Prop), Inv X pins σ H s → tPairs trs σ H Q →
    wpAny (model X.prog X.w) X.A (evalPairs (pairTrees keys values X.env pos)) (fun vs s' => ∃ ps H', Inv X pins σ H' s' ∧ VV ps vs ∧ Q ps H') X.xe s
theorem pps_nil {X : Cx} {pos : Pos} : PPs X pos [] [] [] := fun pins s σ H Q I h => pairTrees_nil_walk ⟨[], H, I, .nil, h⟩
theorem pps_cons {X : Cx} {pos : Pos} {k v : Expr} {ks : List (Option Expr)} {vs : List Expr} {tk tv : TE} {trs : List (TE × TE)} (hk : PE X k tk) (hv : PE X v tv) (hr : PPs X pos ks vs trs) :
    PPs X pos (some k :: ks) (v :: vs) ((tk, tv) :: trs) := fun pins s σ H Q I h =>
  pairTrees_cons_walk (thn (hk pins s σ H _ I h) fun u s1 ⟨x, H1, I1, rx, q1⟩ => thn (hv pins s1 σ H1 _ I1 q1) fun w2 s2 ⟨y, H2, I2, ry, q2⟩ =>
    thn (hr pins s2 σ H2 _ I2 q2) fun ws s3 ⟨ps, H3, I3, rel, q3⟩ => ⟨(x, y) :: ps, H3, I3, .cons ⟨rx, ry⟩ rel, q3⟩)

def mergeK (kvs more : List (Key × V)) : List (Key × V) := more.foldl (fun acc kv => putK acc kv.1 kv.2) kvs
theorem KV.merge : ∀ {more : List (Key × V)} {rs : List (Key × Value)} {kvs : List (Key × V)} {vs : List (Key × Value)}, KV more rs → KV kvs vs → KV (mergeK kvs more) (merged vs rs) := by
  intro more rs kvs vs r
  unfold KV at r
  induction r generalizing kvs vs with
  | nil => intro q; exact q
  | @cons p q ps qs h t ih =>
    intro r0
    have e : KV (putK kvs p.1 p.2) (stored vs q.1 q.2) := by
      have := r0.put p.1 h.2
      rw [← h.1]; exact this
    exact ih e
theorem length_mergeK : ∀ (more kvs : List (Key × V)), (mergeK kvs more).length ≤ kvs.length + more.length
  | [], kvs => by show kvs.length ≤ kvs.length + 0; omega
  | p :: r, kvs => by
    have h1 := length_mergeK r (putK kvs p.1 p.2)
    have h2 := length_putK kvs p.1 p.2
    show (mergeK (putK kvs p.1 p.2) r).length ≤ _
    rw [List.length_cons]; omega
theorem carries_of {P : Program} {w : World} : ∀ {kvs : List (Key × V)} {ws : List (Value × Value)}, VV (kvs.map fun kv => (kV kv.1, kv.2)) ws → ∃ rs, Carries (mixKind P w) ws rs ∧ KV kvs rs
  | [], _, r => by rw [List.map_nil] at r; cases r; exact ⟨[], True.intro, .nil⟩
  | p :: kvs, _, r => by
    rw [List.map_cons] at r
    cases r with
    | @cons a b as bs h t =>
      obtain ⟨rs, c, q⟩ := carries_of (P := P) (w := w) t
      obtain ⟨b1, b2⟩ := b
      exact ⟨(p.1, b2) :: rs, ⟨kV_is h.1, rfl, c⟩, .cons ⟨rfl, h.2⟩ q⟩
/-- {k: v, ..} with keys ints and texts; the new dict stands empty while the pairs are made -/
def tDisp (trs : List (TE × TE)) : TE := fun σ H Q => ∀ p, H p = none → tPairs trs σ (upd H p (.dK [])) fun ps H2 => H2 p = some (.dK []) ∧ ∃ kvs : List (Key × V), ps = kvs.map (fun kv => (kV kv.1, kv.2)) ∧ kvs.length ≤ 15 ∧ Q (.ref p) (upd H2 p (.dK (mergeK [] kvs)))
theorem pe_disp {X : Cx} {pos : Pos} {keys : List (Option Expr)} {values : List Expr} {trs : List (TE × TE)} (h : PPs X pos keys values trs) (hall : keys.all (·.isSome) = true) (hl : keys.length = values.length) (h0 : keys ≠ [])
    (h15 : keys.length ≤ 15) : PE X (.Dict keys values pos) (tDisp trs) := by
  intro pins s σ H Q I q
  have hn := I.hok.fresh (Nat.le_refl s.heap.objs.size)
  have I1 := I.laid (a := s.heap.objs.size) (o := .dK []) (h' := s.heap.push { cls := .type "dict", data := .dict #[] }) (t' := s.toks) (fun _ _ q => Heap.get?_push_of_some _ q) (Nat.le_refl _) (dk_empty s.heap I.big)
  refine wpAny_Dict_walk (knd := mixKind X.prog X.w) hall hl h0 h15 (thn (h pins _ σ _ _ I1 (q _ hn)) fun ws s2 ⟨ps, H2, I2, rel, e, kvs, ep, lk, q2⟩ => ?_)
  subst ep
  obtain ⟨rs, c, rk⟩ := carries_of (P := X.prog) (w := X.w) rel
  obtain ⟨z, hd, vs0, r0, dd⟩ := dk_of I2.hok e
  cases r0
  refine ⟨rs, c, dd, fun h' dd' hs => ⟨.ref s.heap.objs.size, _, ?_, rfl, q2⟩⟩
  have hz : (mergeK [] kvs).length ≤ sizeLine := by
    have h1 := length_mergeK kvs []
    rw [List.length_nil] at h1
    rw [sizeLine_eq]; omega
  have he : ∃ q, h'.get? s.heap.objs.size = some q := let ⟨q, _, _, hq, _⟩ := dd'; ⟨q, hq⟩
  exact d_write I2 (by rw [e]; exact True.intro) hs he (dk_new hz hd (rk.merge .nil) dd')


/-! ### methods -/
section
variable {X : Cx} {pins : List (Addr × Obj)} {σ : St} {H : Hp} {s : Shared} {a : Addr} {y d : V} {u r : Value} {o : Option V} {A : Around} {E : Value → Shared → Prop}
end

section
variable {X : Cx} {o e f : Expr} {apos cpos : Pos} {td ty tx : TE}
end

/-! ### dict(d): a copy -/
section
variable {X : Cx} {pins : List (Addr × Obj)} {σ : St} {H : Hp} {s : Shared} {a : Addr} {kvs : List (Key × V)} {A : Around} {E : Value → Shared → Prop}
end


section
variable {X : Cx} {pins : List (Addr × Obj)} {σ : St} {H : Hp} {s : Shared} {a : Addr} {y : V} {u : Value} {A : Around} {E : Value → Shared → Prop}
end
end L2
/-! dict(a list of pairs), over the plain heap. -/
namespace PySem
theorem dof_list_keys : typeLookup (.type "list") "keys" = pure none := by rw [typeLookup_type, builtinLookup_eq_fast]; kernel_rfl
theorem dof_entry_loop : entryFor table "dict.update.loop" = some Builtin.«dict.update.loop» := entryFor_of_tree (by kernel_rfl)
theorem dof_plain_loop : plainId "dict.update.loop" = true := by decide +kernel
section
variable {prog : Program} {w : World} {A : Around} {E : Value → Shared → Prop} {s : Shared}
/-- x.keys of a list: nothing, asked quietly -/
theorem dof_no_keys {a : Addr} {o : Obj} {xs : Array Value} {k : Nat} {Q : Option Value → Shared → Prop}
    (hx : s.heap.get? a = some o) (hc : o.cls = .type "list") (hdat : o.data = .seq xs k) (hd : o.dict = none) (hA : A.handled = none)
    (h : ∀ h' tk, (∀ b u, s.heap.get? b = some u → h'.get? b = some u) → Q none { s with heap := h', toks := tk }) :
    wpAny (model prog w) A (getAttr? (.ref a) "keys") Q E s := by
  obtain ⟨c, dct, dat, sl⟩ := o
  simp only at hc hdat hd
  subst hc hdat hd
  obtain ⟨hp, g, d, tk, os⟩ := s
  have hT : ∀ tk', (⟨hp, g, d, tk', os⟩ : Shared).TypeIs (.ref a) "list" := fun _ => ⟨_, hx, rfl⟩
  have f1 := sub_AttributeError
  have f3 := F.slot_list_getattribute.lookup
  have f4 := F.slot_list_getattribute.bind (.ref a)
  have f5 := am_list_getattr_none
  have hname : (["__module__", "__name__", "__qualname__", "__doc__", "__annotations__"] : List Str).contains "keys" = false := by decide
  unfold getAttr? getAttrBy? getAttrBy
  repeat (any_goals (first | assumption | exact hT _ | ((with_reducible show wpAny _ _ (call (Value.builtin "list.__getattribute__") _ _) _ _ _); refine call_meets F.slot_list_getattribute (hT _) am_entry_list_getattribute (F.args_list_getattribute_2 _ _) (meets_getattribute_miss_list a xs k sl "keys" _ dof_list_keys hname (by decide)) ⟨hx, hA, fun h' tk' e hx' => ?_⟩) | wp_step))
  obtain ⟨t', u', he⟩ := hx'.there
  show wpAny _ _ (getattributeRaised _ _ _ _ _ _ _) _ _ _
  unfold getattributeRaised
  repeat (any_goals (first | assumption | wp_step))
  exact h _ _ hx'.keeps
end
section
variable {prog : Program} {w : World} {A : Around} {K : Type} [DecidableEq K] {knd : KeyKind prog w K}
/-- the loop over the pairs: from turn i on, more of them -/
theorem dof_loop (hh : A.handled = none) {d it l : Addr} {items : Array Value} {r : Value} {R : Result → Shared → Prop} (hdi : d ≠ it) (hdl : d ≠ l) (hil : it ≠ l) :
    ∀ (more : List (K × Value)) (i : Nat) (s : Shared) (kvs : List (K × Value)), i + more.length = items.size → s.heap.DictOf knd d kvs → s.heap.IsListIter it l i → s.heap.IsList l items →
      (∀ (j : Nat) kv, more[j]? = some kv → ∃ t key, items[i + j]? = some (.ref t) ∧ t ≠ d ∧ t ≠ it ∧ PyProof.Rows.IsTup s.heap t #[key, kv.2] ∧ knd.is kv.1 key = true) → kvs.length + more.length ≤ sizeLine →
      (∀ h' tk, h'.DictOf knd d (merged kvs more) → (∀ c o, c ≠ d → c ≠ it → s.heap.get? c = some o → h'.get? c = some o) → R (.ok (.ret r)) { s with heap := h', toks := tk }) →
      codeAny (model prog w) A (.builtin "dict.update.loop" ⟨[.ref d, .ref it, rawInt i, r], []⟩) R s := by
  intro more
  induction more with
  | nil =>
    intro i s kvs hi hd hit hl hp hz hR
    refine codeAny_builtin dof_entry_loop ?_
    rw [Around.under_plainId dof_plain_loop _]
    show wpAny _ A.in1 (pyNext (.ref it) >>= _) _ _ _
    refine wpAny_bind (wpAny_pyNext_list_end (A := A.in1) hh hit hl (by simp at hi; simp; omega) fun h' eb => ?_)
    show wpAny _ _ (Builtin.Dict.addKeywords d [] >>= _) _ _ _
    exact wpAny_bind (wpAny_pure (wpAny_pure (hR h' s.toks (hd.extBut eb hdi) fun c o _ hc q => eb c o hc q)))
  | cons kv more ih =>
    intro i s kvs hi hd hit hl hp hz hR
    obtain ⟨t, key, hx, htd, hti, ⟨o, ho, hc, n, hdat⟩, hk⟩ := hp 0 kv rfl
    refine codeAny_builtin dof_entry_loop ?_
    rw [Around.under_plainId dof_plain_loop _]
    show wpAny _ A.in1 (pyNext (.ref it) >>= _) _ _ _
    refine wpAny_bind (wpAny_pyNext_list_item hit hl (x := .ref t) (by simpa using hx) fun h1 hit1 sb1 => ?_)
    have ho1 : h1.get? t = some o := (sb1.2 t hti).trans ho
    show wpAny _ _ (holding [.ref t] _ >>= _) _ _ _
    refine wpAny_bind (wpAny_holding ?_)
    refine wpAny_bind (wpAny_tryCatch ?_)
    unfold Builtin.Dict.pairItems
    refine wpAny_bind (wpAny_typeOf (T := "tuple") ⟨o, ho1, hc⟩ ?_)
    rw [if_pos (by decide)]
    refine wpAny_bind (wpAny_seqItems ho1 hdat ?_)
    refine wpAny_pure ?_
    show wpAny _ _ (holding [key, kv.2] (dictSet d key kv.2)) _ _ _
    refine wpAny_holding (wpAny_dictSet_pairs hk (hd.sameBut sb1 hdi) (fun h2 hd2 sb2 => ?_) (by simp at hz; omega))
    show wpAny _ _ (again (.builtin "dict.update.loop" ⟨[.ref d, .ref it, rawInt ((i : Int) + 1), r], []⟩)) _ _ _
    have ei : ((i : Int) + 1) = (((i + 1 : Nat)) : Int) := by omega
    rw [ei]
    have keep : ∀ c o, c ≠ d → c ≠ it → s.heap.get? c = some o → h2.get? c = some o := fun c o h3 h4 q => (sb2.2 c h3).trans ((sb1.2 c h4).trans q)
    refine wpAny_pure ⟨plainId_quiet dof_plain_loop _, ih (i + 1) _ (stored kvs kv.1 kv.2) (by simp at hi; omega) hd2 ?_ ?_ (fun j kv' hj => ?_) ?_ fun h3 tk hd3 k3 => ?_⟩
    · obtain ⟨oi, hoi, r1⟩ := hit1
      exact ⟨oi, (sb2.2 it (Ne.symm hdi)).trans hoi, r1⟩
    · obtain ⟨ol, hol, r1⟩ := hl
      exact ⟨ol, keep l ol (Ne.symm hdl) (Ne.symm hil) hol, r1⟩
    · obtain ⟨t', key', h1', h2', h3', ⟨o', ho', r'⟩, h5'⟩ := hp (j + 1) kv' (by simpa using hj)
      refine ⟨t', key', ?_, h2', h3', ⟨o', keep t' o' h2' h3' ho', r'⟩, h5'⟩
      rw [← h1']
      congr 1
      omega
    · have := stored_length_le kvs kv.1 kv.2
      simp at hz
      omega
    · exact hR h3 tk hd3 fun c o h4 h5 q => k3 c o h4 h5 (keep c o h4 h5 q)
theorem dof_call {E : Value → Shared → Prop} {s : Shared} (hh : A.handled = none) {l : Addr} {o : Obj} {items : Array Value} {n : Nat} {Q : Value → Shared → Prop} (ho : s.heap.get? l = some o) (hc : o.cls = .type "list") (hdat : o.data = .seq items n) (hnd : o.dict = none) {more : List (K × Value)} (hlen : more.length = items.size)
    (hp : ∀ (j : Nat) kv, more[j]? = some kv → ∃ t key, items[j]? = some (.ref t) ∧ PyProof.Rows.IsTup s.heap t #[key, kv.2] ∧ knd.is kv.1 key = true) (hz : more.length ≤ sizeLine)
    (h : ∀ h' tk, h'.DictOf knd s.heap.objs.size (merged [] more) → (∀ c o, s.heap.get? c = some o → h'.get? c = some o) → Q (.ref s.heap.objs.size) { s with heap := h', toks := tk }) :
    wpAny (model prog w) A (call (.type "dict") [.ref l]) Q E s := by
  refine callType_codes (Q₁ := fun obj s₁ => obj = .ref s.heap.objs.size ∧ s₁ = { s with heap := s.heap.push { cls := .type "dict", data := .dict #[] } }) F.kt_called_dict (F.kt_typeCall_dict_1 _) F.entry_dict_init (kt_code_dict_new _ ⟨rfl, rfl⟩) ?_
  rintro obj s₁ ⟨rfl, rfl⟩
  have hnew : (s.heap.push { cls := .type "dict", data := .dict #[] }).DictOf knd s.heap.objs.size [] := Heap.DictOf.new s.heap
  refine ⟨hnew.typeIs, F.args_dict_init_2 _ _, ?_⟩
  have ho1 : (s.heap.push { cls := .type "dict", data := .dict #[] }).get? l = some o := Heap.get?_push_of_some _ ho
  refine wpAny_bind ?_
  unfold Builtin.Dict.selfAndRest
  refine wpAny_bind (wpAny_notOrdered_dict hnew.typeIs ?_)
  refine wpAny_pure ?_
  show wpAny _ _ (Builtin.Dict.updateFrom "dict.__init__" s.heap.objs.size (.ref l) [] .none) _ _ _
  unfold Builtin.Dict.updateFrom
  refine wpAny_bind (wpAny_typeOf (T := "list") ⟨o, ho1, hc⟩ ?_)
  rw [if_pos (by decide)]
  refine wpAny_bind (dof_no_keys (A := A.in1.in1) ho1 hc hdat hnd hh fun h1 tk k1 => ?_)
  rw [if_pos (by rfl)]
  refine wpAny_bind (wpAny_rule ?_)
  have ho2 : h1.get? l = some o := k1 _ _ ho1
  refine wpAny_bind (wpAny_pyIter_list (items := items) ⟨o, ho2, hc, n, hdat⟩ ?_)
  have hlt : s.heap.objs.size < h1.objs.size := Heap.lt_size (k1 _ _ (Heap.get?_push_size s.heap (o := { cls := .type "dict", data := .dict #[] }) rfl))
  have hl0 : l < s.heap.objs.size := Heap.lt_size ho
  obtain ⟨od, es, ep, hod, rd⟩ := hnew
  have kk : ∀ c u, s.heap.get? c = some u → (h1.push { cls := .type "list_iterator", data := .fields #[.ref l, .int 0 0] }).get? c = some u := fun c u q => Heap.get?_push_of_some _ (k1 _ _ (Heap.get?_push_of_some _ q))
  refine wpAny_pure ⟨plainId_quiet dof_plain_loop _, dof_loop (knd := knd) (A := A.in1) (d := s.heap.objs.size) (it := h1.objs.size) (l := l) (items := items) hh (Nat.ne_of_lt hlt) (Nat.ne_of_gt hl0) (Nat.ne_of_gt (Nat.lt_trans hl0 hlt)) more 0 _ [] (by rw [hlen]; omega) ?_ ?_ ?_ (fun j kv hj => ?_) (by simpa using hz) fun h' tk' hd' k' => ⟨rfl, ?_⟩⟩
  · exact ⟨od, es, ep, Heap.get?_push_of_some _ (k1 _ _ hod), rd⟩
  · exact ⟨_, Heap.get?_push_size _ rfl, rfl, rfl⟩
  · exact ⟨o, Heap.get?_push_of_some _ ho2, hc, n, hdat⟩
  · obtain ⟨t, key, e1, ⟨ot, e2, r2⟩, e3⟩ := hp j kv hj
    have ht : t < s.heap.objs.size := Heap.lt_size e2
    exact ⟨t, key, by simpa using e1, Nat.ne_of_lt ht, Nat.ne_of_lt (Nat.lt_trans ht hlt), ⟨ot, kk _ _ e2, r2⟩, e3⟩
  · exact h h' tk' hd' fun c u q => k' c u (Nat.ne_of_lt (Heap.lt_size q)) (Nat.ne_of_lt (Nat.lt_trans (Heap.lt_size q) hlt)) (kk c u q)
end
end PySem
/-! sorted(a source of ints that is no list), over the plain heap. -/
namespace PySem
open PySem PySem.W PySem.Calls PyProof.Rows
section
variable {prog : Program} {w : World} {A : Around} {E : Value → Shared → Prop} {s : Shared} {T : String} {r d : Addr} {n : Nat} {P : Nat → Value → Prop} {OK : Heap → Prop}
theorem srt_ints : ∀ (vs : List Value) (ns : List Int), vs.length = ns.length → (∀ (j : Nat) v, vs[j]? = some v → ∃ i t, v = Value.int i t ∧ ns[j]? = some i) → PyProof.Rows.IntsAre vs ns
  | [], [], _, _ => .nil
  | v :: vs, i :: ns, e, h => by
    obtain ⟨k, t, rfl, hk⟩ := h 0 v rfl
    cases hk
    exact .cons _ t (srt_ints vs ns (by simpa using e) fun j v hj => h (j + 1) v (by simpa using hj))
theorem srt_src (C : KdlSrc prog w T r d n P OK) (hh : A.handled = none) (hok : OK s.heap) (hn : n ≤ sizeLine) {ns : List Int} (hns : ns.length = n) (h64 : n < 64) (hP : ∀ (j : Nat) v, P j v → ∃ i t, v = Value.int i t ∧ ns[j]? = some i) {Q : Value → Shared → Prop}
    (h : ∀ (h1 h' : Heap) (tk : Nat) (out : Array Value) (ns' : List Int) (e : Nat), PyProof.Rows.IntsAre out.toList ns' → ns'.Perm ns → ns'.Pairwise (· ≤ ·) → (∀ b o, s.heap.get? b = some o → h1.get? b = some o) → (∀ b o, h1.get? b = some o → h'.get? b = some o) → h'.get? h1.objs.size = some (seqObj "list" out e) → Q (.ref h1.objs.size) { s with heap := h', toks := tk }) :
    wpAny (model prog w) A (call (.builtin "sorted") [.ref r]) Q E s := by
  refine call_function_entry kind_sorted plain_sorted entry_sorted (args_sorted1 _) ?_
  unfold Builtin.«sorted»
  refine wpAny_bind (m := checkCount "sorted" 1 1 _) (wpAny_pure ?_)
  refine wpAny_bind (kdu_collect (A := A.in1) C hh hok hn fun h1 tk acc hk hacc => ?_)
  have hl : acc.toList.length = n := by rw [Array.length_toList]; exact hacc.1
  refine wpAny_bind (wpAny_newList ?_ (by rw [hl]; exact hn))
  have hoL : (h1.push (seqObj "list" acc.toList.toArray 0)).get? h1.objs.size = some (seqObj "list" acc.toList.toArray 0) := Heap.get?_push_size _ rfl
  have hI : PyProof.Rows.IntsAre acc.toList ns := srt_ints _ _ (by rw [hl, hns]) fun j v hj => hP j v (hacc.2 j v (by rw [← Array.getElem?_toList]; exact hj))
  refine wpAny_bind (wpAny_holding (wpAny_call_entry slot_list_sort ⟨_, hoL, rfl⟩ entry_list_sort (list_sort_tree hoL hI (by rw [hl]; exact h64) fun out ns' a1 a2 a3 => ⟨_, rfl, ?_⟩) (args_list_sort _)))
  obtain ⟨e, he⟩ := sortedHeap_at (out := out) hoL
  exact wpAny_pure ⟨_, rfl, h h1 _ tk out ns' e a1 a2 a3 hk (fun b o q => by rw [sortedHeap_old (Nat.ne_of_lt (Heap.lt_size q)) (by rw [size_push']; exact Nat.lt_succ_of_lt (Heap.lt_size q))]; exact Heap.get?_push_of_some _ q) he⟩
end
end PySem
/-! More rules: enumerate, range with a step, repr, sorted, dict of pairs, update, three names at once. -/
namespace L2
open PySem PySem.Spec PyProof.Rows
theorem Inv.turnedL {X : Cx} {pins : List (Addr × Obj)} {σ : St} {H : Hp} {s : Shared} {h' : Heap} {t' : Nat} {fp : List Addr} (I : Inv X pins σ H s) (k : ∀ b o, b ∉ fp → s.heap.get? b = some o → h'.get? b = some o)
    (hf : ∀ b ∈ fp, FpOk X pins H b) : Inv X pins σ H { s with heap := h', toks := t' } := by
  have nit : ∀ b u, H b = some u → b ∉ fp := fun b u e z => by rw [(hf b z).1] at e; cases e
  refine I.step (g' := s.gens) (d' := s.drawn) (ch := fp) (fun b hb => ?_) (fun b o _ _ hc e _ => k b o hc e) (fun b o _ _ hc e _ => ⟨o.slots, k b o hc e⟩) (fun _ _ _ _ n => n)
    (fun b o hc e => ⟨o, k b o hc e⟩) (fun _ _ e => e) (fun _ _ _ e => e) (fun b ps e => ⟨#[], by rw [e]; simp⟩) (fun m hm => ?_) (fun b u e => ?_) I.bare
  · obtain ⟨f0, f1, f2, f3, f4, f5⟩ := hf b hb
    exact ⟨f3, f1, f4, f5⟩
  · obtain ⟨o, es, ep, ho, r⟩ := hm
    exact ⟨o, es, ep, k _ o (fun z => (hf _ z).2.1 rfl) ho, r⟩
  · refine (I.hok b u e).stay (fun c v hc q => k c v ?_ q) (fun _ q => q) fun _ _ q => q
    rcases hc with z | z
    · rw [z]; exact nit b u e
    · exact nit c _ z

/-! ### enumerate(a list) -/
def Ite (K : PySem.W.Frag) (a : Addr) : It :=
  ⟨fun i H => ∃ xs x, SqL K H a xs ∧ xs[i]? = some x, fun i H x H' => ∃ t y, x = .ref t ∧ H t = none ∧ H' = upd H t (.tup [.int i, y]) ∧ ∀ xs, SqL K H a xs → xs[i]? = some y, fun i H => ∃ xs, SqL K H a xs ∧ xs.length ≤ i⟩
theorem turn_enum {P : Program} {w : World} {K : PySem.W.Frag} {es : List Expr} {k : Nat} {pos : Pos} (a e it : Addr) (hne : e ≠ it) :
    Turn P w K (.Tuple es k pos) (Ite K a) [e, it] e (fun i h => (∃ old, IsEnum h e it (i : Nat) old) ∧ h.IsListIter it a i) where
  mem := by simp
  obj := fun i h st b hb => by
    obtain ⟨⟨old, he⟩, o, e1, c, d⟩ := st
    have hb' : b = e ∨ b = it := by simpa using hb
    rcases hb' with rfl | rfl
    · exact ⟨_, he, fun v z => by
        have z' : Data.fields _ = Data.cell v := z
        cases z'⟩
    · exact ⟨o, e1, fun v z => by rw [d] at z; cases z⟩
  keep := fun i h h' st k => ⟨st.1.elim fun old he => ⟨old, k e (by simp) _ he⟩, st.2.at fun o q => k it (by simp) o q⟩
  item := by
    intro X hP hw hK hc i pins s σ H E I hf st hg
    subst hP hw hK
    obtain ⟨⟨old, he⟩, hit⟩ := st
    obtain ⟨xs, x, hq, hx⟩ := hg
    obtain ⟨its, rv, p, hz⟩ := I.list hq
    obtain ⟨u, hu, ru⟩ := rv.get hx
    refine wpAny_pyNext_enum_item he hit p.isList (x := u) (by simpa using hu) hne fun h' he' hit' ht hsz kk => ?_
    refine ⟨_, rfl, wpAny_letOwnedTupleGo_enum he' fun h2 he2 sb => ?_⟩
    have hn := I.hok.fresh (Nat.le_refl s.heap.objs.size)
    have I1 : Inv X pins σ (upd H s.heap.objs.size (.tup [.int i, x])) { s with heap := s.heap.push { cls := .type "tuple", data := .seq [Value.int i s.toks, u].toArray }, toks := s.toks + 1 } :=
      I.laid (fun b o e => Heap.get?_push_of_some _ e) (Nat.le_refl _) ⟨by show 2 ≤ sizeLine; decide, [Value.int i s.toks, u], .cons ⟨_, rfl⟩ (.cons ru .nil), IsTup.new s.heap _⟩
    have lt : ∀ b ∈ [e, it], b ≠ s.heap.objs.size := fun b hb => by
      have hb' : b = e ∨ b = it := by simpa using hb
      rcases hb' with rfl | rfl
      · exact Nat.ne_of_lt (Heap.lt_size he)
      · obtain ⟨o, e1, _⟩ := hit
        exact Nat.ne_of_lt (Heap.lt_size e1)
    have nt : ∀ b ∈ [e, it], upd H s.heap.objs.size (.tup [.int i, x]) b = none := fun b hb => by rw [upd_ne (lt b hb)]; exact (hf b hb).1
    have I2 := I1.turnedL (h' := h2) (t' := s.toks + 1) (fp := [e, it]) (fun b o hb q => by
      have h1 : b ≠ e := fun z => hb (by simp [z])
      have h2' : b ≠ it := fun z => hb (by simp [z])
      by_cases hbz : b = s.heap.objs.size
      · subst hbz
        have q' : (s.heap.push { cls := .type "tuple", data := .seq #[Value.int i s.toks, u] }).get? s.heap.objs.size = some o := q
        rw [Heap.get?_push_size s.heap (o := { cls := .type "tuple", data := .seq #[Value.int i s.toks, u] }) rfl] at q'
        exact (sb.2 _ h1).trans (ht.trans q')
      · have q' : (s.heap.push { cls := .type "tuple", data := .seq #[Value.int i s.toks, u] }).get? b = some o := q
        rw [Heap.get?_push_ne _ _ _ hbz] at q'
        exact (sb.2 b h1).trans (kk b o h1 h2' q')) fun b hb => ⟨nt b hb, (hf b hb).2⟩
    have ei : ((i : Int) + 1) = (((i + 1 : Nat)) : Int) := by omega
    refine ⟨.ref s.heap.objs.size, _, I2, rfl, ⟨_, x, rfl, hn, rfl, fun ys hy => by rw [I.list_inj hy hq]; exact hx⟩, ⟨⟨_, ei ▸ he2⟩, hit'.at fun o q => (sb.2 it (Ne.symm hne)).trans q⟩, nt⟩
  done := by
    intro X hP hw hK hc i pins s σ H E I hf st hg
    subst hP hw hK
    obtain ⟨⟨old, he⟩, hit⟩ := st
    obtain ⟨xs, hq, hx⟩ := hg
    obtain ⟨its, rv, p, hz⟩ := I.list hq
    have hl := rv.length
    obtain ⟨f0, f1, f2, f3, f4, f5⟩ := hf it (by simp)
    exact wpAny_pyNext_enum_end (I.ok.hd hc) he hit p.isList (by simp; omega) fun h' eb => ⟨rfl, I.turned (t' := s.toks) (fun b o hb e => eb b o hb e) f0 f1 f3 f4 f5⟩
  self := fun _ _ _ _ _ st h => st.1.elim fun old he => wpAny_pyIter_enum he h
def iEnum (K : PySem.W.Frag) (ta : TA) : TI := fun σ H R => ta σ H fun vs H1 => ∃ a, vs = [.ref a] ∧ (∃ xs, SqL K H1 a xs) ∧ R (Ite K a) H1
section
variable {X : Cx}
theorem pi_enum {es : List Expr} {k : Nat} {tp : Pos} {l : Expr} {ta : TA} {p pos : Pos} (hg : Gl X "enumerate") (hm : X.mg "enumerate" = none) (ha : PA X [l] ta) (hs : starEach [l] X.env = [(false, eval l X.env)] := by rfl) :
    PI X (.Tuple es k tp) (.Call (.Name "enumerate" p) [l] [] pos) (iEnum X.K ta) := by
  intro pins s σ H R I h
  refine Call_ (ld_blt I hg hm boot_enumerate (PyProof.Rows.callWith_type1 (thn (ha pos pins s σ H _ I h) fun us s1 ⟨vs, H1, I1, r1, q1⟩ => ?_) hs rfl))
  obtain ⟨a, e, ⟨xs, hq⟩, q⟩ := q1
  subst e
  cases r1 with
  | cons r rr =>
    cases rr
    cases r
    obtain ⟨its, rv, p, hz⟩ := I1.list hq
    refine call_enumerate_list p.isList fun h' hE hI hsz hk => wpAny_pyIter_enum hE ?_
    refine ⟨s1.heap.objs.size + 1, [s1.heap.objs.size + 1, s1.heap.objs.size], _, _, H1, rfl, I1.kept (t' := s1.toks) hk, turn_enum a _ _ (Nat.succ_ne_self _), ⟨⟨_, hE⟩, hI⟩, fun b hb => ?_, q⟩
    have hb' : b = s1.heap.objs.size + 1 ∨ b = s1.heap.objs.size := by simpa using hb
    rcases hb' with rfl | rfl
    · exact I1.fpOk (Nat.le_succ _) (I1.hok.fresh (Nat.le_succ _))
    · exact I1.fpOk (Nat.le_refl _) (I1.hok.fresh (Nat.le_refl _))
end
def LoopE (K : PySem.W.Frag) (a : Addr) (g : TG) (tb : TS) (D : Ends) (σ : St) (H : Hp) : Prop := ∃ W : Nat → Nat → St → Hp → Prop, (∃ m, W 0 m σ H) ∧ ∀ i m σ H, W i m σ H →
  ((Ite K a).stop i H ∧ D.nx σ H) ∨ ((Ite K a).go i H ∧ ∃ N : St → Hp → Prop, (∀ σ' H', N σ' H' → ∃ m', m' < m ∧ W (i + 1) m' σ' H') ∧ ∀ x H', (Ite K a).yld i H x H' → g x σ H' fun σ2 H2 => tb { D with nx := N, ct := N, bk := D.nx } σ2 H2)
theorem tFor_enum {K : PySem.W.Frag} {ta : TA} {g : TG} {tb : TS} {D : Ends} {σ : St} {H : Hp} : tFor (iEnum K ta) g tb D σ H = ta σ H fun vs H1 => ∃ a, vs = [.ref a] ∧ (∃ xs, SqL K H1 a xs) ∧ LoopE K a g tb D σ H1 := rfl
theorem LoopE.run {K : PySem.W.Frag} {a : Addr} {xs : List V} {g : TG} {tb : TS} {D : Ends} {σ : St} {H : Hp} (Pv : Nat → St → Hp → Prop) (h0 : Pv 0 σ H) (hl : ∀ i σ H, i ≤ xs.length → Pv i σ H → SqL K H a xs)
    (hs : ∀ i x σ H t, xs[i]? = some x → Pv i σ H → H t = none → ∀ R : St → Hp → Prop, (∀ σ' H', Pv (i + 1) σ' H' → R σ' H') → g (.ref t) σ (upd H t (.tup [.int i, x])) fun σ2 H2 => tb { D with nx := R, ct := R, bk := D.nx } σ2 H2) (hd : ∀ σ H, Pv xs.length σ H → D.nx σ H) :
    LoopE K a g tb D σ H := by
  refine ⟨fun i m σ H => m = xs.length - i ∧ i ≤ xs.length ∧ Pv i σ H, ⟨xs.length, by simp, Nat.zero_le _, h0⟩, ?_⟩
  rintro i m σ H ⟨rfl, hi, p⟩
  have q := hl i σ H hi p
  by_cases hlt : i < xs.length
  · refine .inr ⟨⟨xs, xs[i], q, by simp [hlt]⟩, Pv (i + 1), fun σ' H' p' => ⟨xs.length - (i + 1), by omega, rfl, hlt, p'⟩, ?_⟩
    rintro _ _ ⟨t, y, rfl, ht, rfl, hy⟩
    exact hs i y σ H t (hy xs q) p ht _ fun _ _ z => z
  · have e : i = xs.length := by omega
    subst e
    exact .inl ⟨⟨xs, q, Nat.le_refl _⟩, hd σ H p⟩

/-! ### range(lo, hi, step) -/
/-- lo, lo + c, .. (n of them) -/
def Itr3 (lo c : Int) (n : Nat) : It := ⟨fun i _ => i < n, fun i H x H' => H' = H ∧ x = .int (lo + (i : Nat) * c), fun i _ => n ≤ i⟩
theorem turn_range3 {P : Program} {w : World} {K : PySem.W.Frag} {tg : Expr} (it : Addr) (lo c : Int) (n : Nat) : Turn P w K tg (Itr3 lo c n) [it] it (fun i h => IsRangeIter h it (lo + (i : Nat) * c) ((n : Int) - (i : Nat)) c) where
  mem := by simp
  obj := fun i h st b hb => by
    have e : b = it := by simpa using hb
    subst e
    exact ⟨_, st, fun v z => by
      have z' : Data.fields _ = Data.cell v := z
      cases z'⟩
  keep := fun i h h' st k => k it (by simp) _ st
  item := by
    intro X hP hw hK hc i pins s σ H E I hf st hg
    subst hP hw hK
    obtain ⟨f0, f1, f2, f3, f4, f5⟩ := hf it (by simp)
    have W := Walks.range (prog := X.prog) (w := X.w) (I.ok.hd hc) it lo c n
    refine W.item i s _ _ hg st fun v h' tk hv st' kk => ?_
    obtain ⟨t, rfl⟩ := hv
    have I1 : Inv X pins σ H { s with heap := h', toks := tk } := I.turned (fun b o hb e => kk b o (by simpa using hb) e) f0 f1 f3 f4 f5
    exact ⟨_, rfl, go_of (s := { s with heap := h', toks := tk }) (n := "range_iterator") st' rfl rfl (by decide) ⟨.int (lo + (i : Nat) * c), H, I1, ⟨t, rfl⟩, ⟨rfl, rfl⟩, st', fun b hb => (hf b hb).1⟩⟩
  done := by
    intro X hP hw hK hc i pins s σ H E I hf st hg
    subst hP hw hK
    obtain ⟨f0, f1, f2, f3, f4, f5⟩ := hf it (by simp)
    exact wpAny_pyNext_range_end (I.ok.hd hc) st (by have : n ≤ i := hg; omega) fun h' eb => ⟨rfl, I.turned (t' := s.toks) (fun b o hb e => eb b o hb e) f0 f1 f3 f4 f5⟩
  self := fun _ _ _ _ _ st h => wpAny_pyIter_rangeiter st h
end L2
namespace L2
open PySem PySem.Spec PyProof.Rows
section
variable {X : Cx} {tg : Expr}
def R3 (i j c : Int) (n : Nat) : Prop := c ≠ 0 ∧ Builtin.Range.small i j c = true ∧ Builtin.Range.rangeSize i j c = n ∧ Builtin.divisionGoesByPylong (j - i) c = false
def iRng3 (ta : TA) : TI := fun σ H R => ta σ H fun vs H1 => ∃ (i j c : Int) (n : Nat), vs = [.int i, .int j, .int c] ∧ R3 i j c n ∧ R (Itr3 i c n) H1
theorem pi_range3 {a b c : Expr} {ta : TA} {p pos : Pos} (hg : Gl X "range") (hm : X.mg "range" = none) (ha : PA X [a, b, c] ta) (hs : starEach [a, b, c] X.env = (false, eval a X.env) :: starEach [b, c] X.env := by rfl)
    (hs2 : (backTo pos (starEach [b, c] X.env)).any (·.1) = false := by rfl) : PI X tg (.Call (.Name "range" p) [a, b, c] [] pos) (iRng3 ta) := by
  intro pins s σ H R I h
  refine Call_ (ld_blt I hg hm boot_range (PyProof.Rows.callWith_type1 (thn (ha pos pins s σ H _ I h) fun us s1 ⟨vs, H1, I1, r1, q1⟩ => ?_) hs hs2))
  obtain ⟨i, j, k, n, e, ⟨k0, sm, sz, dv⟩, q⟩ := q1
  subst e
  cases r1 with
  | cons r rr =>
    cases rr with
    | cons r' rr =>
      cases rr with
      | cons r2 rr =>
        cases rr
        obtain ⟨t, rfl⟩ := r
        obtain ⟨t', rfl⟩ := r'
        obtain ⟨t2, rfl⟩ := r2
        refine call_range_3 k0 ?_ (.inl dv)
        refine wpAny_pyIter_range (IsRange.new ..) sm ?_
        have I2 : Inv X pins σ H1 { s1 with heap := s1.heap.push { cls := .type "range", data := .fields #[.int i t, .int j t', .int k t2] } } := I1.kept (t' := s1.toks) fun b o e => Heap.get?_push_of_some _ e
        refine ⟨_, [(s1.heap.push { cls := .type "range", data := .fields #[.int i t, .int j t', .int k t2] }).objs.size], _, _, H1, rfl, I2.kept (t' := s1.toks) fun b o e => Heap.get?_push_of_some _ e, turn_range3 _ i k n, ?_, fun b hb => ?_, q⟩
        · have e1 : i + ((0 : Nat) : Int) * k = i := by simp
          have e2 : ((n : Nat) : Int) - ((0 : Nat) : Int) = Builtin.Range.rangeSize i j k := by rw [sz]; simp
          show IsRangeIter _ _ (i + ((0 : Nat) : Int) * k) (((n : Nat) : Int) - ((0 : Nat) : Int)) k
          rw [e1, e2]
          exact Heap.get?_push_size _ rfl
        · have e : b = (s1.heap.push { cls := .type "range", data := .fields #[.int i t, .int j t', .int k t2] }).objs.size := by simpa using hb
          subst e
          exact I2.fpOk (Nat.le_refl _) (I2.hok.fresh (Nat.le_refl _))
end

/-! ### repr of a list or a tuple -/
mutual
theorem Rep.noDict {K : PySem.W.Frag} {H : Hp} : ∀ (d : PyData) (x : V), Rep K H d x → d.hasDict = false
  | .none, _, _ => rfl
  | .bool _, _, _ => rfl
  | .int _, _, _ => rfl
  | .str _, _, _ => rfl
  | .list ds, x, h => by
    obtain ⟨a, xs, _, _, h2⟩ := h
    simp only [PyData.hasDict]
    exact Reps.noDict ds xs h2
  | .tuple ds, x, h => by
    obtain ⟨a, xs, _, _, h2⟩ := h
    simp only [PyData.hasDict]
    exact Reps.noDict ds xs h2
  | .dict _, _, h => h.elim
theorem Reps.noDict {K : PySem.W.Frag} {H : Hp} : ∀ (ds : List PyData) (xs : List V), Reps K H ds xs → PyData.hasDictAll ds = false
  | [], _, _ => rfl
  | d :: ds, xs, h => by
    obtain ⟨x, r, _, h1, h2⟩ := h
    simp only [PyData.hasDictAll, Rep.noDict d x h1, Reps.noDict ds r h2, Bool.or_self]
end
section
variable {X : Cx}
def rRepr (K : PySem.W.Frag) : List V → Hp → VK → Prop := fun xs H Q => ∃ d x, xs = [x] ∧ Rep K H d x ∧ isDisplay d = true ∧ d.showable = true ∧ d.depth ≤ 60 ∧ d.shown.length ≤ sizeLine ∧ Q (.str d.shown) H
theorem call_reprD (hg : X.A.guards = some []) (hu : X.A.units + 64 < cLine) : CallR X (.builtin "repr") (rRepr X.K) := by
  intro pins s σ H xs us Q I r h
  obtain ⟨d, x, rfl, h1, h2, h3, h4, h5, q⟩ := h
  obtain ⟨u, rfl, ru⟩ := r.one
  obtain ⟨as, rd⟩ := Rep.reads I d x u h1 ru
  obtain ⟨a, rfl⟩ := isRef_of_reads rd h2
  exact repr_of_reads' rd h3 (fun z => absurd z (by rw [Rep.noDict d x h1]; decide)) hg (by omega) (fun _ _ e => e) (fun h' u tk hk => ⟨.str d.shown, H, I.kept (t' := tk) hk, ⟨u, rfl⟩, q⟩) h5

/-! ### sorted -/
def srt (ns : List Int) : List Int := ns.mergeSort fun a b => decide (a ≤ b)
theorem srt_pw (ns : List Int) : (srt ns).Pairwise (· ≤ ·) := by
  have h := List.pairwise_mergeSort (le := fun a b : Int => decide (a ≤ b)) (fun a b c h1 h2 => by simp at h1 h2 ⊢; omega) (fun a b => by simp; omega) ns
  exact h.imp fun h => by simpa using h
theorem srt_uniq : ∀ {a b : List Int}, a.Perm b → a.Pairwise (· ≤ ·) → b.Pairwise (· ≤ ·) → a = b
  | [], b, h, _, _ => by
    have := h.length_eq
    cases b with
    | nil => rfl
    | cons => cases this
  | x :: a, [], h, _, _ => by cases h.length_eq
  | x :: a, y :: b, h, ha, hb => by
    have e : x = y := by
      have h1 : x ∈ y :: b := h.mem_iff.mp (List.mem_cons_self ..)
      have h2 : y ∈ x :: a := h.mem_iff.mpr (List.mem_cons_self ..)
      have l1 : x ≤ y := by
        rcases List.mem_cons.mp h2 with z | z
        · exact Int.le_of_eq z.symm
        · exact (List.pairwise_cons.mp ha).1 y z
      have l2 : y ≤ x := by
        rcases List.mem_cons.mp h1 with z | z
        · exact Int.le_of_eq z.symm
        · exact (List.pairwise_cons.mp hb).1 x z
      omega
    subst e
    rw [srt_uniq (List.Perm.cons_inv h) (List.pairwise_cons.mp ha).2 (List.pairwise_cons.mp hb).2]
theorem srt_of {ns ns' : List Int} (h1 : ns'.Perm ns) (h2 : ns'.Pairwise (· ≤ ·)) : ns' = srt ns := srt_uniq (h1.trans (List.mergeSort_perm ns _).symm) h2 (srt_pw ns)
theorem srt_perm {a b : List Int} (h : a.Perm b) : srt a = srt b := srt_of ((List.mergeSort_perm a _).trans h) (srt_pw a)
theorem srt_len (ns : List Int) : (srt ns).length = ns.length := (List.mergeSort_perm ns _).length_eq
theorem ints_of_vals : ∀ {ns : List Int} {us : List Value}, Vals (ns.map V.int) us → IntsAre us ns
  | [], _, h => by cases h; exact .nil
  | n :: ns, _, h => by
    cases h with
    | cons h1 h2 =>
      obtain ⟨t, rfl⟩ := h1
      exact .cons n t (ints_of_vals h2)
def rSrtL (K : PySem.W.Frag) : List V → Hp → VK → Prop := fun xs H Q => ∃ a ns, xs = [.ref a] ∧ SqL K H a (ns.map V.int) ∧ ns.length < 64 ∧ ∀ p, H p = none → Q (.ref p) (upd H p (.lst ((srt ns).map V.int)))
theorem call_sortedL : CallR X (.builtin "sorted") (rSrtL X.K) := by
  intro pins s σ H xs us Q I r h
  obtain ⟨a, ns, rfl, hq, hl, q⟩ := h
  obtain ⟨u, rfl, ru⟩ := r.one
  cases ru
  obtain ⟨its, rv, p, hz⟩ := I.list hq
  have hI := ints_of_vals rv
  have hlen := rv.length
  rw [List.length_map] at hlen
  refine sorted_ints p.isList hI (by omega) fun out ns' a1 a2 a3 => ?_
  obtain ⟨e, he⟩ := sortedAll_at s.heap its out
  have en := srt_of a2 a3
  subst en
  refine ⟨.ref (s.heap.objs.size + 1), _, I.laid (a := s.heap.objs.size + 1) (o := .lst ((srt ns).map V.int)) (t' := s.toks) (fun b o e => sortedAll_old e) (Nat.le_succ _) ⟨?_, out.toList, e, vals_ints a1, ?_⟩, rfl, q _ (I.hok.fresh (Nat.le_succ _))⟩
  · rw [List.length_map, srt_len, sizeLine_eq]; omega
  · rw [Array.toArray_toList]; exact he
def rSrtD : List V → Hp → VK → Prop := fun xs H Q => ∃ a kvs ns, xs = [.ref a] ∧ H a = some (.dK kvs) ∧ kvs.map (·.1) = ns.map (Sum.inl : Int → Key) ∧ ns.length < 64 ∧ ∀ p, H p = none → Q (.ref p) (upd H p (.lst ((srt ns).map V.int)))
theorem call_sortedD (hc : X.calm = true) : CallR X (.builtin "sorted") rSrtD := by
  intro pins s σ H xs us Q I r h
  obtain ⟨a, kvs, ns, rfl, e, hk, hl, q⟩ := h
  obtain ⟨u, rfl, ru⟩ := r.one
  cases ru
  obtain ⟨z, hd, vs, rel, dd⟩ := dk_of I.hok e
  obtain ⟨ep, hat⟩ := dd.dictAt
  have kk := rel.keys
  rw [hk] at kk
  have hlen : ns.length = vs.length := by have := congrArg List.length kk; simpa using this
  refine srt_src (PySem.W.kdl_dict (knd := mixKind X.prog X.w) (kvs := vs) (ep := ep) hd) (I.ok.hd hc) hat (by rw [sizeLine_eq]; omega) (ns := ns) hlen (by omega) (fun j v hv => ?_) fun h1 h' tk out ns' e' a1 a2 a3 k1 k2 hp => ?_
  · obtain ⟨k, x, hx, hkv⟩ := hv
    have h2 : (vs.map (·.1))[j]? = some k := by rw [List.getElem?_map, hx]; rfl
    rw [← kk, List.getElem?_map] at h2
    cases hn : ns[j]? with
    | none => rw [hn] at h2; cases h2
    | some i =>
      rw [hn] at h2
      have h3 : (Sum.inl i : Key) = k := Option.some.inj h2
      subst h3
      rcases keyIs_shape (k := Sum.inl i) (show keyIs (Sum.inl i) v = true from hkv) with ⟨i', t, e1, e2⟩ | ⟨x', t, e1, e2⟩
      · cases e1
        exact ⟨i, t, e2, rfl⟩
      · cases e1
  · have en := srt_of a2 a3
    subst en
    have I1 : Inv X pins σ H { s with heap := h1 } := I.kept (t' := s.toks) k1
    refine ⟨.ref h1.objs.size, _, I1.laid (a := h1.objs.size) (o := .lst ((srt ns).map V.int)) (t' := tk) k2 (Nat.le_refl _) ⟨?_, out.toList, e', vals_ints a1, ?_⟩, rfl, q _ (I1.hok.fresh (Nat.le_refl _))⟩
    · rw [List.length_map, srt_len, sizeLine_eq]; omega
    · rw [Array.toArray_toList]; exact hp

/-! ### dict(a list of pairs) -/
def Pairs (K : PySem.W.Frag) (H : Hp) : List V → List (Key × V) → Prop := Paired fun y kv => ∃ t, y = .ref t ∧ SqT K H t [kV kv.1, kv.2]
theorem Pairs.get {K : PySem.W.Frag} {H : Hp} : ∀ {ys : List V} {kvs : List (Key × V)} {j : Nat} {kv : Key × V}, Pairs K H ys kvs → kvs[j]? = some kv → ∃ t, ys[j]? = some (.ref t) ∧ SqT K H t [kV kv.1, kv.2]
  | _, _, _, _, .nil, e => by simp at e
  | _, _, 0, _, .cons r _, e => by
    simp at e
    subst e
    obtain ⟨t, rfl, h⟩ := r
    exact ⟨t, rfl, h⟩
  | _, _, j + 1, kv, .cons _ q, e => by
    obtain ⟨t, h1, h2⟩ := Pairs.get (j := j) (kv := kv) q (by simpa using e)
    exact ⟨t, by simpa using h1, h2⟩
theorem Pairs.snoc {K : PySem.W.Frag} {H : Hp} {y : V} {kv : Key × V} (hy : ∃ t, y = .ref t ∧ SqT K H t [kV kv.1, kv.2]) : ∀ {ys : List V} {kvs : List (Key × V)}, Pairs K H ys kvs → Pairs K H (ys ++ [y]) (kvs ++ [kv])
  | _, _, .nil => .cons hy .nil
  | _, _, .cons r q => .cons r (Pairs.snoc hy q)
theorem Pairs.keep {K : PySem.W.Frag} {H H' : Hp} {ys : List V} {kvs : List (Key × V)} (h : Pairs K H ys kvs) (k : ∀ b xs, SqT K H b xs → SqT K H' b xs) : Pairs K H' ys kvs :=
  Paired.imp' (fun y kv ⟨t, e, q⟩ => ⟨t, e, k t _ q⟩) h
def rDictL (K : PySem.W.Frag) : List V → Hp → VK → Prop := fun xs H Q => ∃ a ys kvs, xs = [.ref a] ∧ SqL K H a ys ∧ Pairs K H ys kvs ∧ kvs.length ≤ 1000 ∧ ∀ p, H p = none → Q (.ref p) (upd H p (.dK (mergeK [] kvs)))
theorem call_dictL (hc : X.calm = true) : CallR X (.type "dict") (rDictL X.K) := by
  intro pins s σ H xs us Q I r h
  obtain ⟨a, ys, kvs, rfl, hq, hp, hl, q⟩ := h
  obtain ⟨u, rfl, ru⟩ := r.one
  cases ru
  obtain ⟨its, rv, ⟨o, n, e, c, hnd, dt⟩, hz⟩ := I.list hq
  have l1 := Paired.length hp
  have l2 := rv.length
  -- the values that stand in the tuples
  have hval : ∃ ws : List (Key × Value), KV kvs ws ∧ ∀ (j : Nat) kv, ws[j]? = some kv → ∃ t key, its[j]? = some (.ref t) ∧ IsTup s.heap t #[key, kv.2] ∧ (mixKind X.prog X.w).is kv.1 key = true := by
    clear q dt e hz l1 l2 hq
    induction hp generalizing its with
    | nil => exact ⟨[], .nil, fun j kv hj => by simp at hj⟩
    | @cons y kv ys kvs hy t ih =>
      cases rv with
      | @cons _ w1 _ ws1 r1 r2 =>
        obtain ⟨ws, k1, k2⟩ := ih (by simp at hl; omega) _ r2
        obtain ⟨b, rfl, hb⟩ := hy
        cases r1
        obtain ⟨tt, rt, pt, _⟩ := I.tuple hb
        cases rt with
        | @cons _ key _ t1 rk t1r =>
          cases t1r with
          | @cons _ v _ t2 rv' t2r =>
            cases t2r
            refine ⟨(kv.1, v) :: ws, .cons ⟨rfl, rv'⟩ k1, fun j kv' hj => ?_⟩
            cases j with
            | zero =>
              cases hj
              obtain ⟨ot, e1, e2, _, e3⟩ := pt
              exact ⟨b, key, rfl, ⟨ot, e1, e2, _, e3⟩, kV_is rk⟩
            | succ j =>
              obtain ⟨t', key', g1, g2, g3⟩ := k2 j kv' (by simpa using hj)
              exact ⟨t', key', by simpa using g1, g2, g3⟩
  obtain ⟨ws, k1, k2⟩ := hval
  have l3 := k1.length
  refine dof_call (knd := mixKind X.prog X.w) (I.ok.hd hc) e c dt hnd (more := ws) (by simp; omega) (fun j kv hj => ?_) (by rw [sizeLine_eq]; omega) fun h' tk dd kk => ?_
  · obtain ⟨t, key, g1, g2, g3⟩ := k2 j kv hj
    exact ⟨t, key, by simpa using g1, g2, g3⟩
  · refine ⟨.ref s.heap.objs.size, _, I.laid (a := s.heap.objs.size) (o := .dK (mergeK [] kvs)) (t' := tk) kk (Nat.le_refl _) ?_, rfl, q _ (I.hok.fresh (Nat.le_refl _))⟩
    have hz2 : (mergeK [] kvs).length ≤ sizeLine := by
      have h1 := length_mergeK kvs []
      rw [List.length_nil] at h1
      rw [sizeLine_eq]; omega
    exact dk_new hz2 (beq_eq_false_iff_ne.mpr (Ne.symm (Nat.ne_of_lt I.big))) (KV.merge k1 .nil) dd

/-! ### d.update(e), d.clear() -/
def rUpdate : V → List V → Hp → VK → Prop := fun x vs H Q => ∃ a b kvs more, x = .ref a ∧ vs = [.ref b] ∧ H a = some (.dK kvs) ∧ H b = some (.dK more) ∧ a ≠ b ∧ kvs.length + more.length ≤ 1000 ∧ Q .non (upd H a (.dK (mergeK kvs more)))
theorem mt_update : MtR X "dict.update" rUpdate := by
  intro pins s σ H x xs v us Q I rx r h
  obtain ⟨a, b, kvs, more, rfl, rfl, e1, e2, hab, hl, q⟩ := h
  obtain ⟨u, rfl, ru⟩ := r.one
  cases ru
  cases rx
  obtain ⟨z1, hd1, vs, rel1, dd1⟩ := dk_of I.hok e1
  obtain ⟨z2, hd2, ws, rel2, dd2⟩ := dk_of I.hok e2
  have l1 := rel1.length
  have l2 := rel2.length
  have l3 := length_mergeK more kvs
  refine call_meetsIn PySem.F.slot_dict_update dd1.typeIs PySem.F.entry_dict_update (PySem.F.args_dict_update_2 _ _) (meets_dict_update (mixKind X.prog X.w) a b hab hd2)
    ⟨vs, ws, dd1, dd2, (by rw [sizeLine_eq]; omega), fun h' dd' _ hs => ⟨.non, _, ?_, rfl, q⟩⟩
  have he : ∃ q, h'.get? a = some q := let ⟨q, _, _, hq, _⟩ := dd'; ⟨q, hq⟩
  exact d_write I (by rw [e1]; exact True.intro) hs he (dk_new (by rw [sizeLine_eq]; omega) hd1 (KV.merge rel2 rel1) dd')
end
end L2
namespace L2
open PySem PySem.Spec PyProof.Rows
section
variable {X : Cx} {pos : Pos}
/-! ### a, b, c = x, y, z with plain local names -/
def tPar3 (i j k : Nat) (ta : TA) : TS := fun D σ H => ta σ H fun vs H1 => ∃ u v w, vs = [u, v, w] ∧ D.nx (((σ.set k (some w)).set j (some v)).set i (some u)) H1
end
/-! ### a class of the text that may be made -/
section
variable {X : Cx} {k : Nat} {sp : Sp} {C : Addr} {x : Str} {p pos : Pos} {e : Expr} {es : List Expr} {t : TA}
end
/-! ### comprehensions over the ints f 0, f 1, .. -/
def Itf (f : Nat → Int) (n : Nat) : It := ⟨fun i _ => i < n, fun i H x H' => H' = H ∧ x = .int (f i), fun i _ => n ≤ i⟩
def LcF (n0 : Nat) (f : Nat → Int) (g : TG) (tt : TT) (te : TE) (σ0 : St) (H1 : Hp) (Q : VK) : Prop := ∀ D, H1 D = none → ∃ W : Nat → Nat → St → Hp → Prop, (∃ m, W 0 m σ0 (upd H1 D (.lst []))) ∧ ∀ i m σ' H', W i m σ' H' →
  ((Itf f n0).stop i H' ∧ Q (.ref D) H') ∨ ((Itf f n0).go i H' ∧ ∃ Nx : St → Hp → Prop, (∀ σ2 H2, Nx σ2 H2 → ∃ m', m' < m ∧ W (i + 1) m' σ2 H2) ∧
    ∀ x H2, (Itf f n0).yld i H' x H2 → g x σ' H2 fun σ3 H3 => tt σ3 H3 fun ok H4 => if ok = true then te σ3 H4 fun y H5 => ∃ ys, H5 D = some (.lst ys) ∧ ys.length < sizeLine ∧ Nx σ3 (upd H5 D (.lst (ys ++ [y]))) else Nx σ3 H4)
theorem tLc_rng2 {ta : TA} {n : Nat} {js : List Nat} {g : TG} {tt : TT} {te : TE} {σ : St} {H : Hp} {Q : VK} :
    tLc (iRng2 ta) n js g tt te σ H Q = ta σ H fun vs H1 => ∃ i j : Int, vs = [.int i, .int j] ∧ (-(2 ^ 62) ≤ i ∧ i < 2 ^ 62 ∧ -(2 ^ 62) ≤ j ∧ j < 2 ^ 62) ∧ LcF (j - i).toNat (fun k => i + (k : Nat)) g tt te (pick n js σ) H1 Q := rfl
theorem tLc_rng3 {ta : TA} {n : Nat} {js : List Nat} {g : TG} {tt : TT} {te : TE} {σ : St} {H : Hp} {Q : VK} :
    tLc (iRng3 ta) n js g tt te σ H Q = ta σ H fun vs H1 => ∃ (i j c : Int) (m : Nat), vs = [.int i, .int j, .int c] ∧ R3 i j c m ∧ LcF m (fun k => i + (k : Nat) * c) g tt te (pick n js σ) H1 Q := rfl
theorem LcF.by {n0 : Nat} {f : Nat → Int} {g : TG} {tt : TT} {te : TE} {σ0 : St} {H1 : Hp} {Q : VK} (Pv : Addr → Nat → St → Hp → Prop) (h0 : ∀ D, H1 D = none → Pv D 0 σ0 (upd H1 D (.lst [])))
    (hs : ∀ D i σ H, H1 D = none → i < n0 → Pv D i σ H → g (.int (f i)) σ H fun σ3 H3 => tt σ3 H3 fun ok H4 => if ok = true then te σ3 H4 fun y H5 => ∃ ys, H5 D = some (.lst ys) ∧ ys.length < sizeLine ∧ Pv D (i + 1) σ3 (upd H5 D (.lst (ys ++ [y]))) else Pv D (i + 1) σ3 H4)
    (hd : ∀ D σ H, H1 D = none → Pv D n0 σ H → Q (.ref D) H) : LcF n0 f g tt te σ0 H1 Q := by
  intro D hD
  refine ⟨fun i m σ H => m = n0 - i ∧ i ≤ n0 ∧ Pv D i σ H, ⟨n0, by simp, Nat.zero_le _, h0 D hD⟩, ?_⟩
  rintro i m σ H ⟨rfl, hi, p⟩
  by_cases hlt : i < n0
  · refine .inr ⟨hlt, Pv D (i + 1), fun σ' H' p' => ⟨n0 - (i + 1), by omega, rfl, hlt, p'⟩, fun x H' y => ?_⟩
    obtain ⟨e, y⟩ := y
    subst e y
    exact hs D i σ _ hD hlt p
  · have e : i = n0 := by omega
    subst e
    exact .inl ⟨Nat.le_refl _, hd D σ H hD p⟩
end L2
namespace L2
open PySem PySem.Spec PyProof.Rows
/-! ### a number of the module; a loop over a tuple -/
theorem pe_gi {X : Cx} {x : Str} {i : Int} {pos : Pos} (hg : Gl X x) (h : ∃ t, X.mg x = some (.int i t)) (hd : (x == ("__debug__" : Str)) = false := by decide) : PE X (.Name x pos) (tC (.int i)) := by
  obtain ⟨t, e⟩ := h
  exact pe_glob hg e ⟨t, rfl⟩ hd
def LoopT (K : PySem.W.Frag) (a : Addr) (g : TG) (tb : TS) (D : Ends) (σ : St) (H : Hp) : Prop := ∃ W : Nat → Nat → St → Hp → Prop, (∃ m, W 0 m σ H) ∧ ∀ i m σ H, W i m σ H →
  ((Itt K a).stop i H ∧ D.nx σ H) ∨ ((Itt K a).go i H ∧ ∃ N : St → Hp → Prop, (∀ σ' H', N σ' H' → ∃ m', m' < m ∧ W (i + 1) m' σ' H') ∧ ∀ x H', (Itt K a).yld i H x H' → g x σ H' fun σ2 H2 => tb { D with nx := N, ct := N, bk := D.nx } σ2 H2)
theorem tFor_tup {K : PySem.W.Frag} {tl : TE} {g : TG} {tb : TS} {D : Ends} {σ : St} {H : Hp} : tFor (iTup K tl) g tb D σ H = tl σ H fun x H1 => ∃ a, x = .ref a ∧ (∃ xs, SqT K H1 a xs) ∧ LoopT K a g tb D σ H1 := rfl
theorem LoopT.run {K : PySem.W.Frag} {a : Addr} {xs : List V} {g : TG} {tb : TS} {D : Ends} {σ : St} {H : Hp} (Pv : Nat → St → Hp → Prop) (h0 : Pv 0 σ H) (hl : ∀ i σ H, i ≤ xs.length → Pv i σ H → SqT K H a xs)
    (hs : ∀ i x σ H, xs[i]? = some x → Pv i σ H → ∀ R : St → Hp → Prop, (∀ σ' H', Pv (i + 1) σ' H' → R σ' H') → g x σ H fun σ2 H2 => tb { D with nx := R, ct := R, bk := D.nx } σ2 H2) (hd : ∀ σ H, Pv xs.length σ H → D.nx σ H) : LoopT K a g tb D σ H :=
  for_tup Pv h0 hl (fun i x σ H hi p => hs i x σ H hi p _ fun _ _ z => z) hd
end L2
/-! A State's fields and the law's own dict of them. -/
namespace L2
open PySem PySem.Spec PyProof.Rows
structure SV where
  wide : Int
  high : Int
  row : Int
  col : Int
  late : Bool
  ink : Int
  wrap : Bool
  putting : Bool
  home : Bool
  top : Int
  bottom : Int
  left : Int
  right : Int
  last : V
def fldS (p st kp : Addr) (S : SV) : List (Str × V) := [("picture", .ref p), ("wide", .int S.wide), ("high", .int S.high), ("row", .int S.row), ("column", .int S.col), ("late", .bl S.late), ("ink", .int S.ink), ("wrap", .bl S.wrap), ("putting", .bl S.putting), ("home", .bl S.home), ("top", .int S.top), ("bottom", .int S.bottom), ("left", .int S.left), ("right", .int S.right), ("stops", .ref st), ("kept", .ref kp), ("last", S.last)]
theorem putF_at {f : Str} {v x : V} : ∀ {fs : List (Str × V)} {i : Nat}, (fs.map (·.1)).Nodup → fs[i]? = some (f, x) → putF f v fs = fs.set i (f, v)
  | [], _, _, e => by cases e
  | (g, y) :: fs, 0, _, e => by
    cases e
    simp [putF]
  | (g, y) :: fs, i + 1, hn, e => by
    have hm : f ∈ fs.map (·.1) := List.mem_map.mpr ⟨(f, x), List.mem_of_getElem? (by simpa using e), rfl⟩
    have hne : ¬ g = f := fun z => (List.nodup_cons.mp hn).1 (show g ∈ _ from z ▸ hm)
    simp only [putF, if_neg hne, List.set_cons_succ]
    rw [putF_at (List.nodup_cons.mp hn).2 (by simpa using e)]
theorem lookF_at {f : Str} {x : V} : ∀ {fs : List (Str × V)} {i : Nat}, (fs.map (·.1)).Nodup → fs[i]? = some (f, x) → fs.lookup f = some x
  | [], _, _, e => by cases e
  | (g, y) :: fs, 0, _, e => by
    cases e
    simp [List.lookup]
  | (g, y) :: fs, i + 1, hn, e => by
    have hm : f ∈ fs.map (·.1) := List.mem_map.mpr ⟨(f, x), List.mem_of_getElem? (by simpa using e), rfl⟩
    have hne : ¬ f = g := fun z => (List.nodup_cons.mp hn).1 (show g ∈ _ from z ▸ hm)
    have hb : (f == g) = false := by simpa using hne
    simp only [List.lookup, hb]
    exact lookF_at (List.nodup_cons.mp hn).2 (by simpa using e)
theorem putF_new {f : Str} {v : V} : ∀ {fs : List (Str × V)}, f ∉ fs.map (·.1) → putF f v fs = fs ++ [(f, v)]
  | [], _ => rfl
  | (g, y) :: fs, h => by
    have hne : ¬ g = f := fun z => h (by simp [z])
    simp only [putF, if_neg hne, List.cons_append]
    rw [putF_new fun z => h (by simp at z ⊢; exact .inr z)]
theorem fldS_nd (p st kp : Addr) (S : SV) : ((fldS p st kp S).map (·.1)).Nodup := by
  show (["picture", "wide", "high", "row", "column", "late", "ink", "wrap", "putting", "home", "top", "bottom", "left", "right", "stops", "kept", "last"] : List Str).Nodup
  decide +kernel
theorem fldS_len (p st kp : Addr) (S : SV) : (fldS p st kp S).length = 17 := rfl
section
variable {p st kp : Addr} {S : SV}
theorem look_picture : (fldS p st kp S).lookup ("picture" : Str) = some (V.ref p) := lookF_at (i := 0) (fldS_nd p st kp S) rfl
theorem look_wide : (fldS p st kp S).lookup ("wide" : Str) = some (V.int S.wide) := lookF_at (i := 1) (fldS_nd p st kp S) rfl
theorem look_high : (fldS p st kp S).lookup ("high" : Str) = some (V.int S.high) := lookF_at (i := 2) (fldS_nd p st kp S) rfl
theorem look_row : (fldS p st kp S).lookup ("row" : Str) = some (V.int S.row) := lookF_at (i := 3) (fldS_nd p st kp S) rfl
theorem put_row {z : Int} : putF "row" (.int z) (fldS p st kp S) = fldS p st kp { S with row := z } := putF_at (i := 3) (fldS_nd p st kp S) rfl
theorem look_column : (fldS p st kp S).lookup ("column" : Str) = some (V.int S.col) := lookF_at (i := 4) (fldS_nd p st kp S) rfl
theorem put_column {z : Int} : putF "column" (.int z) (fldS p st kp S) = fldS p st kp { S with col := z } := putF_at (i := 4) (fldS_nd p st kp S) rfl
theorem look_late : (fldS p st kp S).lookup ("late" : Str) = some (V.bl S.late) := lookF_at (i := 5) (fldS_nd p st kp S) rfl
theorem put_late {z : Bool} : putF "late" (.bl z) (fldS p st kp S) = fldS p st kp { S with late := z } := putF_at (i := 5) (fldS_nd p st kp S) rfl
theorem look_ink : (fldS p st kp S).lookup ("ink" : Str) = some (V.int S.ink) := lookF_at (i := 6) (fldS_nd p st kp S) rfl
theorem look_wrap : (fldS p st kp S).lookup ("wrap" : Str) = some (V.bl S.wrap) := lookF_at (i := 7) (fldS_nd p st kp S) rfl
theorem look_putting : (fldS p st kp S).lookup ("putting" : Str) = some (V.bl S.putting) := lookF_at (i := 8) (fldS_nd p st kp S) rfl
theorem look_home : (fldS p st kp S).lookup ("home" : Str) = some (V.bl S.home) := lookF_at (i := 9) (fldS_nd p st kp S) rfl
theorem look_top : (fldS p st kp S).lookup ("top" : Str) = some (V.int S.top) := lookF_at (i := 10) (fldS_nd p st kp S) rfl
theorem put_top {z : Int} : putF "top" (.int z) (fldS p st kp S) = fldS p st kp { S with top := z } := putF_at (i := 10) (fldS_nd p st kp S) rfl
theorem look_bottom : (fldS p st kp S).lookup ("bottom" : Str) = some (V.int S.bottom) := lookF_at (i := 11) (fldS_nd p st kp S) rfl
theorem put_bottom {z : Int} : putF "bottom" (.int z) (fldS p st kp S) = fldS p st kp { S with bottom := z } := putF_at (i := 11) (fldS_nd p st kp S) rfl
theorem look_left : (fldS p st kp S).lookup ("left" : Str) = some (V.int S.left) := lookF_at (i := 12) (fldS_nd p st kp S) rfl
theorem put_left {z : Int} : putF "left" (.int z) (fldS p st kp S) = fldS p st kp { S with left := z } := putF_at (i := 12) (fldS_nd p st kp S) rfl
theorem look_right : (fldS p st kp S).lookup ("right" : Str) = some (V.int S.right) := lookF_at (i := 13) (fldS_nd p st kp S) rfl
theorem put_right {z : Int} : putF "right" (.int z) (fldS p st kp S) = fldS p st kp { S with right := z } := putF_at (i := 13) (fldS_nd p st kp S) rfl
theorem look_stops : (fldS p st kp S).lookup ("stops" : Str) = some (V.ref st) := lookF_at (i := 14) (fldS_nd p st kp S) rfl
theorem look_kept : (fldS p st kp S).lookup ("kept" : Str) = some (V.ref kp) := lookF_at (i := 15) (fldS_nd p st kp S) rfl
theorem look_last : (fldS p st kp S).lookup ("last" : Str) = some (S.last) := lookF_at (i := 16) (fldS_nd p st kp S) rfl
end
theorem ini_1 {v0 v1 : V} : putF ("wide" : Str) v1 [("picture", v0)] = ([("picture", v0), ("wide", v1)] : List (Str × V)) := putF_new (by show (_ : Str) ∉ (["picture"] : List Str); decide +kernel)
theorem ini_2 {v0 v1 v2 : V} : putF ("high" : Str) v2 [("picture", v0), ("wide", v1)] = ([("picture", v0), ("wide", v1), ("high", v2)] : List (Str × V)) := putF_new (by show (_ : Str) ∉ (["picture", "wide"] : List Str); decide +kernel)
theorem ini_3 {v0 v1 v2 v3 : V} : putF ("row" : Str) v3 [("picture", v0), ("wide", v1), ("high", v2)] = ([("picture", v0), ("wide", v1), ("high", v2), ("row", v3)] : List (Str × V)) := putF_new (by show (_ : Str) ∉ (["picture", "wide", "high"] : List Str); decide +kernel)
theorem ini_4 {v0 v1 v2 v3 v4 : V} : putF ("column" : Str) v4 [("picture", v0), ("wide", v1), ("high", v2), ("row", v3)] = ([("picture", v0), ("wide", v1), ("high", v2), ("row", v3), ("column", v4)] : List (Str × V)) := putF_new (by show (_ : Str) ∉ (["picture", "wide", "high", "row"] : List Str); decide +kernel)
theorem ini_5 {v0 v1 v2 v3 v4 v5 : V} : putF ("late" : Str) v5 [("picture", v0), ("wide", v1), ("high", v2), ("row", v3), ("column", v4)] = ([("picture", v0), ("wide", v1), ("high", v2), ("row", v3), ("column", v4), ("late", v5)] : List (Str × V)) := putF_new (by show (_ : Str) ∉ (["picture", "wide", "high", "row", "column"] : List Str); decide +kernel)
theorem ini_6 {v0 v1 v2 v3 v4 v5 v6 : V} : putF ("ink" : Str) v6 [("picture", v0), ("wide", v1), ("high", v2), ("row", v3), ("column", v4), ("late", v5)] = ([("picture", v0), ("wide", v1), ("high", v2), ("row", v3), ("column", v4), ("late", v5), ("ink", v6)] : List (Str × V)) := putF_new (by show (_ : Str) ∉ (["picture", "wide", "high", "row", "column", "late"] : List Str); decide +kernel)
theorem ini_7 {v0 v1 v2 v3 v4 v5 v6 v7 : V} : putF ("wrap" : Str) v7 [("picture", v0), ("wide", v1), ("high", v2), ("row", v3), ("column", v4), ("late", v5), ("ink", v6)] = ([("picture", v0), ("wide", v1), ("high", v2), ("row", v3), ("column", v4), ("late", v5), ("ink", v6), ("wrap", v7)] : List (Str × V)) := putF_new (by show (_ : Str) ∉ (["picture", "wide", "high", "row", "column", "late", "ink"] : List Str); decide +kernel)
theorem ini_8 {v0 v1 v2 v3 v4 v5 v6 v7 v8 : V} : putF ("putting" : Str) v8 [("picture", v0), ("wide", v1), ("high", v2), ("row", v3), ("column", v4), ("late", v5), ("ink", v6), ("wrap", v7)] = ([("picture", v0), ("wide", v1), ("high", v2), ("row", v3), ("column", v4), ("late", v5), ("ink", v6), ("wrap", v7), ("putting", v8)] : List (Str × V)) := putF_new (by show (_ : Str) ∉ (["picture", "wide", "high", "row", "column", "late", "ink", "wrap"] : List Str); decide +kernel)
theorem ini_9 {v0 v1 v2 v3 v4 v5 v6 v7 v8 v9 : V} : putF ("home" : Str) v9 [("picture", v0), ("wide", v1), ("high", v2), ("row", v3), ("column", v4), ("late", v5), ("ink", v6), ("wrap", v7), ("putting", v8)] = ([("picture", v0), ("wide", v1), ("high", v2), ("row", v3), ("column", v4), ("late", v5), ("ink", v6), ("wrap", v7), ("putting", v8), ("home", v9)] : List (Str × V)) := putF_new (by show (_ : Str) ∉ (["picture", "wide", "high", "row", "column", "late", "ink", "wrap", "putting"] : List Str); decide +kernel)
theorem ini_10 {v0 v1 v2 v3 v4 v5 v6 v7 v8 v9 v10 : V} : putF ("top" : Str) v10 [("picture", v0), ("wide", v1), ("high", v2), ("row", v3), ("column", v4), ("late", v5), ("ink", v6), ("wrap", v7), ("putting", v8), ("home", v9)] = ([("picture", v0), ("wide", v1), ("high", v2), ("row", v3), ("column", v4), ("late", v5), ("ink", v6), ("wrap", v7), ("putting", v8), ("home", v9), ("top", v10)] : List (Str × V)) := putF_new (by show (_ : Str) ∉ (["picture", "wide", "high", "row", "column", "late", "ink", "wrap", "putting", "home"] : List Str); decide +kernel)
theorem ini_11 {v0 v1 v2 v3 v4 v5 v6 v7 v8 v9 v10 v11 : V} : putF ("bottom" : Str) v11 [("picture", v0), ("wide", v1), ("high", v2), ("row", v3), ("column", v4), ("late", v5), ("ink", v6), ("wrap", v7), ("putting", v8), ("home", v9), ("top", v10)] = ([("picture", v0), ("wide", v1), ("high", v2), ("row", v3), ("column", v4), ("late", v5), ("ink", v6), ("wrap", v7), ("putting", v8), ("home", v9), ("top", v10), ("bottom", v11)] : List (Str × V)) := putF_new (by show (_ : Str) ∉ (["picture", "wide", "high", "row", "column", "late", "ink", "wrap", "putting", "home", "top"] : List Str); decide +kernel)
theorem ini_12 {v0 v1 v2 v3 v4 v5 v6 v7 v8 v9 v10 v11 v12 : V} : putF ("left" : Str) v12 [("picture", v0), ("wide", v1), ("high", v2), ("row", v3), ("column", v4), ("late", v5), ("ink", v6), ("wrap", v7), ("putting", v8), ("home", v9), ("top", v10), ("bottom", v11)] = ([("picture", v0), ("wide", v1), ("high", v2), ("row", v3), ("column", v4), ("late", v5), ("ink", v6), ("wrap", v7), ("putting", v8), ("home", v9), ("top", v10), ("bottom", v11), ("left", v12)] : List (Str × V)) := putF_new (by show (_ : Str) ∉ (["picture", "wide", "high", "row", "column", "late", "ink", "wrap", "putting", "home", "top", "bottom"] : List Str); decide +kernel)
theorem ini_13 {v0 v1 v2 v3 v4 v5 v6 v7 v8 v9 v10 v11 v12 v13 : V} : putF ("right" : Str) v13 [("picture", v0), ("wide", v1), ("high", v2), ("row", v3), ("column", v4), ("late", v5), ("ink", v6), ("wrap", v7), ("putting", v8), ("home", v9), ("top", v10), ("bottom", v11), ("left", v12)] = ([("picture", v0), ("wide", v1), ("high", v2), ("row", v3), ("column", v4), ("late", v5), ("ink", v6), ("wrap", v7), ("putting", v8), ("home", v9), ("top", v10), ("bottom", v11), ("left", v12), ("right", v13)] : List (Str × V)) := putF_new (by show (_ : Str) ∉ (["picture", "wide", "high", "row", "column", "late", "ink", "wrap", "putting", "home", "top", "bottom", "left"] : List Str); decide +kernel)
theorem ini_14 {v0 v1 v2 v3 v4 v5 v6 v7 v8 v9 v10 v11 v12 v13 v14 : V} : putF ("stops" : Str) v14 [("picture", v0), ("wide", v1), ("high", v2), ("row", v3), ("column", v4), ("late", v5), ("ink", v6), ("wrap", v7), ("putting", v8), ("home", v9), ("top", v10), ("bottom", v11), ("left", v12), ("right", v13)] = ([("picture", v0), ("wide", v1), ("high", v2), ("row", v3), ("column", v4), ("late", v5), ("ink", v6), ("wrap", v7), ("putting", v8), ("home", v9), ("top", v10), ("bottom", v11), ("left", v12), ("right", v13), ("stops", v14)] : List (Str × V)) := putF_new (by show (_ : Str) ∉ (["picture", "wide", "high", "row", "column", "late", "ink", "wrap", "putting", "home", "top", "bottom", "left", "right"] : List Str); decide +kernel)
theorem ini_15 {v0 v1 v2 v3 v4 v5 v6 v7 v8 v9 v10 v11 v12 v13 v14 v15 : V} : putF ("kept" : Str) v15 [("picture", v0), ("wide", v1), ("high", v2), ("row", v3), ("column", v4), ("late", v5), ("ink", v6), ("wrap", v7), ("putting", v8), ("home", v9), ("top", v10), ("bottom", v11), ("left", v12), ("right", v13), ("stops", v14)] = ([("picture", v0), ("wide", v1), ("high", v2), ("row", v3), ("column", v4), ("late", v5), ("ink", v6), ("wrap", v7), ("putting", v8), ("home", v9), ("top", v10), ("bottom", v11), ("left", v12), ("right", v13), ("stops", v14), ("kept", v15)] : List (Str × V)) := putF_new (by show (_ : Str) ∉ (["picture", "wide", "high", "row", "column", "late", "ink", "wrap", "putting", "home", "top", "bottom", "left", "right", "stops"] : List Str); decide +kernel)
theorem ini_16 {v0 v1 v2 v3 v4 v5 v6 v7 v8 v9 v10 v11 v12 v13 v14 v15 v16 : V} : putF ("last" : Str) v16 [("picture", v0), ("wide", v1), ("high", v2), ("row", v3), ("column", v4), ("late", v5), ("ink", v6), ("wrap", v7), ("putting", v8), ("home", v9), ("top", v10), ("bottom", v11), ("left", v12), ("right", v13), ("stops", v14), ("kept", v15)] = ([("picture", v0), ("wide", v1), ("high", v2), ("row", v3), ("column", v4), ("late", v5), ("ink", v6), ("wrap", v7), ("putting", v8), ("home", v9), ("top", v10), ("bottom", v11), ("left", v12), ("right", v13), ("stops", v14), ("kept", v15), ("last", v16)] : List (Str × V)) := putF_new (by show (_ : Str) ∉ (["picture", "wide", "high", "row", "column", "late", "ink", "wrap", "putting", "home", "top", "bottom", "left", "right", "stops", "kept"] : List Str); decide +kernel)
theorem lookF_new {f : Str} : ∀ {fs : List (Str × V)}, f ∉ fs.map (·.1) → fs.lookup f = none
  | [], _ => rfl
  | (g, y) :: fs, h => by
    have hb : (f == g) = false := by
      have : ¬ f = g := fun z => h (by simp [z])
      simpa using this
    simp only [List.lookup, hb]
    exact lookF_new fun z => h (by simp at z ⊢; exact .inr z)
theorem lk_begin_3 {v0 v1 v2 : V} : List.lookup ("begin" : Str) ([("picture", v0), ("wide", v1), ("high", v2)] : List (Str × V)) = none := lookF_new (by show (_ : Str) ∉ (["picture", "wide", "high"] : List Str); decide +kernel)
theorem lk_high_11 {v0 v1 v2 v3 v4 v5 v6 v7 v8 v9 v10 : V} : List.lookup ("high" : Str) ([("picture", v0), ("wide", v1), ("high", v2), ("row", v3), ("column", v4), ("late", v5), ("ink", v6), ("wrap", v7), ("putting", v8), ("home", v9), ("top", v10)] : List (Str × V)) = some v2 := lookF_at (i := 2) (by show (["picture", "wide", "high", "row", "column", "late", "ink", "wrap", "putting", "home", "top"] : List Str).Nodup; decide +kernel) rfl
theorem lk_wide_13 {v0 v1 v2 v3 v4 v5 v6 v7 v8 v9 v10 v11 v12 : V} : List.lookup ("wide" : Str) ([("picture", v0), ("wide", v1), ("high", v2), ("row", v3), ("column", v4), ("late", v5), ("ink", v6), ("wrap", v7), ("putting", v8), ("home", v9), ("top", v10), ("bottom", v11), ("left", v12)] : List (Str × V)) = some v1 := lookF_at (i := 1) (by show (["picture", "wide", "high", "row", "column", "late", "ink", "wrap", "putting", "home", "top", "bottom", "left"] : List Str).Nodup; decide +kernel) rfl
theorem lk_wide_14 {v0 v1 v2 v3 v4 v5 v6 v7 v8 v9 v10 v11 v12 v13 : V} : List.lookup ("wide" : Str) ([("picture", v0), ("wide", v1), ("high", v2), ("row", v3), ("column", v4), ("late", v5), ("ink", v6), ("wrap", v7), ("putting", v8), ("home", v9), ("top", v10), ("bottom", v11), ("left", v12), ("right", v13)] : List (Str × V)) = some v1 := lookF_at (i := 1) (by show (["picture", "wide", "high", "row", "column", "late", "ink", "wrap", "putting", "home", "top", "bottom", "left", "right"] : List Str).Nodup; decide +kernel) rfl
theorem init_step {K : PySem.W.Frag} {x C dx : Addr} {fs : List (Str × V)} {f : Str} {v : V} {tv : TE} {t : TS} {D : Ends} {σ : St} {H : Hp} (hσ : σ[0]? = some (some (.ref x))) (htv : ∀ Q : VK, Q v H → tv σ H Q) (h : H x = some (.ins C dx fs)) (c : Cls K C) (n : NoAttr K C f)
    (l : fs.length < 1000) (q : t D σ (upd H x (.ins C dx (putF f v fs)))) : tSeq (sFld K (tVar 0) tv f) t D σ H := htv _ ⟨_, hσ, x, C, dx, fs, rfl, h, c, n, l, q⟩
theorem init_end {K : PySem.W.Frag} {x C dx : Addr} {fs : List (Str × V)} {f : Str} {v : V} {tv : TE} {D : Ends} {σ : St} {H : Hp} (hσ : σ[0]? = some (some (.ref x))) (htv : ∀ Q : VK, Q v H → tv σ H Q) (h : H x = some (.ins C dx fs)) (c : Cls K C) (n : NoAttr K C f)
    (l : fs.length < 1000) (q : D.nx σ (upd H x (.ins C dx (putF f v fs)))) : sFld K (tVar 0) tv f D σ H := htv _ ⟨_, hσ, x, C, dx, fs, rfl, h, c, n, l, q⟩
/-- a State of the class C -/
structure Sta (K : PySem.W.Frag) (C : Addr) : Prop where
  cl : Cls K C
  n_picture : NoAttr K C "picture"
  n_wide : NoAttr K C "wide"
  n_high : NoAttr K C "high"
  n_row : NoAttr K C "row"
  n_column : NoAttr K C "column"
  n_late : NoAttr K C "late"
  n_ink : NoAttr K C "ink"
  n_wrap : NoAttr K C "wrap"
  n_putting : NoAttr K C "putting"
  n_home : NoAttr K C "home"
  n_top : NoAttr K C "top"
  n_bottom : NoAttr K C "bottom"
  n_left : NoAttr K C "left"
  n_right : NoAttr K C "right"
  n_stops : NoAttr K C "stops"
  n_kept : NoAttr K C "kept"
  n_last : NoAttr K C "last"
def mS (sl : Addr) (S : SV) : List (Key × V) := [(Sum.inr "wide", .int S.wide), (Sum.inr "high", .int S.high), (Sum.inr "row", .int S.row), (Sum.inr "column", .int S.col), (Sum.inr "late", .bl S.late), (Sum.inr "ink", .int S.ink), (Sum.inr "wrap", .bl S.wrap), (Sum.inr "insert", .bl S.putting), (Sum.inr "home", .bl S.home), (Sum.inr "top", .int S.top), (Sum.inr "bottom", .int S.bottom), (Sum.inr "left", .int S.left), (Sum.inr "right", .int S.right), (Sum.inr "stops", .ref sl)]
theorem valV_at {k : Key} {x : V} : ∀ {kvs : List (Key × V)} {i : Nat}, (kvs.map (·.1)).Nodup → kvs[i]? = some (k, x) → valV kvs k = some x
  | [], _, _, e => by cases e
  | (g, y) :: fs, 0, _, e => by
    cases e
    exact valV_pos rfl
  | (g, y) :: fs, i + 1, hn, e => by
    have hm : k ∈ fs.map (·.1) := List.mem_map.mpr ⟨(k, x), List.mem_of_getElem? (by simpa using e), rfl⟩
    have hne : ¬ (g, y).1 = k := fun z => (List.nodup_cons.mp hn).1 (show g ∈ _ from (show g = k from z) ▸ hm)
    rw [valV_neg hne]
    exact valV_at (List.nodup_cons.mp hn).2 (by simpa using e)
theorem map_put {k : Key} {v : V} : ∀ {kvs : List (Key × V)}, k ∉ kvs.map (·.1) → (kvs.map fun kv => if kv.1 = k then (kv.1, v) else kv) = kvs
  | [], _ => rfl
  | (g, y) :: fs, h => by
    have hne : ¬ g = k := fun z => h (by simp [z])
    rw [List.map_cons, map_put fun z => h (by simp at z ⊢; exact .inr z)]
    simp [hne]
theorem map_put_at {k : Key} {v x : V} : ∀ {kvs : List (Key × V)} {i : Nat}, (kvs.map (·.1)).Nodup → kvs[i]? = some (k, x) → (kvs.map fun kv => if kv.1 = k then (kv.1, v) else kv) = kvs.set i (k, v)
  | [], _, _, e => by cases e
  | (g, y) :: fs, 0, hn, e => by
    cases e
    rw [List.map_cons, map_put (List.nodup_cons.mp hn).1]
    simp
  | (g, y) :: fs, i + 1, hn, e => by
    have hm : k ∈ fs.map (·.1) := List.mem_map.mpr ⟨(k, x), List.mem_of_getElem? (by simpa using e), rfl⟩
    have hne : ¬ g = k := fun z => (List.nodup_cons.mp hn).1 (show g ∈ _ from z ▸ hm)
    rw [List.map_cons, map_put_at (List.nodup_cons.mp hn).2 (by simpa using e)]
    simp [hne]
theorem putK_at {k : Key} {v x : V} {kvs : List (Key × V)} {i : Nat} (hn : (kvs.map (·.1)).Nodup) (e : kvs[i]? = some (k, x)) : putK kvs k v = kvs.set i (k, v) := by
  have ha : (kvs.any fun kv => decide (kv.1 = k)) = true := by rw [valV_any, valV_at hn e]; rfl
  unfold putK
  rw [if_pos ha]
  exact map_put_at hn e
theorem merge_new : ∀ {more kvs : List (Key × V)}, ((kvs ++ more).map (·.1)).Nodup → mergeK kvs more = kvs ++ more
  | [], kvs, _ => by simp [mergeK]
  | (k, v) :: more, kvs, hn => by
    have hk : valV kvs k = none := by
      cases e : valV kvs k with
      | none => rfl
      | some x =>
        have ha : (kvs.any fun kv => decide (kv.1 = k)) = true := by rw [valV_any, e]; rfl
        obtain ⟨q, hq, hk⟩ := List.any_eq_true.mp ha
        have hk' : q.1 = k := by simpa using hk
        rw [List.map_append, List.nodup_append] at hn
        exact absurd hk' (hn.2.2 q.1 (List.mem_map.mpr ⟨q, hq, rfl⟩) k (by simp))
    show mergeK (putK kvs k v) more = _
    rw [putK_new v hk, merge_new (by simpa using hn)]
    simp
theorem mS_nd (sl : Addr) (S : SV) : ((mS sl S).map (·.1)).Nodup := by
  show ([Sum.inr "wide", Sum.inr "high", Sum.inr "row", Sum.inr "column", Sum.inr "late", Sum.inr "ink", Sum.inr "wrap", Sum.inr "insert", Sum.inr "home", Sum.inr "top", Sum.inr "bottom", Sum.inr "left", Sum.inr "right", Sum.inr "stops"] : List Key).Nodup
  decide +kernel
theorem mS_len (sl : Addr) (S : SV) : (mS sl S).length = 14 := rfl
section
variable {sl : Addr} {S : SV}
theorem val_wide : valV (mS sl S) (Sum.inr ("wide" : Str)) = some (V.int S.wide) := valV_at (i := 0) (mS_nd sl S) rfl
theorem val_high : valV (mS sl S) (Sum.inr ("high" : Str)) = some (V.int S.high) := valV_at (i := 1) (mS_nd sl S) rfl
theorem val_row : valV (mS sl S) (Sum.inr ("row" : Str)) = some (V.int S.row) := valV_at (i := 2) (mS_nd sl S) rfl
theorem putk_row {z : Int} : putK (mS sl S) (Sum.inr ("row" : Str)) (.int z) = mS sl { S with row := z } := putK_at (i := 2) (mS_nd sl S) rfl
theorem val_column : valV (mS sl S) (Sum.inr ("column" : Str)) = some (V.int S.col) := valV_at (i := 3) (mS_nd sl S) rfl
theorem putk_column {z : Int} : putK (mS sl S) (Sum.inr ("column" : Str)) (.int z) = mS sl { S with col := z } := putK_at (i := 3) (mS_nd sl S) rfl
theorem val_late : valV (mS sl S) (Sum.inr ("late" : Str)) = some (V.bl S.late) := valV_at (i := 4) (mS_nd sl S) rfl
theorem putk_late {z : Bool} : putK (mS sl S) (Sum.inr ("late" : Str)) (.bl z) = mS sl { S with late := z } := putK_at (i := 4) (mS_nd sl S) rfl
theorem val_ink : valV (mS sl S) (Sum.inr ("ink" : Str)) = some (V.int S.ink) := valV_at (i := 5) (mS_nd sl S) rfl
theorem val_wrap : valV (mS sl S) (Sum.inr ("wrap" : Str)) = some (V.bl S.wrap) := valV_at (i := 6) (mS_nd sl S) rfl
theorem val_insert : valV (mS sl S) (Sum.inr ("insert" : Str)) = some (V.bl S.putting) := valV_at (i := 7) (mS_nd sl S) rfl
theorem val_home : valV (mS sl S) (Sum.inr ("home" : Str)) = some (V.bl S.home) := valV_at (i := 8) (mS_nd sl S) rfl
theorem val_top : valV (mS sl S) (Sum.inr ("top" : Str)) = some (V.int S.top) := valV_at (i := 9) (mS_nd sl S) rfl
theorem putk_top {z : Int} : putK (mS sl S) (Sum.inr ("top" : Str)) (.int z) = mS sl { S with top := z } := putK_at (i := 9) (mS_nd sl S) rfl
theorem val_bottom : valV (mS sl S) (Sum.inr ("bottom" : Str)) = some (V.int S.bottom) := valV_at (i := 10) (mS_nd sl S) rfl
theorem putk_bottom {z : Int} : putK (mS sl S) (Sum.inr ("bottom" : Str)) (.int z) = mS sl { S with bottom := z } := putK_at (i := 10) (mS_nd sl S) rfl
theorem val_left : valV (mS sl S) (Sum.inr ("left" : Str)) = some (V.int S.left) := valV_at (i := 11) (mS_nd sl S) rfl
theorem putk_left {z : Int} : putK (mS sl S) (Sum.inr ("left" : Str)) (.int z) = mS sl { S with left := z } := putK_at (i := 11) (mS_nd sl S) rfl
theorem val_right : valV (mS sl S) (Sum.inr ("right" : Str)) = some (V.int S.right) := valV_at (i := 12) (mS_nd sl S) rfl
theorem putk_right {z : Int} : putK (mS sl S) (Sum.inr ("right" : Str)) (.int z) = mS sl { S with right := z } := putK_at (i := 12) (mS_nd sl S) rfl
theorem val_stops : valV (mS sl S) (Sum.inr ("stops" : Str)) = some (V.ref sl) := valV_at (i := 13) (mS_nd sl S) rfl
end
/-! ### d[k], d[k] = v of a dict by ints and texts, so that simp can read them -/
theorem kV_int {i : Int} {k : Key} : V.int i = kV k ↔ k = Sum.inl i := by
  cases k with
  | inl j => exact ⟨fun h => by cases h; rfl, fun h => by cases h; rfl⟩
  | inr x => exact ⟨fun h => (nomatch h), fun h => (nomatch h)⟩
theorem kV_str {x : Str} {k : Key} : V.str x = kV k ↔ k = Sum.inr x := by
  cases k with
  | inl j => exact ⟨fun h => (nomatch h), fun h => (nomatch h)⟩
  | inr y => exact ⟨fun h => by cases h; rfl, fun h => by cases h; rfl⟩
def tDGetK (td ty : TE) : TE := fun σ H Q => td σ H fun x H1 => ty σ H1 fun y H2 => ∃ a kvs k v, x = .ref a ∧ H2 a = some (.dK kvs) ∧ y = kV k ∧ valV kvs k = some v ∧ Q v H2
def sDPutK (td ty tv : TE) : TS := fun D σ H => tv σ H fun v H1 => td σ H1 fun x H2 => ty σ H2 fun y H3 => ∃ a kvs k, x = .ref a ∧ H3 a = some (.dK kvs) ∧ y = kV k ∧ kvs.length < 1000 ∧ D.nx σ (upd H3 a (.dK (putK kvs k v)))
section
variable {X : Cx} {o i value : Expr} {td ty tv : TE} {pos pos' : Pos}
/-- a reading may be weakened behind -/
theorem PE.cl {e : Expr} {t : TE} (h : PE X e t) : PE X e (fun σ H Q => ∃ Q' : VK, t σ H Q' ∧ ∀ x H1, Q' x H1 → Q x H1) := fun pins s σ H Q I ⟨Q', q, w⟩ =>
  thn (h pins s σ H Q' I q) fun v s1 ⟨x, H1, I1, r1, q1⟩ => ⟨x, H1, I1, r1, w x H1 q1⟩
theorem pe_dgetK (hu : X.A.units + 1 < cLine) (ho : PE X o td) (hi : PE X i ty) (hs : NoSl i) : PE X (.Subscript o i pos) (tDGetK td ty) := fun pins s σ H Q I h =>
  (pe_dget hu ho.cl hi.cl hs) pins s σ H Q I ⟨_, h, fun x H1 h1 => ⟨_, h1, fun y H2 ⟨a, kvs, k, v, e1, e2, e3, e4, q⟩ => ⟨a, v, e1, by rw [e3, ← e4]; exact DGet.k e2, q⟩⟩⟩
theorem ps_dputK (hu : X.A.units + 1 < cLine) (ho : PE X o td) (hi : PE X i ty) (hv : PE X value tv) (hs : swapsWith value (some (.Subscript o i pos')) pos.line X.env = pure false) :
    PS X (.Assign [.Subscript o i pos'] value pos) (sDPutK td ty tv) := fun pins s σ H D I h =>
  (ps_dput hu ho.cl hi.cl hv.cl hs) pins s σ H D I ⟨_, h, fun v H1 h1 => ⟨_, h1, fun x H2 h2 => ⟨_, h2, fun y H3 ⟨a, kvs, k, e1, e2, e3, e4, q⟩ => ⟨a, _, e1, by rw [e3]; exact DPut.k e2 (small1000 (by omega)), q⟩⟩⟩⟩
end
end L2
namespace L2
open PySem PySem.Spec PyProof.Rows
/-- a small number -/
def Sh (i : Int) : Prop := -1000000 ≤ i ∧ i ≤ 1000000
theorem reps_ints {K : PySem.W.Frag} {H : Hp} : ∀ ns : List Int, Reps K H (ns.map .int) (ns.map V.int)
  | [] => rfl
  | n :: ns => ⟨_, _, rfl, rfl, reps_ints ns⟩
theorem reps14 {K : PySem.W.Frag} {H : Hp} {a b c d f h i j k : Int} {e g g2 g3 : Bool} {D : PyData} {v : V} (hv : Rep K H D v) :
    Reps K H [.int a, .int b, .int c, .int d, .bool e, .int f, .bool g, .bool g2, .bool g3, .int h, .int i, .int j, .int k, D] [.int a, .int b, .int c, .int d, .bl e, .int f, .bl g, .bl g2, .bl g3, .int h, .int i, .int j, .int k, v] :=
  ⟨_, _, rfl, rfl, _, _, rfl, rfl, _, _, rfl, rfl, _, _, rfl, rfl, _, _, rfl, rfl, _, _, rfl, rfl, _, _, rfl, rfl, _, _, rfl, rfl, _, _, rfl, rfl, _, _, rfl, rfl, _, _, rfl, rfl, _, _, rfl, rfl, _, _, rfl, rfl, _, _, rfl, hv, rfl⟩
theorem Sh.log {i : Int} (h : Sh i) : i.natAbs.log2 < 20 := by
  obtain ⟨h1, h2⟩ := h
  by_cases h0 : i.natAbs = 0
  · rw [h0]; decide
  · exact (Nat.log2_lt h0).mpr (by omega)
theorem Sh.w {i : Int} (h : Sh i) : PyData.weight (.int i) ≤ 21 := by
  have := h.log
  simp only [PyData.weight]
  split <;> omega
theorem ints_w : ∀ {ns : List Int}, (∀ n ∈ ns, Sh n) → PyData.weightAll (ns.map .int) ≤ 22 * ns.length
  | [], _ => by simp [PyData.weightAll]
  | n :: ns, h => by
    have h1 := (h n (by simp)).w
    have h2 := ints_w (ns := ns) fun m hm => h m (by simp [hm])
    simp only [List.map_cons, PyData.weightAll, List.length_cons]
    omega
theorem ints_sh : ∀ {ns : List Int}, (∀ n ∈ ns, Sh n) → PyData.showableAll (ns.map .int) = true
  | [], _ => by simp [PyData.showableAll]
  | n :: ns, h => by
    have h1 := (h n (by simp)).log
    have h2 := ints_sh (ns := ns) fun m hm => h m (by simp [hm])
    simp only [List.map_cons, PyData.showableAll, PyData.showable, h2, Bool.and_true, decide_eq_true_eq]
    omega
theorem Sh.short {i : Int} (h : Sh i) : PyData.intsShort 13 (.int i) = true := by
  obtain ⟨h1, h2⟩ := h
  have q : (toString i).length ≤ 7 + 1 := int_text_length_le10 (by decide) (show i.natAbs < 10 ^ 7 by omega)
  have e : (PyData.int i).shown.length = (toString i).length := by
    simp only [PyData.shown]
    exact PySem.ofString_length _
  simp only [PyData.intsShort, decide_eq_true_eq]
  omega
theorem ints_short : ∀ {ns : List Int}, (∀ n ∈ ns, Sh n) → PyData.intsShortAll 13 (ns.map .int) = true
  | [], _ => by simp [PyData.intsShortAll]
  | n :: ns, h => by
    have h1 := (h n (by simp)).short
    have h2 := ints_short (ns := ns) fun m hm => h m (by simp [hm])
    simp only [List.map_cons, PyData.intsShortAll, h1, h2, Bool.and_self]
theorem ints_lay : ∀ {ns : List Int}, PyData.canLayAll0 (ns.map .int) = true
  | [] => by simp [PyData.canLayAll0]
  | n :: ns => by simp [PyData.canLayAll0, PyData.canLay0, ints_lay (ns := ns)]
theorem ints_dep : ∀ {ns : List Int}, PyData.depthAll (ns.map .int) ≤ 1
  | [] => by simp [PyData.depthAll]
  | n :: ns => by
    have := ints_dep (ns := ns)
    simp [PyData.depthAll, PyData.depth]
    omega
/-- a list of numbers, truths and one list of numbers may be shown -/
theorem tell14 {a b c d f h i j k : Int} {e g g2 g3 : Bool} {ns : List Int} (ha : Sh a) (hb : Sh b) (hc : Sh c) (hd : Sh d) (hf : Sh f) (hh : Sh h) (hi : Sh i) (hj : Sh j) (hk : Sh k) (hn : ∀ n ∈ ns, Sh n) (hl : ns.length < 64) :
    let D : PyData := .list [.int a, .int b, .int c, .int d, .bool e, .int f, .bool g, .bool g2, .bool g3, .int h, .int i, .int j, .int k, .list (ns.map .int)]
    D.showable = true ∧ D.depth ≤ 60 ∧ D.shown.length ≤ sizeLine := by
  intro D
  have e1 : D.showable = true := by
    have q := ints_sh hn
    have l1 := ha.log; have l2 := hb.log; have l3 := hc.log; have l4 := hd.log; have l5 := hf.log; have l6 := hh.log; have l7 := hi.log; have l8 := hj.log; have l9 := hk.log
    simp only [D, PyData.showable, PyData.showableAll, q, Bool.and_true, Bool.true_and, Bool.and_eq_true, decide_eq_true_eq]
    omega
  have e2 : D.depth ≤ 60 := by
    have q := ints_dep (ns := ns)
    simp only [D, PyData.depth, PyData.depthAll]
    omega
  refine ⟨e1, e2, ?_⟩
  have e3 : D.intsShort 13 = true := by
    simp only [D, PyData.intsShort, PyData.intsShortAll, ints_short hn, Bool.and_true, Bool.true_and]
    have := ha.short; have := hb.short; have := hc.short; have := hd.short; have := hf.short; have := hh.short; have := hi.short; have := hj.short; have := hk.short
    simp only [PyData.intsShort] at *
    simp only [*, Bool.and_self]
  have e4 : PyData.layable0 D = true := by
    have w1 := ha.w; have w2 := hb.w; have w3 := hc.w; have w4 := hd.w; have w5 := hf.w; have w6 := hh.w; have w7 := hi.w; have w8 := hj.w; have w9 := hk.w
    have w0 := ints_w hn
    have q1 : PyData.canLay0 D = true := by simp only [D, PyData.canLay0, PyData.canLayAll0, ints_lay, Bool.and_self]
    have q2 : PyData.weight D ≤ 2 ^ 20 := by
      have e20 : (2 : Nat) ^ 20 = 1048576 := by decide
      have u1 : ∀ b, PyData.weight (.bool b) = 0 := fun _ => rfl
      have u2 : PyData.weight (.list (ns.map .int)) = PyData.weightAll (ns.map .int) := by simp only [PyData.weight]
      have u3 : PyData.weight D = PyData.weightAll [.int a, .int b, .int c, .int d, .bool e, .int f, .bool g, .bool g2, .bool g3, .int h, .int i, .int j, .int k, .list (ns.map .int)] := by simp only [D, PyData.weight]
      rw [u3]
      simp only [PyData.weightAll]
      simp only [u1, u2]
      omega
    show (PyData.canLay0 D && decide (PyData.depth D ≤ 64) && decide (PyData.weight D ≤ 2 ^ 20)) = true
    rw [q1, decide_eq_true (show PyData.depth D ≤ 64 by omega), decide_eq_true q2]
    rfl
  exact Nat.le_trans (shown_le13 e4 e3) (by rw [sizeLine_eq]; decide)
end L2
/-! A dict of the module from ints to ints, asked by get. -/
namespace L2
open PySem PySem.Spec PyProof.Rows
def DK (K : PySem.W.Frag) (a : Addr) (D : List (Int × Int)) : Prop := KTD.keyedLook (fun b => K.lookup b) a (D.map fun p => (p.1, PyData.int p.2)) = true
def lookI (D : List (Int × Int)) (k : Int) : Option Int := match D with
  | [] => none
  | (i, d) :: r => if k = i then some d else lookI r k
/-- d.get(k, e) -/
def tGetI (K : PySem.W.Frag) (to : TE) (t : TA) : TE := fun σ H Q => to σ H fun x H1 => ∃ a D, x = .ref a ∧ DK K a D ∧ t σ H1 fun xs H2 => ∃ i d, xs = [.int i, .int d] ∧ Q (.int ((lookI D i).getD d)) H2
end L2
namespace L2
open PySem PySem.Spec PyProof.Rows
/-! ### displays of constants (a chain of qc doubles the time per item, where all items are of one sort) -/
def cE : Expr → Option V
  | .Constant (.int i) _ _ => some (.int i)
  | .Constant .none _ _ => some .non
  | .Constant (.bool b) _ _ => some (.bl b)
  | .Constant (.str x) _ _ => some (.str x)
  | _ => none
def allC : List Expr → Option (List V)
  | [] => some []
  | e :: es => match cE e, allC es with
    | some v, some vs => some (v :: vs)
    | _, _ => none
def tCs (vs : List V) : TA := fun _ H Q => Q vs H
theorem pe_cE {X : Cx} {e : Expr} {v : V} (h : cE e = some v) : PE X e (tC v) := by
  unfold cE at h
  split at h
  · cases h; exact pe_int
  · cases h; exact pe_non
  · cases h; exact pe_bl
  · cases h; exact pe_str
  · cases h
theorem cE_star {e : Expr} {v : V} (h : cE e = some v) : noStar e = true := by
  unfold cE at h
  split at h <;> first | rfl | cases h
theorem qa_all {X : Cx} : ∀ {es : List Expr} {vs : List V}, allC es = some vs → QA X es (tCs vs)
  | [], vs, h => by
    cases h
    exact qn
  | e :: es, vs, h => by
    simp only [allC] at h
    split at h
    · rename_i v ws h1 h2
      cases h
      exact qc (pe_cE h1) (qa_all h2) (cE_star h1)
    · cases h
theorem pe_lstC {X : Cx} {es : List Expr} {vs : List V} {pos : Pos} (h : allC es = some vs) : PE X (.List es pos) (tLst (tCs vs)) := pe_lstq (qa_all h)
end L2
namespace L2
open PySem PySem.Spec PyProof.Rows
/-! ### a method of a class of the text -/
structure CalT (P : Program) (w : World) (K : PySem.W.Frag) (mg : Str → Option Value) (base : Heap) (k : Nat) (m : Str) (C : Addr) (sp : Sp) : Prop where
  ex : ∃ (f : Addr) (fd : FuncData) (ps : List Str), Cls K C ∧ Meth K C m f ∧ FnOk P w K mg base CX0 k f fd ps sp ∧ Binds K fd ps []
section
variable {X : Cx} {k : Nat} {sp : Sp} {C : Addr} {m : Str} {apos pos : Pos} {o e : Expr} {es : List Expr} {ta : TE} {t : TA}
theorem pe_met0 {pl : Sem Bool} (c : CalT X.prog X.w X.K X.mg X.base k m C sp) (hr : Room k X.A) (he : PE X o ta)
    (ht : eval (.Call (.Attribute o m apos) [] [] pos) X.env = (do
      let ov ← eval o X.env
      standAt apos.atName
      let (f, first) ← holding [ov] (getMethod ov m pl)
      callWith pos f first (backTo pos (starEach [] X.env)) (backToKw pos (keywordEach [] X.env))) := by rfl) : PE X (.Call (.Attribute o m apos) [] [] pos) (tMeth C m sp [] E0 ta tNil) := by
  obtain ⟨f, fd, ps, c, M, F, hb⟩ := c.ex
  exact pe_meth0 (pl := pl) he c M F hr hb .nil pass0 ht
end
end L2
namespace K08
open PySem L2
def top (i : Nat) : Stmt := PySem.Challenge.pw_signscreen_k08_edges.main.body.getD i (.Pass ⟨0, 0, 0, 0⟩)
local macro_rules | `(tactic| walk_at "sc") => `(tactic| exact ⟨rfl, rfl, rfl, by decide +kernel, rfl, by decide +kernel, by decide +kernel⟩)
abbrev s_is_whole : Stmt := top 8
theorem sc_is_whole : FnScope ["thing", "least", "most"] ["thing", "least", "most"] (defScope s_is_whole) := by walk_at "sc"
abbrev s_is_size : Stmt := top 12
theorem sc_is_size : FnScope ["wide", "high"] ["wide", "high"] (defScope s_is_size) := by walk_at "sc"
abbrev s_blank_row : Stmt := top 13
theorem sc_blank_row : FnScope ["wide", "ink"] ["wide", "ink"] (defScope s_blank_row) := by walk_at "sc"
abbrev s_blank_picture : Stmt := top 14
theorem sc_blank_picture : FnScope ["wide", "high", "ink"] ["wide", "high", "ink"] (defScope s_blank_picture) := by walk_at "sc"
abbrev s_State___init__ : Stmt := inClass (top 17) 0
theorem sc_State___init__ : FnScope ["self", "wide", "high"] ["self", "wide", "high"] (defScope s_State___init__) := by walk_at "sc"
abbrev s_State_begin : Stmt := inClass (top 17) 1
theorem sc_State_begin : FnScope ["self"] ["self"] (defScope s_State_begin) := by walk_at "sc"
abbrev s_first_stops : Stmt := top 18
theorem sc_first_stops : FnScope ["wide"] ["wide"] (defScope s_first_stops) := by walk_at "sc"
abbrev s_edges : Stmt := top 19
theorem sc_edges : FnScope ["state", "top", "bottom", "left", "right"] ["state"] (defScope s_edges) := by walk_at "sc"
abbrev s_at_least_one : Stmt := top 20
theorem sc_at_least_one : FnScope ["many"] ["many"] (defScope s_at_least_one) := by walk_at "sc"
abbrev s_counted : Stmt := top 22
theorem sc_counted : FnScope ["number", "first", "last"] ["number", "first", "last"] (defScope s_counted) := by walk_at "sc"
abbrev s_to_place : Stmt := top 23
theorem sc_to_place : FnScope ["state", "row", "column"] ["state", "row", "column"] (defScope s_to_place) := by walk_at "sc"
abbrev s_to_home : Stmt := top 24
theorem sc_to_home : FnScope ["state"] ["state"] (defScope s_to_home) := by walk_at "sc"
abbrev s_span : Stmt := top 26
theorem sc_span : FnScope ["first", "last", "size", "begin", "end"] ["first", "last", "size"] (defScope s_span) := by walk_at "sc"
abbrev s_set_rows : Stmt := top 27
theorem sc_set_rows : FnScope ["state", "first", "last", "rows"] ["state", "first", "last"] (defScope s_set_rows) := by walk_at "sc"
abbrev s_set_columns : Stmt := top 28
theorem sc_set_columns : FnScope ["state", "first", "last", "columns"] ["state", "first", "last"] (defScope s_set_columns) := by walk_at "sc"
abbrev s__law_at : Stmt := top 30
theorem sc__law_at : FnScope ["_law_script", "_law_k"] ["_law_script", "_law_k"] (defScope s__law_at) := by walk_at "sc"
abbrev s__law_mixed : Stmt := top 31
theorem sc__law_mixed : FnScope ["_law_cell", "_law_k", "_law_mixed_here"] ["_law_cell", "_law_k"] (defScope s__law_mixed) := by walk_at "sc"
abbrev s__law_size : Stmt := top 32
theorem sc__law_size : FnScope ["_law_cell", "_law_wide"] ["_law_cell"] (defScope s__law_size) := by walk_at "sc"
abbrev s__law_number : Stmt := top 33
theorem sc__law_number : FnScope ["_law_cell"] ["_law_cell"] (defScope s__law_number) := by walk_at "sc"
abbrev s__law_begun : Stmt := top 34
theorem sc__law_begun : FnScope ["_law_wide", "_law_high", "_law_m"] ["_law_wide", "_law_high"] (defScope s__law_begun) := by walk_at "sc"
abbrev s__law_edges : Stmt := top 35
theorem sc__law_edges : FnScope ["_law_m", "_law_top", "_law_bottom", "_law_left", "_law_right"] ["_law_m"] (defScope s__law_edges) := by walk_at "sc"
abbrev s__law_times : Stmt := top 36
theorem sc__law_times : FnScope ["_law_many"] ["_law_many"] (defScope s__law_times) := by walk_at "sc"
abbrev s__law_placed : Stmt := top 37
theorem sc__law_placed : FnScope ["_law_m", "_law_row", "_law_column", "_law_top", "_law_bottom", "_law_left", "_law_right"] ["_law_m", "_law_row", "_law_column"] (defScope s__law_placed) := by walk_at "sc"
abbrev s__law_window : Stmt := top 38
theorem sc__law_window : FnScope ["_law_m", "_law_letter", "_law_first", "_law_last", "_law_most", "_law_names", "_law_end"] ["_law_m", "_law_letter", "_law_first", "_law_last"] (defScope s__law_window) := by walk_at "sc"
abbrev s__law_told : Stmt := top 39
theorem sc__law_told : FnScope ["_law_state", "_law_found"] ["_law_state"] (defScope s__law_told) := by walk_at "sc"
abbrev s__law_due : Stmt := top 40
theorem sc__law_due : FnScope ["_law_m", "_law_found"] ["_law_m"] (defScope s__law_due) := by walk_at "sc"
abbrev s__law_like : Stmt := top 41
theorem sc__law_like : FnScope ["_law_state", "_law_m"] ["_law_state", "_law_m"] (defScope s__law_like) := by walk_at "sc"
abbrev s__law_refused : Stmt := top 42
theorem sc__law_refused : FnScope ["_law_wide", "_law_high", "error", "_law_found"] ["_law_wide", "_law_high"] (defScope s__law_refused) := by walk_at "sc"
abbrev s_law : Stmt := top 43
theorem sc_law : FnScope ["_law_script", "_law_wide", "_law_high", "_law_state", "_law_other", "_law_m", "_law_k", "_law_cell", "_law_mixed_here", "_law_one", "_law_two", "_law_found", "_law_odd", "_law_pair"] ["_law_script"] (defScope s_law) := by walk_at "sc"
structure Txt (K : PySem.W.Frag) (mg : Str → Option Value) (C : Addr) : Prop where
  n_len : mg "len" = none
  n_range : mg "range" = none
  n_int : mg "int" = none
  n_bool : mg "bool" = none
  n_dict : mg "dict" = none
  n_tuple : mg "tuple" = none
  n_isinstance : mg "isinstance" = none
  n_enumerate : mg "enumerate" = none
  n_sorted : mg "sorted" = none
  n_repr : mg "repr" = none
  n_min : mg "min" = none
  n_max : mg "max" = none
  g_WIDEST : ∃ t, mg "WIDEST" = some (.int 24 t)
  g_HIGHEST : ∃ t, mg "HIGHEST" = some (.int 12 t)
  g_TAB_STEP : ∃ t, mg "TAB_STEP" = some (.int 4 t)
  mgC : mg "State" = some (.ref C)
  st : Sta K C
theorem cxK {CX : CXT} {P : Program} {w : World} {K : PySem.W.Frag} {mg : Str → Option Value} {base : Heap} {N : List Str} {qual : Str} {scope : Scope} {f : Addr} {cd : Value} {A : Around} {outer : List Env} {s : Shared} {H : Hp} {E : XK} :
    (cxOf CX P w K mg base N qual scope f cd A outer s H E).K = K := rfl
def inB (lo hi : Int) : Option Int → Bool
  | some i => decide (lo ≤ i ∧ i ≤ hi)
  | none => false
def spWhole (K : PySem.W.Frag) : Sp := fun vs H Q _ => ∃ x lo hi c, vs = [x, .int lo, .int hi] ∧ Th K H x c ∧ Q (.bl (inB lo hi c)) H
def spIsSize : Sp := fun vs H Q _ => ∃ w h, vs = [.int w, .int h] ∧ 1 ≤ w ∧ w ≤ 24 ∧ 1 ≤ h ∧ h ≤ 12 ∧ Q (.bl true) H
def spRow : Sp := fun vs H Q _ => ∃ w ink, vs = [.int w, .int ink] ∧ 1 ≤ w ∧ w ≤ 24 ∧ ∀ l H', Same H H' → Q (.ref l) H'
def spPic : Sp := fun vs H Q _ => ∃ w h ink, vs = [.int w, .int h, .int ink] ∧ 1 ≤ w ∧ w ≤ 24 ∧ 1 ≤ h ∧ h ≤ 12 ∧ ∀ l H', Same H H' → Q (.ref l) H'
def stN (w : Int) : List Int := (List.range ((w - 1) / 4).toNat).map fun i => 4 + (i : Nat) * 4
def stK (w : Int) : List (Key × V) := (stN w).map fun i => (Sum.inl i, V.bl true)
def spStops : Sp := fun vs H Q _ => ∃ w, vs = [.int w] ∧ 1 ≤ w ∧ w ≤ 24 ∧ ∀ d H', Same H H' → H d = none → H' d = some (.dK (stK w)) → Q (.ref d) H'
def sv0 (w h : Int) : SV := ⟨w, h, 0, 0, false, 0, true, false, false, 0, h - 1, 0, w - 1, .non⟩
def tellD (S : SV) (ns : List Int) : PyData := .list [.int S.wide, .int S.high, .int S.row, .int S.col, .bool S.late, .int S.ink, .bool S.wrap, .bool S.putting, .bool S.home, .int S.top, .int S.bottom, .int S.left, .int S.right, .list (ns.map .int)]
structure OkS (S : SV) : Prop where
  wide : Sh S.wide
  high : Sh S.high
  row : Sh S.row
  col : Sh S.col
  ink : Sh S.ink
  top : Sh S.top
  bottom : Sh S.bottom
  left : Sh S.left
  right : Sh S.right
def spTold (K : PySem.W.Frag) (C : Addr) : Sp := fun vs H Q _ => ∃ x dx p st kp S kvs, ∃ ns : List Int, vs = [.ref x] ∧ H x = some (.ins C dx (fldS p st kp S)) ∧ H st = some (.dK kvs) ∧ kvs.map (·.1) = ns.map (Sum.inl : Int → Key) ∧ ns.length < 64 ∧
  ∀ l H', Same H H' → Rep K H' (tellD S (srt ns)) (.ref l) → Q (.ref l) H'
def spDue (K : PySem.W.Frag) : Sp := fun vs H Q _ => ∃ d sl S, ∃ ms : List Int, vs = [.ref d] ∧ H d = some (.dK (mS sl S)) ∧ H sl = some (.lst (ms.map V.int)) ∧ ms.length < 64 ∧ ∀ l H', Same H H' → Rep K H' (tellD S (srt ms)) (.ref l) → Q (.ref l) H'
def spLike (C : Addr) : Sp := fun vs H Q _ => ∃ x dx p st kp S kvs, ∃ ns : List Int, ∃ d sl, ∃ ms : List Int, vs = [.ref x, .ref d] ∧ H x = some (.ins C dx (fldS p st kp S)) ∧ H st = some (.dK kvs) ∧ kvs.map (·.1) = ns.map (Sum.inl : Int → Key) ∧ ns.length < 64 ∧
  H d = some (.dK (mS sl S)) ∧ H sl = some (.lst (ms.map V.int)) ∧ ns.Perm ms ∧ OkS S ∧ (∀ n ∈ ns, Sh n) ∧ ∀ H', Same H H' → Q (.bl true) H'

local macro_rules | `(tactic| walk_at "rd") => `(tactic| simp [tRet, tOp, rI, rI0, rU, tUn, tVar, tC, L2.start, tSeq, tIfS, tTest, tAsg, gName, tCall, tCons, tNil, tCB, tNext, tDrop, tAndV, tOrV, tNotV, tChain, tAnd, tOr, tNot, tB, rEq, rNe, scal, tTup, tLst, gTup, gCons, gNil, rIxL, rIxT, rIxS, spI1, spI2, spI3, tGetI, and_assoc, cxK, tFor_rng1, tFor_lst, tFor_tup, tFor_enum, tBM, rAppend, tFld, sFld, tDGetK, sDPutK, kV_int, kV_str, tMake, tPar3, tLc_rng1, tLc_rng2, tLc_rng3, tLc_lst, tYes, pick, spWhole, spIsSize, spRow, spPic, spStops, rDictL, spTold, spDue, rRepr])
theorem stK_nd {w : Int} (h1 : 1 ≤ w) (h2 : w ≤ 24) : ((stK w).map (·.1)).Nodup := by
  obtain ⟨n, rfl⟩ : ∃ n : _root_.Fin 25, w = ((n.val : Nat) : Int) := ⟨⟨w.toNat, by omega⟩, by simp only; omega⟩
  clear h1 h2
  revert n
  decide +kernel
theorem r3_ok {w : Int} (h1 : 1 ≤ w) (h2 : w ≤ 24) : R3 4 w 4 ((w - 1) / 4).toNat := by
  obtain ⟨n, rfl⟩ : ∃ n : _root_.Fin 25, w = ((n.val : Nat) : Int) := ⟨⟨w.toNat, by omega⟩, by simp only; omega⟩
  have e : ∀ n : _root_.Fin 25, 1 ≤ n.val → (4 : Int) ≠ 0 ∧ Builtin.Range.small 4 ((n.val : Nat) : Int) 4 = true ∧ Builtin.Range.rangeSize 4 ((n.val : Nat) : Int) 4 = ((((n.val : Nat) : Int) - 1) / 4).toNat ∧ Builtin.divisionGoesByPylong (((n.val : Nat) : Int) - 4) 4 = false := by decide +kernel
  exact e n (by omega)
section
variable {P : Program} {w : World} {K : PySem.W.Frag} {mg : Str → Option Value} {base : Heap} {f C : Addr} {fd : FuncData}
theorem ok_is_whole (F : Fun K "is_whole" "is_whole" s_is_whole f fd) (T : Txt K mg C) : FnOk P w K mg base CX0 1 f fd ["thing", "least", "most"] (spWhole K) := by
  refine F.ok sc_is_whole (fun vs H Q E h => ?_) (fun cdv A outer s H vs Q E hr h => ?_)
  · obtain ⟨x, lo, hi, c, rfl, _⟩ := h
    rfl
  · obtain ⟨x, lo, hi, c, rfl, ht, q⟩ := h
    refine ⟨_, (pss_one (ps_ret (pe_and (pe_callB call_isinst (by rfl) T.n_isinstance (by rfl) (QA.pa (qc (pv 0) (qc (pe_bltn (v := .ty "int") (u := .type "int") rfl T.n_int rfl rfl) qn)))) (pe_and (pe_not (pe_callB call_isinst (by rfl) T.n_isinstance (by rfl) (QA.pa (qc (pv 0) (qc (pe_bltn (v := .ty "bool") (u := .type "bool") rfl T.n_bool rfl rfl) qn))))) (pe_one (pe_chain op_le op_le (pv 1) (pv 0) (pv 2))))))), ?_⟩
    walk_at "rd"
    cases c with
    | some i =>
      cases (show x = V.int i from ht)
      refine ⟨_, .int i, .inr ⟨kit_ii, _, .int i, .inl ⟨kit_ib, i, rfl, ite2 (fun h => ⟨i, rfl, ?_⟩) (fun h => ?_)⟩⟩⟩
      · simpa [inB, h] using q
      · simpa [inB, h] using q
    | none =>
      rcases ht with ⟨b, rfl⟩ | ho
      · exact ⟨_, .bl b, .inr ⟨kit_bi, _, .bl b, .inr ⟨kit_bb, q⟩⟩⟩
      · obtain ⟨n, h1, h2⟩ := ho.kit
        exact ⟨_, h1, .inl ⟨h2, q⟩⟩
theorem ok_first_stops (F : Fun K "first_stops" "first_stops" s_first_stops f fd) (T : Txt K mg C) : FnOk P w K mg base CX0 1 f fd ["wide"] spStops := by
  refine F.ok sc_first_stops (fun vs H Q E h => ?_) (fun cdv A outer s H vs Q E hr h => ?_)
  · obtain ⟨x, rfl, _⟩ := h
    rfl
  · obtain ⟨x, rfl, x1, x2, q⟩ := h
    refine ⟨_, (pss_one (ps_ret (pe_callTy (call_dictL rfl) (by rfl) T.n_dict rfl (QA.pa (qc (pe_lc (lcok (N := ["column"]) (n := 1) (js := [])) rfl (pi_range3 rfl T.n_range (QA.pa (qc (pe_gi rfl T.g_TAB_STEP) (qc (pv 0) (qc (pe_gi rfl T.g_TAB_STEP) qn))))) (fun _ _ _ _ => (pg_name (i := 0) (show List.Nodup (["column"] : List Str) by decide +kernel) rfl (Or.inl rfl))) (fun _ _ _ _ => pts_nil) (fun _ _ _ _ => (pe_tupq (qc (pv 0) (qc pe_bl qn))))) qn))))), ?_⟩
    walk_at "rd"
    have hn : ((x - 1) / 4).toNat ≤ 100 := by omega
    refine ⟨_, r3_ok x1 x2, LcF.by (fun D i σ H' => ∃ v ys, σ = [v] ∧ Same H H' ∧ H' D = some (.lst ys) ∧ Pairs K H' ys ((List.range i).map fun j => (Sum.inl (4 + (j : Nat) * 4), V.bl true))) (fun D hD => ⟨_, [], rfl, same_new hD, upd_same, .nil⟩) ?_ ?_⟩
    · rintro D i _ H' hD hi ⟨v, ys, rfl, hs, hl, hp⟩
      have hyl := Paired.length hp
      simp at hyl
      walk_at "rd"
      refine ⟨by decide, fun p hp0 => ⟨ys, by rw [upd_ne (ne_of_none hl hp0)]; exact hl, small1000 (by omega), ?_⟩⟩
      refine ⟨fun b o hb => ?_, _, upd_same, ?_⟩
      · rw [upd_ne (ne_of_none hb hD), upd_ne (ne_of_none (hs b o hb) hp0)]
        exact hs b o hb
      · rw [List.range_succ, List.map_append]
        have npD : p ≠ D := fun z => by rw [z, hl] at hp0; cases hp0
        refine Pairs.snoc ⟨p, rfl, SqT.of (by rw [upd_ne npD, upd_same]; rfl)⟩ (hp.keep fun b xs hb => ?_)
        rcases hb with (hb | ⟨o, hb⟩) | hb
        · refine .inl (.inl ?_)
          rw [upd_ne (fun z => by rw [z, hl] at hb; cases hb), upd_ne (ne_of_none hb hp0)]
          exact hb
        · refine .inl (.inr ⟨o, ?_⟩)
          rw [upd_ne (fun z => by rw [z, hl] at hb; cases hb), upd_ne (ne_of_none hb hp0)]
          exact hb
        · exact .inr hb
    · rintro D _ H' hD ⟨v, ys, rfl, hs, hl, hp⟩
      walk_at "rd"
      refine ⟨ys, SqL.of hl, _, hp, by simp; omega, fun d hd => ?_⟩
      refine q d _ (same_upd hs (hs.free hd)) (hs.free hd) ?_
      rw [upd_same]
      show some (HO.dK (mergeK [] _)) = some (HO.dK (stK x))
      rw [merge_new (by simpa [stK, stN, Function.comp_def] using stK_nd x1 x2)]
      simp [stK, stN]
end

theorem tell_ok {S : SV} {ns : List Int} (h : OkS S) (hn : ∀ n ∈ ns, Sh n) (hl : ns.length < 64) : (tellD S ns).showable = true ∧ (tellD S ns).depth ≤ 60 ∧ (tellD S ns).shown.length ≤ sizeLine :=
  tell14 h.wide h.high h.row h.col h.ink h.top h.bottom h.left h.right hn hl
section
variable {P : Program} {w : World} {K : PySem.W.Frag} {mg : Str → Option Value} {base : Heap} {f C : Addr} {fd : FuncData}
theorem ok_law_told (F : Fun K "_law_told" "_law_told" s__law_told f fd) (T : Txt K mg C) : FnOk P w K mg base CX0 1 f fd ["_law_state"] (spTold K C) := by
  have nd := sc__law_told.nd
  refine F.ok sc__law_told (fun vs H Q E h => ?_) (fun cdv A outer s H vs Q E hr h => ?_)
  · obtain ⟨x, dx, p, st, kp, S, kvs, ns, rfl, _⟩ := h
    rfl
  · obtain ⟨x, dx, p, st, kp, S, kvs, ns, rfl, hx, hst, hk, hl, q⟩ := h
    refine ⟨_, (pss_cons (ps_set (i := 1) nd rfl (Or.inl rfl) (pe_lstq (qc (pe_fld (pv 0) rfl) (qc (pe_fld (pv 0) rfl) (qc (pe_fld (pv 0) rfl) (qc (pe_fld (pv 0) rfl) (qc (pe_fld (pv 0) rfl) (qc (pe_fld (pv 0) rfl) (qc (pe_fld (pv 0) rfl) (qc (pe_fld (pv 0) rfl) qn))))))))))
      (pss_one (ps_ret (pe_op op_cat (pv 1) (pe_lstq (qc (pe_fld (pv 0) rfl) (qc (pe_fld (pv 0) rfl) (qc (pe_fld (pv 0) rfl) (qc (pe_fld (pv 0) rfl) (qc (pe_fld (pv 0) rfl) (qc (pe_callB (call_sortedD rfl) (by rfl) T.n_sorted (by rfl) (QA.pa (qc (pe_fld (pv 0) rfl) qn))) qn))))))))))), ?_⟩
    refine seq_cut (fun σ' H1 => ∃ l1, σ' = [some (.ref x), some (.ref l1)] ∧ Same H H1 ∧ H1 l1 = some (.lst [.int S.wide, .int S.high, .int S.row, .int S.col, .bl S.late, .int S.ink, .bl S.wrap, .bl S.putting])) (fun R hR => ?_) ?_
    · walk_at "rd"
      simp [and_assoc, hx, T.st.cl, T.st.n_wide, T.st.n_high, T.st.n_row, T.st.n_column, T.st.n_late, T.st.n_ink, T.st.n_wrap, T.st.n_putting, look_wide, look_high, look_row, look_column, look_late, look_ink, look_wrap, look_putting]
      exact ⟨by decide, fun l hl => hR _ _ ⟨l, rfl, same_new hl, upd_same⟩⟩
    rintro _ H1 ⟨l1, rfl, hs1, hl1⟩
    have hx1 := hs1 _ _ hx
    have hst1 := hs1 _ _ hst
    walk_at "rd"
    simp [and_assoc, hx1, T.st.cl, T.st.n_home, T.st.n_top, T.st.n_bottom, T.st.n_left, T.st.n_right, T.st.n_stops, look_home, look_top, look_bottom, look_left, look_right, look_stops, rSrtD, rCat]
    refine ⟨kvs, hst1, ns, hk, hl, fun p2 hp2 => ⟨by decide, fun p3 hp3 => ?_⟩⟩
    have n3 : p2 ≠ p3 := fun z => by rw [← z, upd_same] at hp3; cases hp3
    have hp3' : H1 p3 = none := by rw [upd_ne (Ne.symm n3)] at hp3; exact hp3
    refine ⟨_, by rw [upd_ne (ne_of_none hl1 hp3'), upd_ne (ne_of_none hl1 hp2)]; exact hl1, _, upd_same, by simp; decide, fun p4 hp4 => ?_⟩
    have n4 : p3 ≠ p4 := fun z => by rw [← z, upd_same] at hp4; cases hp4
    rw [upd_ne (Ne.symm n4)] at hp4
    have n5 : p2 ≠ p4 := fun z => by rw [← z, upd_same] at hp4; cases hp4
    rw [upd_ne (Ne.symm n5)] at hp4
    refine q p4 _ (same_upd (same_upd (same_upd hs1 (hs1.free hp2)) (hs1.free hp3')) (hs1.free hp4)) ?_
    refine ⟨p4, _, rfl, SqL.of upd_same, ?_⟩
    simp only [List.cons_append, List.nil_append]
    exact reps14 ⟨p2, _, rfl, SqL.of (by rw [upd_ne n5, upd_ne n3, upd_same]), reps_ints _⟩
theorem ok_law_due (F : Fun K "_law_due" "_law_due" s__law_due f fd) (T : Txt K mg C) : FnOk P w K mg base CX0 1 f fd ["_law_m"] (spDue K) := by
  have nd := sc__law_due.nd
  refine F.ok sc__law_due (fun vs H Q E h => ?_) (fun cdv A outer s H vs Q E hr h => ?_)
  · obtain ⟨d, sl, S, ms, rfl, _⟩ := h
    rfl
  · obtain ⟨d, sl, S, ms, rfl, hd, hsl, hl, q⟩ := h
    refine ⟨_, (pss_cons (ps_set (i := 1) nd rfl (Or.inl rfl) (pe_lstq (qc (pe_dgetK (hu_of hr) (pv 0) pe_str (fun _ _ => rfl)) (qc (pe_dgetK (hu_of hr) (pv 0) pe_str (fun _ _ => rfl)) (qc (pe_dgetK (hu_of hr) (pv 0) pe_str (fun _ _ => rfl)) (qc (pe_dgetK (hu_of hr) (pv 0) pe_str (fun _ _ => rfl)) (qc (pe_dgetK (hu_of hr) (pv 0) pe_str (fun _ _ => rfl)) (qc (pe_dgetK (hu_of hr) (pv 0) pe_str (fun _ _ => rfl)) (qc (pe_dgetK (hu_of hr) (pv 0) pe_str (fun _ _ => rfl)) (qc (pe_dgetK (hu_of hr) (pv 0) pe_str (fun _ _ => rfl)) qn))))))))))
      (pss_one (ps_ret (pe_op op_cat (pv 1) (pe_lstq (qc (pe_dgetK (hu_of hr) (pv 0) pe_str (fun _ _ => rfl)) (qc (pe_dgetK (hu_of hr) (pv 0) pe_str (fun _ _ => rfl)) (qc (pe_dgetK (hu_of hr) (pv 0) pe_str (fun _ _ => rfl)) (qc (pe_dgetK (hu_of hr) (pv 0) pe_str (fun _ _ => rfl)) (qc (pe_dgetK (hu_of hr) (pv 0) pe_str (fun _ _ => rfl)) (qc (pe_callB call_sortedL (by rfl) T.n_sorted (by rfl) (QA.pa (qc (pe_dgetK (hu_of hr) (pv 0) pe_str (fun _ _ => rfl)) qn))) qn))))))))))), ?_⟩
    refine seq_cut (fun σ' H1 => ∃ l1, σ' = [some (.ref d), some (.ref l1)] ∧ Same H H1 ∧ H1 l1 = some (.lst [.int S.wide, .int S.high, .int S.row, .int S.col, .bl S.late, .int S.ink, .bl S.wrap, .bl S.putting])) (fun R hR => ?_) ?_
    · walk_at "rd"
      simp [and_assoc, hd, val_wide, val_high, val_row, val_column, val_late, val_ink, val_wrap, val_insert]
      exact ⟨by decide, fun l hl => hR _ _ ⟨l, rfl, same_new hl, upd_same⟩⟩
    rintro _ H1 ⟨l1, rfl, hs1, hl1⟩
    have hd1 := hs1 _ _ hd
    have hsl1 := hs1 _ _ hsl
    walk_at "rd"
    simp [and_assoc, hd1, val_home, val_top, val_bottom, val_left, val_right, val_stops, rSrtL, rCat]
    refine ⟨ms, SqL.of hsl1, hl, fun p2 hp2 => ⟨by decide, fun p3 hp3 => ?_⟩⟩
    have n3 : p2 ≠ p3 := fun z => by rw [← z, upd_same] at hp3; cases hp3
    have hp3' : H1 p3 = none := by rw [upd_ne (Ne.symm n3)] at hp3; exact hp3
    refine ⟨_, by rw [upd_ne (ne_of_none hl1 hp3'), upd_ne (ne_of_none hl1 hp2)]; exact hl1, _, upd_same, by simp; decide, fun p4 hp4 => ?_⟩
    have n4 : p3 ≠ p4 := fun z => by rw [← z, upd_same] at hp4; cases hp4
    rw [upd_ne (Ne.symm n4)] at hp4
    have n5 : p2 ≠ p4 := fun z => by rw [← z, upd_same] at hp4; cases hp4
    rw [upd_ne (Ne.symm n5)] at hp4
    refine q p4 _ (same_upd (same_upd (same_upd hs1 (hs1.free hp2)) (hs1.free hp3')) (hs1.free hp4)) ?_
    refine ⟨p4, _, rfl, SqL.of upd_same, ?_⟩
    simp only [List.cons_append, List.nil_append]
    exact reps14 ⟨p2, _, rfl, SqL.of (by rw [upd_ne n5, upd_ne n3, upd_same]), reps_ints _⟩
theorem ok_law_like (F : Fun K "_law_like" "_law_like" s__law_like f fd) (T : Txt K mg C) (c__law_told : Cal P w K mg base 1 "_law_told" [] (spTold K C)) (c__law_due : Cal P w K mg base 1 "_law_due" [] (spDue K)) :
    FnOk P w K mg base CX0 2 f fd ["_law_state", "_law_m"] (spLike C) := by
  refine F.ok sc__law_like (fun vs H Q E h => ?_) (fun cdv A outer s H vs Q E hr h => ?_)
  · obtain ⟨x, dx, p, st, kp, S, kvs, ns, d, sl, ms, rfl, _⟩ := h
    rfl
  · obtain ⟨x, dx, p, st, kp, S, kvs, ns, d, sl, ms, rfl, hx, hst, hk, hl, hd, hsl, hp, hS, hns, q⟩ := h
    refine ⟨_, (pss_one (ps_ret (pe_cmpR op_eq (pe_callB (call_reprD hr.gd hr.units) (by rfl) T.n_repr (by rfl) (QA.pa (qc (pe_cal c__law_told (hr.mono (by decide)) rfl (QA.pa (qc (pv 0) qn))) qn))) (pe_callB (call_reprD hr.gd hr.units) (by rfl) T.n_repr (by rfl) (QA.pa (qc (pe_cal c__law_due (hr.mono (by decide)) rfl (QA.pa (qc (pv 1) qn))) qn))) (nomark _)))), ?_⟩
    walk_at "rd"
    have hlm : ms.length < 64 := by rw [← hp.length_eq]; exact hl
    have sh1 : ∀ n ∈ srt ns, Sh n := fun n hn => hns n ((List.mergeSort_perm ns _).mem_iff.mp hn)
    obtain ⟨s1, s2, s3⟩ := tell_ok hS sh1 (by rw [srt_len]; exact hl)
    refine ⟨dx, p, st, kp, S, hx, kvs, hst, ns, hk, hl, fun l1 H1 hs1 hr1 => ⟨_, hr1, rfl, s1, s2, s3, sl, S, hs1 _ _ hd, ms, hs1 _ _ hsl, hlm, fun l2 H2 hs2 hr2 => ?_⟩⟩
    rw [← srt_perm hp] at hr2
    exact ⟨_, hr2, rfl, s1, s2, s3, by simpa using q H2 (hs1.trans hs2)⟩
end

end K08
namespace K08
open PySem L2
/-- a number of a deed, or none -/
def NumP (n : V) : Prop := n = .non ∨ ∃ i : Int, n = .int i ∧ 0 ≤ i ∧ i ≤ 1000
/-- how many -/
def tm : V → Int
  | .int i => if i = 0 then 1 else i
  | _ => 1
theorem tm_ge {n : V} (h : NumP n) : 1 ≤ tm n ∧ tm n ≤ 1000 := by
  rcases h with rfl | ⟨i, rfl, h0, h1⟩
  · exact ⟨by decide, by decide⟩
  · simp only [tm]
    split <;> omega
def mn (a b : Int) : Int := if b < a then b else a
theorem mn_comm (a b : Int) : mn a b = mn b a := by
  unfold mn
  split <;> split <;> omega
def placeS (S : SV) (r c : V) : SV :=
  if S.home = true then { S with row := mn (S.top + tm r - 1) S.bottom, col := mn (S.left + tm c - 1) S.right, late := false }
  else { S with row := mn (tm r - 1) (S.high - 1), col := mn (tm c - 1) (S.wide - 1), late := false }
/-- the last one that is told -/
def lastN (n : V) (most : Int) : Int := match n with
  | .int i => if i = 0 then most else mn i most
  | _ => most
def rowsS (S : SV) (a b : V) : SV := if tm a ≤ lastN b S.high then placeS { S with top := tm a - 1, bottom := lastN b S.high - 1 } .non .non else S
def colsS (S : SV) (a b : V) : SV := if tm a ≤ lastN b S.wide then placeS { S with left := tm a - 1, right := lastN b S.wide - 1 } .non .non else S
structure Bd (S : SV) : Prop where
  w1 : 1 ≤ S.wide
  w2 : S.wide ≤ 24
  h1 : 1 ≤ S.high
  h2 : S.high ≤ 12
  row : 0 ≤ S.row ∧ S.row ≤ 2000
  col : 0 ≤ S.col ∧ S.col ≤ 2000
  ink : 0 ≤ S.ink ∧ S.ink ≤ 2000
  top : 0 ≤ S.top ∧ S.top ≤ 2000
  bottom : 0 ≤ S.bottom ∧ S.bottom ≤ 2000
  left : 0 ≤ S.left ∧ S.left ≤ 2000
  right : 0 ≤ S.right ∧ S.right ≤ 2000
theorem Bd.oks {S : SV} (h : Bd S) : OkS S := by
  obtain ⟨a, b, c, d, e, f, g, i, j, k, l⟩ := h
  constructor <;> (unfold Sh; omega)
theorem Bd.place {S : SV} (h : Bd S) {r c : V} (hr : NumP r) (hc : NumP c) : Bd (placeS S r c) := by
  obtain ⟨a, b, c', d, e, f, g, i, j, k, l⟩ := h
  have t1 := tm_ge hr
  have t2 := tm_ge hc
  unfold placeS
  split <;> (constructor <;> simp only [mn] <;> first | assumption | (split <;> omega))
theorem numP_non : NumP .non := .inl rfl
theorem lastN_ge {n : V} {m : Int} (h : NumP n) (h1 : 1 ≤ m) (h2 : m ≤ 24) : 1 ≤ lastN n m ∧ lastN n m ≤ 24 := by
  rcases h with rfl | ⟨i, rfl, h0, h3⟩
  · exact ⟨h1, h2⟩
  · simp only [lastN, mn]
    split
    · omega
    · split <;> omega
theorem Bd.rows0 {S : SV} (h : Bd S) {a b : V} (ha : NumP a) (hb : NumP b) : Bd { S with top := tm a - 1, bottom := lastN b S.high - 1 } := by
  have t1 := tm_ge ha
  have t2 := lastN_ge hb h.h1 (by have := h.h2; omega)
  obtain ⟨a, b, c', d, e, f, g, i, j, k, l⟩ := h
  constructor <;> simp only <;> first | assumption | omega
theorem Bd.cols0 {S : SV} (h : Bd S) {a b : V} (ha : NumP a) (hb : NumP b) : Bd { S with left := tm a - 1, right := lastN b S.wide - 1 } := by
  have t1 := tm_ge ha
  have t2 := lastN_ge hb h.w1 h.w2
  obtain ⟨a, b, c', d, e, f, g, i, j, k, l⟩ := h
  constructor <;> simp only <;> first | assumption | omega
theorem Bd.rows {S : SV} (h : Bd S) {a b : V} (ha : NumP a) (hb : NumP b) : Bd (rowsS S a b) := by
  have t1 := tm_ge ha
  have t2 := lastN_ge hb h.h1 (by have := h.h2; omega)
  unfold rowsS
  split
  · refine Bd.place ?_ numP_non numP_non
    obtain ⟨a, b, c', d, e, f, g, i, j, k, l⟩ := h
    constructor <;> simp only <;> first | assumption | omega
  · exact h
theorem Bd.cols {S : SV} (h : Bd S) {a b : V} (ha : NumP a) (hb : NumP b) : Bd (colsS S a b) := by
  have t1 := tm_ge ha
  have t2 := lastN_ge hb h.w1 h.w2
  unfold colsS
  split
  · refine Bd.place ?_ numP_non numP_non
    obtain ⟨a, b, c', d, e, f, g, i, j, k, l⟩ := h
    constructor <;> simp only <;> first | assumption | omega
  · exact h
def spOne : Sp := fun vs H Q _ => ∃ n, vs = [n] ∧ NumP n ∧ Q (.int (tm n)) H
def spCounted : Sp := fun vs H Q _ => ∃ n a b, vs = [n, .int a, .int b] ∧ NumP n ∧ Q (.int (mn (a + tm n - 1) b)) H
/-- a deed that makes another state of the one at x -/
def spDo (C : Addr) (vs : List V) (g : SV → SV) : Sp := fun us H Q _ => ∃ x dx p st kp S, us = .ref x :: vs ∧ H x = some (.ins C dx (fldS p st kp S)) ∧ Bd S ∧ ∀ H', H' x = some (.ins C dx (fldS p st kp (g S))) → (∀ b, b ≠ x → H' b = H b) → Q .non H'
def spPlace (C : Addr) : Sp := fun us H Q E => ∃ r c, NumP r ∧ NumP c ∧ spDo C [r, c] (fun S => placeS S r c) us H Q E
def spHome (C : Addr) : Sp := spDo C [] fun S => placeS S .non .non
def spSpan : Sp := fun vs H Q _ => ∃ a b m, vs = [a, b, .int m] ∧ NumP a ∧ NumP b ∧ (tm a ≤ lastN b m → ∀ t, H t = none → Q (.ref t) (upd H t (.tup [.int (tm a - 1), .int (lastN b m - 1)]))) ∧ (¬ tm a ≤ lastN b m → Q .non H)
def spDoS (C : Addr) (vs : List V) (g : SV → SV) : Sp := fun us H Q _ => ∃ x dx p st kp S, us = .ref x :: vs ∧ H x = some (.ins C dx (fldS p st kp S)) ∧ Bd S ∧ ∀ H', H' x = some (.ins C dx (fldS p st kp (g S))) → (∀ b o, b ≠ x → H b = some o → H' b = some o) → Q .non H'
def spRows (C : Addr) : Sp := fun us H Q E => ∃ a b, NumP a ∧ NumP b ∧ spDoS C [a, b] (fun S => rowsS S a b) us H Q E
def spCols (C : Addr) : Sp := fun us H Q E => ∃ a b, NumP a ∧ NumP b ∧ spDoS C [a, b] (fun S => colsS S a b) us H Q E
theorem numP_flat {n : V} (h : NumP n) : flatV n = true := by
  rcases h with rfl | ⟨i, rfl, _⟩ <;> rfl
local macro_rules | `(tactic| walk_at "rd") => `(tactic| simp [tRet, tOp, rI, rI0, rU, tUn, tVar, tC, L2.start, tSeq, tIfS, tTest, tAsg, gName, tCall, tCons, tNil, tCB, tNext, tDrop, tAndV, tOrV, tNotV, tChain, tAnd, tOr, tNot, tB, rEq, rNe, scal, tTup, tLst, gTup, gCons, gNil, rIxL, rIxT, rIxS, tIf, and_assoc, cxK, tFor_rng1, tFor_lst, tFor_tup, tFor_enum, tBM, rAppend, tFld, sFld, tDGetK, sDPutK, kV_int, kV_str, tPar3, rIn, spOne, spCounted])
section
variable {P : Program} {w : World} {K : PySem.W.Frag} {mg : Str → Option Value} {base : Heap} {f C : Addr} {fd : FuncData}
theorem ok_at_least_one (F : Fun K "at_least_one" "at_least_one" s_at_least_one f fd) (T : Txt K mg C) : FnOk P w K mg base CX0 1 f fd ["many"] spOne := by
  refine F.ok sc_at_least_one (fun vs H Q E h => ?_) (fun cdv A outer s H vs Q E hr h => ?_)
  · obtain ⟨n, rfl, _⟩ := h
    rfl
  · obtain ⟨n, rfl, hn, q⟩ := h
    refine ⟨_, (pss_one (ps_ret (pe_ifExp (pt_cmpR op_isN (pv 0) pe_non (nomark _)) pe_int (pe_callB (call_max2 rfl) (by rfl) T.n_max (by rfl) (QA.pa (qc pe_int (qc (pv 0) qn))))))), ?_⟩
    rcases hn with rfl | ⟨i, rfl, h0, h1⟩
    · walk_at "rd"
      exact q
    · walk_at "rd"
      have e : (if 1 < i then i else 1) = tm (.int i) := by
        simp only [tm]
        split <;> split <;> omega
      rw [e]
      exact q
theorem ok_counted (F : Fun K "counted" "counted" s_counted f fd) (T : Txt K mg C) (c_at_least_one : Cal P w K mg base 1 "at_least_one" [] spOne) : FnOk P w K mg base CX0 2 f fd ["number", "first", "last"] spCounted := by
  refine F.ok sc_counted (fun vs H Q E h => ?_) (fun cdv A outer s H vs Q E hr h => ?_)
  · obtain ⟨n, a, b, rfl, _⟩ := h
    rfl
  · obtain ⟨n, a, b, rfl, hn, q⟩ := h
    refine ⟨_, (pss_one (ps_ret (pe_callB (call_min2 rfl) (by rfl) T.n_min (by rfl) (QA.pa (qc (pe_op op_sub (pe_op op_add (pv 1) (pe_cal c_at_least_one (hr.mono (by decide)) rfl (QA.pa (qc (pv 0) qn)))) pe_int) (qc (pv 2) qn)))))), ?_⟩
    walk_at "rd"
    exact ⟨hn, q⟩
theorem ok_to_place (F : Fun K "to_place" "to_place" s_to_place f fd) (T : Txt K mg C) (c_counted : Cal P w K mg base 2 "counted" [] spCounted) : FnOk P w K mg base CX0 3 f fd ["state", "row", "column"] (spPlace C) := by
  refine F.ok sc_to_place (fun vs H Q E h => ?_) (fun cdv A outer s H vs Q E hr h => ?_)
  · obtain ⟨r, c, _, _, x, dx, p, st, kp, S, rfl, _⟩ := h
    rfl
  · obtain ⟨r, c, hr', hc', x, dx, p, st, kp, S, rfl, hx, hS, q⟩ := h
    refine ⟨_, (pss_cons (ps_if (pt_val (pe_fld (pv 0) rfl)) (pss_cons (ps_fld (pv 0) (pe_cal c_counted (hr.mono (by decide)) rfl (QA.pa (qc (pv 1) (qc (pe_fld (pv 0) rfl) (qc (pe_fld (pv 0) rfl) qn))))) rfl)
      (pss_one (ps_fld (pv 0) (pe_cal c_counted (hr.mono (by decide)) rfl (QA.pa (qc (pv 2) (qc (pe_fld (pv 0) rfl) (qc (pe_fld (pv 0) rfl) qn))))) rfl))) (pss_cons (ps_fld (pv 0) (pe_cal c_counted (hr.mono (by decide)) rfl (QA.pa (qc (pv 1) (qc pe_int (qc (pe_op op_sub (pe_fld (pv 0) rfl) pe_int) qn))))) rfl)
      (pss_one (ps_fld (pv 0) (pe_cal c_counted (hr.mono (by decide)) rfl (QA.pa (qc (pv 2) (qc pe_int (qc (pe_op op_sub (pe_fld (pv 0) rfl) pe_int) qn))))) rfl))))
      (pss_one (ps_fld (pv 0) pe_bl rfl))), ?_⟩
    walk_at "rd"
    simp [and_assoc, hx, T.st.cl, T.st.n_home, T.st.n_top, T.st.n_bottom, T.st.n_left, T.st.n_right, T.st.n_high, T.st.n_wide, T.st.n_row, T.st.n_column, T.st.n_late, look_home, look_top, look_bottom, look_left, look_right, look_high, look_wide, put_row, put_column, put_late, fldS_len, upd_same, upd_upd, hr', hc']
    cases e : S.home with
    | false =>
      refine .inl ⟨rfl, q _ ?_ fun b hb => upd_ne hb⟩
      rw [upd_same]
      simp [placeS, e]
    | true =>
      refine .inr ⟨rfl, q _ ?_ fun b hb => upd_ne hb⟩
      rw [upd_same]
      simp [placeS, e]
theorem ok_to_home (F : Fun K "to_home" "to_home" s_to_home f fd) (T : Txt K mg C) (c_to_place : Cal P w K mg base 3 "to_place" [] (spPlace C)) : FnOk P w K mg base CX0 4 f fd ["state"] (spHome C) := by
  refine F.ok sc_to_home (fun vs H Q E h => ?_) (fun cdv A outer s H vs Q E hr h => ?_)
  · obtain ⟨x, dx, p, st, kp, S, rfl, _⟩ := h
    rfl
  · obtain ⟨x, dx, p, st, kp, S, rfl, hx, hS, q⟩ := h
    refine ⟨_, (pss_one (ps_expr (pe_cal c_to_place (hr.mono (by decide)) rfl (QA.pa (qc (pv 0) (qc pe_non (qc pe_non qn))))))), ?_⟩
    walk_at "rd"
    exact ⟨.non, .non, numP_non, numP_non, x, dx, p, st, kp, S, rfl, hx, hS, q⟩
theorem ok_span (F : Fun K "span" "span" s_span f fd) (T : Txt K mg C) (c_at_least_one : Cal P w K mg base 1 "at_least_one" [] spOne) : FnOk P w K mg base CX0 2 f fd ["first", "last", "size"] spSpan := by
  have nd := sc_span.nd
  refine F.ok sc_span (fun vs H Q E h => ?_) (fun cdv A outer s H vs Q E hr h => ?_)
  · obtain ⟨a, b, m, rfl, _⟩ := h
    rfl
  · obtain ⟨a, b, m, rfl, ha, hb, q1, q2⟩ := h
    refine ⟨_, (pss_cons (ps_set (i := 3) nd rfl (Or.inl rfl) (pe_cal c_at_least_one (hr.mono (by decide)) rfl (QA.pa (qc (pv 0) qn))))
      (pss_cons (ps_set (i := 4) nd rfl (Or.inl rfl) (pe_ifExp (pt_truth (pv 1) (fun _ => rfl)) (pe_callB (call_min2 rfl) (by rfl) T.n_min (by rfl) (QA.pa (qc (pv 1) (qc (pv 2) qn)))) (pv 2)))
      (pss_one (ps_ret (pe_ifExp (pt_cmpR op_gt (pv 3) (pv 4) (nomark _)) pe_non (pe_tupq (qc (pe_op op_sub (pv 3) pe_int) (qc (pe_op op_sub (pv 4) pe_int) qn)))))))), ?_⟩
    refine seq_cut (fun σ' H1 => σ' = [some a, some b, some (.int m), some (.int (tm a)), none] ∧ H = H1) (fun R hR => ?_) ?_
    · walk_at "rd"
      exact ⟨ha, hR _ _ ⟨rfl, rfl⟩⟩
    rintro _ _ ⟨rfl, rfl⟩
    refine seq_cut (fun σ' H1 => σ' = [some a, some b, some (.int m), some (.int (tm a)), some (.int (lastN b m))] ∧ H = H1) (fun R hR => ?_) ?_
    · rcases hb with rfl | ⟨i, rfl, h0, h1⟩
      · walk_at "rd"
        exact ⟨rfl, hR _ _ ⟨rfl, rfl⟩⟩
      · walk_at "rd"
        by_cases hi : i = 0
        · subst hi
          exact .inl ⟨rfl, hR _ _ ⟨rfl, rfl⟩⟩
        · refine .inr ⟨?_, hR _ _ ⟨?_, rfl⟩⟩
          · show true = (i != 0)
            simp [hi]
          · simp only [lastN, if_neg hi, mn]
    rintro _ _ ⟨rfl, rfl⟩
    walk_at "rd"
    exact ite2 (fun h => q2 (by omega)) fun h => ⟨by decide, q1 (by omega)⟩
theorem ok_set_rows (F : Fun K "set_rows" "set_rows" s_set_rows f fd) (T : Txt K mg C) (c_span : Cal P w K mg base 2 "span" [] spSpan) (c_to_home : Cal P w K mg base 4 "to_home" [] (spHome C)) : FnOk P w K mg base CX0 5 f fd ["state", "first", "last"] (spRows C) := by
  have nd := sc_set_rows.nd
  refine F.ok sc_set_rows (fun vs H Q E h => ?_) (fun cdv A outer s H vs Q E hr h => ?_)
  · obtain ⟨a, b, _, _, x, dx, p, st, kp, S, rfl, _⟩ := h
    rfl
  · obtain ⟨a, b, ha, hb, x, dx, p, st, kp, S, rfl, hx, hS, q⟩ := h
    refine ⟨_, (pss_cons (ps_set (i := 3) nd rfl (Or.inl rfl) (pe_cal c_span (hr.mono (by decide)) rfl (QA.pa (qc (pv 1) (qc (pv 2) (qc (pe_fld (pv 0) rfl) qn))))))
      (pss_one (ps_if (pt_cmpR op_notN (pv 3) pe_non (nomark _)) (pss_cons (ps_fld (pv 0) (pe_ix ix_tup (pv 3) pe_int (fun _ _ => rfl)) rfl)
      (pss_cons (ps_fld (pv 0) (pe_ix ix_tup (pv 3) pe_int (fun _ _ => rfl)) rfl)
      (pss_one (ps_expr (pe_cal c_to_home (hr.mono (by decide)) rfl (QA.pa (qc (pv 0) qn))))))) pss_nil))), ?_⟩
    refine seq_cut (fun σ' H1 => ∃ v, σ' = [some (.ref x), some a, some b, some v] ∧ Same H H1 ∧ ((tm a ≤ lastN b S.high ∧ ∃ t, v = .ref t ∧ H1 t = some (.tup [.int (tm a - 1), .int (lastN b S.high - 1)])) ∨ (¬ tm a ≤ lastN b S.high ∧ v = .non))) (fun R hR => ?_) ?_
    · walk_at "rd"
      simp [and_assoc, hx, T.st.cl, T.st.n_high, look_high]
      exact ⟨a, b, S.high, rfl, ha, hb, fun h t ht => hR _ _ ⟨_, rfl, same_new ht, .inl ⟨h, t, rfl, upd_same⟩⟩, fun h => hR _ _ ⟨_, rfl, Same.refl _, .inr ⟨h, rfl⟩⟩⟩
    rintro _ H1 ⟨v, rfl, hs1, hv⟩
    have hx1 := hs1 _ _ hx
    rcases hv with ⟨h, t, rfl, ht⟩ | ⟨h, rfl⟩
    · walk_at "rd"
      simp [and_assoc, hx1, T.st.cl, T.st.n_top, T.st.n_bottom, fldS_len, upd_same, upd_upd]
      have nt : t ≠ x := ne_of ht hx1 (fun z => nomatch z)
      refine ⟨_, SqT.of ht, _, rfl, _, SqT.of (by rw [upd_ne nt]; exact ht), _, rfl, ?_⟩
      rw [put_top, put_bottom]
      refine ⟨by rw [fldS_len]; decide, x, dx, p, st, kp, _, rfl, upd_same, hS.rows0 ha hb, fun H' e1 e2 => q H' ?_ fun b' o hb' hbo => ?_⟩
      · simp only [rowsS, if_pos h]
        exact e1
      · rw [e2 b' hb', upd_ne hb']
        exact hs1 b' o hbo
    · walk_at "rd"
      refine q H1 ?_ fun b o hb hbo => hs1 b o hbo
      simp only [rowsS, if_neg h]
      exact hx1
theorem ok_set_columns (F : Fun K "set_columns" "set_columns" s_set_columns f fd) (T : Txt K mg C) (c_span : Cal P w K mg base 2 "span" [] spSpan) (c_to_home : Cal P w K mg base 4 "to_home" [] (spHome C)) : FnOk P w K mg base CX0 5 f fd ["state", "first", "last"] (spCols C) := by
  have nd := sc_set_columns.nd
  refine F.ok sc_set_columns (fun vs H Q E h => ?_) (fun cdv A outer s H vs Q E hr h => ?_)
  · obtain ⟨a, b, _, _, x, dx, p, st, kp, S, rfl, _⟩ := h
    rfl
  · obtain ⟨a, b, ha, hb, x, dx, p, st, kp, S, rfl, hx, hS, q⟩ := h
    refine ⟨_, (pss_cons (ps_set (i := 3) nd rfl (Or.inl rfl) (pe_cal c_span (hr.mono (by decide)) rfl (QA.pa (qc (pv 1) (qc (pv 2) (qc (pe_fld (pv 0) rfl) qn))))))
      (pss_one (ps_if (pt_cmpR op_notN (pv 3) pe_non (nomark _)) (pss_cons (ps_fld (pv 0) (pe_ix ix_tup (pv 3) pe_int (fun _ _ => rfl)) rfl)
      (pss_cons (ps_fld (pv 0) (pe_ix ix_tup (pv 3) pe_int (fun _ _ => rfl)) rfl)
      (pss_one (ps_expr (pe_cal c_to_home (hr.mono (by decide)) rfl (QA.pa (qc (pv 0) qn))))))) pss_nil))), ?_⟩
    refine seq_cut (fun σ' H1 => ∃ v, σ' = [some (.ref x), some a, some b, some v] ∧ Same H H1 ∧ ((tm a ≤ lastN b S.wide ∧ ∃ t, v = .ref t ∧ H1 t = some (.tup [.int (tm a - 1), .int (lastN b S.wide - 1)])) ∨ (¬ tm a ≤ lastN b S.wide ∧ v = .non))) (fun R hR => ?_) ?_
    · walk_at "rd"
      simp [and_assoc, hx, T.st.cl, T.st.n_wide, look_wide]
      exact ⟨a, b, S.wide, rfl, ha, hb, fun h t ht => hR _ _ ⟨_, rfl, same_new ht, .inl ⟨h, t, rfl, upd_same⟩⟩, fun h => hR _ _ ⟨_, rfl, Same.refl _, .inr ⟨h, rfl⟩⟩⟩
    rintro _ H1 ⟨v, rfl, hs1, hv⟩
    have hx1 := hs1 _ _ hx
    rcases hv with ⟨h, t, rfl, ht⟩ | ⟨h, rfl⟩
    · walk_at "rd"
      simp [and_assoc, hx1, T.st.cl, T.st.n_left, T.st.n_right, fldS_len, upd_same, upd_upd]
      have nt : t ≠ x := ne_of ht hx1 (fun z => nomatch z)
      refine ⟨_, SqT.of ht, _, rfl, _, SqT.of (by rw [upd_ne nt]; exact ht), _, rfl, ?_⟩
      rw [put_left, put_right]
      refine ⟨by rw [fldS_len]; decide, x, dx, p, st, kp, _, rfl, upd_same, hS.cols0 ha hb, fun H' e1 e2 => q H' ?_ fun b' o hb' hbo => ?_⟩
      · simp only [colsS, if_pos h]
        exact e1
      · rw [e2 b' hb', upd_ne hb']
        exact hs1 b' o hbo
    · walk_at "rd"
      refine q H1 ?_ fun b o hb hbo => hs1 b o hbo
      simp only [colsS, if_neg h]
      exact hx1
end

end K08
namespace K08
open PySem L2
def mixN (c k : Int) : Int := ((c + 11) * 48271 % 2147483647 + 5 * k) * (16807 + 1021 * k * k) % 2147483629 / 32
theorem mixN_ge (c k : Int) : 0 ≤ mixN c k := by
  unfold mixN
  have h := Int.emod_nonneg (((c + 11) * 48271 % 2147483647 + 5 * k) * (16807 + 1021 * k * k)) (show (2147483629 : Int) ≠ 0 by decide)
  omega
def spMixed : Sp := fun vs H Q _ => ∃ c k, vs = [.int c, .int k] ∧ 0 ≤ k ∧ k ≤ 100000 ∧ Q (.int (mixN c k)) H

def spBegun (K : PySem.W.Frag) : Sp := fun vs H Q _ => ∃ w h, vs = [.int w, .int h] ∧ 1 ≤ w ∧ w ≤ 24 ∧ 1 ≤ h ∧ h ≤ 12 ∧ ∀ d sl H', Same H H' → H d = none → H' d = some (.dK (mS sl (sv0 w h))) → H' sl = some (.lst ((stN w).map V.int)) → Q (.ref d) H'
def pre (i : Nat) : List Int := ((List.range i).map fun k => 4 + ((k : Nat) : Int)).filter fun c => c % 4 = 0
theorem pre_end {w : Int} (h1 : 1 ≤ w) (h2 : w ≤ 24) : pre (w - 4).toNat = stN w := by
  obtain ⟨n, rfl⟩ : ∃ n : _root_.Fin 25, w = ((n.val : Nat) : Int) := ⟨⟨w.toNat, by omega⟩, by simp only; omega⟩
  have e : ∀ n : _root_.Fin 25, pre (((n.val : Nat) : Int) - 4).toNat = stN ((n.val : Nat) : Int) := by decide +kernel
  exact e n
def kv1 (w h : Int) : List (Key × V) := [(Sum.inr "wide", .int w), (Sum.inr "high", .int h), (Sum.inr "row", .int 0), (Sum.inr "column", .int 0), (Sum.inr "late", .bl false), (Sum.inr "ink", .int 0)]
def kv2 (h : Int) : List (Key × V) := [(Sum.inr "wrap", .bl true), (Sum.inr "insert", .bl false), (Sum.inr "home", .bl false), (Sum.inr "top", .int 0), (Sum.inr "bottom", .int (h - 1)), (Sum.inr "left", .int 0)]
def kv3 (w : Int) (sl : Addr) : List (Key × V) := [(Sum.inr "right", .int (w - 1)), (Sum.inr "stops", .ref sl)]
theorem m1 (w h : Int) : mergeK [] (kv1 w h) = kv1 w h := merge_new (by show ([Sum.inr "wide", Sum.inr "high", Sum.inr "row", Sum.inr "column", Sum.inr "late", Sum.inr "ink"] : List Key).Nodup; decide +kernel)
theorem m2 (h : Int) : mergeK [] (kv2 h) = kv2 h := merge_new (by show ([Sum.inr "wrap", Sum.inr "insert", Sum.inr "home", Sum.inr "top", Sum.inr "bottom", Sum.inr "left"] : List Key).Nodup; decide +kernel)
theorem m3 (w : Int) (sl : Addr) : mergeK [] (kv3 w sl) = kv3 w sl := merge_new (by show ([Sum.inr "right", Sum.inr "stops"] : List Key).Nodup; decide +kernel)
theorem m12 (w h : Int) : mergeK (kv1 w h) (kv2 h) = kv1 w h ++ kv2 h := merge_new (by show ([Sum.inr "wide", Sum.inr "high", Sum.inr "row", Sum.inr "column", Sum.inr "late", Sum.inr "ink", Sum.inr "wrap", Sum.inr "insert", Sum.inr "home", Sum.inr "top", Sum.inr "bottom", Sum.inr "left"] : List Key).Nodup; decide +kernel)
theorem m123 (w h : Int) (sl : Addr) : mergeK (kv1 w h ++ kv2 h) (kv3 w sl) = mS sl (sv0 w h) := merge_new (mS_nd sl (sv0 w h))

theorem in_nz {i : Int} : inV (V.int i) [V.non, V.int 0] = true ↔ i = 0 := by
  have h : inV (V.int i) [V.non, V.int 0] = true ↔ 0 = i := by simp [inV, eqV]
  rw [h]
  omega
def spAt0 (K : PySem.W.Frag) : Sp := fun vs H Q _ => ∃ (a : Addr) (ns : List Int) (k : Int), vs = [.ref a, .int k] ∧ SqL K H a (ns.map V.int) ∧ ns.length ≤ 63 ∧ 0 ≤ k ∧ ∀ z, Q (.int z) H
def spSizeN : Sp := fun vs H Q _ => ∃ c, vs = [.int c] ∧ 0 ≤ c ∧ ∀ q H' (x y : Int), Same H H' → 1 ≤ x → x ≤ 24 → 1 ≤ y → y ≤ 12 → H' q = some (.tup [.int x, .int y]) → Q (.ref q) H'
def spNumber : Sp := fun vs H Q _ => ∃ c, vs = [.int c] ∧ 0 ≤ c ∧ ∀ n H', NumP n → Same H H' → Q n H'
def spTimes : Sp := fun vs H Q _ => ∃ n, vs = [n] ∧ NumP n ∧ ∀ H', Same H H' → Q (.int (tm n)) H'
def spLDo (vs : List V) (g : SV → SV) : Sp := fun us H Q _ => ∃ d sl S, us = .ref d :: vs ∧ H d = some (.dK (mS sl S)) ∧ Bd S ∧ ∀ H', H' d = some (.dK (mS sl (g S))) → (∀ b o, b ≠ d → H b = some o → H' b = some o) → Q .non H'
def spLPlace : Sp := fun us H Q E => ∃ r c, NumP r ∧ NumP c ∧ spLDo [r, c] (fun S => placeS S r c) us H Q E
def spLRows : Sp := fun us H Q E => ∃ a b, NumP a ∧ NumP b ∧ spLDo [.str "m", a, b] (fun S => rowsS S a b) us H Q E
def spLCols : Sp := fun us H Q E => ∃ a b, NumP a ∧ NumP b ∧ spLDo [.str "M", a, b] (fun S => colsS S a b) us H Q E
def spWin : Sp := fun us H Q E => spLRows us H Q E ∨ spLCols us H Q E
local macro_rules | `(tactic| walk_at "rd") => `(tactic| simp [tRet, tOp, rI, rI0, rU, tUn, tVar, tC, L2.start, tSeq, tIfS, tTest, tAsg, gName, tCall, tCons, tNil, tCB, tNext, tDrop, tAndV, tOrV, tNotV, tChain, tAnd, tOr, tNot, tB, rEq, rNe, scal, tTup, tLst, gTup, gCons, gNil, rIxL, rIxT, rIxS, tIf, and_assoc, cxK, tFor_rng1, tFor_lst, tFor_tup, tFor_enum, tBM, rAppend, tFld, sFld, tDGetK, sDPutK, kV_int, kV_str, tPar3, tLc_rng1, tLc_rng2, tLc_rng3, tLc_lst, tYes, pick, rIn, tDisp, tPairs, rUpdate, tCs, spTimes])
section
variable {P : Program} {w : World} {K : PySem.W.Frag} {mg : Str → Option Value} {base : Heap} {f C : Addr} {fd : FuncData}
theorem ok_law_mixed (F : Fun K "_law_mixed" "_law_mixed" s__law_mixed f fd) : FnOk P w K mg base CX0 1 f fd ["_law_cell", "_law_k"] spMixed := by
  have nd := sc__law_mixed.nd
  refine F.ok sc__law_mixed (fun vs H Q E h => ?_) (fun cdv A outer s H vs Q E hr h => ?_)
  · obtain ⟨c, k, rfl, _⟩ := h
    rfl
  · obtain ⟨c, k, rfl, k0, k1, q⟩ := h
    refine ⟨_, (pss_cons (ps_set (i := 2) nd rfl (Or.inl rfl) (pe_op op_add (pe_op op_mod (pe_op op_mul (pe_op op_add (pv 0) pe_int) pe_int) pe_int) (pe_op op_mul pe_int (pv 1))))
      (pss_one (ps_ret (pe_op op_fdiv (pe_op op_mod (pe_op op_mul (pv 2) (pe_op op_add pe_int (pe_op op_mul (pe_op op_mul pe_int (pv 1)) (pv 1)))) pe_int) pe_int)))), ?_⟩
    have h0 := Int.emod_nonneg ((c + 11) * 48271) (show (2147483647 : Int) ≠ 0 by decide)
    have h1 := Int.emod_lt_of_pos ((c + 11) * 48271) (show (0 : Int) < 2147483647 by decide)
    walk_at "rd"
    exact ⟨cm_right (by decide) (by decide), cm_left (by decide) (by decide), cm_left (by decide) (by decide), cm_right (by omega) (by omega), cm_left (by omega) (by omega), ⟨by decide, by decide⟩, q⟩

seal L2.PE L2.PS L2.PSs L2.PT L2.PA in
theorem ok_law_begun (F : Fun K "_law_begun" "_law_begun" s__law_begun f fd) (T : Txt K mg C) : FnOk P w K mg base CX0 1 f fd ["_law_wide", "_law_high"] (spBegun K) := by
  have nd := sc__law_begun.nd
  refine F.ok sc__law_begun (fun vs H Q E h => ?_) (fun cdv A outer s H vs Q E hr h => ?_)
  · obtain ⟨x, y, rfl, _⟩ := h
    rfl
  · obtain ⟨x, y, rfl, x1, x2, y1, y2, q⟩ := h
    refine ⟨_, (pss_cons (ps_set (i := 2) nd rfl (Or.inl rfl) (pe_disp (pps_cons pe_str (pv 0) (pps_cons pe_str (pv 1) (pps_cons pe_str pe_int (pps_cons pe_str pe_int (pps_cons pe_str pe_bl (pps_cons pe_str pe_int pps_nil)))))) rfl rfl (by decide) (by decide)))
      (pss_cons (ps_expr (pe_bm PySem.F.plainAttrs_dict PySem.F.slot_dict_update PySem.F.type_dict_update mt_update (pv 2) (QA.pa (qc (pe_disp (pps_cons pe_str pe_bl (pps_cons pe_str pe_bl (pps_cons pe_str pe_bl (pps_cons pe_str pe_int (pps_cons pe_str (pe_op op_sub (pv 1) pe_int) (pps_cons pe_str pe_int pps_nil)))))) rfl rfl (by decide) (by decide)) qn))))
      (pss_cons (ps_expr (pe_bm PySem.F.plainAttrs_dict PySem.F.slot_dict_update PySem.F.type_dict_update mt_update (pv 2) (QA.pa (qc (pe_disp (pps_cons pe_str (pe_op op_sub (pv 0) pe_int) (pps_cons pe_str (pe_lc (lcok (N := ["_law_column"]) (n := 1) (js := [])) rfl (pi_range2 rfl T.n_range (QA.pa (qc pe_int (qc (pv 0) qn)))) (fun _ _ _ _ => (pg_name (i := 0) (show List.Nodup (["_law_column"] : List Str) by decide +kernel) rfl (Or.inl rfl))) (fun _ _ _ _ => (pts_one (pt_cmpR op_eq (pe_op op_mod (pv 0) pe_int) pe_int (nomark _)))) (fun _ _ _ _ => (pv 0))) pps_nil)) rfl rfl (by decide) (by decide)) qn))))
      (pss_one (ps_ret (pv 2)))))), ?_⟩
    refine seq_cut (fun σ' H1 => ∃ d, σ' = [some (.int x), some (.int y), some (.ref d)] ∧ Same H H1 ∧ H d = none ∧ H1 d = some (.dK (kv1 x y))) (fun R hR => ?_) ?_
    · walk_at "rd"
      intro d hd
      refine ⟨upd_same, kv1 x y, rfl, by show 6 ≤ 15; decide, hR _ _ ⟨d, rfl, ?_, hd, by rw [upd_same, m1]⟩⟩
      rw [upd_upd]
      exact same_new hd
    rintro _ H1 ⟨d, rfl, hs1, hd0, hd1⟩
    refine seq_cut (fun σ' H2 => σ' = [some (.int x), some (.int y), some (.ref d)] ∧ Same H H2 ∧ H2 d = some (.dK (kv1 x y ++ kv2 y))) (fun R hR => ?_) ?_
    · walk_at "rd"
      refine ⟨.inr (.inr (.inl ⟨rfl, .inl ⟨_, hd1⟩⟩)), fun d2 hd2 => ⟨upd_same, kv2 y, rfl, by show 6 ≤ 15; decide, ?_⟩⟩
      have n2 : d ≠ d2 := ne_of_none hd1 hd2
      rw [upd_upd, upd_ne n2, upd_same, m2]
      refine ⟨_, hd1, _, rfl, n2, by show 6 + 6 ≤ 1000; decide, hR _ _ ⟨rfl, fun b o hb => ?_, by rw [upd_same, m12]⟩⟩
      rw [upd_ne (ne_of_none hb hd0), upd_ne (ne_of_none (hs1 b o hb) hd2)]
      exact hs1 b o hb
    rintro _ H2 ⟨rfl, hs2, hd2⟩
    refine seq_cut (fun σ' H3 => ∃ sl, σ' = [some (.int x), some (.int y), some (.ref d)] ∧ Same H H3 ∧ H3 d = some (.dK (mS sl (sv0 x y))) ∧ H3 sl = some (.lst ((stN x).map V.int))) (fun R hR => ?_) ?_
    · walk_at "rd"
      refine ⟨.inr (.inr (.inl ⟨rfl, .inl ⟨_, hd2⟩⟩)), fun d3 hd3 => ⟨by omega, by omega, LcF.by (fun D i σ H' => ∃ v, σ = [v] ∧ Same (upd H2 d3 (.dK [])) H' ∧ H' D = some (.lst ((pre i).map V.int)) ∧ (pre i).length ≤ i) (fun D hD => ⟨_, rfl, same_new hD, upd_same, Nat.le_refl _⟩) ?_ ?_⟩⟩
      · rintro D i _ H' hD hi ⟨v, rfl, hs, hl, hn⟩
        have e1 : pre (i + 1) = pre i ++ (if (i : Int) % 4 = 0 then [4 + (i : Int)] else []) := by
          have e0 : ((i : Int) % 4 = 0) = ((4 + (i : Int)) % 4 = 0) := propext ⟨fun h => by omega, fun h => by omega⟩
          simp only [e0]
          unfold pre
          rw [List.range_succ, List.map_append, List.filter_append]
          congr 1
          simp only [List.map_cons, List.map_nil, List.filter_cons, List.filter_nil, decide_eq_true_eq]
        walk_at "rd"
        refine ite2 (fun hc => ?_) fun hc => ?_
        · rw [if_pos hc] at e1
          refine ⟨_, hl, small1000 (by simp; omega), fun b o hb => ?_, ?_, by rw [e1]; simp; omega⟩
          · rw [upd_ne (ne_of_none hb hD)]
            exact hs b o hb
          · rw [upd_same, e1]
            simp
        · rw [if_neg hc, List.append_nil] at e1
          rw [e1]
          exact ⟨hs, hl, by omega⟩
      · rintro D _ H' hD ⟨v, rfl, hs, hl, _⟩
        rw [pre_end x1 x2] at hl
        have hp3 : H' d3 = some (.dK []) := hs _ _ upd_same
        have n3 : d ≠ d3 := ne_of_none hd2 hd3
        have hd' : H' d = some (.dK (kv1 x y ++ kv2 y)) := hs _ _ (by rw [upd_ne n3]; exact hd2)
        have nD3 : D ≠ d3 := ne_of hl hp3 (fun z => nomatch z)
        have nDd : D ≠ d := ne_of hl hd' (fun z => nomatch z)
        refine ⟨hp3, kv3 x D, rfl, by show 2 ≤ 15; decide, ?_⟩
        rw [upd_ne n3, upd_same, m3]
        refine ⟨_, hd', _, rfl, n3, by show 12 + 2 ≤ 1000; decide, hR _ _ ⟨D, rfl, fun b o hb => ?_, by rw [upd_same, m123], ?_⟩⟩
        · rw [upd_ne (ne_of_none hb hd0), upd_ne (ne_of_none (hs2 b o hb) hd3)]
          exact hs _ _ (by rw [upd_ne (ne_of_none (hs2 b o hb) hd3)]; exact hs2 b o hb)
        · rw [upd_ne nDd, upd_ne nD3]
          exact hl
    rintro _ H3 ⟨sl, rfl, hs3, hd3, hsl⟩
    walk_at "rd"
    exact q d sl H3 hs3 hd0 hd3 hsl

theorem ok_law_at (F : Fun K "_law_at" "_law_at" s__law_at f fd) (T : Txt K mg C) : FnOk P w K mg base CX0 1 f fd ["_law_script", "_law_k"] (spAt0 K) := by
  have nd := sc__law_at.nd
  refine F.ok sc__law_at (fun vs H Q E h => ?_) (fun cdv A outer s H vs Q E hr h => ?_)
  · obtain ⟨a, ns, k, rfl, _⟩ := h
    rfl
  · obtain ⟨a, ns, k, rfl, hS, hl, k0, q⟩ := h
    refine ⟨_, (pss_cons (ps_if (pt_cmpR op_lt (pv 1) (pe_callB call_len_seq (by rfl) T.n_len (by rfl) (QA.pa (qc (pv 0) qn))) (nomark _)) (pss_one (ps_ret (pe_ix ix_list (pv 0) (pv 1) (fun _ _ => rfl)))) pss_nil)
      (pss_one (ps_ret pe_int))), ?_⟩
    walk_at "rd"
    refine ⟨_, .inl hS, ite2 (fun h => ?_) fun h => q 0⟩
    simp at h
    obtain ⟨v, hv, z, rfl⟩ := atI_ex (xs := ns.map V.int) (i := k) (R := fun v => ∃ z, v = V.int z) k0 (by simpa using h) (fun v hv => by
      obtain ⟨z, _, e⟩ := List.mem_map.mp hv
      exact ⟨z, e.symm⟩)
    exact ⟨_, hS, _, hv, q z⟩
theorem ok_law_size (F : Fun K "_law_size" "_law_size" s__law_size f fd) (T : Txt K mg C) : FnOk P w K mg base CX0 1 f fd ["_law_cell"] spSizeN := by
  have nd := sc__law_size.nd
  refine F.ok sc__law_size (fun vs H Q E h => ?_) (fun cdv A outer s H vs Q E hr h => ?_)
  · obtain ⟨c, rfl, _⟩ := h
    rfl
  · obtain ⟨c, rfl, c0, q⟩ := h
    refine ⟨_, (pss_cons (ps_set (i := 1) nd rfl (Or.inl rfl) (pe_ix ix_list (pe_lstq (qc (pe_op op_add pe_int (pe_op op_mod (pv 0) pe_int)) (qc (pe_op op_add pe_int (pe_op op_mod (pv 0) pe_int)) (qc (pe_op op_add pe_int (pe_op op_mod (pv 0) pe_int)) (qc pe_int qn))))) (pe_op op_mod (pe_op op_fdiv (pv 0) pe_int) pe_int) (fun _ _ => rfl)))
      (pss_one (ps_ret (pe_tupq (qc (pv 1) (qc (pe_ix ix_list (pe_lstq (qc (pe_op op_add pe_int (pe_op op_mod (pe_op op_fdiv (pv 0) pe_int) pe_int)) (qc (pe_op op_add pe_int (pe_op op_mod (pe_op op_fdiv (pv 0) pe_int) pe_int)) (qc (pe_op op_add pe_int (pe_op op_mod (pe_op op_fdiv (pv 0) pe_int) pe_int)) qn)))) (pe_op op_mod (pe_op op_fdiv (pv 0) pe_int) pe_int) (fun _ _ => rfl)) qn)))))), ?_⟩
    refine seq_cut (fun σ' H1 => ∃ x : Int, 1 ≤ x ∧ x ≤ 24 ∧ σ' = [some (.int c), some (.int x)] ∧ Same H H1) (fun R hR => ?_) ?_
    · walk_at "rd"
      refine ⟨by decide, fun p hp => ⟨⟨by decide, by decide⟩, _, SqL.of upd_same, ?_⟩⟩
      obtain ⟨v, hv, x, rfl, x1, x2⟩ := atI_ex (xs := [V.int (1 + c % 24), V.int (2 + c % 7), V.int (5 + c % 5), V.int 9]) (i := c / 24 % 4) (R := fun v => ∃ x : Int, v = V.int x ∧ 1 ≤ x ∧ x ≤ 24) (by omega) (by show _ < (4 : Int); omega) (fun v hv => by
        simp only [List.mem_cons, List.not_mem_nil, or_false] at hv
        rcases hv with rfl | rfl | rfl | rfl <;> exact ⟨_, rfl, by omega, by omega⟩)
      exact ⟨_, hv, hR _ _ ⟨x, x1, x2, rfl, same_new hp⟩⟩
    rintro _ H1 ⟨x, x1, x2, rfl, hs1⟩
    walk_at "rd"
    refine ⟨⟨by decide, by decide⟩, by decide, fun p hp => ⟨⟨by decide, by decide⟩, _, SqL.of upd_same, ?_⟩⟩
    obtain ⟨v, hv, y, rfl, y1, y2⟩ := atI_ex (xs := [V.int (1 + c / 96 % 12), V.int (1 + c / 96 % 4), V.int (3 + c / 96 % 3)]) (i := c / 1152 % 3) (R := fun v => ∃ x : Int, v = V.int x ∧ 1 ≤ x ∧ x ≤ 12) (by omega) (by show _ < (3 : Int); omega) (fun v hv => by
      simp only [List.mem_cons, List.not_mem_nil, or_false] at hv
      rcases hv with rfl | rfl | rfl <;> exact ⟨_, rfl, by omega, by omega⟩)
    exact ⟨_, hv, by decide, fun p2 hp2 => q p2 _ x y ((hs1.trans (same_new hp)).trans (same_new hp2)) x1 x2 y1 y2 upd_same⟩
seal L2.PE L2.PS L2.PSs L2.PT L2.PA in
theorem ok_law_number (F : Fun K "_law_number" "_law_number" s__law_number f fd) (T : Txt K mg C) : FnOk P w K mg base CX0 1 f fd ["_law_cell"] spNumber := by
  have nd := sc__law_number.nd
  refine F.ok sc__law_number (fun vs H Q E h => ?_) (fun cdv A outer s H vs Q E hr h => ?_)
  · obtain ⟨c, rfl, _⟩ := h
    rfl
  · obtain ⟨c, rfl, c0, q⟩ := h
    refine ⟨_, (pss_one (ps_ret (pe_ix ix_list (pe_lstC rfl) (pe_op op_mod (pv 0) pe_int) (fun _ _ => rfl)))), ?_⟩
    walk_at "rd"
    refine ⟨by decide, fun p hp => ⟨_, SqL.of upd_same, ?_⟩⟩
    obtain ⟨v, hv, hn⟩ := atI_ex (xs := [V.non, V.int 0, V.int 1, V.int 2, V.int 3, V.int 5, V.int 9, V.int 4, V.int 7, V.int 12, V.int 1, V.int 2, V.int 25, V.int 999, V.int 6, V.int 13]) (i := c % 16) (R := NumP) (by omega) (by show _ < (16 : Int); omega) (fun v hv => by
      simp only [List.mem_cons, List.not_mem_nil, or_false] at hv
      rcases hv with rfl | rfl | rfl | rfl | rfl | rfl | rfl | rfl | rfl | rfl | rfl | rfl | rfl | rfl | rfl | rfl
      · exact .inl rfl
      all_goals exact .inr ⟨_, rfl, by decide, by decide⟩)
    exact ⟨v, hv, q v _ hn (same_new hp)⟩
theorem ok_law_times (F : Fun K "_law_times" "_law_times" s__law_times f fd) (T : Txt K mg C) : FnOk P w K mg base CX0 1 f fd ["_law_many"] spTimes := by
  have nd := sc__law_times.nd
  refine F.ok sc__law_times (fun vs H Q E h => ?_) (fun cdv A outer s H vs Q E hr h => ?_)
  · obtain ⟨n, rfl, _⟩ := h
    rfl
  · obtain ⟨n, rfl, hn, q⟩ := h
    refine ⟨_, (pss_one (ps_ret (pe_ifExp (pt_cmpR op_in_seq (pv 0) (pe_tupq (qc pe_non (qc pe_int qn))) (by with_unfolding_all rfl)) pe_int (pv 0)))), ?_⟩
    walk_at "rd"
    refine ⟨by decide, fun p hp => ⟨[.non, .int 0], .inr (SqT.of upd_same), numP_flat hn, (fun v hv => by
      simp only [List.mem_cons, List.not_mem_nil, or_false] at hv
      rcases hv with rfl | rfl <;> rfl), ?_⟩⟩
    rcases hn with rfl | ⟨i, rfl, h0, h1⟩
    · exact q _ (same_new hp)
    · refine ite2 (fun h => ?_) fun h => ?_
      · have hi := in_nz.mp h
        subst hi
        exact q _ (same_new hp)
      · have e : tm (.int i) = i := by simp only [tm, if_neg (fun z => h (in_nz.mpr z))]
        have := q _ (same_new (o := .tup [.non, .int 0]) hp)
        rw [e] at this
        exact this
seal L2.PE L2.PS L2.PSs L2.PT L2.PA in
theorem ok_law_placed (F : Fun K "_law_placed" "_law_placed" s__law_placed f fd) (T : Txt K mg C) (c__law_times : Cal P w K mg base 1 "_law_times" [] spTimes) : FnOk P w K mg base CX0 2 f fd ["_law_m", "_law_row", "_law_column"] spLPlace := by
  have nd := sc__law_placed.nd
  refine F.ok sc__law_placed (fun vs H Q E h => ?_) (fun cdv A outer s H vs Q E hr h => ?_)
  · obtain ⟨r, c, _, _, d, sl, S, rfl, _⟩ := h
    rfl
  · obtain ⟨r, c, hr', hc', d, sl, S, rfl, hd, hS, q⟩ := h
    refine ⟨_, (pss_cons (ps_asg (pe_tupq (qc pe_int (qc (pe_op op_sub (pe_dgetK (hu_of hr) (pv 0) pe_str (fun _ _ => rfl)) pe_int) (qc pe_int (qc (pe_op op_sub (pe_dgetK (hu_of hr) (pv 0) pe_str (fun _ _ => rfl)) pe_int) qn))))) (pg_tup rfl (pgs_cons (pg_name (i := 3) nd rfl (Or.inl rfl)) (pgs_cons (pg_name (i := 4) nd rfl (Or.inl rfl)) (pgs_cons (pg_name (i := 5) nd rfl (Or.inl rfl)) (pgs_cons (pg_name (i := 6) nd rfl (Or.inl rfl)) pgs_nil))))))
      (pss_cons (ps_if (pt_truth (pe_dgetK (hu_of hr) (pv 0) pe_str (fun _ _ => rfl)) (fun _ => rfl)) (pss_one (ps_asg (pe_tupq (qc (pe_dgetK (hu_of hr) (pv 0) pe_str (fun _ _ => rfl)) (qc (pe_dgetK (hu_of hr) (pv 0) pe_str (fun _ _ => rfl)) (qc (pe_dgetK (hu_of hr) (pv 0) pe_str (fun _ _ => rfl)) (qc (pe_dgetK (hu_of hr) (pv 0) pe_str (fun _ _ => rfl)) qn))))) (pg_tup rfl (pgs_cons (pg_name (i := 3) nd rfl (Or.inl rfl)) (pgs_cons (pg_name (i := 4) nd rfl (Or.inl rfl)) (pgs_cons (pg_name (i := 5) nd rfl (Or.inl rfl)) (pgs_cons (pg_name (i := 6) nd rfl (Or.inl rfl)) pgs_nil))))))) pss_nil)
      (pss_cons (ps_dputK (hu_of hr) (pv 0) pe_str (pe_callB (call_min2 rfl) (by rfl) T.n_min (by rfl) (QA.pa (qc (pv 4) (qc (pe_op op_sub (pe_op op_add (pv 3) (pe_cal c__law_times (hr.mono (by decide)) rfl (QA.pa (qc (pv 1) qn)))) pe_int) qn)))) rfl)
      (pss_cons (ps_dputK (hu_of hr) (pv 0) pe_str (pe_callB (call_min2 rfl) (by rfl) T.n_min (by rfl) (QA.pa (qc (pv 6) (qc (pe_op op_sub (pe_op op_add (pv 5) (pe_cal c__law_times (hr.mono (by decide)) rfl (QA.pa (qc (pv 2) qn)))) pe_int) qn)))) rfl)
      (pss_one (ps_dputK (hu_of hr) (pv 0) pe_str pe_bl rfl)))))), ?_⟩
    refine seq_cut (fun σ' H1 => σ' = [some (.ref d), some r, some c, some (.int 0), some (.int (S.high - 1)), some (.int 0), some (.int (S.wide - 1))] ∧ Same H H1) (fun R hR => ?_) ?_
    · walk_at "rd"
      simp [and_assoc, hd, val_high, val_wide]
      refine ⟨by decide, fun p hp => ⟨_, SqT.of upd_same, rfl, _, _, rfl, _, _, rfl, _, _, rfl, _, _, rfl, rfl, hR _ _ ⟨rfl, same_new hp⟩⟩⟩
    rintro _ H1 ⟨rfl, hs1⟩
    have hd1 := hs1 _ _ hd
    refine seq_cut (fun σ' H2 => ∃ t b l g, σ' = [some (.ref d), some r, some c, some (.int t), some (.int b), some (.int l), some (.int g)] ∧ Same H H2 ∧ placeS S r c = { S with row := mn b (t + tm r - 1), col := mn g (l + tm c - 1), late := false }) (fun R hR => ?_) ?_
    · walk_at "rd"
      simp [and_assoc, hd1, val_home, val_top, val_bottom, val_left, val_right]
      cases e : S.home with
      | false =>
        refine .inl ⟨rfl, hR _ _ ⟨_, _, _, _, rfl, hs1, ?_⟩⟩
        simp only [placeS, e]
        rw [mn_comm (S.high - 1), mn_comm (S.wide - 1), Int.zero_add, Int.zero_add]
        rfl
      | true =>
        refine .inr ⟨rfl, by decide, fun p hp => ⟨_, SqT.of upd_same, rfl, _, _, rfl, _, _, rfl, _, _, rfl, _, _, rfl, rfl, hR _ _ ⟨_, _, _, _, rfl, hs1.trans (same_new hp), ?_⟩⟩⟩
        simp only [placeS, e]
        rw [mn_comm S.bottom, mn_comm S.right]
        rfl
    rintro _ H2 ⟨t, b, l, g, rfl, hs2, he⟩
    have hd2 := hs2 _ _ hd
    walk_at "rd"
    refine ⟨hr', fun H3 hs3 => ⟨_, hs3 _ _ hd2, by rw [mS_len]; decide, hc', fun H4 hs4 => ⟨_, hs4 _ _ upd_same, by rw [putk_row, mS_len]; decide, ?_⟩⟩⟩
    rw [putk_row, putk_column, upd_same]
    refine ⟨_, rfl, by rw [mS_len]; decide, q _ ?_ fun b' o hb' hbo => ?_⟩
    · rw [upd_same, putk_late]
      show _ = some (HO.dK (mS sl (placeS S r c)))
      rw [he]
      rfl
    · rw [upd_ne hb', upd_ne hb']
      exact hs4 _ _ (by rw [upd_ne hb']; exact hs3 _ _ (hs2 _ _ hbo))
end

end K08
namespace K08
open PySem L2
local macro_rules | `(tactic| walk_at "rd") => `(tactic| simp [tRet, tOp, rI, rI0, rU, tUn, tVar, tC, L2.start, tSeq, tIfS, tTest, tAsg, gName, tCall, tCons, tNil, tCB, tNext, tDrop, tAndV, tOrV, tNotV, tChain, tAnd, tOr, tNot, tB, rEq, rNe, scal, tTup, tLst, gTup, gCons, gNil, rIxL, rIxT, rIxS, tIf, and_assoc, cxK, tFor_rng1, tFor_lst, tFor_tup, tFor_enum, tBM, rAppend, tFld, sFld, tDGetK, sDPutK, kV_int, kV_str, tPar3, tLc_rng1, tLc_rng2, tLc_rng3, tLc_lst, tYes, pick, rIn, tDisp, tPairs, rUpdate, tCs, spTimes])
section
variable {P : Program} {w : World} {K : PySem.W.Frag} {mg : Str → Option Value} {base : Heap} {f C : Addr} {fd : FuncData}
seal L2.PE L2.PS L2.PSs L2.PT L2.PA in
theorem ok_law_window (F : Fun K "_law_window" "_law_window" s__law_window f fd) (T : Txt K mg C) (c__law_times : Cal P w K mg base 1 "_law_times" [] spTimes) (c__law_placed : Cal P w K mg base 2 "_law_placed" [] spLPlace) : FnOk P w K mg base CX0 3 f fd ["_law_m", "_law_letter", "_law_first", "_law_last"] spWin := by
  have nd := sc__law_window.nd
  refine F.ok sc__law_window (fun vs H Q E h => ?_) (fun cdv A outer s H vs Q E hr h => ?_)
  · rcases h with ⟨a, b, _, _, d, sl, S, rfl, _⟩ | ⟨a, b, _, _, d, sl, S, rfl, _⟩ <;> rfl
  · have hMm : ¬ (Str.ofString "M" = Str.ofString "m") := by decide
    refine ⟨_, (pss_cons (ps_set (i := 4) nd rfl (Or.inl rfl) (pe_ifExp (pt_cmpR op_eq (pv 1) pe_str (nomark _)) (pe_dgetK (hu_of hr) (pv 0) pe_str (fun _ _ => rfl)) (pe_dgetK (hu_of hr) (pv 0) pe_str (fun _ _ => rfl))))
      (pss_cons (ps_set (i := 5) nd rfl (Or.inl rfl) (pe_ifExp (pt_cmpR op_eq (pv 1) pe_str (nomark _)) (pe_lstq (qc pe_str (qc pe_str qn))) (pe_lstq (qc pe_str (qc pe_str qn)))))
      (pss_cons (ps_set (i := 6) nd rfl (Or.inl rfl) (pe_ifExp (pt_cmpR op_in_seq (pv 3) (pe_tupq (qc pe_non (qc pe_int qn))) (by with_unfolding_all rfl)) (pv 4) (pe_callB (call_min2 rfl) (by rfl) T.n_min (by rfl) (QA.pa (qc (pv 3) (qc (pv 4) qn))))))
      (pss_one (ps_if (pt_cmpR op_le (pe_cal c__law_times (hr.mono (by decide)) rfl (QA.pa (qc (pv 2) qn))) (pv 6) (nomark _)) (pss_cons (ps_dputK (hu_of hr) (pv 0) (pe_ix ix_list (pv 5) pe_int (fun _ _ => rfl)) (pe_op op_sub (pe_cal c__law_times (hr.mono (by decide)) rfl (QA.pa (qc (pv 2) qn))) pe_int) rfl)
      (pss_cons (ps_dputK (hu_of hr) (pv 0) (pe_ix ix_list (pv 5) pe_int (fun _ _ => rfl)) (pe_op op_sub (pv 6) pe_int) rfl)
      (pss_one (ps_expr (pe_cal c__law_placed (hr.mono (by decide)) rfl (QA.pa (qc (pv 0) (qc pe_non (qc pe_non qn))))))))) pss_nil))))), ?_⟩
    rcases h with ⟨a, b, ha, hb, d, sl, S, rfl, hd, hS, q⟩ | ⟨a, b, ha, hb, d, sl, S, rfl, hd, hS, q⟩
    · refine seq_cut (fun σ' H1 => σ' = [some (.ref d), some (.str "m"), some a, some b, some (.int S.high), none, none] ∧ H = H1) (fun R hR => ?_) ?_
      · walk_at "rd"
        simp [and_assoc, hd, val_high]
        exact hR _ _ ⟨rfl, rfl⟩
      rintro _ _ ⟨rfl, rfl⟩
      refine seq_cut (fun σ' H1 => ∃ nm, σ' = [some (.ref d), some (.str "m"), some a, some b, some (.int S.high), some (.ref nm), none] ∧ Same H H1 ∧ H nm = none ∧ H1 nm = some (.lst [.str "top", .str "bottom"])) (fun R hR => ?_) ?_
      · walk_at "rd"
        exact ⟨by decide, fun p hp => hR _ _ ⟨p, rfl, same_new hp, hp, upd_same⟩⟩
      rintro _ H1 ⟨nm, rfl, hs1, hn0, hn1⟩
      refine seq_cut (fun σ' H2 => σ' = [some (.ref d), some (.str "m"), some a, some b, some (.int S.high), some (.ref nm), some (.int (lastN b S.high))] ∧ Same H1 H2) (fun R hR => ?_) ?_
      · walk_at "rd"
        refine ⟨by decide, fun p hp => ⟨[.non, .int 0], .inr (SqT.of upd_same), numP_flat hb, (fun v hv => by
          simp only [List.mem_cons, List.not_mem_nil, or_false] at hv
          rcases hv with rfl | rfl <;> rfl), ?_⟩⟩
        rcases hb with rfl | ⟨i, rfl, h0, h1⟩
        · exact hR _ _ ⟨rfl, same_new hp⟩
        · refine ite2 (fun h => ?_) fun h => ⟨i, rfl, hR _ _ ⟨?_, same_new hp⟩⟩
          · have hi := in_nz.mp h
            subst hi
            exact hR _ _ ⟨rfl, same_new hp⟩
          · simp only [lastN, if_neg (fun z => h (in_nz.mpr z)), mn]
      rintro _ H2 ⟨rfl, hs2⟩
      walk_at "rd"
      have hd2 := hs2 _ _ (hs1 _ _ hd)
      have hn2 := hs2 _ _ hn1
      have nnd : nm ≠ d := ne_of hn2 hd2 (fun z => nomatch z)
      refine ⟨ha, fun H3 hs3 => ite2 (fun h => ⟨ha, fun H4 hs4 => ?_⟩) fun h => ?_⟩
      · have hn4 := hs4 _ _ (hs3 _ _ hn2)
        refine ⟨_, SqL.of hn4, _, rfl, _, hs4 _ _ (hs3 _ _ hd2), Sum.inr "top", rfl, by rw [mS_len]; decide, _, SqL.of (by rw [upd_ne nnd]; exact hn4), _, rfl, _, upd_same, Sum.inr "bottom", rfl, ?_⟩
        rw [putk_top, putk_bottom, upd_upd]
        refine ⟨by rw [mS_len]; decide, .non, .non, numP_non, numP_non, d, sl, _, rfl, upd_same, hS.rows0 ha hb, fun H5 e1 e2 => q H5 ?_ fun b' o hb' hbo => ?_⟩
        · simp only [rowsS, if_pos h]
          exact e1
        · exact e2 b' o hb' (by rw [upd_ne hb']; exact hs4 _ _ (hs3 _ _ (hs2 _ _ (hs1 _ _ hbo))))
      · refine q H3 ?_ fun b' o hb' hbo => hs3 _ _ (hs2 _ _ (hs1 _ _ hbo))
        simp only [rowsS, if_neg h]
        exact hs3 _ _ hd2
    · refine seq_cut (fun σ' H1 => σ' = [some (.ref d), some (.str "M"), some a, some b, some (.int S.wide), none, none] ∧ H = H1) (fun R hR => ?_) ?_
      · walk_at "rd"
        simp [and_assoc, hd, val_wide, hMm]
        exact hR _ _ ⟨rfl, rfl⟩
      rintro _ _ ⟨rfl, rfl⟩
      refine seq_cut (fun σ' H1 => ∃ nm, σ' = [some (.ref d), some (.str "M"), some a, some b, some (.int S.wide), some (.ref nm), none] ∧ Same H H1 ∧ H nm = none ∧ H1 nm = some (.lst [.str "left", .str "right"])) (fun R hR => ?_) ?_
      · walk_at "rd"
        simp [hMm]
        exact ⟨by decide, fun p hp => hR _ _ ⟨p, rfl, same_new hp, hp, upd_same⟩⟩
      rintro _ H1 ⟨nm, rfl, hs1, hn0, hn1⟩
      refine seq_cut (fun σ' H2 => σ' = [some (.ref d), some (.str "M"), some a, some b, some (.int S.wide), some (.ref nm), some (.int (lastN b S.wide))] ∧ Same H1 H2) (fun R hR => ?_) ?_
      · walk_at "rd"
        refine ⟨by decide, fun p hp => ⟨[.non, .int 0], .inr (SqT.of upd_same), numP_flat hb, (fun v hv => by
          simp only [List.mem_cons, List.not_mem_nil, or_false] at hv
          rcases hv with rfl | rfl <;> rfl), ?_⟩⟩
        rcases hb with rfl | ⟨i, rfl, h0, h1⟩
        · exact hR _ _ ⟨rfl, same_new hp⟩
        · refine ite2 (fun h => ?_) fun h => ⟨i, rfl, hR _ _ ⟨?_, same_new hp⟩⟩
          · have hi := in_nz.mp h
            subst hi
            exact hR _ _ ⟨rfl, same_new hp⟩
          · simp only [lastN, if_neg (fun z => h (in_nz.mpr z)), mn]
      rintro _ H2 ⟨rfl, hs2⟩
      walk_at "rd"
      have hd2 := hs2 _ _ (hs1 _ _ hd)
      have hn2 := hs2 _ _ hn1
      have nnd : nm ≠ d := ne_of hn2 hd2 (fun z => nomatch z)
      refine ⟨ha, fun H3 hs3 => ite2 (fun h => ⟨ha, fun H4 hs4 => ?_⟩) fun h => ?_⟩
      · have hn4 := hs4 _ _ (hs3 _ _ hn2)
        refine ⟨_, SqL.of hn4, _, rfl, _, hs4 _ _ (hs3 _ _ hd2), Sum.inr "left", rfl, by rw [mS_len]; decide, _, SqL.of (by rw [upd_ne nnd]; exact hn4), _, rfl, _, upd_same, Sum.inr "right", rfl, ?_⟩
        rw [putk_left, putk_right, upd_upd]
        refine ⟨by rw [mS_len]; decide, .non, .non, numP_non, numP_non, d, sl, _, rfl, upd_same, hS.cols0 ha hb, fun H5 e1 e2 => q H5 ?_ fun b' o hb' hbo => ?_⟩
        · simp only [colsS, if_pos h]
          exact e1
        · exact e2 b' o hb' (by rw [upd_ne hb']; exact hs4 _ _ (hs3 _ _ (hs2 _ _ (hs1 _ _ hbo))))
      · refine q H3 ?_ fun b' o hb' hbo => hs3 _ _ (hs2 _ _ (hs1 _ _ hbo))
        simp only [colsS, if_neg h]
        exact hs3 _ _ hd2
end

end K08
namespace K08
open PySem L2
def mx (a b : Int) : Int := if a < b then b else a
def edT (S : SV) : Int := if S.top ≤ S.row then S.top else 0
def edB (S : SV) : Int := if S.row ≤ S.bottom then S.bottom else S.high - 1
def edL (S : SV) : Int := if S.left ≤ S.col then S.left else 0
def edR (S : SV) : Int := if S.col ≤ S.right then S.right else S.wide - 1
/-- so many cells one of the four ways -/
def stS (k : Nat) (S : SV) (t : Int) : SV :=
  if k = 0 then { S with row := mx (S.row - t) (edT S) } else if k = 1 then { S with row := mn (S.row + t) (edB S) } else if k = 2 then { S with col := mx (S.col - t) (edL S) } else { S with col := mn (S.col + t) (edR S) }
def goS (k : Nat) (S : SV) (n : V) : SV := { stS k S (tm n) with late := false }
/-- what stays within the screen -/
structure In (S : SV) : Prop where
  row : S.row ≤ S.high - 1
  col : S.col ≤ S.wide - 1
  bottom : S.bottom ≤ S.high - 1
  right : S.right ≤ S.wide - 1
  late : S.late = false
theorem ed_bd {S : SV} (h : Bd S) : 0 ≤ edT S ∧ edT S ≤ S.row ∧ 0 ≤ edB S ∧ edB S ≤ 2000 ∧ 0 ≤ edL S ∧ edL S ≤ S.col ∧ 0 ≤ edR S ∧ edR S ≤ 2000 := by
  obtain ⟨a, b, c', d, e, f, g, i, j, k, l⟩ := h
  unfold edT edB edL edR
  refine ⟨?_, ?_, ?_, ?_, ?_, ?_, ?_, ?_⟩ <;> split <;> omega
theorem ed_in {S : SV} (h : In S) : S.row ≤ edB S ∧ edB S ≤ S.high - 1 ∧ S.col ≤ edR S ∧ edR S ≤ S.wide - 1 := by
  obtain ⟨a, b, c, d, e⟩ := h
  unfold edB edR
  refine ⟨?_, ?_, ?_, ?_⟩ <;> split <;> omega
theorem Bd.go {S : SV} (h : Bd S) {k : Nat} {n : V} (hn : NumP n) : Bd (goS k S n) := by
  obtain ⟨e1, e2, e3, e4, e5, e6, e7, e8⟩ := ed_bd h
  obtain ⟨a, b, c', d, e, f, g, i, j, k', l⟩ := h
  have t1 := tm_ge hn
  unfold goS stS
  split
  · constructor <;> simp only [mx] <;> first | assumption | (split <;> omega)
  split
  · constructor <;> simp only [mn] <;> first | assumption | (split <;> omega)
  split
  · constructor <;> simp only [mx] <;> first | assumption | (split <;> omega)
  · constructor <;> simp only [mn] <;> first | assumption | (split <;> omega)
theorem In.go {S : SV} (hb : Bd S) (h : In S) {k : Nat} {n : V} (hn : NumP n) : In (goS k S n) := by
  obtain ⟨e1, e2, e3, e4, e5, e6, e7, e8⟩ := ed_bd hb
  obtain ⟨f1, f2, f3, f4⟩ := ed_in h
  obtain ⟨a, b, c, d, e⟩ := h
  have t1 := tm_ge hn
  unfold goS stS
  split
  · constructor <;> simp only [mx] <;> first | assumption | rfl | (split <;> omega)
  split
  · constructor <;> simp only [mn] <;> first | assumption | rfl | (split <;> omega)
  split
  · constructor <;> simp only [mx] <;> first | assumption | rfl | (split <;> omega)
  · constructor <;> simp only [mn] <;> first | assumption | rfl | (split <;> omega)
theorem In.place {S : SV} (hb : Bd S) (h : In S) {r c : V} (hr : NumP r) (hc : NumP c) : In (placeS S r c) := by
  obtain ⟨a, b, c', d, e⟩ := h
  have t1 := tm_ge hr
  have t2 := tm_ge hc
  unfold placeS
  split <;> (constructor <;> simp only [mn] <;> first | assumption | rfl | (split <;> omega))
theorem lastN_le {n : V} {m : Int} : lastN n m ≤ m := by
  unfold lastN
  split
  · split
    · omega
    · unfold mn
      split <;> omega
  · omega
theorem In.rows {S : SV} (hb : Bd S) (h : In S) {a b : V} (ha : NumP a) (hb' : NumP b) : In (rowsS S a b) := by
  unfold rowsS
  split
  · refine In.place (hb.rows0 ha hb') ?_ numP_non numP_non
    obtain ⟨a', b', c', d, e⟩ := h
    have := lastN_le (n := b) (m := S.high)
    constructor <;> simp only <;> first | assumption | omega
  · exact h
theorem In.cols {S : SV} (hb : Bd S) (h : In S) {a b : V} (ha : NumP a) (hb' : NumP b) : In (colsS S a b) := by
  unfold colsS
  split
  · refine In.place (hb.cols0 ha hb') ?_ numP_non numP_non
    obtain ⟨a', b', c', d, e⟩ := h
    have := lastN_le (n := b) (m := S.wide)
    constructor <;> simp only <;> first | assumption | omega
  · exact h
def spEdges (C : Addr) : Sp := fun vs H Q _ => ∃ x dx p st kp S, vs = [.ref x] ∧ H x = some (.ins C dx (fldS p st kp S)) ∧ ∀ t, H t = none → Q (.ref t) (upd H t (.tup [.int (edT S), .int (edB S), .int (edL S), .int (edR S)]))
def spLEdges : Sp := fun vs H Q _ => ∃ d sl S, vs = [.ref d] ∧ H d = some (.dK (mS sl S)) ∧ ∀ t, H t = none → Q (.ref t) (upd H t (.tup [.int (edT S), .int (edB S), .int (edL S), .int (edR S)]))
local macro_rules | `(tactic| walk_at "rd") => `(tactic| simp [tRet, tOp, rI, rI0, rU, tUn, tVar, tC, L2.start, tSeq, tIfS, tTest, tAsg, gName, tCall, tCons, tNil, tCB, tNext, tDrop, tAndV, tOrV, tNotV, tChain, tAnd, tOr, tNot, tB, rEq, rNe, scal, tTup, tLst, gTup, gCons, gNil, rIxL, rIxT, rIxS, tIf, and_assoc, cxK, tFor_rng1, tFor_lst, tFor_tup, tFor_enum, tBM, rAppend, tFld, sFld, tDGetK, sDPutK, kV_int, kV_str, tPar3, tLc_rng1, tLc_rng2, tLc_rng3, tLc_lst, tYes, pick, rIn, tDisp, tPairs, rUpdate, tCs, spTimes, spOne])
section
variable {P : Program} {w : World} {K : PySem.W.Frag} {mg : Str → Option Value} {base : Heap} {f C : Addr} {fd : FuncData}
seal L2.PE L2.PS L2.PSs L2.PT L2.PA in
theorem ok_edges (F : Fun K "edges" "edges" s_edges f fd) (T : Txt K mg C) : FnOk P w K mg base CX0 1 f fd ["state"] (spEdges C) := by
  have nd := sc_edges.nd
  refine F.ok sc_edges (fun vs H Q E h => ?_) (fun cdv A outer s H vs Q E hr h => ?_)
  · obtain ⟨x, dx, p, st, kp, S, rfl, _⟩ := h
    rfl
  · obtain ⟨x, dx, p, st, kp, S, rfl, hx, q⟩ := h
    refine ⟨_, (pss_cons (ps_set (i := 1) nd rfl (Or.inl rfl) (pe_ifExp (pt_cmpR op_ge (pe_fld (pv 0) rfl) (pe_fld (pv 0) rfl) (nomark _)) (pe_fld (pv 0) rfl) pe_int))
      (pss_cons (ps_set (i := 2) nd rfl (Or.inl rfl) (pe_ifExp (pt_cmpR op_le (pe_fld (pv 0) rfl) (pe_fld (pv 0) rfl) (nomark _)) (pe_fld (pv 0) rfl) (pe_op op_sub (pe_fld (pv 0) rfl) pe_int)))
      (pss_cons (ps_set (i := 3) nd rfl (Or.inl rfl) (pe_ifExp (pt_cmpR op_ge (pe_fld (pv 0) rfl) (pe_fld (pv 0) rfl) (nomark _)) (pe_fld (pv 0) rfl) pe_int))
      (pss_cons (ps_set (i := 4) nd rfl (Or.inl rfl) (pe_ifExp (pt_cmpR op_le (pe_fld (pv 0) rfl) (pe_fld (pv 0) rfl) (nomark _)) (pe_fld (pv 0) rfl) (pe_op op_sub (pe_fld (pv 0) rfl) pe_int)))
      (pss_one (ps_ret (pe_tupq (qc (pv 1) (qc (pv 2) (qc (pv 3) (qc (pv 4) qn))))))))))), ?_⟩
    refine seq_cut (fun σ' H1 => σ' = [some (.ref x), some (.int (edT S)), none, none, none] ∧ H = H1) (fun R hR => ?_) ?_
    · walk_at "rd"
      simp [and_assoc, hx, T.st.cl, T.st.n_row, T.st.n_top, look_row, look_top]
      refine ite2 (fun h => hR _ _ ⟨?_, rfl⟩) fun h => hR _ _ ⟨?_, rfl⟩
      · rw [edT, if_pos (by omega)]
      · rw [edT, if_neg (by omega)]
    rintro _ _ ⟨rfl, rfl⟩
    refine seq_cut (fun σ' H1 => σ' = [some (.ref x), some (.int (edT S)), some (.int (edB S)), none, none] ∧ H = H1) (fun R hR => ?_) ?_
    · walk_at "rd"
      simp [and_assoc, hx, T.st.cl, T.st.n_row, T.st.n_bottom, T.st.n_high, look_row, look_bottom, look_high]
      refine ite2 (fun h => hR _ _ ⟨?_, rfl⟩) fun h => hR _ _ ⟨?_, rfl⟩
      · rw [edB, if_pos (by omega)]
      · rw [edB, if_neg (by omega)]
    rintro _ _ ⟨rfl, rfl⟩
    refine seq_cut (fun σ' H1 => σ' = [some (.ref x), some (.int (edT S)), some (.int (edB S)), some (.int (edL S)), none] ∧ H = H1) (fun R hR => ?_) ?_
    · walk_at "rd"
      simp [and_assoc, hx, T.st.cl, T.st.n_column, T.st.n_left, look_column, look_left]
      refine ite2 (fun h => hR _ _ ⟨?_, rfl⟩) fun h => hR _ _ ⟨?_, rfl⟩
      · rw [edL, if_pos (by omega)]
      · rw [edL, if_neg (by omega)]
    rintro _ _ ⟨rfl, rfl⟩
    refine seq_cut (fun σ' H1 => σ' = [some (.ref x), some (.int (edT S)), some (.int (edB S)), some (.int (edL S)), some (.int (edR S))] ∧ H = H1) (fun R hR => ?_) ?_
    · walk_at "rd"
      simp [and_assoc, hx, T.st.cl, T.st.n_column, T.st.n_right, T.st.n_wide, look_column, look_right, look_wide]
      refine ite2 (fun h => hR _ _ ⟨?_, rfl⟩) fun h => hR _ _ ⟨?_, rfl⟩
      · rw [edR, if_pos (by omega)]
      · rw [edR, if_neg (by omega)]
    rintro _ _ ⟨rfl, rfl⟩
    walk_at "rd"
    exact ⟨by decide, q⟩
seal L2.PE L2.PS L2.PSs L2.PT L2.PA in
theorem ok_law_edges (F : Fun K "_law_edges" "_law_edges" s__law_edges f fd) (T : Txt K mg C) : FnOk P w K mg base CX0 1 f fd ["_law_m"] spLEdges := by
  have nd := sc__law_edges.nd
  refine F.ok sc__law_edges (fun vs H Q E h => ?_) (fun cdv A outer s H vs Q E hr h => ?_)
  · obtain ⟨d, sl, S, rfl, _⟩ := h
    rfl
  · obtain ⟨d, sl, S, rfl, hd, q⟩ := h
    refine ⟨_, (pss_cons (ps_set (i := 1) nd rfl (Or.inl rfl) (pe_ifExp (pt_cmpR op_ge (pe_dgetK (hu_of hr) (pv 0) pe_str (fun _ _ => rfl)) (pe_dgetK (hu_of hr) (pv 0) pe_str (fun _ _ => rfl)) (nomark _)) (pe_dgetK (hu_of hr) (pv 0) pe_str (fun _ _ => rfl)) pe_int))
      (pss_cons (ps_set (i := 2) nd rfl (Or.inl rfl) (pe_ifExp (pt_cmpR op_le (pe_dgetK (hu_of hr) (pv 0) pe_str (fun _ _ => rfl)) (pe_dgetK (hu_of hr) (pv 0) pe_str (fun _ _ => rfl)) (nomark _)) (pe_dgetK (hu_of hr) (pv 0) pe_str (fun _ _ => rfl)) (pe_op op_sub (pe_dgetK (hu_of hr) (pv 0) pe_str (fun _ _ => rfl)) pe_int)))
      (pss_cons (ps_set (i := 3) nd rfl (Or.inl rfl) (pe_ifExp (pt_cmpR op_ge (pe_dgetK (hu_of hr) (pv 0) pe_str (fun _ _ => rfl)) (pe_dgetK (hu_of hr) (pv 0) pe_str (fun _ _ => rfl)) (nomark _)) (pe_dgetK (hu_of hr) (pv 0) pe_str (fun _ _ => rfl)) pe_int))
      (pss_cons (ps_set (i := 4) nd rfl (Or.inl rfl) (pe_ifExp (pt_cmpR op_le (pe_dgetK (hu_of hr) (pv 0) pe_str (fun _ _ => rfl)) (pe_dgetK (hu_of hr) (pv 0) pe_str (fun _ _ => rfl)) (nomark _)) (pe_dgetK (hu_of hr) (pv 0) pe_str (fun _ _ => rfl)) (pe_op op_sub (pe_dgetK (hu_of hr) (pv 0) pe_str (fun _ _ => rfl)) pe_int)))
      (pss_one (ps_ret (pe_tupq (qc (pv 1) (qc (pv 2) (qc (pv 3) (qc (pv 4) qn))))))))))), ?_⟩
    refine seq_cut (fun σ' H1 => σ' = [some (.ref d), some (.int (edT S)), none, none, none] ∧ H = H1) (fun R hR => ?_) ?_
    · walk_at "rd"
      simp [and_assoc, hd, val_row, val_top]
      refine ite2 (fun h => hR _ _ ⟨?_, rfl⟩) fun h => hR _ _ ⟨?_, rfl⟩
      · rw [edT, if_pos (by omega)]
      · rw [edT, if_neg (by omega)]
    rintro _ _ ⟨rfl, rfl⟩
    refine seq_cut (fun σ' H1 => σ' = [some (.ref d), some (.int (edT S)), some (.int (edB S)), none, none] ∧ H = H1) (fun R hR => ?_) ?_
    · walk_at "rd"
      simp [and_assoc, hd, val_row, val_bottom, val_high]
      refine ite2 (fun h => hR _ _ ⟨?_, rfl⟩) fun h => hR _ _ ⟨?_, rfl⟩
      · rw [edB, if_pos (by omega)]
      · rw [edB, if_neg (by omega)]
    rintro _ _ ⟨rfl, rfl⟩
    refine seq_cut (fun σ' H1 => σ' = [some (.ref d), some (.int (edT S)), some (.int (edB S)), some (.int (edL S)), none] ∧ H = H1) (fun R hR => ?_) ?_
    · walk_at "rd"
      simp [and_assoc, hd, val_column, val_left]
      refine ite2 (fun h => hR _ _ ⟨?_, rfl⟩) fun h => hR _ _ ⟨?_, rfl⟩
      · rw [edL, if_pos (by omega)]
      · rw [edL, if_neg (by omega)]
    rintro _ _ ⟨rfl, rfl⟩
    refine seq_cut (fun σ' H1 => σ' = [some (.ref d), some (.int (edT S)), some (.int (edB S)), some (.int (edL S)), some (.int (edR S))] ∧ H = H1) (fun R hR => ?_) ?_
    · walk_at "rd"
      simp [and_assoc, hd, val_column, val_right, val_wide]
      refine ite2 (fun h => hR _ _ ⟨?_, rfl⟩) fun h => hR _ _ ⟨?_, rfl⟩
      · rw [edR, if_pos (by omega)]
      · rw [edR, if_neg (by omega)]
    rintro _ _ ⟨rfl, rfl⟩
    walk_at "rd"
    exact ⟨by decide, q⟩
end

end K08
/-! Defs with defaults that may raise; making an object whose __init__ may raise; data beside an object that changes. -/
namespace L2
open PySem PySem.Spec PyProof.Rows
section
variable {P : Program} {w : World} {K : PySem.W.Frag} {mg : Str → Option Value} {base : Heap}
theorem FunD.okX {x qual : Str} {st : Stmt} {ds : List Value} {f : Addr} {fd : FuncData} {N ps : List Str} {k : Nat} {sp : Sp} (F : FunD K x qual st ds f fd) (S : FnScope N ps (defScope st))
    (len : ∀ vs H Q E, sp vs H Q E → vs.length = ps.length)
    (hbody : ∀ (cdv : Value) (A : Around) (outer : List Env) (s : Shared) (H : Hp) (vs : List V) (Q : VK) (E : XK), Room k (A.deeper (envOfC qual (defScope st) s.heap.objs.size f cdv)) → sp vs H Q E →
      ∃ t, PSs (cxOf (CX1 P w) P w K mg base N qual (defScope st) f cdv A outer s H E) (defBody st) t ∧ t { nx := fun _ H' => Q .non H', rt := Q } (L2.start N vs) H) : FnOk P w K mg base (CX1 P w) (k + 1) f fd ps sp := by
  obtain ⟨oc, od, kV, doc, pm, an, cdv, ct, osl, T, oT, n, rfl, lk, hcd, _, _⟩ := F.ex
  exact fn_of lk hcd S len fun A outer s H vs Q E hr hsp => hbody cdv A outer s H vs Q E hr hsp
end
/-- a class whose __init__ may raise -/
structure CalMX (P : Program) (w : World) (K : PySem.W.Frag) (mg : Str → Option Value) (base : Heap) (k : Nat) (x : Str) (C : Addr) (sp : Sp) : Prop where
  ex : ∃ (f : Addr) (fd : FuncData) (ps : List Str), Mk K C f ∧ FnOk P w K mg base (CX1 P w) k f fd ps sp ∧ mg x = some (.ref C) ∧ Binds K fd ps []
theorem pe_makX {X : Cx} {k : Nat} {sp : Sp} {C : Addr} {x : Str} {p pos : Pos} {e : Expr} {es : List Expr} {t : TA} {W : XK} (c : CalMX X.prog X.w X.K X.mg X.base k x C sp) (ps : Passes (CX1 X.prog X.w) X W) (hr : Room (k + 1) X.A) (hg : Gl X x) (ha : PA X (e :: es) t) (hdb : (x == ("__debug__" : Str)) = false := by decide)
    (he : starEach (e :: es) X.env = (false, eval e X.env) :: starEach es X.env := by rfl) (hpl : (backTo pos (starEach es X.env)).any (·.1) = false := by rfl) : PE X (.Call (.Name x p) (e :: es) [] pos) (tMake C sp [] W t) := by
  obtain ⟨f, fd, qs, M, F, hm, hb⟩ := c.ex
  exact pe_make M F hr hg hm hb .nil ps ha hdb he hpl
/-- data stays where only an object of a class changes -/
theorem Rd.but {H H' : Hp} {x a : Addr} {u : HO} {C dx : Addr} {fs : List (Str × V)} (hx : H x = some (.ins C dx fs)) (hk : ∀ b o, b ≠ x → H b = some o → H' b = some o) (hu : (∃ vs, u = .lst vs) ∨ ∃ vs, u = .tup vs) (r : Rd H a u) : Rd H' a u := by
  have ne : a ≠ x := fun z => by
    subst z
    rcases r with r | ⟨o, r⟩
    · rw [hx] at r
      cases r
      rcases hu with ⟨_, e⟩ | ⟨_, e⟩ <;> cases e
    · rw [hx] at r; cases r
  rcases r with r | ⟨o, r⟩
  · exact .inl (hk a _ ne r)
  · exact .inr ⟨o, hk a _ ne r⟩
mutual
theorem Rep.but {K : PySem.W.Frag} {H H' : Hp} {x : Addr} {C dx : Addr} {fs : List (Str × V)} (hx : H x = some (.ins C dx fs)) (hk : ∀ b o, b ≠ x → H b = some o → H' b = some o) : ∀ (d : PyData) (v : V), Rep K H d v → Rep K H' d v
  | .none, _, h => h
  | .bool _, _, h => h
  | .int _, _, h => h
  | .str _, _, h => h
  | .list ds, _, ⟨a, xs, e, h1, h2⟩ => ⟨a, xs, e, h1.elim (fun r => .inl (r.but hx hk (.inl ⟨_, rfl⟩))) .inr, Reps.but hx hk ds xs h2⟩
  | .tuple ds, _, ⟨a, xs, e, h1, h2⟩ => ⟨a, xs, e, h1.elim (fun r => .inl (r.but hx hk (.inr ⟨_, rfl⟩))) .inr, Reps.but hx hk ds xs h2⟩
  | .dict _, _, h => h.elim
theorem Reps.but {K : PySem.W.Frag} {H H' : Hp} {x : Addr} {C dx : Addr} {fs : List (Str × V)} (hx : H x = some (.ins C dx fs)) (hk : ∀ b o, b ≠ x → H b = some o → H' b = some o) : ∀ (ds : List PyData) (vs : List V), Reps K H ds vs → Reps K H' ds vs
  | [], _, h => h
  | d :: ds, _, ⟨x', r, e, h1, h2⟩ => ⟨x', r, e, Rep.but hx hk d x' h1, Reps.but hx hk ds r h2⟩
end
end L2
namespace L2
open PySem PySem.Spec PyProof.Rows
abbrev rInt1 : List V → Hp → VK → Prop := fun xs H Q => (∃ i, xs = [.int i] ∧ Q (.int i) H) ∨ ∃ k, xs = [.bl k] ∧ Q (.int (if k then 1 else 0)) H
theorem rep_eval {σ : St} {H : Hp} {Q : VK} {w : Str} {b : Bool} {ti : TE} (hi : ∀ H (Q : VK), Q (.bl b) H → ti σ H Q) (h : ∀ r H', Same H H' → H' r = some (.lst (if b = true then [V.str w] else [])) → Q (.ref r) H') :
    tOp rRep (tLst (tCons (tC (.str w)) tNil)) (tCB rInt1 (tCons ti tNil)) σ H Q := by
  refine ⟨by show (1 : Nat) ≤ sizeLine; decide, fun p hp => hi _ _ (.inr ⟨b, rfl, p, _, _, rfl, rfl, upd_same, ?_, ?_, ?_, fun r hr => h r _ ((same_new hp).trans (same_new hr)) ?_⟩)⟩
  · cases b <;> decide
  · cases b <;> decide
  · cases b <;> (show 1 * _ ≤ sizeLine; decide)
  · rw [upd_same]; cases b <;> rfl
theorem sum_eval {K : PySem.W.Frag} {σ : St} {H : Hp} {Q : VK} {A B : TE} {xs ys : List V} (hA : ∀ Q : VK, (∀ r H', Same H H' → H' r = some (.lst xs) → Q (.ref r) H') → A σ H Q)
    (hB : ∀ H1, Same H H1 → ∀ Q : VK, (∀ r H', Same H1 H' → H' r = some (.lst ys) → Q (.ref r) H') → B σ H1 Q) (hl : xs.length + ys.length ≤ 100) (h : ∀ r H', Same H H' → H' r = some (.lst (xs ++ ys)) → Q (.ref r) H') : tOp (rSum K) A B σ H Q := by
  refine hA _ fun r1 H1 s1 e1 => hB H1 s1 _ fun r2 H2 s2 e2 => ?_
  refine ⟨r1, r2, xs, ys, rfl, rfl, SqL.of (s2 _ _ e1), SqL.of e2, by rw [sizeLine_eq]; omega, fun p hp => h p _ ((s1.trans s2).trans (same_new hp)) upd_same⟩
end L2
namespace K08
open PySem L2
/-- the text's own errors, of which BadSize is raised -/
structure TxtX (K : PySem.W.Frag) (mg : Str → Option Value) (se bp bs bi ba un : Addr) : Prop where
  c_se : mg "ScreenError" = some (.ref se)
  c_bp : mg "BadPicture" = some (.ref bp)
  c_bs : mg "BadSize" = some (.ref bs)
  c_bi : mg "BadInk" = some (.ref bi)
  c_ba : mg "BadPaper" = some (.ref ba)
  c_u : mg "Unlike" = some (.ref un)
  n_ve : mg "ValueError" = none
  xm : XMake K bs
  xc : XClass K bs
  k_se : PySem.W.exmOne K (.ref bs) (.ref se) = some true
  k_bp : PySem.W.kitOne K (.ref bs) (.ref bp) = some false
  k_bs : PySem.W.kitOne K (.ref bs) (.ref bs) = some true
  k_bi : PySem.W.kitOne K (.ref bs) (.ref bi) = some false
  k_ba : PySem.W.kitOne K (.ref bs) (.ref ba) = some false
  k_u : PySem.W.kitOne K (.ref bs) (.ref un) = some false
  k_ve : PySem.W.kitOne K (.ref bs) (.type "ValueError") = some true
def blkC (ink : Int) : PyData := .tuple [.str (Str.ofString " "), .int ink]
def blkR (w ink : Int) : PyData := .list (List.replicate w.toNat (blkC ink))
def blkP (w h ink : Int) : PyData := .list (List.replicate h.toNat (blkR w ink))
def okSz (c d : Option Int) : Bool := inB 1 24 c && inB 1 12 d
theorem okSz_ex {c d : Option Int} (h : okSz c d = true) : ∃ w h : Int, c = some w ∧ d = some h ∧ 1 ≤ w ∧ w ≤ 24 ∧ 1 ≤ h ∧ h ≤ 12 := by
  unfold okSz at h
  rw [Bool.and_eq_true] at h
  cases c with
  | none => cases h.1
  | some w =>
    cases d with
    | none => cases h.2
    | some g =>
      have h1 := of_decide_eq_true h.1
      have h2 := of_decide_eq_true h.2
      exact ⟨w, g, rfl, rfl, h1.1, h1.2, h2.1, h2.2⟩
def spIsSize2 (K : PySem.W.Frag) : Sp := fun vs H Q _ => ∃ x y c d, vs = [x, y] ∧ Th K H x c ∧ Th K H y d ∧ Q (.bl (okSz c d)) H
def spRow8 (K : PySem.W.Frag) : Sp := fun vs H Q _ => ∃ w ink G av, vs = [.int w, .int ink] ∧ 1 ≤ w ∧ w ≤ 24 ∧ Same G H ∧ (∀ b ∈ av, G b = none ∧ ∃ o, H b = some o) ∧ ∀ l H', Same H H' → H l = none → Bld K G H' av l (List.replicate w.toNat (blkC ink)) → Q (.ref l) H'
def spPic8 (K : PySem.W.Frag) (bs : Addr) : Sp := fun vs H Q E => ∃ x y ink c d, vs = [x, y, .int ink] ∧ Th K H x c ∧ Th K H y d ∧ (okSz c d = true → ∀ w h l H', c = some w → d = some h → Same H H' → H l = none → Rep K H' (blkP w h ink) (.ref l) → Q (.ref l) H') ∧ (okSz c d = false → ∀ H', Same H H' → E (.ref bs) none H')
def spBegin8 (C : Addr) : Sp := fun vs H Q _ => ∃ x dx p w h, vs = [.ref x] ∧ H x = some (.ins C dx [("picture", .ref p), ("wide", .int w), ("high", .int h)]) ∧ 1 ≤ w ∧ w ≤ 24 ∧
  ∀ st kp H', H st = none → H' x = some (.ins C dx (fldS p st kp (sv0 w h))) → H' st = some (.dK (stK w)) → H' kp = some (.lst []) → (∀ b o, b ≠ x → H b = some o → H' b = some o) → Q .non H'
def spInit8 (K : PySem.W.Frag) (C bs : Addr) : Sp := fun vs H Q E => ∃ a dx x y c d, vs = [.ref a, x, y] ∧ H a = some (.ins C dx []) ∧ Th K H x c ∧ Th K H y d ∧
  (okSz c d = true → ∀ w h p st kp H', c = some w → d = some h → H st = none → H' a = some (.ins C dx (fldS p st kp (sv0 w h))) → H' st = some (.dK (stK w)) → H' kp = some (.lst []) → Rep K H' (blkP w h 0) (.ref p) → (∀ b o, b ≠ a → H b = some o → H' b = some o) → Q .non H') ∧
  (okSz c d = false → ∀ H', (∀ b o, b ≠ a → H b = some o → H' b = some o) → E (.ref bs) none H')
local macro_rules | `(tactic| walk_at "rd") => `(tactic| simp [tRet, tOp, rI, rI0, rU, tUn, tVar, tC, L2.start, tSeq, tIfS, tTest, tAsg, gName, tCall, tCons, tNil, tCB, tNext, tDrop, tAndV, tOrV, tNotV, tChain, tAnd, tOr, tNot, tB, rEq, rNe, scal, tTup, tLst, gTup, gCons, gNil, rIxL, rIxT, rIxS, tIf, and_assoc, cxK, tFor_rng1, tFor_lst, tFor_tup, tFor_enum, tBM, rAppend, tFld, sFld, tDGetK, sDPutK, kV_int, kV_str, tPar3, tLc_rng1, tLc_rng2, tLc_rng3, tLc_lst, tYes, pick, rIn, tDisp, tPairs, rUpdate, tCs, spTimes, tPar, tSl, rSlL, tPart, tNoPart, spNumber, spMixed])
section
variable {P : Program} {w : World} {K : PySem.W.Frag} {mg : Str → Option Value} {base : Heap} {f C : Addr} {fd : FuncData} {se bp bs bi ba un : Addr}
theorem ok_is_size8 (F : Fun K "is_size" "is_size" s_is_size f fd) (T : Txt K mg C) (c_is_whole : Cal P w K mg base 1 "is_whole" [] (spWhole K)) : FnOk P w K mg base CX0 2 f fd ["wide", "high"] (spIsSize2 K) := by
  refine F.ok sc_is_size (fun vs H Q E h => ?_) (fun cdv A outer s H vs Q E hr h => ?_)
  · obtain ⟨x, y, c, d, rfl, _⟩ := h
    rfl
  · obtain ⟨x, y, c, d, rfl, hx, hy, q⟩ := h
    refine ⟨_, (pss_one (ps_ret (pe_and (pe_cal c_is_whole (hr.mono (by decide)) rfl (QA.pa (qc (pv 0) (qc pe_int (qc (pe_gi rfl T.g_WIDEST) qn))))) (pe_one (pe_cal c_is_whole (hr.mono (by decide)) rfl (QA.pa (qc (pv 1) (qc pe_int (qc (pe_gi rfl T.g_HIGHEST) qn))))))))), ?_⟩
    unfold okSz at q
    walk_at "rd"
    refine ⟨x, 1, 24, c, rfl, hx, ?_⟩
    cases hc : inB 1 24 c with
    | true =>
      rw [hc] at q
      exact .inr ⟨rfl, y, 1, 12, d, rfl, hy, by simpa using q⟩
    | false =>
      rw [hc] at q
      exact .inl ⟨rfl, by simpa using q⟩
theorem ok_blank_row8 {d : Value} (F : FunD K "blank_row" "blank_row" s_blank_row [d] f fd) (T : Txt K mg C) : FnOk P w K mg base CX0 1 f fd ["wide", "ink"] (spRow8 K) := by
  refine F.ok sc_blank_row (fun vs H Q E h => ?_) (fun cdv A outer s H vs Q E hr h => ?_)
  · obtain ⟨x, y, G, av, rfl, _⟩ := h
    rfl
  · obtain ⟨x, y, G, av, rfl, x1, x2, hG, hav, q⟩ := h
    refine ⟨_, (pss_one (ps_ret (pe_lc (lcok (N := ["column", "ink"]) (n := 1) (js := [1])) rfl (pi_range1 rfl T.n_range (QA.pa (qc (pv 0) qn))) (fun _ _ _ _ => (pg_name (i := 0) (show List.Nodup (["column", "ink"] : List Str) by decide +kernel) rfl (Or.inl rfl))) (fun _ _ _ _ => pts_nil) (fun _ _ _ _ => (pe_tupq (qc pe_str (qc (pv 1) qn))))))), ?_⟩
    walk_at "rd"
    refine ⟨by omega, by omega, LcR.by (fun D i σ H' => ∃ v, σ = [v, some (.int y)] ∧ Same H H' ∧ Bld K G H' av D (List.replicate i (blkC y))) (fun D hD => ⟨_, rfl, same_new hD, Bld.new hG (fun b hb => (hav b hb).1) hD⟩) ?_ fun D σ H' hD ⟨v, _, hs, hb⟩ => q D H' hs hD hb⟩
    rintro D i _ H' hD hi ⟨v, rfl, hs, hb⟩
    obtain ⟨vs, hv, hvl⟩ := hb.lst
    rw [List.length_replicate] at hvl
    walk_at "rd"
    refine ⟨by decide, fun p hp => ⟨vs, by rw [upd_ne (ne_of_none hv hp)]; exact hv, small1000 (by omega), ?_⟩⟩
    refine ⟨fun b o hbo => ?_, ?_⟩
    · rw [upd_ne (ne_of_none hbo hD), upd_ne (ne_of_none (hs b o hbo) hp)]
      exact hs b o hbo
    · rw [List.replicate_succ']
      exact Bld.tup (es := [.str (Str.ofString " "), .int y]) hb hv (fun c hc => (hav c hc).2.elim fun o ho => ⟨o, hs _ _ ho⟩) hp (fun G => ⟨_, _, rfl, rfl, _, _, rfl, rfl, rfl⟩)
theorem okX_blank_picture {d : Value} (F : FunD K "blank_picture" "blank_picture" s_blank_picture [d] f fd) (T : Txt K mg C) (X : TxtX K mg se bp bs bi ba un) (c_is_size : Cal P w K mg base 2 "is_size" [] (spIsSize2 K)) (c_blank_row : Cal P w K mg base 1 "blank_row" [] (spRow8 K)) :
    FnOk P w K mg base (CX1 P w) 3 f fd ["wide", "high", "ink"] (spPic8 K bs) := by
  refine F.okX sc_blank_picture (fun vs H Q E h => ?_) (fun cdv A outer s H vs Q E hr h => ?_)
  · obtain ⟨x, y, z, c, d, rfl, _⟩ := h
    rfl
  · obtain ⟨x, y, z, c, d, rfl, hx, hy, q, qe⟩ := h
    refine ⟨_, (pss_cons (ps_if (pt_not (pt_val (pe_cal c_is_size (hr.mono (by decide)) rfl (QA.pa (qc (pv 0) (qc (pv 1) qn)))))) (pss_one (ps_raise lifts_def X.xm rfl rfl X.c_bs (QA.pa (qc pe_str qn)))) pss_nil)
      (pss_one (ps_ret (pe_lc (lcok (N := ["row", "wide", "ink"]) (n := 1) (js := [0, 2])) rfl (pi_range1 rfl T.n_range (QA.pa (qc (pv 1) qn))) (fun _ _ _ _ => (pg_name (i := 0) (show List.Nodup (["row", "wide", "ink"] : List Str) by decide +kernel) rfl (Or.inl rfl))) (fun _ _ _ _ => pts_nil) (fun _ _ _ _ => (pe_cal c_blank_row (hr.mono (by decide)) rfl (QA.pa (qc (pv 1) (qc (pv 2) qn))))))))), ?_⟩
    walk_at "rd"
    refine ⟨x, y, c, d, rfl, hx, hy, ?_⟩
    cases hk : okSz c d with
    | false => exact .inl ⟨rfl, by show (1 : Nat) ≤ sizeLine; decide, qe hk H fun _ _ h => h⟩
    | true =>
      obtain ⟨wd, hg, rfl, rfl, w1, w2, g1, g2⟩ := okSz_ex hk
      cases (show x = V.int wd from hx)
      cases (show y = V.int hg from hy)
      refine .inr ⟨rfl, hg, rfl, by omega, by omega, LcR.by (fun D i σ H' => ∃ v, σ = [v, some (.int wd), some (.int z)] ∧ Same H H' ∧ Bld K H H' [] D (List.replicate i (blkR wd z))) (fun D hD => ⟨_, rfl, same_new hD, Bld.new (fun _ _ h => h) (by simp) hD⟩) ?_ fun D σ H' hD ⟨v, _, hs, hb⟩ => q hk wd hg D H' rfl rfl hs hD hb.done⟩
      rintro D i _ H' hD hi ⟨v, rfl, hs, hb⟩
      obtain ⟨G, vs, h1, h2, h3, h4, h5⟩ := hb
      have hvl := h5.length
      rw [List.length_replicate] at hvl
      walk_at "rd"
      refine ⟨wd, z, G, [D], rfl, w1, w2, h2, fun b hb => ?_, fun l H2 hs2 hl hbl => ?_⟩
      · cases List.mem_singleton.mp hb
        exact ⟨h3 D List.mem_cons_self, _, h4⟩
      · refine ⟨vs, hs2 _ _ h4, small1000 (by omega), ?_, ?_⟩
        · intro b o hbo
          rw [upd_ne (ne_of_none hbo hD)]
          exact hs2 _ _ (hs b o hbo)
        · rw [List.replicate_succ']
          refine Bld.row h1 h3 h5 hbl (hs2 _ _ h4) fun c hc => ?_
          cases List.mem_singleton.mp hc
          exact fun e => by rw [← e, h4] at hl; cases hl
seal L2.PE L2.PS L2.PSs L2.PT L2.PA in
theorem ok_State_begin8 (F : Fun K "begin" "State.begin" s_State_begin f fd) (T : Txt K mg C) (c_first_stops : Cal P w K mg base 1 "first_stops" [] spStops) :
    FnOk P w K mg base CX0 2 f fd ["self"] (spBegin8 C) := by
  refine F.ok sc_State_begin (fun vs H Q E h => ?_) (fun cdv A outer s H vs Q E hr h => ?_)
  · obtain ⟨a, dx, p, x, y, rfl, _⟩ := h
    rfl
  · obtain ⟨a, dx, p, x, y, rfl, ha, x1, x2, q⟩ := h
    refine ⟨_, (pss_cons (ps_fld (pv 0) pe_int rfl)
      (pss_cons (ps_fld (pv 0) pe_int rfl)
      (pss_cons (ps_fld (pv 0) pe_bl rfl)
      (pss_cons (ps_fld (pv 0) pe_int rfl)
      (pss_cons (ps_fld (pv 0) pe_bl rfl)
      (pss_cons (ps_fld (pv 0) pe_bl rfl)
      (pss_cons (ps_fld (pv 0) pe_bl rfl)
      (pss_cons (ps_fld (pv 0) pe_int rfl)
      (pss_cons (ps_fld (pv 0) (pe_op op_sub (pe_fld (pv 0) rfl) pe_int) rfl)
      (pss_cons (ps_fld (pv 0) pe_int rfl)
      (pss_cons (ps_fld (pv 0) (pe_op op_sub (pe_fld (pv 0) rfl) pe_int) rfl)
      (pss_cons (ps_fld (pv 0) (pe_cal c_first_stops (hr.mono (by decide)) rfl (QA.pa (qc (pe_fld (pv 0) rfl) qn))) rfl)
      (pss_cons (ps_fld (pv 0) (pe_lstq qn) rfl)
      (pss_one (ps_fld (pv 0) pe_non rfl))))))))))))))), ?_⟩
    refine init_step (v := .int 0) rfl (fun Q q => q) ha T.st.cl T.st.n_row (by simp) ?_
    rw [ini_3]
    refine init_step (v := .int 0) rfl (fun Q q => q) upd_same T.st.cl T.st.n_column (by simp) ?_
    rw [upd_upd, ini_4]
    refine init_step (v := .bl false) rfl (fun Q q => q) upd_same T.st.cl T.st.n_late (by simp) ?_
    rw [upd_upd, ini_5]
    refine init_step (v := .int 0) rfl (fun Q q => q) upd_same T.st.cl T.st.n_ink (by simp) ?_
    rw [upd_upd, ini_6]
    refine init_step (v := .bl true) rfl (fun Q q => q) upd_same T.st.cl T.st.n_wrap (by simp) ?_
    rw [upd_upd, ini_7]
    refine init_step (v := .bl false) rfl (fun Q q => q) upd_same T.st.cl T.st.n_putting (by simp) ?_
    rw [upd_upd, ini_8]
    refine init_step (v := .bl false) rfl (fun Q q => q) upd_same T.st.cl T.st.n_home (by simp) ?_
    rw [upd_upd, ini_9]
    refine init_step (v := .int 0) rfl (fun Q q => q) upd_same T.st.cl T.st.n_top (by simp) ?_
    rw [upd_upd, ini_10]
    refine init_step (v := .int (y - 1)) rfl (fun Q q => ⟨_, rfl, a, C, dx, _, _, rfl, upd_same, T.st.cl, T.st.n_high, lk_high_11, _, _, rfl, rfl, q⟩) upd_same T.st.cl T.st.n_bottom (by simp) ?_
    rw [upd_upd, ini_11]
    refine init_step (v := .int 0) rfl (fun Q q => q) upd_same T.st.cl T.st.n_left (by simp) ?_
    rw [upd_upd, ini_12]
    refine init_step (v := .int (x - 1)) rfl (fun Q q => ⟨_, rfl, a, C, dx, _, _, rfl, upd_same, T.st.cl, T.st.n_wide, lk_wide_13, _, _, rfl, rfl, q⟩) upd_same T.st.cl T.st.n_right (by simp) ?_
    rw [upd_upd, ini_13]
    refine ⟨_, rfl, a, C, dx, _, _, rfl, upd_same, T.st.cl, T.st.n_wide, lk_wide_14, x, rfl, x1, x2, fun d H2 hs2 hd0 hd2 => ⟨_, rfl, a, C, dx, _, rfl, hs2 _ _ upd_same, T.st.cl, T.st.n_stops, by simp, ?_⟩⟩
    rw [ini_14]
    refine ⟨by decide, fun k hk => ⟨_, rfl, a, C, dx, _, rfl, by rw [upd_ne (fun z => by rw [← z, upd_same] at hk; cases hk)]; exact upd_same, T.st.cl, T.st.n_kept, by simp, ?_⟩⟩
    rw [ini_15]
    dsimp only
    refine init_end (v := .non) rfl (fun Q q => q) upd_same T.st.cl T.st.n_last (by simp) ?_
    rw [upd_upd, ini_16]
    have nda : d ≠ a := fun z => by rw [z, upd_same] at hd0; cases hd0
    have hd0' : H d = none := by rw [upd_ne nda] at hd0; exact hd0
    have nka : k ≠ a := fun z => by rw [z, upd_same] at hk; cases hk
    have hk2 : H2 k = none := by rw [upd_ne nka] at hk; exact hk
    refine q d k _ hd0' (by rw [upd_same]; rfl) ?_ ?_ fun b o hb hbo => ?_
    · rw [upd_ne nda, upd_ne (ne_of_none hd2 hk2), upd_ne nda]
      exact hd2
    · rw [upd_ne nka, upd_same]
    · have h2 : H2 b = some o := hs2 _ _ (by rw [upd_ne hb]; exact hbo)
      rw [upd_ne hb, upd_ne (ne_of_none h2 hk2), upd_ne hb]
      exact h2
theorem okX_State_init (F : Fun K "__init__" "State.__init__" s_State___init__ f fd) (T : Txt K mg C) (X : TxtX K mg se bp bs bi ba un) (c_blank_picture_d1 : CalX P w K mg base 3 "blank_picture" [.int 0] (spPic8 K bs)) (c_State_begin : CalT P w K mg base 2 "begin" C (spBegin8 C)) :
    FnOk P w K mg base (CX1 P w) 4 f fd ["self", "wide", "high"] (spInit8 K C bs) := by
  refine F.okX sc_State___init__ (fun vs H Q E h => ?_) (fun cdv A outer s H vs Q E hr h => ?_)
  · obtain ⟨a, dx, x, y, c, d, rfl, _⟩ := h
    rfl
  · obtain ⟨a, dx, x, y, c, d, rfl, ha, hx, hy, q, qe⟩ := h
    refine ⟨_, (pss_cons (ps_fld (pv 0) (pe_calX c_blank_picture_d1 lifts_def.passes (hr.mono (by decide)) rfl (QA.pa (qc (pv 1) (qc (pv 2) qn)))) rfl)
      (pss_cons (ps_fld (pv 0) (pv 1) rfl)
      (pss_cons (ps_fld (pv 0) (pv 2) rfl)
      (pss_one (ps_expr (pe_met0 c_State_begin (hr.mono (by decide)) (pv 0))))))), ?_⟩
    refine ⟨_, rfl, _, rfl, x, y, 0, c, d, rfl, hx, hy, fun hk wd hg p H1 e1 e2 hs1 hp1 hrep => ?_, fun hk H1 hs1 => qe hk H1 fun b o hb hbo => hs1 _ _ hbo⟩
    subst e1 e2
    obtain ⟨_, _, e1, e2, w1, w2, g1, g2⟩ := okSz_ex hk
    cases e1
    cases e2
    cases (show x = V.int wd from hx)
    cases (show y = V.int hg from hy)
    refine ⟨_, rfl, a, C, dx, [], rfl, hs1 _ _ ha, T.st.cl, T.st.n_picture, by simp, ?_⟩
    dsimp only [putF]
    refine init_step (v := .int wd) rfl (fun Q q => ⟨_, rfl, q⟩) upd_same T.st.cl T.st.n_wide (by simp) ?_
    rw [upd_upd, ini_1]
    refine init_step (v := .int hg) rfl (fun Q q => ⟨_, rfl, q⟩) upd_same T.st.cl T.st.n_high (by simp) ?_
    rw [upd_upd, ini_2]
    refine ⟨_, rfl, a, dx, _, rfl, upd_same, lk_begin_3, a, dx, p, wd, hg, rfl, upd_same, w1, w2, fun st kp H' hst hx hst' hkp hkk => ?_⟩
    have nsa : st ≠ a := fun z => by rw [z, upd_same] at hst; cases hst
    rw [upd_ne nsa] at hst
    have hk2 : ∀ b o, b ≠ a → H1 b = some o → H' b = some o := fun b o hb hbo => hkk b o hb (by rw [upd_ne hb]; exact hbo)
    exact q hk wd hg p st kp _ rfl rfl (hs1.free hst) hx hst' hkp (Rep.but (hs1 _ _ ha) hk2 _ _ hrep) fun b o hb hbo => hk2 b o hb (hs1 _ _ hbo)
end
end K08
/-! min and max of a list of whole numbers. -/
namespace L2
open PySem PySem.W PySem.Calls PyProof.Rows
section
variable {X : Cx}
end
end L2
/-! min and max of a list of whole numbers, with a default. -/
namespace PySem
open PySem PySem.W PySem.Calls PyProof.Rows
section
variable {prog : Program} {w : World} {A : Around} {R : Result → Shared → Prop} {I S : Addr} {fp wr : List Addr} {n : Nat} {P : Nat → Value → Prop} {St : Nat → Heap → Prop}
end
end PySem
namespace L2
open PySem PySem.W PySem.Calls PyProof.Rows
section
variable {X : Cx} {x : Str} {p pos : Pos} {e : Expr} {es : List Expr} {kws : List Keyword} {ks : List Str} {t tk : TA} {id : String} {r : List V → List V → Hp → VK → Prop}
end
end L2
/-! Values as data, and objects that are owned: a reading over these. -/
namespace L2
open PySem PySem.Spec PyProof.Rows
/-- a value: data (whatever lies behind it never changes), an owned object, a row of an owned grid -/
inductive W where
  | d (x : PyData)
  | own (a : Addr)
  | row (a : Addr) (i : Nat)
/-- an owned object -/
inductive OO where
  | lst (ws : List W)
  | dK (kvs : List (Key × W))
  | ins (C dx : Addr) (fs : List (Str × W))
  | grid (rows : List (List PyData))
abbrev OM := Addr → Option OO
def updO (O : OM) (a : Addr) (o : OO) : OM := fun b => if b = a then some o else O b
def del (O : OM) (a : Addr) : OM := fun b => if b = a then none else O b
theorem updO_same {O : OM} {a : Addr} {o : OO} : updO O a o a = some o := by simp [updO]
theorem updO_ne {O : OM} {a b : Addr} {o : OO} (h : b ≠ a) : updO O a o b = O b := by simp [updO, h]
theorem del_same {O : OM} {a : Addr} : del O a a = none := by simp [del]
theorem del_ne {O : OM} {a b : Addr} (h : b ≠ a) : del O a b = O b := by simp [del, h]
/-- what is known beside: the heap of the data; where a grid's rows lie -/
structure Gh where
  Z : Hp
  G : Addr → Option (List Addr)
  F : Hp
structure Le (Γ Γ' : Gh) : Prop where
  f : Γ'.F = Γ.F
  z : Same Γ.Z Γ'.Z
  g : ∀ a rs, Γ.G a = some rs → ∃ more, Γ'.G a = some (rs ++ more)
theorem Le.refl (Γ : Gh) : Le Γ Γ := ⟨rfl, Same.refl _, fun _ rs h => ⟨[], by rw [List.append_nil]; exact h⟩⟩
theorem Le.trans {Γ Γ1 Γ2 : Gh} (a : Le Γ Γ1) (b : Le Γ1 Γ2) : Le Γ Γ2 := ⟨b.f.trans a.f, a.z.trans b.z, fun x rs h => by
  obtain ⟨m, h1⟩ := a.g x rs h
  obtain ⟨m2, h2⟩ := b.g x _ h1
  exact ⟨m ++ m2, by rw [← List.append_assoc]; exact h2⟩⟩
section
variable (K : PySem.W.Frag)
def relW (Γ : Gh) : W → V → Prop
  | .d x, v => Rep K Γ.Z x v
  | .own a, v => v = .ref a
  | .row a i, v => ∃ rs r, Γ.G a = some rs ∧ rs[i]? = some r ∧ v = .ref r
abbrev relWs (Γ : Gh) : List W → List V → Prop := Paired (relW K Γ)
def relOW (Γ : Gh) : Option W → Option V → Prop
  | some w, some v => relW K Γ w v
  | none, _ => True
  | _, _ => False
abbrev relR (Γ : Gh) : List (Option W) → St → Prop := Paired (relOW K Γ)
def relKV {κ : Type} (Γ : Gh) : List (κ × W) → List (κ × V) → Prop := Paired fun p q => p.1 = q.1 ∧ relW K Γ p.2 q.2
def ObjW (Γ : Gh) (O : OM) (H : Hp) (a : Addr) : OO → Prop
  | .lst ws => ∃ vs, H a = some (.lst vs) ∧ relWs K Γ ws vs
  | .dK kvs => ∃ vs, H a = some (.dK vs) ∧ relKV K Γ kvs vs
  | .ins C dx fs => ∃ vs, H a = some (.ins C dx vs) ∧ relKV K Γ fs vs
  | .grid rows => ∃ rs, Γ.G a = some rs ∧ H a = some (.lst (rs.map V.ref)) ∧ rs.length = rows.length ∧ rs.Nodup ∧
      ∀ (i : Nat) (r : Addr) (ds : List PyData), rs[i]? = some r → rows[i]? = some ds → Γ.Z r = none ∧ O r = none ∧ ∃ vs, H r = some (.lst vs) ∧ Reps K Γ.Z ds vs
structure Sim (Γ : Gh) (O : OM) (H : Hp) : Prop where
  z : Same Γ.Z H
  o : ∀ a oo, O a = some oo → Γ.Z a = none ∧ ObjW K Γ O H a oo
  gd : ∀ a rs, Γ.G a = some rs → ∃ o, H a = some o
  f : Same Γ.F H
  gn : ∀ a oo, O a = some oo → (∀ rows, oo ≠ .grid rows) → Γ.G a = none
  fg : ∀ a o, Γ.F a = some o → Γ.G a = none
  fd : ∀ a o, Γ.F a = some o → Γ.Z a = none ∧ O a = none ∧ ∀ b rows rs, O b = some (.grid rows) → Γ.G b = some rs → a ∉ rs
  u : ∀ a b ra rb rs ss r, O a = some (.grid ra) → O b = some (.grid rb) → Γ.G a = some rs → Γ.G b = some ss → r ∈ rs → r ∈ ss → a = b
end
section
variable {K : PySem.W.Frag} {Γ Γ' : Gh} {O : OM} {H H' : Hp}
theorem relW.mono (h : Le Γ Γ') : ∀ {w : W} {v : V}, relW K Γ w v → relW K Γ' w v
  | .d x, v, r => Rep.same h.z x v r
  | .own a, v, r => r
  | .row a i, v, ⟨rs, r, e, f, g⟩ => by
    obtain ⟨m, e'⟩ := h.g _ _ e
    have hi : i < rs.length := (List.getElem?_eq_some_iff.mp f).1
    exact ⟨rs ++ m, r, e', by rw [List.getElem?_append_left hi]; exact f, g⟩
theorem relWs.mono (h : Le Γ Γ') {ws : List W} {vs : List V} (r : relWs K Γ ws vs) : relWs K Γ' ws vs := Paired.mapP r fun _ _ z => z.mono h
theorem relOW.mono (h : Le Γ Γ') : ∀ {w : Option W} {v : Option V}, relOW K Γ w v → relOW K Γ' w v
  | some w, some v, r => relW.mono h r
  | none, _, _ => trivial
  | some _, none, r => r.elim
theorem relR.mono (h : Le Γ Γ') {ρ : List (Option W)} {σ : St} (r : relR K Γ ρ σ) : relR K Γ' ρ σ := Paired.mapP r fun _ _ z => z.mono h
theorem relKV.mono {κ : Type} (h : Le Γ Γ') {a : List (κ × W)} {b : List (κ × V)} (r : relKV K Γ a b) : relKV K Γ' a b := Paired.mapP r fun _ _ z => ⟨z.1, z.2.mono h⟩
theorem relR.get {ρ : List (Option W)} {σ : St} : ∀ {i : Nat} {w : W}, relR K Γ ρ σ → ρ[i]? = some (some w) → ∃ v, σ[i]? = some (some v) ∧ relW K Γ w v := by
  intro i w r
  induction r generalizing i with
  | nil => intro e; simp at e
  | cons h t ih =>
    rename_i x y xs ys
    intro e
    cases i with
    | zero =>
      simp at e
      subst e
      cases y with
      | none => exact h.elim
      | some v => exact ⟨v, rfl, h⟩
    | succ i => simpa using ih (i := i) (by simpa using e)
theorem Paired.setP {α β : Type} {F : α → β → Prop} {xs : List α} {ys : List β} {x : α} {y : β} (r : Paired F xs ys) (h : F x y) : ∀ {i : Nat}, Paired F (xs.set i x) (ys.set i y) := by
  induction r with
  | nil => intro i; exact .nil
  | cons g t ih =>
    intro i
    cases i with
    | zero => exact .cons h t
    | succ i => exact .cons g ih
theorem relWs_of_reps : ∀ {ds : List PyData} {vs : List V}, Reps K Γ.Z ds vs → relWs K Γ (ds.map .d) vs
  | [], _, h => by rw [show _ = [] from h]; exact .nil
  | d :: ds, _, h => by
    obtain ⟨x, r, rfl, h1, h2⟩ := h
    exact .cons h1 (relWs_of_reps h2)
theorem reps_of_relWs : ∀ {ds : List PyData} {vs : List V}, relWs K Γ (ds.map .d) vs → Reps K Γ.Z ds vs
  | [], _, h => by cases h; rfl
  | d :: ds, _, h => by
    cases h with
    | cons a b => exact ⟨_, _, rfl, a, reps_of_relWs b⟩
/-! ### what may be read as a list, as a tuple, as data -/
/-! ### new objects -/
theorem Sim.free (S : Sim K Γ O H) {p : Addr} (hp : H p = none) : Γ.Z p = none ∧ O p = none ∧ Γ.G p = none := by
  refine ⟨S.z.free hp, ?_, ?_⟩
  · cases e : O p with
    | none => rfl
    | some oo =>
      obtain ⟨_, h⟩ := S.o _ _ e
      cases oo with
      | lst ws => obtain ⟨vs, h1, _⟩ := h; rw [hp] at h1; cases h1
      | dK ws => obtain ⟨vs, h1, _⟩ := h; rw [hp] at h1; cases h1
      | ins C dx ws => obtain ⟨vs, h1, _⟩ := h; rw [hp] at h1; cases h1
      | grid rows => obtain ⟨rs, _, h1, _⟩ := h; rw [hp] at h1; cases h1
  · cases e : Γ.G p with
    | none => rfl
    | some rs =>
      obtain ⟨o, h⟩ := S.gd _ _ e
      rw [hp] at h
      cases h
theorem ObjW.keep {a : Addr} {oo : OO} (h : ObjW K Γ O H a oo) (hl : Le Γ Γ') {O' : OM} (ha : H' a = H a) (hG : Γ'.G a = Γ.G a) (hr : ∀ rs r, Γ.G a = some rs → (∃ rows, oo = .grid rows) → r ∈ rs → H' r = H r ∧ Γ'.Z r = Γ.Z r ∧ O' r = O r) : ObjW K Γ' O' H' a oo := by
  cases oo with
  | lst ws => obtain ⟨vs, h1, h2⟩ := h; exact ⟨vs, by rw [ha]; exact h1, h2.mono hl⟩
  | dK ws => obtain ⟨vs, h1, h2⟩ := h; exact ⟨vs, by rw [ha]; exact h1, h2.mono hl⟩
  | ins C dx ws => obtain ⟨vs, h1, h2⟩ := h; exact ⟨vs, by rw [ha]; exact h1, h2.mono hl⟩
  | grid rows =>
    obtain ⟨rs, hg, h1, h2, hn, h3⟩ := h
    refine ⟨rs, by rw [hG]; exact hg, by rw [ha]; exact h1, h2, hn, fun i r ds e1 e2 => ?_⟩
    obtain ⟨q1, q2, q3⟩ := hr rs r hg ⟨rows, rfl⟩ (List.mem_of_getElem? e1)
    obtain ⟨z1, z2, vs, z3, z4⟩ := h3 i r ds e1 e2
    exact ⟨by rw [q2]; exact z1, by rw [q3]; exact z2, vs, by rw [q1]; exact z3, Reps.same hl.z _ _ z4⟩
/-- a row of a live grid is in the heap -/
theorem Sim.rowIn (S : Sim K Γ O H) {a : Addr} {rows : List (List PyData)} {rs : List Addr} {r : Addr} (ho : O a = some (.grid rows)) (hg : Γ.G a = some rs) (hr : r ∈ rs) : Γ.Z r = none ∧ O r = none ∧ ∃ vs, H r = some (.lst vs) := by
  obtain ⟨_, rs', hg', h1, hl, _, hrow⟩ := S.o _ _ ho
  rw [hg] at hg'
  cases hg'
  obtain ⟨i, hi, rfl⟩ := List.mem_iff_getElem.mp hr
  obtain ⟨z1, z2, vs, z3, _⟩ := hrow i rs[i] (rows[i]'(by omega)) (List.getElem?_eq_getElem hi) (List.getElem?_eq_getElem (by omega))
  exact ⟨z1, z2, vs, z3⟩
/-- an owned object is changed, no grid before or behind -/
theorem Sim.put (S : Sim K Γ O H) {a : Addr} {oo o1 : OO} {o : HO} (h0 : O a = some o1) (hn : ∀ rows, o1 ≠ .grid rows) (hg : ∀ rows, oo ≠ .grid rows) (ho : ObjW K Γ O (upd H a o) a oo) : Sim K Γ (updO O a oo) (upd H a o) := by
  obtain ⟨hz, h1⟩ := S.o _ _ h0
  have k1 : ∀ {x : Addr} {rx : List (List PyData)}, updO O a oo x = some (.grid rx) → O x = some (.grid rx) := fun {x rx} h => by
    by_cases hx : x = a
    · subst hx; rw [updO_same] at h; cases h; exact absurd rfl (hg rx)
    · rw [updO_ne hx] at h; exact h
  have nF : ∀ b o', Γ.F b = some o' → b ≠ a := fun b o' e z => by
    have := (S.fd b o' e).2.1
    rw [z, h0] at this; cases this
  refine ⟨fun b u e => ?_, fun x o' e => ?_, fun x rs e => ?_, fun b u e => ?_, fun x o' e hn' => ?_, S.fg, fun x o' e => ?_, fun x b ra rb rs ss r e1 e2 => S.u x b ra rb rs ss r (k1 e1) (k1 e2)⟩
  · rw [upd_ne (fun z => by rw [z, hz] at e; cases e)]; exact S.z _ _ e
  · by_cases hap : x = a
    · subst hap
      rw [updO_same] at e
      cases e
      exact ⟨hz, ho.keep (Le.refl _) rfl rfl fun rs r h1 ⟨rows, h2⟩ => absurd h2 (hg rows)⟩
    · rw [updO_ne hap] at e
      obtain ⟨h1, h2⟩ := S.o _ _ e
      refine ⟨h1, h2.keep (Le.refl _) (upd_ne hap) rfl fun rs r hg' ⟨rows, hrw⟩ hr => ?_⟩
      subst hrw
      obtain ⟨_, q2, vs, q⟩ := S.rowIn e hg' hr
      have hrp : r ≠ a := fun z => by rw [z, h0] at q2; cases q2
      exact ⟨upd_ne hrp, rfl, updO_ne hrp⟩
  · obtain ⟨o', h⟩ := S.gd _ _ e
    by_cases hx : x = a
    · exact ⟨o, by rw [hx, upd_same]⟩
    · exact ⟨o', by rw [upd_ne hx]; exact h⟩
  · rw [upd_ne (nF _ _ e)]; exact S.f _ _ e
  · by_cases hap : x = a
    · rw [hap]; exact S.gn a o1 h0 hn
    · rw [updO_ne hap] at e; exact S.gn x o' e hn'
  · obtain ⟨q1, q2, q3⟩ := S.fd x o' e
    exact ⟨q1, by rw [updO_ne (nF _ _ e)]; exact q2, fun b rows rs e1 => q3 b rows rs (k1 e1)⟩
/-- an owned object is forgotten -/
theorem Sim.drop (S : Sim K Γ O H) (a : Addr) : Sim K Γ (del O a) H := by
  have k1 : ∀ {x : Addr} {o : OO}, del O a x = some o → x ≠ a ∧ O x = some o := fun {x o} h => by
    by_cases hx : x = a
    · subst hx; rw [del_same] at h; cases h
    · rw [del_ne hx] at h; exact ⟨hx, h⟩
  refine ⟨S.z, fun x o e => ?_, S.gd, S.f, fun x o e hn => S.gn x o (k1 e).2 hn, S.fg, fun x o e => ⟨(S.fd x o e).1, by unfold del; split; rfl; exact (S.fd x o e).2.1, fun b rows rs e1 => (S.fd x o e).2.2 b rows rs (k1 e1).2⟩, fun x b ra rb rs ss r e1 e2 => S.u x b ra rb rs ss r (k1 e1).2 (k1 e2).2⟩
  obtain ⟨hx, e⟩ := k1 e
  obtain ⟨h1, h2⟩ := S.o _ _ e
  refine ⟨h1, h2.keep (Le.refl _) rfl rfl fun rs r hg ⟨rows, hrw⟩ hr => ?_⟩
  subst hrw
  obtain ⟨_, q2, _⟩ := S.rowIn e hg hr
  refine ⟨rfl, rfl, ?_⟩
  rw [q2]
  unfold del
  split
  · rfl
  · exact q2
/-- a cell of a grid is changed -/
theorem Sim.cell (S : Sim K Γ O H) {a r : Addr} {rows : List (List PyData)} {rs : List Addr} {i j : Nat} {ds : List PyData} {vs : List V} {x : PyData} {v : V} (h0 : O a = some (.grid rows)) (hg : Γ.G a = some rs) (hr : rs[i]? = some r) (hd : rows[i]? = some ds)
    (hv : H r = some (.lst vs)) (rx : Rep K Γ.Z x v) : Sim K Γ (updO O a (.grid (rows.set i (ds.set j x)))) (upd H r (.lst (vs.set j v))) := by
  obtain ⟨hz, rs', hg', h1, hl, hn, hrow⟩ := S.o _ _ h0
  rw [hg] at hg'
  cases hg'
  obtain ⟨z1, z2, vs', z3, z4⟩ := hrow i r ds hr hd
  rw [hv] at z3
  cases z3
  have har : a ≠ r := fun e => by rw [← e, h0] at z2; cases z2
  have nF : ∀ b o', Γ.F b = some o' → b ≠ r := fun b o' e z => (S.fd b o' e).2.2 a rows rs h0 hg (by rw [z]; exact List.mem_of_getElem? hr)
  have nFa : ∀ b o', Γ.F b = some o' → b ≠ a := fun b o' e z => by
    have := (S.fd b o' e).2.1
    rw [z, h0] at this; cases this
  have kg : ∀ {b : Addr} {rb : List (List PyData)}, updO O a (.grid (rows.set i (ds.set j x))) b = some (.grid rb) → ∃ ry, O b = some (.grid ry) := fun {b rb} e1 => by
    by_cases hx : b = a
    · exact ⟨rows, by rw [hx]; exact h0⟩
    · rw [updO_ne hx] at e1; exact ⟨rb, e1⟩
  refine ⟨fun b u e => ?_, fun b oo e => ?_, fun b ss e => ?_, fun b u e => by rw [upd_ne (nF _ _ e)]; exact S.f _ _ e, fun b o' e hn' => ?_, S.fg, fun b o' e => ⟨(S.fd b o' e).1, by rw [updO_ne (nFa _ _ e)]; exact (S.fd b o' e).2.1, fun c rc ss e1 g1 => by obtain ⟨ry, e2⟩ := kg e1; exact (S.fd b o' e).2.2 c ry ss e2 g1⟩, fun b c rb rc ss tt q e1 e2 h3 h4 h5 h6 => ?_⟩
  · rw [upd_ne (fun z => by rw [z, z1] at e; cases e)]; exact S.z _ _ e
  · by_cases hb : b = a
    · subst hb
      rw [updO_same] at e
      cases e
      refine ⟨hz, rs, hg, by rw [upd_ne har]; exact h1, by rw [List.length_set]; exact hl, hn, fun k q es e1 e2 => ?_⟩
      have hq : O q = none := (S.rowIn h0 hg (List.mem_of_getElem? e1)).2.1
      have hqb : q ≠ b := fun e => by rw [e, h0] at hq; cases hq
      by_cases hk : k = i
      · subst hk
        rw [hr] at e1
        cases e1
        rw [List.getElem?_set_self (List.getElem?_eq_some_iff.mp hd).1] at e2
        cases e2
        refine ⟨z1, by rw [updO_ne hqb]; exact z2, _, upd_same, ?_⟩
        have hw := relWs_of_reps (Γ := Γ) z4
        have hw2 := Paired.setP hw (show relW K Γ (.d x) v from rx) (i := j)
        rw [← List.map_set] at hw2
        exact reps_of_relWs hw2
      · have hne : q ≠ r := fun e => by
          rw [e] at e1
          obtain ⟨l1, g1⟩ := List.getElem?_eq_some_iff.mp e1
          obtain ⟨l2, g2⟩ := List.getElem?_eq_some_iff.mp hr
          exact hk ((List.getElem_inj hn).mp (g1.trans g2.symm))
        rw [List.getElem?_set_ne (Ne.symm hk)] at e2
        obtain ⟨y1, y2, ws, y3, y4⟩ := hrow k q es e1 e2
        exact ⟨y1, by rw [updO_ne hqb]; exact y2, ws, by rw [upd_ne hne]; exact y3, y4⟩
    · rw [updO_ne hb] at e
      obtain ⟨q1, q2⟩ := S.o _ _ e
      have hbr : b ≠ r := fun z => by rw [z, z2] at e; cases e
      refine ⟨q1, q2.keep (Le.refl _) (upd_ne hbr) rfl fun ss q hgs ⟨rows', hrw⟩ hq => ?_⟩
      subst hrw
      obtain ⟨w1, w2, ws, w3⟩ := S.rowIn e hgs hq
      have hqr : q ≠ r := fun z => hb (S.u b a rows' rows ss rs q e h0 hgs hg hq (by rw [z]; exact List.mem_of_getElem? hr))
      exact ⟨upd_ne hqr, rfl, updO_ne (fun z => by rw [z, h0] at w2; cases w2)⟩
  · obtain ⟨o, h⟩ := S.gd _ _ e
    by_cases hb : b = r
    · exact ⟨_, by rw [hb, upd_same]⟩
    · exact ⟨o, by rw [upd_ne hb]; exact h⟩
  · by_cases hb : b = a
    · subst hb; rw [updO_same] at e; cases e; exact absurd rfl (hn' _)
    · rw [updO_ne hb] at e; exact S.gn b o' e hn'
  · obtain ⟨r1, f1⟩ := kg e1
    obtain ⟨r2, f2⟩ := kg e2
    exact S.u b c r1 r2 ss tt q f1 f2 h3 h4 h5 h6
/-! ### what stands beside and stays -/
end
end L2
namespace L2
open PySem PySem.Spec PyProof.Rows
abbrev WS := List (Option W)
abbrev WK := W → OM → Prop
structure EndsW where
  nx : WS → OM → Prop
  rt : WK
  bk : WS → OM → Prop := fun _ _ => False
  ct : WS → OM → Prop := fun _ _ => False
section
variable (K : PySem.W.Frag)
structure EndsR (Γ : Gh) (D : Ends) (DW : EndsW) : Prop where
  nx : ∀ Γ' O' H' ρ' σ', Le Γ Γ' → Sim K Γ' O' H' → relR K Γ' ρ' σ' → DW.nx ρ' O' → D.nx σ' H'
  rt : ∀ Γ' O' H' w v, Le Γ Γ' → Sim K Γ' O' H' → relW K Γ' w v → DW.rt w O' → D.rt v H'
  bk : ∀ Γ' O' H' ρ' σ', Le Γ Γ' → Sim K Γ' O' H' → relR K Γ' ρ' σ' → DW.bk ρ' O' → D.bk σ' H'
  ct : ∀ Γ' O' H' ρ' σ', Le Γ Γ' → Sim K Γ' O' H' → relR K Γ' ρ' σ' → DW.ct ρ' O' → D.ct σ' H'
end
section
variable {K : PySem.W.Frag}
theorem EndsR.mono {Γ Γ' : Gh} {D : Ends} {DW : EndsW} (h : EndsR K Γ D DW) (l : Le Γ Γ') : EndsR K Γ' D DW :=
  ⟨fun _ _ _ _ _ l2 => h.nx _ _ _ _ _ (l.trans l2), fun _ _ _ _ _ l2 => h.rt _ _ _ _ _ (l.trans l2), fun _ _ _ _ _ l2 => h.bk _ _ _ _ _ (l.trans l2), fun _ _ _ _ _ l2 => h.ct _ _ _ _ _ (l.trans l2)⟩
/-! ### scalars -/
/-! ### expressions -/
/-! ### items -/
/-! ### tests, and, or, not, if -/
/-! ### argument lists, tuples, lists -/
end
end L2
namespace L2
open PySem PySem.Spec PyProof.Rows
section
variable {K : PySem.W.Frag}
variable {P : Program} {w : World} {mg : Str → Option Value} {base : Heap}
end
section
variable {K : PySem.W.Frag}
/-! ### calls -/
/-! ### built-in functions -/
/-! ### statements -/
end
end L2
namespace L2
open PySem PySem.Spec PyProof.Rows
section
variable {K : PySem.W.Frag}
/-! ### what is walked -/
theorem relW.up {Γ Γ' : Gh} (hz : Same Γ.Z Γ'.Z) (hg : ∀ a rs, Γ.G a = some rs → ∃ more, Γ'.G a = some (rs ++ more)) {w : W} {v : V} (h : relW K Γ w v) : relW K Γ' w v := by
  have h1 : relW K ⟨Γ'.Z, Γ'.G, Γ.F⟩ w v := relW.mono (Γ := Γ) (Γ' := ⟨Γ'.Z, Γ'.G, Γ.F⟩) ⟨rfl, hz, hg⟩ h
  cases w <;> exact h1
/-! ### for -/
/-! ### comprehensions -/
end
end L2
namespace L2
open PySem PySem.Spec PyProof.Rows
section
variable {K : PySem.W.Frag}
/-! ### fields -/
/-! ### dicts -/
section
variable {κ α : Type} [DecidableEq κ]
end
/-! ### methods -/
end
end L2
namespace L2
open PySem PySem.Spec PyProof.Rows
section
variable {K : PySem.W.Frag}
/-! ### lists that are owned -/
/-! ### a, b = x, y -/
/-! ### isinstance of a scalar -/
/-! ### parts -/
/-! ### list + list -/
/-! ### in -/
/-! ### + of texts -/
end
end L2
namespace L2
open PySem PySem.Spec PyProof.Rows
section
variable {K : PySem.W.Frag}
/-! ### a comprehension whose list is owned -/
section
variable {X : Cx} {N : List Str} {n : Nat} {js : List Nat} {scope : Scope} {cl : List (Str × Addr)} {elt tg iter : Expr} {ifs : List Expr} {pos : Pos} {wi : TI} {g : TG} {tt : TT} {te : TE}
end
end
end L2
/-! Rules whose readings name the module's facts K by a letter. -/
namespace L2
open PySem PySem.Spec PyProof.Rows
section
variable {X : Cx} {K : PySem.W.Frag}
section
variable {T : String} {name : Str} {id : String} {r : V → List V → Hp → VK → Prop} {o e : Expr} {es : List Expr} {to : TE} {t : TA} {apos cpos : Pos}
end
end
section
variable {K : PySem.W.Frag}
end
end L2
/-! Texts: join, index, * n. -/
namespace L2
open PySem PySem.Spec PyProof.Rows
section
variable {X : Cx}
theorem strs_of_vals : ∀ {zs : List Str} {us : List Value}, Vals (zs.map V.str) us → StrsAre us zs
  | [], _, .nil => .nil
  | z :: zs, _, .cons r t => by
    obtain ⟨k, rfl⟩ := r
    exact .cons z k (strs_of_vals t)
def rJoin (K : PySem.W.Frag) : V → List V → Hp → VK → Prop := fun x xs H Q => ∃ sep a zs, x = .str sep ∧ xs = [.ref a] ∧ SqL K H a (zs.map .str) ∧ sep.length ≤ 16 ∧ (zs.map (·.length)).sum + zs.length ≤ 1048576 ∧ Q (.str (Txt.join sep zs)) H
theorem mt_join : MtR X "str.join" (rJoin X.K) := by
  intro pins s σ H x xs v us Q I rx r h
  obtain ⟨sep, a, zs, rfl, rfl, hq, hs, hw, q⟩ := h
  obtain ⟨u, rfl, ru⟩ := r.one
  cases ru
  obtain ⟨t, rfl⟩ := rx
  obtain ⟨its, rv, p, hz⟩ := I.list hq
  exact join_listW p.isList (strs_of_vals rv) hs hw fun t' k => ⟨.str _, H, I.tok _, ⟨_, rfl⟩, q⟩
/-! any, all of a list of bools -/
/-! int(text), text.index(sign) -/
/-! a text's signs, one by one -/
/-! text.split(sep) -/
end
end L2
namespace K08
open PySem L2
def spRefused (K : PySem.W.Frag) : Sp := fun vs H Q _ => ∃ x y c d, vs = [x, y] ∧ Th K H x c ∧ Th K H y d ∧ (okSz c d = true → ∀ H', Same H H' → Q (.str (Str.ofString "let by")) H') ∧ (okSz c d = false → ∀ H', Same H H' → Q (.str (Str.ofString "size")) H')
local macro_rules | `(tactic| walk_at "rd") => `(tactic| simp [tTry, tRaise, rSum, rJoin, rRep, tBM, tRet, tOp, rI, rI0, rU, tUn, tVar, tC, L2.start, tSeq, tIfS, tTest, tAsg, gName, tCall, tCons, tNil, tCB, tNext, tDrop, tAndV, tOrV, tNotV, tChain, tAnd, tOr, tNot, tB, rEq, rNe, scal, tTup, tLst, gTup, gCons, gNil, rIxL, rIxT, rIxS, tIf, and_assoc, cxK, tFor_rng1, tFor_lst, tFor_tup, tFor_enum, tBM, rAppend, tFld, sFld, tDGetK, sDPutK, kV_int, kV_str, tPar3, tLc_rng1, tLc_rng2, tLc_rng3, tLc_lst, tYes, pick, rIn, tDisp, tPairs, rUpdate, tCs, spTimes, tPar, tSl, rSlL, tPart, tNoPart, spNumber, spMixed])
theorem Th_same {K : PySem.W.Frag} {H H' : Hp} {x : V} {c : Option Int} (s : Same H H') (h : Th K H x c) : Th K H' x c := by
  cases c with
  | some i => exact h
  | none =>
    rcases h with h | ⟨n, t, hn⟩
    · exact .inl h
    · refine .inr ⟨n, ?_, hn⟩
      cases t with
      | non => exact .non
      | bl x => exact .bl x
      | int i => exact .int i
      | str x => exact .str x
      | flt x => exact .flt x
      | lst e => exact .lst (s _ _ e)
      | frz e => exact .frz (s _ _ e)
      | tup e => exact .tup (s _ _ e)
      | dK e => exact .dK (s _ _ e)
      | dT e => exact .dT (s _ _ e)
section
variable {P : Program} {w : World} {K : PySem.W.Frag} {mg : Str → Option Value} {base : Heap} {f C : Addr} {fd : FuncData} {se bp bs bi ba un : Addr}
theorem ok_law_refused (F : Fun K "_law_refused" "_law_refused" s__law_refused f fd) (T : Txt K mg C) (X : TxtX K mg se bp bs bi ba un) (c_State : CalMX P w K mg base 4 "State" C (spInit8 K C bs)) : FnOk P w K mg base CX0 6 f fd ["_law_wide", "_law_high"] (spRefused K) := by
  have nd := sc__law_refused.nd
  refine F.ok sc__law_refused (fun vs H Q E h => ?_) (fun cdv A outer s H vs Q E hr h => ?_)
  · obtain ⟨x, y, c, d, rfl, _⟩ := h
    rfl
  · obtain ⟨x, y, c, d, rfl, hx, hy, q, qe⟩ := h
    refine ⟨_, pss_cons (ps_try (W := fun cc _ H1 => cc = .ref bs ∧ Same H H1 ∧ okSz c d = false) (G := fun rt => okSz c d = false → ∀ H1, Same H H1 → rt (.str (Str.ofString "size")) H1) (N := 4) (i := 2) rfl nd rfl rfl rfl X.c_se (fun C H1 z => by cases z.1; exact X.k_se)
      (fun pins Z L => pss_one (ps_expr (pe_makX c_State L.passes (hr.mono (by decide)) rfl (QA.pa (qc (pv 0) (qc (pv 1) qn))))))
      ?hs) (pss_one (ps_ret pe_str)), ?_⟩
    case hs =>
      intro pins e CC oe H1 rt hw he hm hc hd g
      obtain ⟨hw, hsm, hok⟩ := hw
      cases hw
      refine ⟨_, (pss_cons (ps_set (i := 3) nd rfl (Or.inl rfl) (pe_op (sum_of (K := K) rfl) (pe_op op_rep (pe_lstq (qc pe_str qn)) (pe_callTy call_int1 (by rfl) T.n_int rfl (QA.pa (qc (pe_callB (call_isexc X.xc (List.mem_append_right _ hm) hc hd) (by rfl) T.n_isinstance (by rfl) (QA.pa (qc (pv 2) (qc (pe_glob (v := .ref bp) (by rfl) X.c_bp (by rfl)) qn)))) qn)))) (pe_op op_rep (pe_lstq (qc pe_str qn)) (pe_callTy call_int1 (by rfl) T.n_int rfl (QA.pa (qc (pe_callB (call_isexc X.xc (List.mem_append_right _ hm) hc hd) (by rfl) T.n_isinstance (by rfl) (QA.pa (qc (pv 2) (qc (pe_glob (v := .ref bs) (by rfl) X.c_bs (by rfl)) qn)))) qn))))))
      (pss_cons (ps_set (i := 3) nd rfl (Or.inl rfl) (pe_op (sum_of (K := K) rfl) (pe_op (sum_of (K := K) rfl) (pv 3) (pe_op op_rep (pe_lstq (qc pe_str qn)) (pe_callTy call_int1 (by rfl) T.n_int rfl (QA.pa (qc (pe_callB (call_isexc X.xc (List.mem_append_right _ hm) hc hd) (by rfl) T.n_isinstance (by rfl) (QA.pa (qc (pv 2) (qc (pe_glob (v := .ref bi) (by rfl) X.c_bi (by rfl)) qn)))) qn))))) (pe_op op_rep (pe_lstq (qc pe_str qn)) (pe_callTy call_int1 (by rfl) T.n_int rfl (QA.pa (qc (pe_callB (call_isexc X.xc (List.mem_append_right _ hm) hc hd) (by rfl) T.n_isinstance (by rfl) (QA.pa (qc (pv 2) (qc (pe_glob (v := .ref ba) (by rfl) X.c_ba (by rfl)) qn)))) qn))))))
      (pss_cons (ps_set (i := 3) nd rfl (Or.inl rfl) (pe_op (sum_of (K := K) rfl) (pe_op (sum_of (K := K) rfl) (pv 3) (pe_op op_rep (pe_lstq (qc pe_str qn)) (pe_callTy call_int1 (by rfl) T.n_int rfl (QA.pa (qc (pe_callB (call_isexc X.xc (List.mem_append_right _ hm) hc hd) (by rfl) T.n_isinstance (by rfl) (QA.pa (qc (pv 2) (qc (pe_glob (v := .ref un) (by rfl) X.c_u (by rfl)) qn)))) qn))))) (pe_op op_rep (pe_lstq (qc pe_str qn)) (pe_callTy call_int1 (by rfl) T.n_int rfl (QA.pa (qc (pe_not (pe_callB (call_isexc X.xc (List.mem_append_right _ hm) hc hd) (by rfl) T.n_isinstance (by rfl) (QA.pa (qc (pv 2) (qc (pe_bltn (v := .ty "ValueError") (u := .type "ValueError") (by rfl) X.n_ve (by rfl) (by rfl)) qn))))) qn))))))
      (pss_one (ps_ret (pe_bm PySem.F.plainAttrs_str PySem.F.slot_str_join PySem.F.type_str_join mt_join pe_str (QA.pa (qc (pv 3) qn)))))))), ?_⟩
      have vr : ∀ {v : Option V} (H' : Hp) (D : Addr) (bb : Bool) (Q' : VK), PySem.W.kitOne K (.ref bs) (.ref D) = some bb → Q' (.bl bb) H' → tCB (fun xs H Q => (∃ D b, xs = [V.ref e, V.ref D] ∧ PySem.W.kitOne K (.ref bs) (.ref D) = some b ∧ Q (.bl b) H) ∨ ∃ n b, xs = [V.ref e, V.ty n] ∧ PySem.W.kitOne K (.ref bs) (.type n) = some b ∧ Q (.bl b) H) (tCons (tVar 2) (tCons (tC (.ref D)) tNil)) [none, none, some (.ref e), v] H' Q' := fun H' D bb Q' hk hq => ⟨_, rfl, .inl ⟨D, bb, rfl, hk, hq⟩⟩
      have v3 : ∀ (r : Addr) (xs : List V) (H' : Hp), H' r = some (.lst xs) → ∀ Q' : VK, (∀ r' H'', Same H' H'' → H'' r' = some (.lst xs) → Q' (.ref r') H'') → tVar 3 [none, none, some (.ref e), some (.ref r)] H' Q' := fun r xs H' hr Q' hQ => ⟨_, rfl, hQ r H' (fun _ _ h => h) hr⟩
      refine seq_cut (fun σ' H2 => ∃ r, σ' = [none, none, some (.ref e), some (.ref r)] ∧ Same H1 H2 ∧ H2 r = some (.lst [.str (Str.ofString "size")])) (fun R hR => ?_) ?_
      · exact sum_eval (xs := []) (ys := [.str (Str.ofString "size")]) (fun Q' hQ => rep_eval (b := false) (fun H' Q'' h => vr H' bp false Q'' X.k_bp h) hQ) (fun H2 _ Q' hQ => rep_eval (b := true) (fun H' Q'' h => vr H' bs true Q'' X.k_bs h) hQ) (by decide) fun r H2 hs hr => hR _ _ ⟨r, rfl, hs, hr⟩
      rintro _ H2 ⟨r, rfl, hs2, hr2⟩
      refine seq_cut (fun σ' H3 => ∃ r, σ' = [none, none, some (.ref e), some (.ref r)] ∧ Same H1 H3 ∧ H3 r = some (.lst [.str (Str.ofString "size")])) (fun R hR => ?_) ?_
      · exact sum_eval (xs := [.str (Str.ofString "size")]) (ys := []) (fun Q' hQ => sum_eval (xs := [.str (Str.ofString "size")]) (ys := []) (v3 r _ H2 hr2) (fun H3 _ Q' hQ => rep_eval (b := false) (fun H' Q'' h => vr H' bi false Q'' X.k_bi h) hQ) (by simp) hQ) (fun H3 _ Q' hQ => rep_eval (b := false) (fun H' Q'' h => vr H' ba false Q'' X.k_ba h) hQ) (by simp) fun r' H3 hs hr => hR _ _ ⟨r', rfl, hs2.trans hs, hr⟩
      rintro _ H3 ⟨r3, rfl, hs3, hr3⟩
      refine seq_cut (fun σ' H4 => ∃ r, σ' = [none, none, some (.ref e), some (.ref r)] ∧ Same H1 H4 ∧ H4 r = some (.lst [.str (Str.ofString "size")])) (fun R hR => ?_) ?_
      · exact sum_eval (xs := [.str (Str.ofString "size")]) (ys := []) (fun Q' hQ => sum_eval (xs := [.str (Str.ofString "size")]) (ys := []) (v3 r3 _ H3 hr3) (fun H4 _ Q' hQ => rep_eval (b := false) (fun H' Q'' h => vr H' un false Q'' X.k_u h) hQ) (by simp) hQ) (fun H4 _ Q' hQ => rep_eval (b := false) (fun H' Q'' h => ⟨_, rfl, .inr ⟨"ValueError", true, rfl, X.k_ve, true, rfl, h⟩⟩) hQ) (by simp) fun r' H4 hs hr => hR _ _ ⟨r', rfl, hs3.trans hs, hr⟩
      rintro _ H4 ⟨r4, rfl, hs4, hr4⟩
      walk_at "rd"
      have ej : Txt.join (Str.ofString "/") [Str.ofString "size"] = Str.ofString "size" := by decide +kernel
      refine ⟨rfl, [Str.ofString "size"], SqL.of hr4, by decide, by decide, ?_⟩
      rw [ej]
      exact g hok H4 (hsm.trans hs4)
    walk_at "rd"
    refine ⟨?_, qe⟩
    refine ⟨_, rfl, _, rfl, ?_⟩
    intro a dx ha hdx hne
    have s1 : Same H (upd (upd H dx (.own a)) a (.ins C dx [])) := fun b o hb => by
      rw [upd_ne (ne_of_none hb ha), upd_ne (ne_of_none hb hdx)]
      exact hb
    have keep : ∀ H', (∀ b o, b ≠ a → upd (upd H dx (.own a)) a (.ins C dx []) b = some o → H' b = some o) → Same H H' := fun H' hk b o hb => hk b o (ne_of_none hb ha) (s1 b o hb)
    exact ⟨a, dx, x, y, c, d, rfl, upd_same, Th_same s1 hx, Th_same s1 hy, fun hk w h p st kp H' e1 e2 hst hx' hst' hkp hrep hkk => ⟨rfl, q hk H' (keep H' hkk)⟩, fun hk H' hkk => ⟨rfl, keep H' hkk, hk⟩⟩
end
end K08
namespace K08
open PySem L2
structure W (C : Addr) (H : Hp) (x x2 d : Addr) (wd hg : Int) (S : SV) : Prop where
  s1 : ∃ dx p st kp, H x = some (.ins C dx (fldS p st kp S)) ∧ H st = some (.dK (stK wd))
  s2 : ∃ dx p st kp, H x2 = some (.ins C dx (fldS p st kp (sv0 wd hg))) ∧ H st = some (.dK (stK wd))
  m : ∃ sl, H d = some (.dK (mS sl S)) ∧ H sl = some (.lst ((stN wd).map V.int))
  ne : x ≠ x2
  bd : Bd S
theorem W.same {C : Addr} {H H' : Hp} {x x2 d : Addr} {wd hg : Int} {S : SV} (h : W C H x x2 d wd hg S) (hs : Same H H') : W C H' x x2 d wd hg S := by
  obtain ⟨⟨dx, p, st, kp, a1, a2⟩, ⟨dy, p', st', kp', b1, b2⟩, ⟨sl, c1, c2⟩, ne, ik⟩ := h
  exact ⟨⟨dx, p, st, kp, hs _ _ a1, hs _ _ a2⟩, ⟨dy, p', st', kp', hs _ _ b1, hs _ _ b2⟩, ⟨sl, hs _ _ c1, hs _ _ c2⟩, ne, ik⟩
theorem stN_ok {w : Int} (h1 : 1 ≤ w) (h2 : w ≤ 24) : (stN w).length < 64 ∧ ∀ n ∈ stN w, Sh n := by
  unfold stN
  refine ⟨by simp; omega, fun n hn => ?_⟩
  obtain ⟨i, hi, rfl⟩ := List.mem_map.mp hn
  have := List.mem_range.mp hi
  unfold Sh
  omega
theorem stK_keys (w : Int) : (stK w).map (·.1) = (stN w).map (Sum.inl : Int → Key) := by
  unfold stK
  rw [List.map_map]
  rfl
theorem st_ne {w : Int} {sl : Addr} {S : SV} : (HO.dK (stK w)) ≠ HO.dK (mS sl S) := fun h => by
  have h' : stK w = mS sl S := by injection h
  have hm : ((Sum.inr "wide" : Key), V.int S.wide) ∈ stK w := by rw [h']; exact List.mem_cons_self ..
  obtain ⟨i, _, e⟩ := List.mem_map.mp hm
  cases e
theorem bd0 {w h : Int} (h1 : 1 ≤ w) (h2 : w ≤ 24) (h3 : 1 ≤ h) (h4 : h ≤ 12) : Bd (sv0 w h) := by
  unfold sv0
  constructor <;> simp only <;> omega
theorem cut_ints (ns : List Int) (lo hi : Option Int) : ∃ ms : List Int, cutV (ns.map V.int) lo hi = ms.map V.int ∧ ms.length ≤ ns.length := by
  refine ⟨(ns.drop (HT.sIx ns.length 0 lo)).take (HT.sIx ns.length ns.length hi - HT.sIx ns.length 0 lo), ?_, ?_⟩
  · unfold cutV
    rw [List.length_map, List.map_take, List.map_drop]
  · rw [List.length_take, List.length_drop]
    omega
def spLaw (K : PySem.W.Frag) : Sp := fun vs H Q _ => ∃ (a : Addr) (ns : List Int), vs = [.ref a] ∧ SqL K H a (ns.map V.int) ∧ ns.length ≤ 63 ∧ ∀ H', Q (.bl true) H'
theorem lay_rep {d : PyData} (h1 : PyData.canLay0 d = true) : ∀ n, PyData.canLayAll0 (List.replicate n d) = true
  | 0 => rfl
  | n + 1 => by simp only [List.replicate_succ, PyData.canLayAll0, h1, lay_rep h1 n, Bool.and_self]
theorem dep_rep {d : PyData} : ∀ n, PyData.depthAll (List.replicate n d) ≤ PyData.depth d
  | 0 => Nat.zero_le _
  | n + 1 => by
    have := dep_rep (d := d) n
    simp only [List.replicate_succ, PyData.depthAll]
    omega
theorem eqv_rep {d : PyData} (h : PyData.eqv d d = true) : ∀ n, PyData.eqvAll (List.replicate n d) (List.replicate n d) = true
  | 0 => rfl
  | n + 1 => by simp only [List.replicate_succ, PyData.eqvAll, h, eqv_rep h n, Bool.and_self]
theorem blk_ok (w h : Int) : SeqAt.shaped (blkP w h 0) = true ∧ PyData.eqv (blkP w h 0) (blkP w h 0) = true := by
  have c1 : PyData.canLay0 (blkC 0) = true ∧ PyData.depth (blkC 0) ≤ 3 ∧ PyData.eqv (blkC 0) (blkC 0) = true := by decide +kernel
  have r1 : PyData.canLay0 (blkR w 0) = true ∧ PyData.depth (blkR w 0) ≤ 4 ∧ PyData.eqv (blkR w 0) (blkR w 0) = true := by
    unfold blkR
    refine ⟨lay_rep c1.1 _, ?_, ?_⟩
    · have := dep_rep (d := blkC 0) w.toNat
      simp only [PyData.depth]
      omega
    · simp only [PyData.eqv]
      exact eqv_rep c1.2.2 _
  unfold blkP
  refine ⟨?_, ?_⟩
  · unfold SeqAt.shaped
    rw [Bool.and_eq_true]
    refine ⟨lay_rep r1.1 _, decide_eq_true ?_⟩
    have := dep_rep (d := blkR w 0) h.toNat
    simp only [PyData.depth]
    omega
  · simp only [PyData.eqv]
    exact eqv_rep r1.2.2 _
open PySem.Spec PyProof.Rows in
theorem tell4 {a b c d : Int} (ha : Sh a) (hb : Sh b) (hc : Sh c) (hd : Sh d) :
    let D : PyData := .tuple [.int a, .int b, .int c, .int d]
    D.showable = true ∧ D.depth ≤ 60 ∧ D.shown.length ≤ sizeLine := by
  intro D
  have e1 : D.showable = true := by
    have l1 := ha.log; have l2 := hb.log; have l3 := hc.log; have l4 := hd.log
    simp only [D, PyData.showable, PyData.showableAll, Bool.and_true, Bool.true_and, Bool.and_eq_true, decide_eq_true_eq]
    omega
  have e2 : D.depth ≤ 60 := by
    simp only [D, PyData.depth, PyData.depthAll]
    omega
  refine ⟨e1, e2, ?_⟩
  have e3 : D.intsShort 13 = true := by
    simp only [D, PyData.intsShort, PyData.intsShortAll, Bool.and_true, Bool.true_and]
    have := ha.short; have := hb.short; have := hc.short; have := hd.short
    simp only [PyData.intsShort] at *
    simp only [*, Bool.and_self]
  have e4 : PyData.layable0 D = true := by
    have w1 := ha.w; have w2 := hb.w; have w3 := hc.w; have w4 := hd.w
    have q1 : PyData.canLay0 D = true := by simp only [D, PyData.canLay0, PyData.canLayAll0, Bool.and_self]
    have q2 : PyData.weight D ≤ 2 ^ 20 := by
      have e20 : (2 : Nat) ^ 20 = 1048576 := by decide
      have u3 : PyData.weight D = PyData.weightAll [.int a, .int b, .int c, .int d] := by simp only [D, PyData.weight]
      rw [u3]
      simp only [PyData.weightAll]
      omega
    show (PyData.canLay0 D && decide (PyData.depth D ≤ 64) && decide (PyData.weight D ≤ 2 ^ 20)) = true
    rw [q1, decide_eq_true (show PyData.depth D ≤ 64 by omega), decide_eq_true q2]
    rfl
  exact Nat.le_trans (shown_le13 e4 e3) (by rw [sizeLine_eq]; decide)
theorem okSz_in {w h : Int} (h1 : 1 ≤ w) (h2 : w ≤ 24) (h3 : 1 ≤ h) (h4 : h ≤ 12) : okSz (some w) (some h) = true := by
  unfold okSz inB
  simp [h1, h2, h3, h4]
local macro_rules | `(tactic| walk_at "rd") => `(tactic| simp [tRet, tOp, rI, rI0, rU, tUn, tVar, tC, L2.start, tSeq, tIfS, tTest, tAsg, gName, tCall, tCons, tNil, tCB, tNext, tDrop, tAndV, tOrV, tNotV, tChain, tAnd, tOr, tNot, tB, rEq, rNe, scal, tTup, tLst, gTup, gCons, gNil, rIxL, rIxT, rIxS, tIf, and_assoc, cxK, tFor_rng1, tFor_lst, tFor_tup, tFor_enum, tBM, rAppend, tFld, sFld, tDGetK, sDPutK, kV_int, kV_str, tPar3, tLc_rng1, tLc_rng2, tLc_rng3, tLc_lst, tYes, pick, rIn, tDisp, tPairs, rUpdate, tCs, spTimes, tPar, tSl, rSlL, tPart, tNoPart, spNumber, spMixed])
section
variable {P : Program} {w : World} {K : PySem.W.Frag} {mg : Str → Option Value} {base : Heap} {f C : Addr} {fd : FuncData} {se bp bs bi ba un : Addr}
seal L2.PE L2.PS L2.PSs L2.PT L2.PA in
theorem ok_law (F : Fun K "law" "law" s_law f fd) (T : Txt K mg C) (X : TxtX K mg se bp bs bi ba un) (c_State : CalMX P w K mg base 4 "State" C (spInit8 K C bs)) (c_blank_picture_d1 : CalX P w K mg base 3 "blank_picture" [.int 0] (spPic8 K bs)) (c__law_begun : Cal P w K mg base 1 "_law_begun" [] (spBegun K)) (c__law_mixed : Cal P w K mg base 1 "_law_mixed" [] spMixed) (c__law_at : Cal P w K mg base 1 "_law_at" [] (spAt0 K))
    (c__law_size : Cal P w K mg base 1 "_law_size" [] spSizeN) (c__law_number : Cal P w K mg base 1 "_law_number" [] spNumber) (c__law_window : Cal P w K mg base 3 "_law_window" [] spWin) (c__law_placed : Cal P w K mg base 2 "_law_placed" [] spLPlace) (c_set_rows : Cal P w K mg base 5 "set_rows" [] (spRows C)) (c_set_columns : Cal P w K mg base 5 "set_columns" [] (spCols C)) (c_to_place : Cal P w K mg base 3 "to_place" [] (spPlace C))
    (c_edges : Cal P w K mg base 1 "edges" [] (spEdges C)) (c__law_edges : Cal P w K mg base 1 "_law_edges" [] spLEdges) (c__law_like : Cal P w K mg base 2 "_law_like" [] (spLike C)) (c__law_refused : Cal P w K mg base 6 "_law_refused" [] (spRefused K)) :
    FnOk P w K mg base CX0 7 f fd ["_law_script"] (spLaw K) := by
  have nd := sc_law.nd
  refine F.ok sc_law (fun vs H Q E h => ?_) (fun cdv A outer s H vs Q E hr h => ?_)
  · obtain ⟨a, ns, rfl, _⟩ := h
    rfl
  · obtain ⟨a, ns, rfl, hS, hl, q⟩ := h
    have hu := hr.units
    refine ⟨_, (pss_cons (ps_asg (pe_cal c__law_size (hr.mono (by decide)) rfl (QA.pa (qc (pe_cal c__law_mixed (hr.mono (by decide)) rfl (QA.pa (qc (pe_cal c__law_at (hr.mono (by decide)) rfl (QA.pa (qc (pv 0) (qc pe_int qn)))) (qc pe_int qn)))) qn))) (pg_tup rfl (pgs_cons (pg_name (i := 1) nd rfl (Or.inl rfl)) (pgs_cons (pg_name (i := 2) nd rfl (Or.inl rfl)) pgs_nil))))
      (pss_cons (ps_set (i := 3) nd rfl (Or.inl rfl) (pe_makX c_State pass1 (hr.mono (by decide)) rfl (QA.pa (qc (pv 1) (qc (pv 2) qn)))))
      (pss_cons (ps_set (i := 4) nd rfl (Or.inl rfl) (pe_makX c_State pass1 (hr.mono (by decide)) rfl (QA.pa (qc (pv 1) (qc (pv 2) qn)))))
      (pss_cons (ps_set (i := 5) nd rfl (Or.inl rfl) (pe_cal c__law_begun (hr.mono (by decide)) rfl (QA.pa (qc (pv 1) (qc (pv 2) qn)))))
      (pss_cons (ps_if (PW.pt (pw_or (pt_not (pt_val (pe_cal c__law_like (hr.mono (by decide)) rfl (QA.pa (qc (pv 3) (qc (pv 5) qn)))))) (pw_or (pt_cmpR op_notN (pe_fld (pv 3) rfl) pe_non (nomark _)) (pw_or1 (pt_cmpR (op_neD hu) (pe_fld (pv 3) rfl) (pe_lstq qn) (nomark _)))))) (pss_one (ps_ret pe_bl)) pss_nil)
      (pss_cons (ps_if (pt_cmpR (op_neD hu) (pe_fld (pv 3) rfl) (pe_calX c_blank_picture_d1 pass1 (hr.mono (by decide)) rfl (QA.pa (qc (pv 1) (qc (pv 2) qn)))) (nomark _)) (pss_one (ps_ret pe_bl)) pss_nil)
      (pss_cons (ps_for PassesOwn.never rfl (pi_enum rfl T.n_enumerate (QA.pa (qc (pe_slice sl_list (pv 0) (po_some pe_int) (po_some pe_int)) qn))) (pg_tup rfl (pgs_cons (pg_name (i := 6) nd rfl (Or.inl rfl)) (pgs_cons (pg_name (i := 7) nd rfl (Or.inl rfl)) pgs_nil)))
      (pss_cons (ps_set (i := 8) nd rfl (Or.inl rfl) (pe_cal c__law_mixed (hr.mono (by decide)) rfl (QA.pa (qc (pv 7) (qc (pv 6) qn)))))
      (pss_cons (ps_par (i := 9) (j := 10) rfl nd rfl rfl (by decide) rfl rfl (QA.pa (qc (pe_cal c__law_number (hr.mono (by decide)) rfl (QA.pa (qc (pe_op op_fdiv (pv 8) pe_int) qn))) (qc (pe_cal c__law_number (hr.mono (by decide)) rfl (QA.pa (qc (pe_op op_fdiv (pv 8) pe_int) qn))) qn))) rfl)
      (pss_cons (ps_if (pt_cmpR op_eq (pe_op op_mod (pv 8) pe_int) pe_int (nomark _)) (pss_cons (ps_expr (pe_cal c_set_rows (hr.mono (by decide)) rfl (QA.pa (qc (pv 3) (qc (pv 9) (qc (pv 10) qn))))))
      (pss_one (ps_expr (pe_cal c__law_window (hr.mono (by decide)) rfl (QA.pa (qc (pv 5) (qc pe_str (qc (pv 9) (qc (pv 10) qn))))))))) (pss_one (ps_if (pt_cmpR op_eq (pe_op op_mod (pv 8) pe_int) pe_int (nomark _)) (pss_cons (ps_expr (pe_cal c_set_columns (hr.mono (by decide)) rfl (QA.pa (qc (pv 3) (qc (pv 9) (qc (pv 10) qn))))))
      (pss_one (ps_expr (pe_cal c__law_window (hr.mono (by decide)) rfl (QA.pa (qc (pv 5) (qc pe_str (qc (pv 9) (qc (pv 10) qn))))))))) (pss_cons (ps_expr (pe_cal c_to_place (hr.mono (by decide)) rfl (QA.pa (qc (pv 3) (qc (pv 9) (qc (pv 10) qn))))))
      (pss_one (ps_expr (pe_cal c__law_placed (hr.mono (by decide)) rfl (QA.pa (qc (pv 5) (qc (pv 9) (qc (pv 10) qn)))))))))))
      (pss_cons (ps_set (i := 11) nd rfl (Or.inl rfl) (pe_cal c_edges (hr.mono (by decide)) rfl (QA.pa (qc (pv 3) qn))))
      (pss_one (ps_if (PW.pt (pw_or (pt_not (pt_val (pe_callB call_isinst (by rfl) T.n_isinstance (by rfl) (QA.pa (qc (pv 11) (qc (pe_bltn (v := .ty "tuple") (u := .type "tuple") rfl T.n_tuple rfl rfl) qn)))))) (pw_or (pt_cmpR op_ne (pe_callB (call_reprD hr.gd hr.units) (by rfl) T.n_repr (by rfl) (QA.pa (qc (pv 11) qn))) (pe_callB (call_reprD hr.gd hr.units) (by rfl) T.n_repr (by rfl) (QA.pa (qc (pe_cal c__law_edges (hr.mono (by decide)) rfl (QA.pa (qc (pv 5) qn))) qn))) (nomark _)) (pw_or1 (pt_not (pt_val (pe_cal c__law_like (hr.mono (by decide)) rfl (QA.pa (qc (pv 3) (qc (pv 5) qn)))))))))) (pss_one (ps_ret pe_bl)) pss_nil)))))))
      (pss_cons (ps_set (i := 12) nd rfl (Or.inl rfl) (pe_ix ix_list (pe_lstq (qc pe_int (qc (pe_un un_neg pe_int) (qc pe_bl (qc pe_non (qc pe_str (qc (pe_lstq (qc pe_int qn)) (qc (pe_tupq (qc pe_int qn)) (qc (pe_op op_pow pe_int pe_int) qn))))))))) (pe_op op_mod (pe_cal c__law_at (hr.mono (by decide)) rfl (QA.pa (qc (pv 0) (qc pe_int qn)))) pe_int) (fun _ _ => rfl)))
      (pss_cons (ps_for PassesOwn.never rfl (pi_list (pe_lstq (qc (pe_tupq (qc (pv 12) (qc (pv 2) qn))) (qc (pe_tupq (qc (pv 1) (qc (pv 12) qn))) (qc (pe_tupq (qc pe_int (qc (pv 2) qn))) (qc (pe_tupq (qc (pv 1) (qc pe_int qn))) qn)))))) (pg_name (i := 13) nd rfl (Or.inl rfl))
      (pss_one (ps_if (pt_cmpR op_ne (pe_cal c__law_refused (hr.mono (by decide)) rfl (QA.pa (qc (pe_ix ix_tup (pv 13) pe_int (fun _ _ => rfl)) (qc (pe_ix ix_tup (pv 13) pe_int (fun _ _ => rfl)) qn)))) pe_str (nomark _)) (pss_one (ps_ret pe_bl)) pss_nil)))
      (pss_one (ps_ret (pe_and (pe_cal c__law_like (hr.mono (by decide)) rfl (QA.pa (qc (pv 4) (qc (pe_cal c__law_begun (hr.mono (by decide)) rfl (QA.pa (qc (pv 1) (qc (pv 2) qn)))) qn)))) (pe_one (pe_cmpR op_eq (pe_cal c__law_refused (hr.mono (by decide)) rfl (QA.pa (qc pe_int (qc pe_int qn)))) pe_str (nomark _))))))))))))))), ?_⟩
    refine seq_cut (fun σ' H1 => ∃ wd hg : Int, 1 ≤ wd ∧ wd ≤ 24 ∧ 1 ≤ hg ∧ hg ≤ 12 ∧ σ' = [some (.ref a), some (.int wd), some (.int hg), none, none, none, none, none, none, none, none, none, none, none] ∧ Same H H1) (fun R hR => ?_) ?_
    · walk_at "rd"
      exact ⟨a, ns, 0, rfl, hS, hl, by decide, fun c => ⟨c, rfl, mixN c 1, rfl, mixN_ge _ _, fun q1 H1 x y hs x1 x2 y1 y2 hq => ⟨q1, rfl, _, SqT.of hq, rfl, _, _, rfl, _, _, rfl, rfl, hR _ _ ⟨x, y, x1, x2, y1, y2, rfl, hs⟩⟩⟩⟩
    rintro _ H0 ⟨wd, hg, w1, w2, g1, g2, rfl, hs0⟩
    have hok := okSz_in w1 w2 g1 g2
    refine seq_cut (fun σ' H1 => ∃ x dx p st kp, σ' = [some (.ref a), some (.int wd), some (.int hg), some (.ref x), none, none, none, none, none, none, none, none, none, none] ∧ Same H H1 ∧ H x = none ∧ H1 x = some (.ins C dx (fldS p st kp (sv0 wd hg))) ∧ H1 st = some (.dK (stK wd)) ∧ H1 kp = some (.lst []) ∧ Rep K H1 (blkP wd hg 0) (.ref p)) (fun R hR => ?_) ?_
    · refine ⟨_, rfl, _, rfl, ?_⟩
      intro x dx hx hdx hne
      refine ⟨x, dx, .int wd, .int hg, some wd, some hg, rfl, upd_same, rfl, rfl, fun hk w h p st kp H' e1 e2 hst hx' hst' hkp hrep hkk => ⟨rfl, ?_⟩, fun hk => absurd (hok.symm.trans hk) (by decide)⟩
      cases e1
      cases e2
      refine hR _ _ ⟨x, dx, p, st, kp, rfl, fun b o hb => ?_, hs0.free hx, hx', hst', hkp, hrep⟩
      have hb0 := hs0 _ _ hb
      refine hkk b o (ne_of_none hb0 hx) ?_
      rw [upd_ne (ne_of_none hb0 hx), upd_ne (ne_of_none hb0 hdx)]
      exact hb0
    rintro _ H1 ⟨x, dx, p, st, kp, rfl, hs1, hx0, hx1, hst1, hkp1, hrep1⟩
    refine seq_cut (fun σ' H2 => ∃ x2, σ' = [some (.ref a), some (.int wd), some (.int hg), some (.ref x), some (.ref x2), none, none, none, none, none, none, none, none, none] ∧ Same H1 H2 ∧ x ≠ x2 ∧ ∃ dx p st kp, H2 x2 = some (.ins C dx (fldS p st kp (sv0 wd hg))) ∧ H2 st = some (.dK (stK wd))) (fun R hR => ?_) ?_
    · refine ⟨_, rfl, _, rfl, ?_⟩
      intro y dy hy hdy hne
      refine ⟨y, dy, .int wd, .int hg, some wd, some hg, rfl, upd_same, rfl, rfl, fun hk w h p st kp H' e1 e2 hst hx' hst' hkp hrep hkk => ⟨rfl, ?_⟩, fun hk => absurd (hok.symm.trans hk) (by decide)⟩
      cases e1
      cases e2
      refine hR _ _ ⟨y, rfl, fun b o hb => ?_, ne_of_none hx1 hy, dy, p, st, kp, hx', hst'⟩
      refine hkk b o (ne_of_none hb hy) ?_
      rw [upd_ne (ne_of_none hb hy), upd_ne (ne_of_none hb hdy)]
      exact hb
    rintro _ H2 ⟨x2, rfl, hs2, nx2, hx2⟩
    refine seq_cut (fun σ' H3 => ∃ d, σ' = [some (.ref a), some (.int wd), some (.int hg), some (.ref x), some (.ref x2), some (.ref d), none, none, none, none, none, none, none, none] ∧ Same H H3 ∧ Same H1 H3 ∧ H d = none ∧ W C H3 x x2 d wd hg (sv0 wd hg)) (fun R hR => ?_) ?_
    · refine ⟨_, rfl, _, rfl, wd, hg, rfl, w1, w2, g1, g2, fun d sl H3 hs3 hd0 hd3 hsl => hR _ _ ⟨d, rfl, (hs1.trans hs2).trans hs3, hs2.trans hs3, (hs1.trans hs2).free hd0, ?_⟩⟩
      exact ⟨⟨dx, p, st, kp, hs3 _ _ (hs2 _ _ hx1), hs3 _ _ (hs2 _ _ hst1)⟩, hx2.elim fun dy h => h.elim fun p' h => h.elim fun st' h => h.elim fun kp' h => ⟨dy, p', st', kp', hs3 _ _ h.1, hs3 _ _ h.2⟩, ⟨sl, hd3, hsl⟩, nx2, bd0 w1 w2 g1 g2⟩
    rintro _ H3 ⟨d, rfl, hs3, hs13, hd0, hW3⟩
    have hx3 := hs13 _ _ hx1
    have hst3 := hs13 _ _ hst1
    have hkp3 := hs13 _ _ hkp1
    have hrep3 := Rep.same hs13 _ _ hrep1
    clear hx2 hs2 hst1 hx1 hs1 hs13 hkp1 hrep1
    obtain ⟨sk1, sk2⟩ := stN_ok w1 w2
    refine seq_cut (fun σ' H4 => σ' = [some (.ref a), some (.int wd), some (.int hg), some (.ref x), some (.ref x2), some (.ref d), none, none, none, none, none, none, none, none] ∧ Same H3 H4) (fun R hR => ?_) ?_
    · obtain ⟨sl, c1, c2⟩ := hW3.m
      walk_at "rd"
      refine ⟨x, dx, p, st, kp, sv0 wd hg, stK wd, stN wd, d, sl, stN wd, rfl, hx3, hst3, stK_keys wd, sk1, c1, c2, .refl _, (bd0 w1 w2 g1 g2).oks, sk2, fun H4 hs4 => .inr ⟨rfl, C, dx, _, hs4 _ _ hx3, T.st.cl, T.st.n_last, _, look_last, .inl ⟨rfl, C, dx, _, hs4 _ _ hx3, T.st.cl, T.st.n_kept, _, look_kept, fun q hq => ?_⟩⟩⟩
      exact ⟨.list [], .list [], ⟨kp, [], rfl, SqL.of (same_new hq _ _ (hs4 _ _ hkp3)), rfl⟩, ⟨q, [], rfl, SqL.of upd_same, rfl⟩, by decide +kernel, by decide +kernel, .inl ⟨by decide +kernel, hR _ _ ⟨rfl, hs4.trans (same_new hq)⟩⟩⟩
    rintro _ H4 ⟨rfl, hs34⟩
    refine seq_cut (fun σ' H5 => σ' = [some (.ref a), some (.int wd), some (.int hg), some (.ref x), some (.ref x2), some (.ref d), none, none, none, none, none, none, none, none] ∧ Same H3 H5) (fun R hR => ?_) ?_
    · have hx4 := hs34 _ _ hx3
      have hrep4 := Rep.same hs34 _ _ hrep3
      walk_at "rd"
      obtain ⟨bsh, bev⟩ := blk_ok wd hg
      refine ⟨C, dx, _, hx4, T.st.cl, T.st.n_picture, _, look_picture, .int wd, .int hg, 0, some wd, some hg, rfl, rfl, rfl, fun hk w h l H' e1 e2 hs hl hrep => ?_, fun hk => absurd (hok.symm.trans hk) (by decide)⟩
      cases e1
      cases e2
      exact ⟨blkP wd hg 0, blkP wd hg 0, Rep.same hs _ _ hrep4, hrep, bsh, bsh, .inl ⟨by rw [bev]; rfl, hR _ _ ⟨rfl, hs34.trans hs⟩⟩⟩
    rintro _ H5 ⟨rfl, hs35⟩
    refine seq_cut (fun σ' H6 => ∃ v6 v7 v8 v9 v10 v11 S, σ' = [some (.ref a), some (.int wd), some (.int hg), some (.ref x), some (.ref x2), some (.ref d), v6, v7, v8, v9, v10, v11, none, none] ∧ Same H H6 ∧ W C H6 x x2 d wd hg S) (fun R hR => ?_) ?_
    · walk_at "rd"
      have hs5 := hs3.trans hs35
      have hW5 := hW3.same hs35
      refine ⟨_, SqL.same hs5 hS, fun l0 hl0 => ⟨⟨_, SqL.of upd_same⟩, ?_⟩⟩
      obtain ⟨ms, ems, hms⟩ := cut_ints ns (some 1) (some 15)
      rw [ems]
      have hl0' : H l0 = none := hs5.free hl0
      refine LoopE.run (xs := ms.map V.int) (fun i σ H' => ∃ v6 v7 v8 v9 v10 v11 S, σ = [some (.ref a), some (.int wd), some (.int hg), some (.ref x), some (.ref x2), some (.ref d), v6, v7, v8, v9, v10, v11, none, none] ∧ Same H H' ∧ H' l0 = some (.lst (ms.map V.int)) ∧ W C H' x x2 d wd hg S) ⟨_, _, _, _, _, _, _, rfl, same_upd hs5 hl0', upd_same, hW5.same (same_new hl0)⟩ ?_ ?_ ?_
      · rintro i σ H' _ ⟨v6, v7, v8, v9, v10, v11, S, _, _, h0, _⟩
        exact SqL.of h0
      · rintro i c _ H4 t hci ⟨v6, v7, v8, v9, v10, v11, S, rfl, hs4, hl4, hW4⟩ ht R2 hR2
        obtain ⟨c, rfl⟩ : ∃ z, c = V.int z := by
          rw [List.getElem?_map] at hci
          obtain ⟨z, _, e⟩ := Option.map_eq_some_iff.mp hci
          exact ⟨z, e.symm⟩
        have hi63 : i < 63 := by
          have := (List.getElem?_eq_some_iff.mp hci).1
          simp at this
          omega
        refine ⟨t, _, rfl, SqT.of upd_same, rfl, _, _, rfl, _, _, rfl, rfl, ?_⟩
        have hs6 : Same H (upd H4 t (.tup [.int i, .int c])) := same_upd hs4 (hs4.free ht)
        have hl6 : upd H4 t (.tup [.int i, .int c]) l0 = some (.lst (ms.map V.int)) := same_new ht _ _ hl4
        have hW6 : W C (upd H4 t (.tup [.int i, .int c])) x x2 d wd hg S := hW4.same (same_new ht)
        generalize upd H4 t (.tup [.int i, .int c]) = H5 at hs6 hl6 hW6 ⊢
        clear hs4 hl4 hW4 ht
        refine seq_cut (fun σ' H6 => ∃ m : Int, 0 ≤ m ∧ σ' = [some (.ref a), some (.int wd), some (.int hg), some (.ref x), some (.ref x2), some (.ref d), some (.int i), some (.int c), some (.int m), v9, v10, v11, none, none] ∧ H5 = H6) (fun R3 hR3 => ?_) ?_
        · walk_at "rd"
          exact ⟨by omega, hR3 _ _ ⟨_, mixN_ge _ _, rfl, rfl⟩⟩
        rintro _ _ ⟨m, m0, rfl, rfl⟩
        refine seq_cut (fun σ' H6 => ∃ u v, NumP u ∧ NumP v ∧ σ' = [some (.ref a), some (.int wd), some (.int hg), some (.ref x), some (.ref x2), some (.ref d), some (.int i), some (.int c), some (.int m), some u, some v, v11, none, none] ∧ Same H5 H6) (fun R3 hR3 => ?_) ?_
        · walk_at "rd"
          exact ⟨⟨by decide, by decide⟩, by omega, fun u H' hu' hs => ⟨⟨by decide, by decide⟩, by omega, fun v H2 hv' hs2 => hR3 _ _ ⟨u, v, hu', hv', rfl, hs.trans hs2⟩⟩⟩
        rintro _ H6 ⟨u, v, hu', hv', rfl, hs56⟩
        have hs7 := hs6.trans hs56
        have hl7 := hs56 _ _ hl6
        have hW7 := hW6.same hs56
        clear hs6 hl6 hW6
        refine seq_cut (fun σ' H7 => ∃ S', σ' = [some (.ref a), some (.int wd), some (.int hg), some (.ref x), some (.ref x2), some (.ref d), some (.int i), some (.int c), some (.int m), some u, some v, v11, none, none] ∧ Same H H7 ∧ H7 l0 = some (.lst (ms.map V.int)) ∧ W C H7 x x2 d wd hg S') (fun R3 hR3 => ?_) ?_
        · obtain ⟨⟨dx, p, st, kp, a1, a2⟩, ⟨dy, p', st', kp', b1, b2⟩, ⟨sl, c1, c2⟩, ne, bd⟩ := hW7
          have stx : st ≠ x := ne_of a2 a1 (fun z => nomatch z)
          have stx' : st' ≠ x := ne_of b2 a1 (fun z => nomatch z)
          have slx : sl ≠ x := ne_of c2 a1 (fun z => nomatch z)
          have l0x : l0 ≠ x := ne_of hl7 a1 (fun z => nomatch z)
          have std : st ≠ d := ne_of a2 c1 st_ne
          have std' : st' ≠ d := ne_of b2 c1 st_ne
          have sld : sl ≠ d := ne_of c2 c1 (fun z => nomatch z)
          have l0d : l0 ≠ d := ne_of hl7 c1 (fun z => nomatch z)
          have x2d : x2 ≠ d := ne_of b1 c1 (fun z => nomatch z)
          have xd : x ≠ d := ne_of a1 c1 (fun z => nomatch z)
          have fin : ∀ (S' : SV) (H7 : Hp), Bd S' → H7 x = some (.ins C dx (fldS p st kp S')) → (∀ b o, b ≠ x → H6 b = some o → H7 b = some o) → ∀ H8 : Hp, H8 d = some (.dK (mS sl S')) → (∀ b o, b ≠ d → H7 b = some o → H8 b = some o) → R3 [some (.ref a), some (.int wd), some (.int hg), some (.ref x), some (.ref x2), some (.ref d), some (.int i), some (.int c), some (.int m), some u, some v, v11, none, none] H8 := fun S' H7 bd' e1 e2 H8 e3 e4 =>
            hR3 _ _ ⟨S', rfl, fun b o hb => e4 b o (fun z => by rw [z, hd0] at hb; cases hb) (e2 b o (fun z => by rw [z, hx0] at hb; cases hb) (hs7 _ _ hb)), e4 _ _ l0d (e2 _ _ l0x hl7), ⟨⟨dx, p, st, kp, e4 _ _ xd e1, e4 _ _ std (e2 _ _ stx a2)⟩, ⟨dy, p', st', kp', e4 _ _ x2d (e2 _ _ (Ne.symm ne) b1), e4 _ _ std' (e2 _ _ stx' b2)⟩, ⟨sl, e3, e4 _ _ sld (e2 _ _ slx c2)⟩, ne, bd'⟩⟩
          walk_at "rd"
          refine ite2 (fun _ => ⟨u, v, hu', hv', x, dx, p, st, kp, S, rfl, a1, bd, fun H7 e1 e2 => .inl ⟨u, v, hu', hv', d, sl, S, rfl, e2 _ _ (Ne.symm xd) c1, bd, fun H8 e3 e4 => fin _ H7 (bd.rows hu' hv') e1 e2 H8 e3 e4⟩⟩) fun _ =>
            ite2 (fun _ => ⟨u, v, hu', hv', x, dx, p, st, kp, S, rfl, a1, bd, fun H7 e1 e2 => .inr ⟨u, v, hu', hv', d, sl, S, rfl, e2 _ _ (Ne.symm xd) c1, bd, fun H8 e3 e4 => fin _ H7 (bd.cols hu' hv') e1 e2 H8 e3 e4⟩⟩) fun _ => ?_
          exact ⟨u, v, hu', hv', x, dx, p, st, kp, S, rfl, a1, bd, fun H7 e1 e2 => ⟨u, v, hu', hv', d, sl, S, rfl, (e2 _ (Ne.symm xd)).trans c1, bd, fun H8 e3 e4 => fin _ H7 (bd.place hu' hv') e1 (fun b o hb h => (e2 b hb).trans h) H8 e3 e4⟩⟩
        clear hW7 hl7
        rintro _ H7 ⟨S', rfl, hs8, hl8, hW8⟩
        refine seq_cut (fun σ' H8 => ∃ t, σ' = [some (.ref a), some (.int wd), some (.int hg), some (.ref x), some (.ref x2), some (.ref d), some (.int i), some (.int c), some (.int m), some u, some v, some (.ref t), none, none] ∧ Same H7 H8 ∧ H8 t = some (.tup [.int (edT S'), .int (edB S'), .int (edL S'), .int (edR S')])) (fun R3 hR3 => ?_) ?_
        · obtain ⟨dx, p, st, kp, a1, a2⟩ := hW8.s1
          walk_at "rd"
          exact ⟨x, dx, p, st, kp, S', rfl, a1, fun t ht => hR3 _ _ ⟨t, rfl, same_new ht, upd_same⟩⟩
        rintro _ H8 ⟨t8, rfl, hs78, ht8⟩
        have hW9 := hW8.same hs78
        obtain ⟨⟨dx, p, st, kp, a1, a2⟩, ⟨dy, p', st', kp', b1, b2⟩, ⟨sl, c1, c2⟩, ne, bd⟩ := id hW9
        have ebd := ed_bd bd
        have shE : Sh (edT S') ∧ Sh (edB S') ∧ Sh (edL S') ∧ Sh (edR S') := by
          obtain ⟨q1, q2, q3, q4, q5, q6, q7, q8, q9, q10, q11⟩ := bd
          unfold Sh
          omega
        obtain ⟨t1, t2, t3⟩ := tell4 shE.1 shE.2.1 shE.2.2.1 shE.2.2.2
        walk_at "rd"
        have hs9 := hs8.trans hs78
        have hl9 := hs78 _ _ hl8
        refine ⟨_, .tup ht8, .inr ⟨rfl, .tuple [.int (edT S'), .int (edB S'), .int (edL S'), .int (edR S')], .ref t8, rfl, ⟨t8, _, rfl, SqT.of ht8, ⟨_, _, rfl, rfl, _, _, rfl, rfl, _, _, rfl, rfl, _, _, rfl, rfl, rfl⟩⟩, rfl, t1, t2, t3, d, sl, S', rfl, c1, fun t ht => ?_⟩⟩
        refine ⟨.tuple [.int (edT S'), .int (edB S'), .int (edL S'), .int (edR S')], .ref t, rfl, ⟨t, _, rfl, SqT.of upd_same, ⟨_, _, rfl, rfl, _, _, rfl, rfl, _, _, rfl, rfl, _, _, rfl, rfl, rfl⟩⟩, rfl, t1, t2, t3, rfl, .inl ⟨rfl, ?_⟩⟩
        refine ⟨x, dx, p, st, kp, S', stK wd, stN wd, d, sl, stN wd, rfl, same_new ht _ _ a1, same_new ht _ _ a2, stK_keys wd, sk1, same_new ht _ _ c1, same_new ht _ _ c2, .refl _, bd.oks, sk2, fun H9 hs99 => .inr ⟨rfl, hR2 _ _ ⟨_, _, _, _, _, _, S', rfl, (same_upd hs9 (hs9.free ht)).trans hs99, hs99 _ _ (same_new ht _ _ hl9), hW9.same ((same_new ht).trans hs99)⟩⟩⟩
      · rintro σ H' ⟨v6, v7, v8, v9, v10, v11, S, rfl, hs', _, hW'⟩
        exact hR _ _ ⟨v6, v7, v8, v9, v10, v11, S, rfl, hs', hW'⟩
    rintro _ H6 ⟨v6, v7, v8, v9, v10, v11, S, rfl, hs6, hW6⟩
    have nob : ∀ i : Int, okSz none (some i) = false ∧ okSz (some i) none = false := fun i => by
      refine ⟨rfl, ?_⟩
      unfold okSz
      exact Bool.and_false _
    have z8 : ∀ n : Nat, n < 64 → n ≤ sizeLine := fun n hn => by rw [sizeLine_eq]; omega
    refine seq_cut (fun σ' H7 => ∃ o c, σ' = [some (.ref a), some (.int wd), some (.int hg), some (.ref x), some (.ref x2), some (.ref d), v6, v7, v8, v9, v10, v11, some o, none] ∧ Same H6 H7 ∧ Th K H7 o c ∧ okSz c (some hg) = false ∧ okSz (some wd) c = false) (fun R hR => ?_) ?_
    · walk_at "rd"
      refine ⟨z8 _ (by decide), fun p1 hp1 => ⟨z8 _ (by decide), fun p2 hp2 => ⟨⟨by decide, by decide, by decide⟩, z8 _ (by decide), fun p3 hp3 => ?_⟩⟩⟩
      have n1 : Same H6 (upd H6 p1 (.lst [.int 2])) := same_new hp1
      have n2 := same_new (o := .tup [.int 2]) hp2
      have n3 := same_new (o := .lst [V.int 0, V.int (-1), V.bl true, V.non, V.str (Str.ofString "2"), V.ref p1, V.ref p2, V.int 1000000000]) hp3
      have n13 := (n1.trans n2).trans n3
      have l1 := n3 _ _ (n2 _ _ (upd_same (H := H6) (a := p1) (o := .lst [.int 2])))
      have l2 := n3 _ _ (upd_same (H := upd H6 p1 (.lst [.int 2])) (a := p2) (o := .tup [.int 2]))
      refine ⟨a, ns, 1, rfl, SqL.same n13 (SqL.same hs6 hS), hl, by decide, fun c => ⟨c, rfl, _, SqL.of upd_same, ?_⟩⟩
      have c8 : c % 8 = 0 ∨ c % 8 = 1 ∨ c % 8 = 2 ∨ c % 8 = 3 ∨ c % 8 = 4 ∨ c % 8 = 5 ∨ c % 8 = 6 ∨ c % 8 = 7 := by omega
      rcases c8 with e | e | e | e | e | e | e | e <;> rw [e]
      · exact ⟨_, rfl, hR _ _ ⟨_, some 0, rfl, n13, rfl, rfl, by unfold okSz; exact Bool.and_false _⟩⟩
      · exact ⟨_, rfl, hR _ _ ⟨_, some (-1), rfl, n13, rfl, rfl, by unfold okSz; exact Bool.and_false _⟩⟩
      · exact ⟨_, rfl, hR _ _ ⟨_, none, rfl, n13, .inl ⟨_, rfl⟩, (nob hg).1, (nob wd).2⟩⟩
      · exact ⟨_, rfl, hR _ _ ⟨_, none, rfl, n13, .inr ⟨_, .non, .inl rfl⟩, (nob hg).1, (nob wd).2⟩⟩
      · exact ⟨_, rfl, hR _ _ ⟨_, none, rfl, n13, .inr ⟨_, .str _, .inr (.inl rfl)⟩, (nob hg).1, (nob wd).2⟩⟩
      · exact ⟨_, rfl, hR _ _ ⟨_, none, rfl, n13, .inr ⟨_, .lst l1, .inr (.inr (.inl rfl))⟩, (nob hg).1, (nob wd).2⟩⟩
      · exact ⟨_, rfl, hR _ _ ⟨_, none, rfl, n13, .inr ⟨_, .tup l2, .inr (.inr (.inr (.inl rfl)))⟩, (nob hg).1, (nob wd).2⟩⟩
      · exact ⟨_, rfl, hR _ _ ⟨_, some 1000000000, rfl, n13, rfl, rfl, by unfold okSz; exact Bool.and_false _⟩⟩
    rintro _ H7 ⟨o, co, rfl, hs67, ho, ho1, ho2⟩
    have hW7 := hW6.same hs67
    refine seq_cut (fun σ' H8 => ∃ v13, σ' = [some (.ref a), some (.int wd), some (.int hg), some (.ref x), some (.ref x2), some (.ref d), v6, v7, v8, v9, v10, v11, some o, v13] ∧ Same H7 H8) (fun R hR => ?_) ?_
    · walk_at "rd"
      refine ⟨z8 _ (by decide), fun p1 hp1 => ⟨z8 _ (by decide), fun p2 hp2 => ⟨z8 _ (by decide), fun p3 hp3 => ⟨z8 _ (by decide), fun p4 hp4 => ⟨z8 _ (by decide), fun p5 hp5 => ⟨⟨_, SqL.of upd_same⟩, ?_⟩⟩⟩⟩⟩⟩
      have n1 := same_new (o := .tup [o, .int hg]) hp1
      have n2 := same_new (o := .tup [.int wd, o]) hp2
      have n3 := same_new (o := .tup [.int 25, .int hg]) hp3
      have n4 := same_new (o := .tup [.int wd, .int 13]) hp4
      have n5 := same_new (o := .lst [V.ref p1, V.ref p2, V.ref p3, V.ref p4]) hp5
      have n15 := (((n1.trans n2).trans n3).trans n4).trans n5
      have l1 := n5 _ _ (n4 _ _ (n3 _ _ (n2 _ _ (upd_same (H := H7) (a := p1) (o := .tup [o, .int hg])))))
      have l2 := n5 _ _ (n4 _ _ (n3 _ _ (upd_same (H := upd H7 p1 (.tup [o, .int hg])) (a := p2) (o := .tup [.int wd, o]))))
      have l3 := n5 _ _ (n4 _ _ (upd_same (H := upd (upd H7 p1 (.tup [o, .int hg])) p2 (.tup [.int wd, o])) (a := p3) (o := .tup [.int 25, .int hg])))
      have l4 := n5 _ _ (upd_same (H := upd (upd (upd H7 p1 (.tup [o, .int hg])) p2 (.tup [.int wd, o])) p3 (.tup [.int 25, .int hg])) (a := p4) (o := .tup [.int wd, .int 13]))
      have l5 := upd_same (H := upd (upd (upd (upd H7 p1 (.tup [o, .int hg])) p2 (.tup [.int wd, o])) p3 (.tup [.int 25, .int hg])) p4 (.tup [.int wd, .int 13])) (a := p5) (o := .lst [V.ref p1, V.ref p2, V.ref p3, V.ref p4])
      clear n1 n2 n3 n4 n5 hp1 hp2 hp3 hp4 hp5
      generalize upd (upd (upd (upd (upd H7 p1 (.tup [o, .int hg])) p2 (.tup [.int wd, o])) p3 (.tup [.int 25, .int hg])) p4 (.tup [.int wd, .int 13])) p5 (.lst [V.ref p1, V.ref p2, V.ref p3, V.ref p4]) = Hb at n15 l1 l2 l3 l4 l5 ⊢
      have all : ∀ x ∈ [V.ref p1, V.ref p2, V.ref p3, V.ref p4], ∃ q u v cu cv, x = V.ref q ∧ Hb q = some (.tup [u, v]) ∧ Th K Hb u cu ∧ Th K Hb v cv ∧ okSz cu cv = false := by
        have ho' := Th_same n15 ho
        intro x hx
        simp only [List.mem_cons, List.not_mem_nil, or_false] at hx
        rcases hx with rfl | rfl | rfl | rfl
        · exact ⟨_, _, _, co, some hg, rfl, l1, ho', rfl, ho1⟩
        · exact ⟨_, _, _, some wd, co, rfl, l2, rfl, ho', ho2⟩
        · exact ⟨_, _, _, some 25, some hg, rfl, l3, rfl, rfl, rfl⟩
        · exact ⟨_, _, _, some wd, some 13, rfl, l4, rfl, rfl, by unfold okSz; exact Bool.and_false _⟩
      refine LoopL.run (xs := [V.ref p1, V.ref p2, V.ref p3, V.ref p4]) (fun i σ H' => ∃ v13, σ = [some (.ref a), some (.int wd), some (.int hg), some (.ref x), some (.ref x2), some (.ref d), v6, v7, v8, v9, v10, v11, some o, v13] ∧ Same Hb H') ⟨_, rfl, fun _ _ h => h⟩ ?_ ?_ ?_
      · rintro i σ H' _ ⟨_, _, hs⟩
        exact SqL.of (hs _ _ l5)
      · rintro i z _ H' hzi ⟨v13, rfl, hs⟩ R2 hR2
        obtain ⟨q', u, v, cu, cv, rfl, e1, e2, e3, e4⟩ := all _ (List.mem_of_getElem? hzi)
        walk_at "rd"
        refine ⟨_, SqT.of (hs _ _ e1), _, rfl, _, SqT.of (hs _ _ e1), _, rfl, u, v, cu, cv, rfl, Th_same hs e2, Th_same hs e3, fun h => absurd (h.symm.trans e4) (by decide), fun _ H9 hs9 => ?_⟩
        exact ⟨rfl, .inl ⟨rfl, hR2 _ _ ⟨_, rfl, hs.trans hs9⟩⟩⟩
      · rintro σ H' ⟨v13, rfl, hs⟩
        exact hR _ _ ⟨v13, rfl, n15.trans hs⟩
    rintro _ H8 ⟨v13, rfl, hs78⟩
    have hW8 := hW7.same hs78
    walk_at "rd"
    obtain ⟨dx, p, st, kp, b1, b2⟩ := hW8.s2
    refine ⟨wd, hg, rfl, w1, w2, g1, g2, fun d' sl' H9 hs9 hd9 hd' hsl' => ⟨x2, dx, p, st, kp, sv0 wd hg, stK wd, stN wd, d', sl', stN wd, rfl, hs9 _ _ b1, hs9 _ _ b2, stK_keys wd, sk1, hd', hsl', .refl _, (bd0 w1 w2 g1 g2).oks, sk2, fun H10 hs10 => .inr ⟨rfl, .int 24, .int 12, some 24, some 12, rfl, rfl, rfl, fun _ H11 _ => ⟨rfl, ?_⟩, fun h => absurd h (by decide)⟩⟩⟩
    simpa using q H11
end
end K08
namespace K08
open PySem L2
theorem fk {K : PySem.W.Frag} {h : Heap} {mg : Str → Option Value} {x : Str} {st : Stmt} {f : Addr} {oc kV doc pm cd ct : Value} {od an : Option Addr} {sl : Array (Option Value)} (X : K.In h) (G : h.Ns mainGlobals mg)
    (a : PySem.W.nsIn K mainGlobals x = some (some (.ref f))) (l : K.lookup f = some ⟨oc, od, .func (PySem.W.fnOf x x (defArgs st) (defBody st) (defScope st) .none kV doc pm an cd ct), sl⟩) (c : PySem.W.codeIn K cd x = true) (k : PySem.W.keepIn K (.ref f) = true) :
    ∃ f fd, Fun K x x st f fd ∧ mg x = some (.ref f) := ⟨f, _, fun_mk (st := st) l c k, PySem.W.mg_of X G a⟩
theorem fkD {K : PySem.W.Frag} {h : Heap} {mg : Str → Option Value} {x : Str} {st : Stmt} {f D : Addr} {oc kV doc pm cd ct : Value} {od an : Option Addr} {sl : Array (Option Value)} {oD : Obj} {ds : List Value} {n : Nat} (X : K.In h) (G : h.Ns mainGlobals mg)
    (a : PySem.W.nsIn K mainGlobals x = some (some (.ref f))) (l : K.lookup f = some ⟨oc, od, .func (PySem.W.fnOf x x (defArgs st) (defBody st) (defScope st) (.ref D) kV doc pm an cd ct), sl⟩) (c : PySem.W.codeIn K cd x = true) (k : PySem.W.keepIn K (.ref f) = true)
    (t : K.lookup D = some oD) (e : oD.data = .seq ds.toArray n) : ∃ f fd, FunD K x x st ds f fd ∧ mg x = some (.ref f) := ⟨f, _, ⟨⟨oc, od, kV, doc, pm, an, cd, ct, sl, D, oD, n, rfl, l, c, t, e⟩, k⟩, PySem.W.mg_of X G a⟩
theorem mk_State {K : PySem.W.Frag} {C f : Addr} {oc kV doc pm cd ct : Value} {od an : Option Addr} {sl : Array (Option Value)} (mk : PySem.W.makesIn K C = true) (a1 : PySem.W.findIn K (.ref C) "__init__" = some (some (.ref f))) (i1 : PySem.W.isFn K (.ref f) = true) (kc : PySem.W.keepIn K (.ref C) = true)
    (l : K.lookup f = some ⟨oc, od, .func (PySem.W.fnOf "__init__" "State.__init__" (defArgs s_State___init__) (defBody s_State___init__) (defScope s_State___init__) .none kV doc pm an cd ct), sl⟩) (c : PySem.W.codeIn K cd "State.__init__" = true) (k : PySem.W.keepIn K (.ref f) = true) :
    ∃ f fd, Mk K C f ∧ Fun K "__init__" "State.__init__" s_State___init__ f fd := ⟨f, _, ⟨mk, a1, i1, kc⟩, fun_mk (st := s_State___init__) l c k⟩
theorem mt_begin {K : PySem.W.Frag} {C f : Addr} {oc kV doc pm cd ct : Value} {od an : Option Addr} {sl : Array (Option Value)} (a1 : PySem.W.findIn K (.ref C) "begin" = some (some (.ref f))) (i1 : PySem.W.isFn K (.ref f) = true)
    (l : K.lookup f = some ⟨oc, od, .func (PySem.W.fnOf "begin" "State.begin" (defArgs s_State_begin) (defBody s_State_begin) (defScope s_State_begin) .none kV doc pm an cd ct), sl⟩) (c : PySem.W.codeIn K cd "State.begin" = true) (k : PySem.W.keepIn K (.ref f) = true) :
    ∃ f fd, Meth K C "begin" f ∧ Fun K "begin" "State.begin" s_State_begin f fd := ⟨f, _, ⟨a1, i1, k⟩, fun_mk (st := s_State_begin) l c k⟩
theorem bd_blank_row {K : PySem.W.Frag} {f : Addr} {fd : FuncData} {d : Value} (F : FunD K "blank_row" "blank_row" s_blank_row [d] f fd) : Binds K fd ["wide", "ink"] [] :=
  F.binds fun T kV doc pm an cdv ct us hl => match us, hl with | [_, _], _ => ⟨_, rfl, rfl⟩
theorem bd_blank_row1 {K : PySem.W.Frag} {f : Addr} {fd : FuncData} {d : Value} (F : FunD K "blank_row" "blank_row" s_blank_row [d] f fd) : Binds K fd ["wide", "ink"] [d] :=
  F.binds fun T kV doc pm an cdv ct us hl => by
    have h2 : us.length = 1 := by simpa using hl
    match us, h2 with
    | [_], _ => exact ⟨_, rfl, rfl⟩
theorem bd_blank_picture1 {K : PySem.W.Frag} {f : Addr} {fd : FuncData} {d : Value} (F : FunD K "blank_picture" "blank_picture" s_blank_picture [d] f fd) : Binds K fd ["wide", "high", "ink"] [d] :=
  F.binds fun T kV doc pm an cdv ct us hl => by
    have h2 : us.length = 2 := by simpa using hl
    match us, h2 with
    | [_, _], _ => exact ⟨_, rfl, rfl⟩
theorem all_mk {P : Program} {w : World} {K : PySem.W.Frag} {mg : Str → Option Value} {fa C se bp bs bi ba un : Addr} (T : Txt K mg C) (X : TxtX K mg se bp bs bi ba un) (hfa : mg "law" = some (.ref fa)) (e_State : ∃ f fd, Mk K C f ∧ Fun K "__init__" "State.__init__" s_State___init__ f fd) (e_begin : ∃ f fd, Meth K C "begin" f ∧ Fun K "begin" "State.begin" s_State_begin f fd)
    (e_is_whole : ∃ f fd, Fun K "is_whole" "is_whole" s_is_whole f fd ∧ mg "is_whole" = some (.ref f))
    (e_is_size : ∃ f fd, Fun K "is_size" "is_size" s_is_size f fd ∧ mg "is_size" = some (.ref f))
    (e_first_stops : ∃ f fd, Fun K "first_stops" "first_stops" s_first_stops f fd ∧ mg "first_stops" = some (.ref f))
    (e_edges : ∃ f fd, Fun K "edges" "edges" s_edges f fd ∧ mg "edges" = some (.ref f))
    (e_at_least_one : ∃ f fd, Fun K "at_least_one" "at_least_one" s_at_least_one f fd ∧ mg "at_least_one" = some (.ref f))
    (e_counted : ∃ f fd, Fun K "counted" "counted" s_counted f fd ∧ mg "counted" = some (.ref f))
    (e_to_place : ∃ f fd, Fun K "to_place" "to_place" s_to_place f fd ∧ mg "to_place" = some (.ref f))
    (e_to_home : ∃ f fd, Fun K "to_home" "to_home" s_to_home f fd ∧ mg "to_home" = some (.ref f))
    (e_span : ∃ f fd, Fun K "span" "span" s_span f fd ∧ mg "span" = some (.ref f))
    (e_set_rows : ∃ f fd, Fun K "set_rows" "set_rows" s_set_rows f fd ∧ mg "set_rows" = some (.ref f))
    (e_set_columns : ∃ f fd, Fun K "set_columns" "set_columns" s_set_columns f fd ∧ mg "set_columns" = some (.ref f))
    (e__law_at : ∃ f fd, Fun K "_law_at" "_law_at" s__law_at f fd ∧ mg "_law_at" = some (.ref f))
    (e__law_mixed : ∃ f fd, Fun K "_law_mixed" "_law_mixed" s__law_mixed f fd ∧ mg "_law_mixed" = some (.ref f))
    (e__law_size : ∃ f fd, Fun K "_law_size" "_law_size" s__law_size f fd ∧ mg "_law_size" = some (.ref f))
    (e__law_number : ∃ f fd, Fun K "_law_number" "_law_number" s__law_number f fd ∧ mg "_law_number" = some (.ref f))
    (e__law_begun : ∃ f fd, Fun K "_law_begun" "_law_begun" s__law_begun f fd ∧ mg "_law_begun" = some (.ref f))
    (e__law_edges : ∃ f fd, Fun K "_law_edges" "_law_edges" s__law_edges f fd ∧ mg "_law_edges" = some (.ref f))
    (e__law_times : ∃ f fd, Fun K "_law_times" "_law_times" s__law_times f fd ∧ mg "_law_times" = some (.ref f))
    (e__law_placed : ∃ f fd, Fun K "_law_placed" "_law_placed" s__law_placed f fd ∧ mg "_law_placed" = some (.ref f))
    (e__law_window : ∃ f fd, Fun K "_law_window" "_law_window" s__law_window f fd ∧ mg "_law_window" = some (.ref f))
    (e__law_told : ∃ f fd, Fun K "_law_told" "_law_told" s__law_told f fd ∧ mg "_law_told" = some (.ref f))
    (e__law_due : ∃ f fd, Fun K "_law_due" "_law_due" s__law_due f fd ∧ mg "_law_due" = some (.ref f))
    (e__law_like : ∃ f fd, Fun K "_law_like" "_law_like" s__law_like f fd ∧ mg "_law_like" = some (.ref f))
    (e__law_refused : ∃ f fd, Fun K "_law_refused" "_law_refused" s__law_refused f fd ∧ mg "_law_refused" = some (.ref f))
    (e_law : ∃ f fd, Fun K "law" "law" s_law f fd ∧ mg "law" = some (.ref f))
    (e_blank_row : ∃ t f fd, FunD K "blank_row" "blank_row" s_blank_row [.int 0 t] f fd ∧ mg "blank_row" = some (.ref f))
    (e_blank_picture : ∃ t f fd, FunD K "blank_picture" "blank_picture" s_blank_picture [.int 0 t] f fd ∧ mg "blank_picture" = some (.ref f)) :
    ∃ fd : FuncData, (∀ (s : Shared) (v : Value), BindsTo s fd ⟨[v], []⟩ [("_law_script", v)]) ∧ ∀ base : Heap, K.In base → base.Ns mainGlobals mg → FnOk P w K mg base CX0 7 fa fd ["_law_script"] (spLaw K) := by
  obtain ⟨fS, dS, MS, FS⟩ := e_State
  obtain ⟨fB, dB, MB, FB⟩ := e_begin
  obtain ⟨f_is_whole, d_is_whole, F_is_whole, m_is_whole⟩ := e_is_whole
  obtain ⟨f_is_size, d_is_size, F_is_size, m_is_size⟩ := e_is_size
  obtain ⟨f_first_stops, d_first_stops, F_first_stops, m_first_stops⟩ := e_first_stops
  obtain ⟨f_edges, d_edges, F_edges, m_edges⟩ := e_edges
  obtain ⟨f_at_least_one, d_at_least_one, F_at_least_one, m_at_least_one⟩ := e_at_least_one
  obtain ⟨f_counted, d_counted, F_counted, m_counted⟩ := e_counted
  obtain ⟨f_to_place, d_to_place, F_to_place, m_to_place⟩ := e_to_place
  obtain ⟨f_to_home, d_to_home, F_to_home, m_to_home⟩ := e_to_home
  obtain ⟨f_span, d_span, F_span, m_span⟩ := e_span
  obtain ⟨f_set_rows, d_set_rows, F_set_rows, m_set_rows⟩ := e_set_rows
  obtain ⟨f_set_columns, d_set_columns, F_set_columns, m_set_columns⟩ := e_set_columns
  obtain ⟨f__law_at, d__law_at, F__law_at, m__law_at⟩ := e__law_at
  obtain ⟨f__law_mixed, d__law_mixed, F__law_mixed, m__law_mixed⟩ := e__law_mixed
  obtain ⟨f__law_size, d__law_size, F__law_size, m__law_size⟩ := e__law_size
  obtain ⟨f__law_number, d__law_number, F__law_number, m__law_number⟩ := e__law_number
  obtain ⟨f__law_begun, d__law_begun, F__law_begun, m__law_begun⟩ := e__law_begun
  obtain ⟨f__law_edges, d__law_edges, F__law_edges, m__law_edges⟩ := e__law_edges
  obtain ⟨f__law_times, d__law_times, F__law_times, m__law_times⟩ := e__law_times
  obtain ⟨f__law_placed, d__law_placed, F__law_placed, m__law_placed⟩ := e__law_placed
  obtain ⟨f__law_window, d__law_window, F__law_window, m__law_window⟩ := e__law_window
  obtain ⟨f__law_told, d__law_told, F__law_told, m__law_told⟩ := e__law_told
  obtain ⟨f__law_due, d__law_due, F__law_due, m__law_due⟩ := e__law_due
  obtain ⟨f__law_like, d__law_like, F__law_like, m__law_like⟩ := e__law_like
  obtain ⟨f__law_refused, d__law_refused, F__law_refused, m__law_refused⟩ := e__law_refused
  obtain ⟨f_law, d_law, F_law, m_law⟩ := e_law
  obtain ⟨t_blank_row, f_blank_row, d_blank_row, F_blank_row, m_blank_row⟩ := e_blank_row
  obtain ⟨t_blank_picture, f_blank_picture, d_blank_picture, F_blank_picture, m_blank_picture⟩ := e_blank_picture
  rw [hfa] at m_law
  cases m_law
  refine ⟨d_law, fun s v => ?_, fun base _ _ => ?_⟩
  · obtain ⟨oc, od, kV, doc, pm, an, cdv, ct, osl, rfl, _⟩ := F_law.ex
    exact .of_eq rfl
  have c_is_whole : Cal P w K mg base 1 "is_whole" [] (spWhole K) := ⟨f_is_whole, d_is_whole, _, [], ok_is_whole F_is_whole T, m_is_whole, F_is_whole.kp, F_is_whole.binds fun _ _ _ _ _ _ us hl => match us, hl with | [_, _, _], _ => rfl, .nil⟩
  have c_is_size : Cal P w K mg base 2 "is_size" [] (spIsSize2 K) := ⟨f_is_size, d_is_size, _, [], ok_is_size8 F_is_size T c_is_whole, m_is_size, F_is_size.kp, F_is_size.binds fun _ _ _ _ _ _ us hl => match us, hl with | [_, _], _ => rfl, .nil⟩
  have c_blank_row : Cal P w K mg base 1 "blank_row" [] (spRow8 K) := ⟨f_blank_row, d_blank_row, _, [], ok_blank_row8 F_blank_row T, m_blank_row, F_blank_row.kp, bd_blank_row F_blank_row, .nil⟩
  have c_blank_row_d1 : Cal P w K mg base 1 "blank_row" [.int 0] (spRow8 K) := ⟨f_blank_row, d_blank_row, _, _, ok_blank_row8 F_blank_row T, m_blank_row, F_blank_row.kp, bd_blank_row1 F_blank_row, .cons ⟨t_blank_row, rfl⟩ .nil⟩
  have c_blank_picture_d1 : CalX P w K mg base 3 "blank_picture" [.int 0] (spPic8 K bs) := ⟨f_blank_picture, d_blank_picture, _, _, okX_blank_picture F_blank_picture T X c_is_size c_blank_row, m_blank_picture, F_blank_picture.kp, bd_blank_picture1 F_blank_picture, .cons ⟨t_blank_picture, rfl⟩ .nil⟩
  have c_first_stops : Cal P w K mg base 1 "first_stops" [] spStops := ⟨f_first_stops, d_first_stops, _, [], ok_first_stops F_first_stops T, m_first_stops, F_first_stops.kp, F_first_stops.binds fun _ _ _ _ _ _ us hl => match us, hl with | [_], _ => rfl, .nil⟩
  have c_State_begin : CalT P w K mg base 2 "begin" C (spBegin8 C) := ⟨fB, dB, _, T.st.cl, MB, ok_State_begin8 FB T c_first_stops, FB.binds fun _ _ _ _ _ _ us hl => match us, hl with | [_], _ => rfl⟩
  have c_State : CalMX P w K mg base 4 "State" C (spInit8 K C bs) := ⟨fS, dS, _, MS, okX_State_init FS T X c_blank_picture_d1 c_State_begin, T.mgC, FS.binds fun _ _ _ _ _ _ us hl => match us, hl with | [_, _, _], _ => rfl⟩
  have c_edges : Cal P w K mg base 1 "edges" [] (spEdges C) := ⟨f_edges, d_edges, _, [], ok_edges F_edges T, m_edges, F_edges.kp, F_edges.binds fun _ _ _ _ _ _ us hl => match us, hl with | [_], _ => rfl, .nil⟩
  have c_at_least_one : Cal P w K mg base 1 "at_least_one" [] spOne := ⟨f_at_least_one, d_at_least_one, _, [], ok_at_least_one F_at_least_one T, m_at_least_one, F_at_least_one.kp, F_at_least_one.binds fun _ _ _ _ _ _ us hl => match us, hl with | [_], _ => rfl, .nil⟩
  have c_counted : Cal P w K mg base 2 "counted" [] spCounted := ⟨f_counted, d_counted, _, [], ok_counted F_counted T c_at_least_one, m_counted, F_counted.kp, F_counted.binds fun _ _ _ _ _ _ us hl => match us, hl with | [_, _, _], _ => rfl, .nil⟩
  have c_to_place : Cal P w K mg base 3 "to_place" [] (spPlace C) := ⟨f_to_place, d_to_place, _, [], ok_to_place F_to_place T c_counted, m_to_place, F_to_place.kp, F_to_place.binds fun _ _ _ _ _ _ us hl => match us, hl with | [_, _, _], _ => rfl, .nil⟩
  have c_to_home : Cal P w K mg base 4 "to_home" [] (spHome C) := ⟨f_to_home, d_to_home, _, [], ok_to_home F_to_home T c_to_place, m_to_home, F_to_home.kp, F_to_home.binds fun _ _ _ _ _ _ us hl => match us, hl with | [_], _ => rfl, .nil⟩
  have c_span : Cal P w K mg base 2 "span" [] spSpan := ⟨f_span, d_span, _, [], ok_span F_span T c_at_least_one, m_span, F_span.kp, F_span.binds fun _ _ _ _ _ _ us hl => match us, hl with | [_, _, _], _ => rfl, .nil⟩
  have c_set_rows : Cal P w K mg base 5 "set_rows" [] (spRows C) := ⟨f_set_rows, d_set_rows, _, [], ok_set_rows F_set_rows T c_span c_to_home, m_set_rows, F_set_rows.kp, F_set_rows.binds fun _ _ _ _ _ _ us hl => match us, hl with | [_, _, _], _ => rfl, .nil⟩
  have c_set_columns : Cal P w K mg base 5 "set_columns" [] (spCols C) := ⟨f_set_columns, d_set_columns, _, [], ok_set_columns F_set_columns T c_span c_to_home, m_set_columns, F_set_columns.kp, F_set_columns.binds fun _ _ _ _ _ _ us hl => match us, hl with | [_, _, _], _ => rfl, .nil⟩
  have c__law_at : Cal P w K mg base 1 "_law_at" [] (spAt0 K) := ⟨f__law_at, d__law_at, _, [], ok_law_at F__law_at T, m__law_at, F__law_at.kp, F__law_at.binds fun _ _ _ _ _ _ us hl => match us, hl with | [_, _], _ => rfl, .nil⟩
  have c__law_mixed : Cal P w K mg base 1 "_law_mixed" [] spMixed := ⟨f__law_mixed, d__law_mixed, _, [], ok_law_mixed F__law_mixed, m__law_mixed, F__law_mixed.kp, F__law_mixed.binds fun _ _ _ _ _ _ us hl => match us, hl with | [_, _], _ => rfl, .nil⟩
  have c__law_size : Cal P w K mg base 1 "_law_size" [] spSizeN := ⟨f__law_size, d__law_size, _, [], ok_law_size F__law_size T, m__law_size, F__law_size.kp, F__law_size.binds fun _ _ _ _ _ _ us hl => match us, hl with | [_], _ => rfl, .nil⟩
  have c__law_number : Cal P w K mg base 1 "_law_number" [] spNumber := ⟨f__law_number, d__law_number, _, [], ok_law_number F__law_number T, m__law_number, F__law_number.kp, F__law_number.binds fun _ _ _ _ _ _ us hl => match us, hl with | [_], _ => rfl, .nil⟩
  have c__law_begun : Cal P w K mg base 1 "_law_begun" [] (spBegun K) := ⟨f__law_begun, d__law_begun, _, [], ok_law_begun F__law_begun T, m__law_begun, F__law_begun.kp, F__law_begun.binds fun _ _ _ _ _ _ us hl => match us, hl with | [_, _], _ => rfl, .nil⟩
  have c__law_edges : Cal P w K mg base 1 "_law_edges" [] spLEdges := ⟨f__law_edges, d__law_edges, _, [], ok_law_edges F__law_edges T, m__law_edges, F__law_edges.kp, F__law_edges.binds fun _ _ _ _ _ _ us hl => match us, hl with | [_], _ => rfl, .nil⟩
  have c__law_times : Cal P w K mg base 1 "_law_times" [] spTimes := ⟨f__law_times, d__law_times, _, [], ok_law_times F__law_times T, m__law_times, F__law_times.kp, F__law_times.binds fun _ _ _ _ _ _ us hl => match us, hl with | [_], _ => rfl, .nil⟩
  have c__law_placed : Cal P w K mg base 2 "_law_placed" [] spLPlace := ⟨f__law_placed, d__law_placed, _, [], ok_law_placed F__law_placed T c__law_times, m__law_placed, F__law_placed.kp, F__law_placed.binds fun _ _ _ _ _ _ us hl => match us, hl with | [_, _, _], _ => rfl, .nil⟩
  have c__law_window : Cal P w K mg base 3 "_law_window" [] spWin := ⟨f__law_window, d__law_window, _, [], ok_law_window F__law_window T c__law_times c__law_placed, m__law_window, F__law_window.kp, F__law_window.binds fun _ _ _ _ _ _ us hl => match us, hl with | [_, _, _, _], _ => rfl, .nil⟩
  have c__law_told : Cal P w K mg base 1 "_law_told" [] (spTold K C) := ⟨f__law_told, d__law_told, _, [], ok_law_told F__law_told T, m__law_told, F__law_told.kp, F__law_told.binds fun _ _ _ _ _ _ us hl => match us, hl with | [_], _ => rfl, .nil⟩
  have c__law_due : Cal P w K mg base 1 "_law_due" [] (spDue K) := ⟨f__law_due, d__law_due, _, [], ok_law_due F__law_due T, m__law_due, F__law_due.kp, F__law_due.binds fun _ _ _ _ _ _ us hl => match us, hl with | [_], _ => rfl, .nil⟩
  have c__law_like : Cal P w K mg base 2 "_law_like" [] (spLike C) := ⟨f__law_like, d__law_like, _, [], ok_law_like F__law_like T c__law_told c__law_due, m__law_like, F__law_like.kp, F__law_like.binds fun _ _ _ _ _ _ us hl => match us, hl with | [_, _], _ => rfl, .nil⟩
  have c__law_refused : Cal P w K mg base 6 "_law_refused" [] (spRefused K) := ⟨f__law_refused, d__law_refused, _, [], ok_law_refused F__law_refused T X c_State, m__law_refused, F__law_refused.kp, F__law_refused.binds fun _ _ _ _ _ _ us hl => match us, hl with | [_, _], _ => rfl, .nil⟩
  exact ok_law F_law T X c_State c_blank_picture_d1 c__law_begun c__law_mixed c__law_at c__law_size c__law_number c__law_window c__law_placed c_set_rows c_set_columns c_to_place c_edges c__law_edges c__law_like c__law_refused
theorem txt_mk {K : PySem.W.Frag} {h : Heap} {mg : Str → Option Value} {C aB : Addr} {t_WIDEST t_HIGHEST t_TAB_STEP : Tok} (X : K.In h) (G : h.Ns mainGlobals mg)
    (n_len : PySem.W.nsIn K mainGlobals "len" = some none)
    (n_range : PySem.W.nsIn K mainGlobals "range" = some none)
    (n_int : PySem.W.nsIn K mainGlobals "int" = some none)
    (n_bool : PySem.W.nsIn K mainGlobals "bool" = some none)
    (n_dict : PySem.W.nsIn K mainGlobals "dict" = some none)
    (n_tuple : PySem.W.nsIn K mainGlobals "tuple" = some none)
    (n_isinstance : PySem.W.nsIn K mainGlobals "isinstance" = some none)
    (n_enumerate : PySem.W.nsIn K mainGlobals "enumerate" = some none)
    (n_sorted : PySem.W.nsIn K mainGlobals "sorted" = some none)
    (n_repr : PySem.W.nsIn K mainGlobals "repr" = some none)
    (n_min : PySem.W.nsIn K mainGlobals "min" = some none)
    (n_max : PySem.W.nsIn K mainGlobals "max" = some none)
    (g_WIDEST : PySem.W.nsIn K mainGlobals "WIDEST" = some (some (.int 24 t_WIDEST)))
    (g_HIGHEST : PySem.W.nsIn K mainGlobals "HIGHEST" = some (some (.int 12 t_HIGHEST)))
    (g_TAB_STEP : PySem.W.nsIn K mainGlobals "TAB_STEP" = some (some (.int 4 t_TAB_STEP)))
    (aC : PySem.W.nsIn K mainGlobals "State" = some (some (.ref C)))
    (pg : PySem.W.plainGet K C Str.empty = true) (hd : PySem.W.hasDictIn K C = true) (po : PySem.W.plainOver K C = true) (sa : PySem.W.findIn K (.ref C) "__setattr__" = some (some (.builtin "object.__setattr__")))
    (a_picture : PySem.W.findIn K (.ref C) "picture" = some none)
    (a_wide : PySem.W.findIn K (.ref C) "wide" = some none)
    (a_high : PySem.W.findIn K (.ref C) "high" = some none)
    (a_row : PySem.W.findIn K (.ref C) "row" = some none)
    (a_column : PySem.W.findIn K (.ref C) "column" = some none)
    (a_late : PySem.W.findIn K (.ref C) "late" = some none)
    (a_ink : PySem.W.findIn K (.ref C) "ink" = some none)
    (a_wrap : PySem.W.findIn K (.ref C) "wrap" = some none)
    (a_putting : PySem.W.findIn K (.ref C) "putting" = some none)
    (a_home : PySem.W.findIn K (.ref C) "home" = some none)
    (a_top : PySem.W.findIn K (.ref C) "top" = some none)
    (a_bottom : PySem.W.findIn K (.ref C) "bottom" = some none)
    (a_left : PySem.W.findIn K (.ref C) "left" = some none)
    (a_right : PySem.W.findIn K (.ref C) "right" = some none)
    (a_stops : PySem.W.findIn K (.ref C) "stops" = some none)
    (a_kept : PySem.W.findIn K (.ref C) "kept" = some none)
    (a_last : PySem.W.findIn K (.ref C) "last" = some none)
    : Txt K mg C :=
  ⟨PySem.W.mg_none_of X G n_len, PySem.W.mg_none_of X G n_range, PySem.W.mg_none_of X G n_int, PySem.W.mg_none_of X G n_bool, PySem.W.mg_none_of X G n_dict, PySem.W.mg_none_of X G n_tuple, PySem.W.mg_none_of X G n_isinstance, PySem.W.mg_none_of X G n_enumerate, PySem.W.mg_none_of X G n_sorted, PySem.W.mg_none_of X G n_repr, PySem.W.mg_none_of X G n_min, PySem.W.mg_none_of X G n_max, ⟨t_WIDEST, PySem.W.mg_of X G g_WIDEST⟩, ⟨t_HIGHEST, PySem.W.mg_of X G g_HIGHEST⟩, ⟨t_TAB_STEP, PySem.W.mg_of X G g_TAB_STEP⟩, PySem.W.mg_of X G aC, ⟨⟨pg, hd, po, sa⟩, a_picture, a_wide, a_high, a_row, a_column, a_late, a_ink, a_wrap, a_putting, a_home, a_top, a_bottom, a_left, a_right, a_stops, a_kept, a_last⟩⟩
theorem xclass_mk {K : PySem.W.Frag} {C : Addr} (ga : PySem.W.findIn K (.ref C) "__getattribute__" = some (some (.builtin "BaseException.__getattribute__"))) (gh : PySem.W.findIn K (.ref C) "__getattr__" = some none)
    (cl : PySem.W.findIn K (.ref C) "__class__" = some (some (.builtin "object.__class__"))) (sp : PySem.W.specialIn K (.builtin "object.__class__") "__get__" = some (some (.builtin "getset_descriptor.__get__"))) (tk : PySem.W.takesIn K (.builtin "object.__class__") = some true)
    (mo : PySem.W.mroIn K C (.type "object") = some true) (mb : PySem.W.mroIn K C (.type "BaseException") = some true) (hd : PySem.W.hasDictIn K C = true) : XClass K C :=
  ⟨ga, gh, cl, sp, tk, mo, mb, by
    obtain ⟨cd, hc, _⟩ := PySem.W.any_some hd
    rw [hc]
    rfl⟩
theorem txtx_mk {K : PySem.W.Frag} {h : Heap} {mg : Str → Option Value} {se bp bs bi ba un : Addr} (X : K.In h) (G : h.Ns mainGlobals mg) (c_se : PySem.W.nsIn K mainGlobals "ScreenError" = some (some (.ref se))) (c_bp : PySem.W.nsIn K mainGlobals "BadPicture" = some (some (.ref bp))) (c_bs : PySem.W.nsIn K mainGlobals "BadSize" = some (some (.ref bs))) (c_bi : PySem.W.nsIn K mainGlobals "BadInk" = some (some (.ref bi))) (c_ba : PySem.W.nsIn K mainGlobals "BadPaper" = some (some (.ref ba))) (c_un : PySem.W.nsIn K mainGlobals "Unlike" = some (some (.ref un))) (nv : PySem.W.nsIn K mainGlobals "ValueError" = some none) (xm : PySem.W.excIn K bs [.type "ValueError", .type "Exception", .type "BaseException", .type "object"] "ValueError.__new__" = true) (xc : XClass K bs) (k_se : PySem.W.exmOne K (.ref bs) (.ref se) = some true) (k_bp : PySem.W.kitOne K (.ref bs) (.ref bp) = some false) (k_bs : PySem.W.kitOne K (.ref bs) (.ref bs) = some true) (k_bi : PySem.W.kitOne K (.ref bs) (.ref bi) = some false) (k_ba : PySem.W.kitOne K (.ref bs) (.ref ba) = some false) (k_un : PySem.W.kitOne K (.ref bs) (.ref un) = some false) (k_ve : PySem.W.kitOne K (.ref bs) (.type "ValueError") = some true) : TxtX K mg se bp bs bi ba un :=
  ⟨PySem.W.mg_of X G c_se, PySem.W.mg_of X G c_bp, PySem.W.mg_of X G c_bs, PySem.W.mg_of X G c_bi, PySem.W.mg_of X G c_ba, PySem.W.mg_of X G c_un, PySem.W.mg_none_of X G nv, ⟨⟨_, _, _, _, PySem.F.excBase_ValueError, xm⟩⟩, xc, k_se, k_bp, k_bs, k_bi, k_ba, k_un, k_ve⟩
theorem walk {l : PySem.W.OpenLaw} {q : Program} {loose : List Str} {XP : (Str → Option Value) → Heap → Prop} {YP : World → Heap → Prop} {d : DefRec} {K : Params → PySem.W.Frag} (hn : l.most = some 63) (hdf : d.params.defaults = [])
    (hY : ∀ (w : World) (h : Heap), YP w h → (K w.params).In h)
    (F : ∀ (w : World) (mg : Str → Option Value) (fa : Addr) (h : Heap), (K w.params).In h → h.Ns mainGlobals mg → mg d.name = some (.ref fa) →
      ∃ fd : FuncData, (∀ (s : Shared) (u : Value), BindsTo s fd ⟨[u], []⟩ [("_law_script", u)]) ∧ ∀ base : Heap, (K w.params).In base → base.Ns mainGlobals mg → FnOk l.prog w (K w.params) mg base CX0 7 fa fd ["_law_script"] (spLaw (K w.params))) :
    PySem.W.WalkO q loose XP YP l.row.toRowW d [] (fun f vs => PySem.call f vs) :=
  L2.walk_of (n := 63) (k := 7) (x := "_law_script") (CX := fun _ => CX0) (sp := fun w => spLaw (K w.params)) hn (by decide) hdf ⟨rfl, by decide, by decide, rfl⟩ hY F (fun _ _ a ns hl _ hS => ⟨a, ns, rfl, hS, hl, fun _ => rfl⟩) fun _ _ _ _ _ z => z
end K08
def PySem.W.Fast.tw17481015414742363970 : Unit := ()
def PySem.W.Fast.tw15126522895306377455 : Unit := ()
def PySem.W.Fast.tw13721501699059384449 : Unit := ()
def PySem.W.Fast.tw10624475598209468480 : Unit := ()
def PySem.W.Fast.tw1165540710366616655 : Unit := ()
def PySem.W.Fast.tw14165029141244521219 : Unit := ()
def PySem.W.Fast.tw1132307549343921393 : Unit := ()
def PySem.W.Fast.tw3900133272490922644 : Unit := ()
def PySem.W.Fast.tw1272600716887119650 : Unit := ()
def PySem.W.Fast.tw5204253858328244630 : Unit := ()
def PySem.W.Fast.tw11560884551445019422 : Unit := ()
def PySem.W.Fast.tw8623001755011681304 : Unit := ()
def PySem.W.Fast.tw8097521814216387883 : Unit := ()
def PySem.W.Fast.tw3007953201573234210 : Unit := ()
def PySem.W.Fast.tw3390649500130367027 : Unit := ()
def PySem.W.Fast.tw16306715191927486793 : Unit := ()
def PySem.W.Fast.tw18287724753859942459 : Unit := ()
def PySem.W.Fast.tw13605632319466323542 : Unit := ()
def PySem.W.Fast.tw1440332370145764522 : Unit := ()
def PySem.W.Fast.tw7039845898449896326 : Unit := ()
def PySem.W.Fast.tw3102306322434090768 : Unit := ()
def PySem.W.Fast.tw13789140308389666405 : Unit := ()
def PySem.W.Fast.tw4230195473114756721 : Unit := ()
def PySem.W.Fast.tw6112720374117419640 : Unit := ()
def PySem.W.Fast.tw15818102075830723381 : Unit := ()
def PySem.W.Fast.tw4187164026957286613 : Unit := ()
def PySem.W.Fast.tw1762043690004828183 : Unit := ()
def PySem.W.Fast.tw13953509185069464545 : Unit := ()
def PySem.W.Fast.tw6082928890626838105 : Unit := ()
def PySem.W.Fast.tw12225374926160248845 : Unit := ()
def PySem.W.Fast.tw14627740621811216636 : Unit := ()
def PySem.W.Fast.tw9510910526919874327 : Unit := ()
def PySem.W.Fast.tw10064734308282520232 : Unit := ()
def PySem.W.Fast.tw585978018813016058 : Unit := ()
def PySem.W.Fast.tw4845511532437491504 : Unit := ()
def PySem.W.Fast.tw9428418714425250516 : Unit := ()
def PySem.W.Fast.tw17902213085049192835 : Unit := ()
def PySem.W.Fast.tw5028766575701653905 : Unit := ()
def PySem.W.Fast.tw10943603212440995964 : Unit := ()
def PySem.W.Fast.tw9195076336544846681 : Unit := ()
def PySem.W.Fast.tw16156671525924333373 : Unit := ()
def PySem.W.Fast.tw4793525561772758314 : Unit := ()
def PySem.W.Fast.tw450163879173641580 : Unit := ()
def PySem.W.Fast.tw9441078032952750898 : Unit := ()
def PySem.W.Fast.tw15539268191621074056 : Unit := ()
open PySem PySem.W PyProof.Rows
set_option maxRecDepth 100000 in
set_option maxHeartbeats 0 in
theorem PySem.Challenge.cw_signscreen_k08_edges_holds : PySem.Challenge.rw_signscreen_k08_edges.Holds := by
  w_on; o_law; k_head; (case hw => w_witness2)
  k_fill
  refine K08.walk (l := PySem.Challenge.rw_signscreen_k08_edges) rfl rfl (fun w h Y => PySem.W.kIn_of Y) ?F
  case F =>
    intro w mg fa h KX G hmg
    refine' K08.all_mk ?T ?X hmg ?e_State ?e_begin ?e_is_whole ?e_is_size ?e_first_stops ?e_edges ?e_at_least_one ?e_counted ?e_to_place ?e_to_home ?e_span ?e_set_rows ?e_set_columns ?e__law_at ?e__law_mixed ?e__law_size ?e__law_number ?e__law_begun ?e__law_edges ?e__law_times ?e__law_placed ?e__law_window ?e__law_told ?e__law_due ?e__law_like ?e__law_refused ?e_law ?e_blank_row ?e_blank_picture
    case T =>
      refine' K08.txt_mk (aB := 0) KX G ?n_len ?n_range ?n_int ?n_bool ?n_dict ?n_tuple ?n_isinstance ?n_enumerate ?n_sorted ?n_repr ?n_min ?n_max ?g_WIDEST ?g_HIGHEST ?g_TAB_STEP ?aC ?pg ?hd ?po ?sa ?a_picture ?a_wide ?a_high ?a_row ?a_column ?a_late ?a_ink ?a_wrap ?a_putting ?a_home ?a_top ?a_bottom ?a_left ?a_right ?a_stops ?a_kept ?a_last
      (case n_len => k_is)
      (case n_range => k_is)
      (case n_int => k_is)
      (case n_bool => k_is)
      (case n_dict => k_is)
      (case n_tuple => k_is)
      (case n_isinstance => k_is)
      (case n_enumerate => k_is)
      (case n_sorted => k_is)
      (case n_repr => k_is)
      (case n_min => k_is)
      (case n_max => k_is)
      (case g_WIDEST => k_is)
      (case g_HIGHEST => k_is)
      (case g_TAB_STEP => k_is)
      (case aC => k_is)
      (case pg => k_is)
      (case hd => k_is)
      (case po => k_is)
      (case sa => k_is)
      (case a_picture => k_is)
      (case a_wide => k_is)
      (case a_high => k_is)
      (case a_row => k_is)
      (case a_column => k_is)
      (case a_late => k_is)
      (case a_ink => k_is)
      (case a_wrap => k_is)
      (case a_putting => k_is)
      (case a_home => k_is)
      (case a_top => k_is)
      (case a_bottom => k_is)
      (case a_left => k_is)
      (case a_right => k_is)
      (case a_stops => k_is)
      (case a_kept => k_is)
      (case a_last => k_is)
    case X =>
      refine' K08.txtx_mk KX G ?c_se ?c_bp ?c_bs ?c_bi ?c_ba ?c_un ?nv ?xm ?xc ?k_se ?k_bp ?k_bs ?k_bi ?k_ba ?k_un ?k_ve
      (case c_se => k_is)
      (case c_bp => k_is)
      (case c_bs => k_is)
      (case c_bi => k_is)
      (case c_ba => k_is)
      (case c_un => k_is)
      (case nv => k_is)
      (case xm => k_exc)
      (case xc => (refine' K08.xclass_mk ?ga ?gh ?cl ?sp ?tk ?mo ?mb ?hd; (case ga => k_is); (case gh => k_is); (case cl => k_is); (case sp => k_is); (case tk => k_is); (case mo => k_is); (case mb => k_is); (case hd => k_is)))
      (case k_se => kts_exm)
      (case k_bp => kit_is)
      (case k_bs => kit_is)
      (case k_bi => kit_is)
      (case k_ba => kit_is)
      (case k_un => kit_is)
      (case k_ve => kit_is)
    case e_State =>
      refine' K08.mk_State ?mk ?a1 ?i1 ?kc ?l ?c ?k
      (case mk => k_is); (case a1 => k_is); (case i1 => k_is); (case kc => k_is); (case l => k_is); (case c => k_is); (case k => k_is)
    case e_begin =>
      refine' K08.mt_begin ?a1 ?i1 ?l ?c ?k
      (case a1 => k_is); (case i1 => k_is); (case l => k_is); (case c => k_is); (case k => k_is)
    case e_blank_row => exact ⟨_, by (refine' K08.fkD KX G ?a ?l ?c ?k ?t ?e; (case a => k_is); (case l => k_is); (case c => k_is); (case k => k_is); (case t => k_is); (case e => rfl))⟩
    case e_blank_picture => exact ⟨_, by (refine' K08.fkD KX G ?a ?l ?c ?k ?t ?e; (case a => k_is); (case l => k_is); (case c => k_is); (case k => k_is); (case t => k_is); (case e => rfl))⟩
    all_goals (refine' K08.fk KX G ?a ?l ?c ?k; (case a => k_is); (case l => k_is); (case c => k_is); (case k => k_is))

