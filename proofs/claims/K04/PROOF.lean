import PyProof.Rows.All
import Wide.All
import OpenK.AllK
import Wide.FinOn
import Lean
import PyProof.EqAt
import PyProof.EqKinds
import PyProof.TupleCall
import KE.KTabLook
import KE.KTryMore
import PyProof.ExcBaseAll.ValueError
import KE.RegKTryMore
import KE.RegKIsAll
import PySem.Challenge.RW_signscreen_k04_unlike_cells
set_option Elab.async false
set_option linter.all false
set_option maxRecDepth 100000
set_option maxHeartbeats 4000000
/-! THE HAND LAYER, for ints, bools, texts, own classes, LISTS and tuples (index, slices, in, append, pop ..), calls, loops. Paste it whole ahead of your own text; what your proof does not reach may be deleted. -/
namespace L2
open PySem PySem.Spec PyProof.Rows

/-- a key: an int or a str -/
abbrev Key := Sum Int Str
def keyIs : Key → Value → Bool
  | .inl k, v => Value.isInt k v
  | .inr x, v => Value.isStrOf x v
def keyH (w : World) : Key → Int
  | .inl k => hashInt k
  | .inr x => hashStr w x
theorem keyIs_shape : ∀ {k : Key} {v : Value}, keyIs k v = true → (∃ i t, k = Sum.inl i ∧ v = Value.int i t) ∨ (∃ x t, k = Sum.inr x ∧ v = Value.str x t)
  | .inl i, v, h => by
    obtain ⟨t, e⟩ := Value.isInt_shape (k := i) (v := v) h
    exact .inl ⟨i, t, rfl, e⟩
  | .inr x, v, h => by
    obtain ⟨t, e⟩ := Value.isStrOf_shape (x := x) (v := v) h
    exact .inr ⟨x, t, rfl, e⟩
theorem key_ll (a b : Int) : decide ((Sum.inl a : Key) = Sum.inl b) = (a == b) := by
  by_cases e : a = b
  · subst e; simp
  · have h : ¬ (Sum.inl a : Key) = Sum.inl b := fun q => e (Sum.inl.inj q)
    rw [decide_eq_false h]
    exact (beq_eq_false_iff_ne.mpr e).symm
theorem key_rr (a b : Str) : decide ((Sum.inr a : Key) = Sum.inr b) = decide (a = b) := by
  by_cases e : a = b
  · subst e; simp
  · have h : ¬ (Sum.inr a : Key) = Sum.inr b := fun q => e (Sum.inr.inj q)
    rw [decide_eq_false h, decide_eq_false e]
theorem key_lr (a : Int) (b : Str) : decide ((Sum.inl a : Key) = Sum.inr b) = false := decide_eq_false (fun q => nomatch q)
theorem key_rl (a : Str) (b : Int) : decide ((Sum.inr a : Key) = Sum.inl b) = false := decide_eq_false (fun q => nomatch q)

def mixKind (prog : Program) (w : World) : PySem.KeyKind prog w Key where
  is := keyIs
  hash := keyH w
  inj := fun v a b ha hb => by
    rcases keyIs_shape ha with ⟨i, t, rfl, rfl⟩ | ⟨x, t, rfl, rfl⟩
    · rcases keyIs_shape hb with ⟨j, u, rfl, e⟩ | ⟨y, u, rfl, e⟩
      · injection e with e1 _; rw [e1]
      · exact nomatch e
    · rcases keyIs_shape hb with ⟨j, u, rfl, e⟩ | ⟨y, u, rfl, e⟩
      · exact nomatch e
      · injection e with e1 _; rw [e1]
  byValue := fun k v h => by
    rcases keyIs_shape h with ⟨i, t, rfl, rfl⟩ | ⟨x, t, rfl, rfl⟩ <;> rfl
  pyHash := fun hv h => by
    rcases keyIs_shape hv with ⟨i, t, rfl, rfl⟩ | ⟨x, t, rfl, rfl⟩
    · exact wpAny_pyHash_int h
    · exact wpAny_pyHash_str h
  eqBool := fun hu hv h => by
    rcases keyIs_shape hu with ⟨i, t, rfl, rfl⟩ | ⟨x, t, rfl, rfl⟩
    · rcases keyIs_shape hv with ⟨j, u, rfl, rfl⟩ | ⟨y, u, rfl, rfl⟩
      · rw [key_ll] at h; exact wpAny_eqBool_int h
      · rw [key_lr] at h; exact SeqAt.EqAt.int_str i t y u _ _ _ _ h
    · rcases keyIs_shape hv with ⟨j, u, rfl, rfl⟩ | ⟨y, u, rfl, rfl⟩
      · rw [key_rl] at h; exact SeqAt.EqAt.str_int x t j u _ _ _ _ h
      · rw [key_rr] at h; exact wpAny_eqBool_str h
  «strs» := fun k x t v h => by
    rcases keyIs_shape h with ⟨i, u, rfl, e⟩ | ⟨y, u, rfl, e⟩
    · exact nomatch e
    · injection e with e1 _
      subst e1
      cases v <;> rfl

end L2

namespace L2
open PySem PySem.Spec PyProof.Rows

/-- a value, without the heap -/
inductive V where
  | non | bl (b : Bool) | int (i : Int) | str (x : Str) | byt (b : Array UInt8) | flt (b : UInt64) | ref (a : Addr) | ty (n : String)
  deriving DecidableEq

def RelV : V → Value → Prop
  | .non, u => u = Value.none
  | .bl b, u => u = Value.bool b
  | .int i, u => ∃ t, u = Value.int i t
  | .str x, u => ∃ t, u = Value.str x t
  | .byt b, u => ∃ t, u = Value.bytes b t
  | .flt b, u => ∃ t, u = Value.float b t
  | .ref a, u => u = Value.ref a
  | .ty n, u => u = Value.type n

abbrev Vals : List V → List Value → Prop := Paired RelV
theorem Vals.length {xs : List V} {us : List Value} (r : Vals xs us) : xs.length = us.length := Paired.length r
theorem Vals.get : ∀ {xs : List V} {us : List Value} {i : Nat} {x : V}, Vals xs us → xs[i]? = some x → ∃ u, us[i]? = some u ∧ RelV x u
  | _, _, _, _, .nil, e => by simp at e
  | _, _, 0, _, .cons r _, e => by simp at e; subst e; exact ⟨_, rfl, r⟩
  | _, _, i + 1, x, .cons _ t, e => by
    obtain ⟨u, h1, h2⟩ := Vals.get (i := i) (x := x) t (by simpa using e)
    exact ⟨u, by simpa using h1, h2⟩
theorem Vals.set {x : V} {u : Value} (r : RelV x u) : ∀ {xs : List V} {us : List Value} (i : Nat), Vals xs us → Vals (xs.set i x) (us.set i u)
  | _, _, _, .nil => .nil
  | _, _, 0, .cons _ t => .cons r t
  | _, _, i + 1, .cons q t => .cons q (Vals.set r i t)
theorem Vals.append : ∀ {xs ys : List V} {us ws : List Value}, Vals xs us → Vals ys ws → Vals (xs ++ ys) (us ++ ws)
  | _, _, _, _, .nil, s => s
  | _, _, _, _, .cons r t, s => .cons r (Vals.append t s)
theorem Vals.take : ∀ {xs : List V} {us : List Value} (n : Nat), Vals xs us → Vals (xs.take n) (us.take n)
  | _, _, 0, _ => .nil
  | _, _, _ + 1, .nil => .nil
  | _, _, n + 1, .cons r t => .cons r (Vals.take n t)
theorem Vals.drop : ∀ {xs : List V} {us : List Value} (n : Nat), Vals xs us → Vals (xs.drop n) (us.drop n)
  | _, _, 0, r => r
  | _, _, _ + 1, .nil => .nil
  | _, _, n + 1, .cons _ t => Vals.drop n t
def RelO : Option V → Option Value → Prop
  | some v, some u => RelV v u
  | none, none => True
  | _, _ => False
def KV {κ : Type} : List (κ × V) → List (κ × Value) → Prop := Paired fun (p : κ × V) (q : κ × Value) => p.1 = q.1 ∧ RelV p.2 q.2

/-- a key of a dict (00_mix): an int or a text -/
def kV : Key → V
  | .inl i => .int i
  | .inr x => .str x

/-- what stands at a tracked address -/
inductive HO where
  /-- a list -/
  | lst (xs : List V)
  /-- a tuple (never changes) -/
  | tup (xs : List V)
  /-- a dict whose keys are ints and texts; one whose keys are tuples of ints and texts (the empty one is both) -/
  | dK (kvs : List (Key × V)) | dT (kvs : List (List Key × V))
  /-- a set of ints: its members, its size -/
  | set (S : Int → Bool) (n : Nat)
  /-- an instance of the class at C, its dict at dx, its attributes -/
  | ins (C dx : Addr) (fs : List (Str × V))
  /-- the dict of the instance at x -/
  | own (x : Addr)
  /-- the dict of an exception -/
  | xd (fs : List (Str × V))
  /-- a bound method, f of x -/
  | met (f x : Addr)
  /-- a range object lo, lo + 1, .. below hi -/
  | rng (lo hi : Int)
  /-- a thing that is known to the object (the script; a dict while a loop walks it): read, never written while it is so -/
  | frz (o : Obj) (u : HO)
  /-- a code object's table -/
  | tbl (ps : Array Value)
  /-- any other thing, by what is true of its one object (a def of one's own: SetO a S n := HO.ext fun h => ..) -/
  | ext (φ : Heap → Prop)

abbrev Hp := Addr → Option HO
def upd (H : Hp) (a : Addr) (o : HO) : Hp := fun b => if b = a then some o else H b
theorem upd_same {H : Hp} {a : Addr} {o : HO} : upd H a o a = some o := by unfold upd; rw [if_pos rfl]
theorem upd_ne {H : Hp} {a b : Addr} {o : HO} (h : b ≠ a) : upd H a o b = H b := by unfold upd; rw [if_neg h]
theorem ne_of_none {H : Hp} {a b : Addr} {o : HO} (h : H a = some o) (h' : H b = none) : a ≠ b := by
  intro e; subst e; rw [h] at h'; cases h'

section
variable (P : Program) (w : World)
def ObjOk (H : Hp) (h : Heap) (a : Addr) : HO → Prop
  | .lst xs => xs.length ≤ sizeLine ∧ ∃ (its : List Value) (n : Nat), Vals xs its ∧ h.get? a = some { cls := .type "list", data := .seq its.toArray n }
  | .tup xs => xs.length ≤ sizeLine ∧ ∃ its : List Value, Vals xs its ∧ IsTup h a its.toArray
  | .dK kvs => kvs.length ≤ sizeLine ∧ (a == sysModules) = false ∧ ∃ vs, KV kvs vs ∧ h.DictOf (mixKind P w) a vs
  | .dT kvs => kvs.length ≤ sizeLine ∧ (a == sysModules) = false ∧ ∃ xs : List (List Key × Addr × Value),
      Paired (fun (p : List Key × V) (q : List Key × Addr × Value) => p.1 = q.1 ∧ H q.2.1 = some (.tup (p.1.map kV)) ∧ RelV p.2 q.2.2) kvs xs ∧
      ∃ o es ep, h.get? a = some o ∧ o.ExactDict ∧ o.data = .dict es ep ∧ es.toList = xs.map (entryOfKey (tupleKind (mixKind P w))) ∧ (xs.map (·.1)).Nodup
  | .set S n => h.SetOf (intKind P w) a S n
  | .ins C dx fs => H dx = some (.own a) ∧ fs.length ≤ 1000 ∧ dx ≠ a ∧ h.get? a = some (PySem.W.instObj C dx) ∧
      ∃ mA, h.Ns1 dx mA ∧ (∀ f, RelO (fs.lookup f) (mA f)) ∧ PySem.Within mA (fs.map (·.1))
  | .own _ => ∃ o, h.get? a = some o
  | .xd fs => ∃ mA, h.Ns1 a mA ∧ ∀ f, RelO (fs.lookup f) (mA f)
  | .rng lo hi => ∃ t u v, h.get? a = some { cls := .type "range", data := .fields #[.int lo t, .int hi u, .int 1 v] }
  | .frz o u => h.get? a = some o ∧ ObjOk H h a u
  | .tbl ps => h.get? a = some { cls := .none, data := .fields ps }
  | .met f x => h.get? a = some (PySem.W.methodObj (.ref f) (.ref x))
  | .ext φ => φ h ∧ (∃ o, h.get? a = some o) ∧ ∀ h1 h2 : Heap, φ h1 → (∀ o, h1.get? a = some o → h2.get? a = some o) → φ h2
/-- the abstract heap is held -/
def HOk (H : Hp) (h : Heap) : Prop := ∀ a o, H a = some o → ObjOk P w H h a o
end

section
variable {P : Program} {w : World} {H H' : Hp} {h h' : Heap} {a : Addr} {o : HO}
theorem ObjOk.lt (x : ObjOk P w H h a o) : a < h.objs.size := by
  cases o with
  | lst xs => obtain ⟨_, _, _, _, e⟩ := x; exact Heap.lt_size e
  | tup xs => obtain ⟨_, _, _, p⟩ := x; exact p.lt
  | dK kvs => obtain ⟨_, _, _, _, o, _, _, e, _⟩ := x; exact Heap.lt_size e
  | dT kvs => obtain ⟨_, _, _, _, o, _, _, e, _⟩ := x; exact Heap.lt_size e
  | set S n => obtain ⟨o, _, _, _, e, _⟩ := x; exact Heap.lt_size e
  | ins C dx fs => obtain ⟨_, _, _, e, _⟩ := x; exact Heap.lt_size e
  | own y => obtain ⟨_, e⟩ := x; exact Heap.lt_size e
  | xd fs => obtain ⟨_, ⟨_, _, _, e, _⟩, _⟩ := x; exact Heap.lt_size e
  | rng lo hi => obtain ⟨_, _, _, e⟩ := x; exact Heap.lt_size e
  | frz ob u => obtain ⟨e, _⟩ := x; exact Heap.lt_size e
  | tbl ps => exact Heap.lt_size (show h.get? a = some _ from x)
  | met f y => exact Heap.lt_size (show h.get? a = some _ from x)
  | ext φ => obtain ⟨_, ⟨_, e⟩, _⟩ := x; exact Heap.lt_size e
theorem Paired.mapP {α β : Type} {F G : α → β → Prop} : ∀ {l₁ : List α} {l₂ : List β}, Paired F l₁ l₂ → (∀ a b, F a b → G a b) → Paired G l₁ l₂
  | _, _, .nil, _ => .nil
  | _, _, .cons r t, f => .cons (f _ _ r) (Paired.mapP t f)
/-- what an object's description leans on: its own object, its own dict, the tuples -/
theorem ObjOk.stay (x : ObjOk P w H h a o) (k : ∀ b u, (b = a ∨ H b = some (.own a)) → h.get? b = some u → h'.get? b = some u)
    (ho : ∀ b, H b = some (.own a) → H' b = some (.own a)) (ht : ∀ b xs, H b = some (.tup xs) → H' b = some (.tup xs)) : ObjOk P w H' h' a o := by
  induction o with
  | lst xs => obtain ⟨z, its, n, r, e⟩ := x; exact ⟨z, its, n, r, k _ _ (.inl rfl) e⟩
  | tup xs => obtain ⟨z, its, r, ob, e, c⟩ := x; exact ⟨z, its, r, ob, k _ _ (.inl rfl) e, c⟩
  | dK kvs => obtain ⟨z, y, vs, r, ob, es, ep, e, c⟩ := x; exact ⟨z, y, vs, r, ob, es, ep, k _ _ (.inl rfl) e, c⟩
  | dT kvs =>
    obtain ⟨z, y, xs, r, ob, es, ep, e, c⟩ := x
    exact ⟨z, y, xs, Paired.mapP r fun p q z => ⟨z.1, ht _ _ z.2.1, z.2.2⟩, ob, es, ep, k _ _ (.inl rfl) e, c⟩
  | set S n => obtain ⟨ob, es, ep, t, e, c⟩ := x; exact ⟨ob, es, ep, t, k _ _ (.inl rfl) e, c⟩
  | ins C dx fs =>
    obtain ⟨d, z, ne, e, mA, ⟨od, es, ep, e2, c⟩, r⟩ := x
    exact ⟨ho _ d, z, ne, k _ _ (.inl rfl) e, mA, ⟨od, es, ep, k _ _ (.inr d) e2, c⟩, r⟩
  | own y => obtain ⟨ob, e⟩ := x; exact ⟨ob, k _ _ (.inl rfl) e⟩
  | xd fs => obtain ⟨mA, ⟨od, es, ep, e, c⟩, r⟩ := x; exact ⟨mA, ⟨od, es, ep, k _ _ (.inl rfl) e, c⟩, r⟩
  | rng lo hi => obtain ⟨t, u, v, e⟩ := x; exact ⟨t, u, v, k _ _ (.inl rfl) e⟩
  | frz ob u ih => obtain ⟨e, q⟩ := x; exact ⟨k _ _ (.inl rfl) e, ih q⟩
  | tbl ps =>
    have e : h.get? a = some { cls := .none, data := .fields ps } := x
    show h'.get? a = some { cls := .none, data := .fields ps }
    exact k a _ (.inl rfl) e
  | met f y =>
    have e : h.get? a = some (PySem.W.methodObj (.ref f) (.ref y)) := x
    show h'.get? a = some (PySem.W.methodObj (.ref f) (.ref y))
    exact k a _ (.inl rfl) e
  | ext φ => obtain ⟨p, ⟨o, e⟩, st⟩ := x; exact ⟨st _ _ p fun o q => k _ _ (.inl rfl) q, ⟨o, k _ _ (.inl rfl) e⟩, st⟩
theorem HOk.lt (x : HOk P w H h) (e : H a = some o) : a < h.objs.size := (x a o e).lt
theorem HOk.fresh (x : HOk P w H h) (e : h.objs.size ≤ a) : H a = none := by
  cases q : H a with
  | none => rfl
  | some u => exact absurd (Nat.lt_of_lt_of_le (x.lt q) e) (Nat.lt_irrefl _)
/-- every object of the heap is kept -/
theorem HOk.kept (x : HOk P w H h) (k : ∀ b u, h.get? b = some u → h'.get? b = some u) : HOk P w H h' := fun a o e =>
  (x a o e).stay (fun b u _ q => k b u q) (fun _ q => q) fun _ _ q => q
/-- a new object is laid and tracked -/
theorem HOk.laid (x : HOk P w H h) (k : ∀ b u, h.get? b = some u → h'.get? b = some u) (hp : h.objs.size ≤ a) (new : ObjOk P w (upd H a o) h' a o) : HOk P w (upd H a o) h' := fun b u e => by
  have hn := x.fresh hp
  by_cases hb : b = a
  · subst hb; rw [upd_same] at e; cases e; exact new
  · rw [upd_ne hb] at e
    exact (x b u e).stay (fun c v _ q => k c v q) (fun c q => by rw [upd_ne (ne_of_none q hn)]; exact q) fun c xs q => by rw [upd_ne (ne_of_none q hn)]; exact q
end

/-- what may be read as u: it is u, or a known u -/
def Rd (H : Hp) (a : Addr) (u : HO) : Prop := H a = some u ∨ ∃ o, H a = some (.frz o u)
theorem Rd.of {H : Hp} {a : Addr} {u : HO} (h : H a = some u) : Rd H a u := .inl h
theorem Rd.ok {P : Program} {w : World} {H : Hp} {h : Heap} {a : Addr} {u : HO} (r : Rd H a u) (x : HOk P w H h) : ObjOk P w H h a u := by
  rcases r with r | ⟨o, r⟩
  · exact x a u r
  · obtain ⟨_, q⟩ := x a _ r
    exact q
/-- what may be written -/
def Mut : Option HO → Prop
  | some (.lst _) => True
  | some (.dK _) => True
  | some (.dT _) => True
  | some (.set _ _) => True
  | some (.ins _ _ _) => True
  | some (.ext _) => True
  | _ => False
section
variable {P : Program} {w : World} {H : Hp} {h h' : Heap} {x e : Addr} {o' : HO}
/-- the object at e is changed: x itself, or the dict of the instance x -/
theorem HOk.write (ok : HOk P w H h) (mu : Mut (H x)) (he : e = x ∨ H e = some (.own x)) (k : ∀ b u, b ≠ e → h.get? b = some u → h'.get? b = some u) (heo : ∃ u, h'.get? e = some u)
    (new : ObjOk P w (upd H x o') h' x o') : HOk P w (upd H x o') h' := fun b u q => by
  have nown : ∀ c y, H c = some (.own y) → c ≠ x := fun c y r z => by subst z; rw [r] at mu; exact mu
  have ntup : ∀ c xs, H c = some (.tup xs) → c ≠ x := fun c xs r z => by subst z; rw [r] at mu; exact mu
  by_cases hb : b = x
  · subst hb; rw [upd_same] at q; cases q; exact new
  · rw [upd_ne hb] at q
    by_cases hbe : b = e
    · have q' : H b = some (.own x) := by
        rcases he with z | z
        · exact absurd (hbe.trans z) hb
        · rw [hbe]; exact z
      rw [q] at q'; cases q'
      obtain ⟨v, hv⟩ := heo
      exact ⟨v, by rw [hbe]; exact hv⟩
    · refine (ok b u q).stay (fun c v hc r => k c v ?_ r) (fun c r => by rw [upd_ne (nown c b r)]; exact r) fun c xs r => by rw [upd_ne (ntup c xs r)]; exact r
      rcases hc with rfl | hc
      · exact hbe
      · rintro rfl
        rcases he with z | z
        · exact nown c b hc z
        · rw [hc] at z; cases z; exact hb rfl
end

/-! ### kept unless tracked; of the frames at fs (the callers') the slots may change (an exception that passes writes there); of the records at ex (iterators) nothing is said -/
structure Un (fs ex : List Addr) (H H' : Hp) (h h' : Heap) : Prop where
  keep : ∀ b o, h.get? b = some o → H b = none → b ∉ fs → b ∉ ex → h'.get? b = some o
  slot : ∀ b o, h.get? b = some o → H b = none → b ∈ fs → b ∉ ex → ∃ sl, h'.get? b = some { o with slots := sl }
  free : ∀ b o, h.get? b = some o → H b = none → b ∉ ex → H' b = none
  there : ∀ b o, h.get? b = some o → b ∉ ex → ∃ o', h'.get? b = some o'
  tups : ∀ b xs, H b = some (.tup xs) → H' b = some (.tup xs)
  frzs : ∀ b o u, H b = some (.frz o u) → H' b = some (.frz o u)
  tbls : ∀ b ps, H b = some (.tbl ps) → ∃ more, H' b = some (.tbl (ps ++ more))
section
variable {fs fs' ex ex' : List Addr} {H H1 H2 : Hp} {h h1 h2 h' : Heap} {a x e : Addr} {o : HO}
theorem Un.any (u : Un fs ex H H1 h h1) {b : Addr} {ob : Obj} (q : h.get? b = some ob) (n : H b = none) (hx : b ∉ ex) : ∃ sl, h1.get? b = some { ob with slots := sl } := by
  by_cases hb : b ∈ fs
  · exact u.slot b ob q n hb hx
  · exact ⟨ob.slots, u.keep b ob q n hb hx⟩
theorem Un.trans (a : Un fs ex H H1 h h1) (b : Un fs ex H1 H2 h1 h2) : Un fs ex H H2 h h2 where
  keep := fun c ob q n hc hx => b.keep c ob (a.keep c ob q n hc hx) (a.free c ob q n hx) hc hx
  slot := fun c ob q n hc hx => by
    obtain ⟨sl, e1⟩ := a.slot c ob q n hc hx
    obtain ⟨sl', e2⟩ := b.slot c _ e1 (a.free c ob q n hx) hc hx
    exact ⟨sl', e2⟩
  free := fun c ob q n hx => by
    obtain ⟨o', e1⟩ := a.there c ob q hx
    exact b.free c o' e1 (a.free c ob q n hx) hx
  there := fun c ob q hx => by
    obtain ⟨o', e1⟩ := a.there c ob q hx
    exact b.there c o' e1 hx
  tups := fun c xs q => b.tups c xs (a.tups c xs q)
  frzs := fun c ob xs q => b.frzs c ob xs (a.frzs c ob xs q)
  tbls := fun c ps q => by
    obtain ⟨m1, e1⟩ := a.tbls c ps q
    obtain ⟨m2, e2⟩ := b.tbls c _ e1
    exact ⟨m1 ++ m2, by rw [e2, Array.append_assoc]⟩
theorem Un.kept (k : ∀ b u, h.get? b = some u → h'.get? b = some u) : Un fs ex H H h h' :=
  ⟨fun b ob q _ _ _ => k b ob q, fun b ob q _ _ _ => ⟨ob.slots, k b ob q⟩, fun _ _ _ n _ => n, fun b ob q _ => ⟨ob, k b ob q⟩, fun _ _ q => q, fun _ _ _ q => q, fun _ ps q => ⟨#[], by rw [q]; simp⟩⟩
theorem Un.refl : Un fs ex H H h h := Un.kept fun _ _ q => q
theorem Un.laid (k : ∀ b u, h.get? b = some u → h'.get? b = some u) (hp : h.objs.size ≤ a) (hn : H a = none) : Un fs ex H (upd H a o) h h' where
  keep := fun b u q _ _ _ => k b u q
  slot := fun b u q _ _ _ => ⟨u.slots, k b u q⟩
  free := fun b u q n _ => by rw [upd_ne (Nat.ne_of_lt (Nat.lt_of_lt_of_le (Heap.lt_size q) hp))]; exact n
  there := fun b u q _ => ⟨u, k b u q⟩
  tups := fun b xs q => by rw [upd_ne (ne_of_none q hn)]; exact q
  frzs := fun b u xs q => by rw [upd_ne (ne_of_none q hn)]; exact q
  tbls := fun b ps q => ⟨#[], by rw [upd_ne (ne_of_none q hn), q]; simp⟩
theorem Un.write (mu : Mut (H x)) (he : e = x ∨ H e = some (.own x)) (k : ∀ b u, b ≠ e → h.get? b = some u → h'.get? b = some u) (heo : ∃ u, h'.get? e = some u) : Un fs ex H (upd H x o) h h' := by
  have hx : ∀ b, H b = none → b ≠ x := fun b n z => by subst z; rw [n] at mu; exact mu
  have hb : ∀ b, H b = none → b ≠ e := fun b n z => by
    subst z
    rcases he with r | r
    · exact hx b n r
    · rw [n] at r; cases r
  have hm : ∀ b u, H b = some u → ¬ Mut (some u) → b ≠ x := fun b u q nm z => by subst z; rw [q] at mu; exact nm mu
  refine ⟨fun b u q n _ _ => k b u (hb b n) q, fun b u q n _ _ => ⟨u.slots, k b u (hb b n) q⟩, fun b u q n _ => by rw [upd_ne (hx b n)]; exact n, fun b u q _ => ?_,
    fun b xs q => by rw [upd_ne (hm b _ q fun z => z)]; exact q, fun b u xs q => by rw [upd_ne (hm b _ q fun z => z)]; exact q, fun b ps q => ⟨#[], by rw [upd_ne (hm b _ q fun z => z), q]; simp⟩⟩
  by_cases hbe : b = e
  · subst hbe; exact heo
  · exact ⟨u, k b u hbe q⟩
theorem Un.mono (u : Un fs ex H H1 h h1) (hs : ∀ b ∈ fs, b ∈ fs') (hx : ∀ b ∈ ex, b ∈ ex') : Un fs' ex' H H1 h h1 :=
  ⟨fun b ob q n hb he => u.keep b ob q n (fun z => hb (hs b z)) fun z => he (hx b z), fun _ _ q n _ he => u.any q n fun z => he (hx _ z), fun b ob q n he => u.free b ob q n fun z => he (hx b z), fun b ob q he => u.there b ob q fun z => he (hx b z), u.tups, u.frzs, u.tbls⟩
end

/-! ### the heap without what is tracked -/
def trk (h : Heap) (H : Hp) : List Addr := (List.range h.objs.size).filter fun a => (H a).isSome
def hidT (h : Heap) (H : Hp) : Heap := PySem.W.hideAll h (trk h H)
theorem hidT_size (h : Heap) (H : Hp) : (hidT h H).objs.size = h.objs.size := PySem.W.hideAll_size _ _
theorem hidT_get {h : Heap} {H : Hp} {b : Addr} {o : Obj} (e : h.get? b = some o) (n : H b = none) : (hidT h H).get? b = some o :=
  PySem.W.hideAll_get _ e fun hm => by
    have q : (H b).isSome = true := (List.mem_filter.mp hm).2
    rw [n] at q; simp at q
theorem of_hidT {h : Heap} {H : Hp} {b : Addr} {o : Obj} (e : (hidT h H).get? b = some o) : h.get? b = some o ∧ H b = none := by
  have e' : h.get? b = some o := PySem.W.of_hideAll (trk h H) e
  refine ⟨e', ?_⟩
  cases q : H b with
  | none => rfl
  | some x =>
    have hm : b ∈ trk h H := List.mem_filter.mpr ⟨List.mem_range.mpr (Heap.lt_size e'), by simp [q]⟩
    have z : (hidT h H).get? b = none := PySem.W.hideAll_none (trk h H) hm
    rw [z] at e; cases e

/-! ### OpenK's ledger, filled with every new object but one -/
def allNews (g h : Heap) (L : Addr) : List (Addr × Obj) := (List.range h.objs.size).filterMap fun a => if a = L ∨ (g.get? a).isSome = true then none else (h.get? a).map fun o => (a, o)
def rest (g h : Heap) (L d : Addr) : List (Addr × Obj) := (allNews g h L).filter fun p => decide (p.1 ≠ d)
end L2

namespace L2
open PySem PySem.Spec PyProof.Rows

/-- the module's facts, over the base: the heap at the law's entry without what is tracked there -/
structure Mod (K : PySem.W.Frag) (mg : Str → Option Value) (base : Heap) : Prop where
  kin : K.In base
  glob : base.Ns mainGlobals mg
  blt : ∃ mb, base.Ns builtinsNs mb ∧ ∀ x : Str, x ≠ "__name__" → mb x = bootBuiltins x
  nolimit : base.NoLimit

/-- the context: a def's body (or a comprehension's block) running. base: fixed through the whole law; s₀, H₀: the entry; outer: the frames whose slots others may change (a def's callers); stack: all frames that run;
   ex: iterators that were made ahead of the entry and are walked here (a comprehension's); fn: the names whose cells were made at the entry (a def: all; a comprehension's block: its own); calm: not within an except suite; pn: pins that every state bears; xe: what is wanted of an exception that leaves the code -/
structure Cx where
  prog : Program
  w : World
  K : PySem.W.Frag
  mg : Str → Option Value
  base : Heap
  A : Around
  N : List Str
  s₀ : Shared
  H₀ : Hp
  env : Env
  outer : List Env
  stack : List Env
  ex : List Addr
  fn : Str → Bool
  calm : Bool
  pn : List (Addr × Obj)
  xe : Value → Shared → Prop
/-- the callers' frames -/
def frs (l : List Env) : List Addr := l.filterMap (·.frame)
abbrev Cx.fs (X : Cx) : List Addr := frs X.outer

def Vis (sc : Scope) (x : Str) : Prop := sc.names.lookup x = some .local ∨ sc.names.lookup x = some .cell ∨ sc.names.lookup x = some .free
def Loc (sc : Scope) (x : Str) : Prop := sc.names.lookup x = some .local ∨ sc.names.lookup x = some .cell
def Look (env : Env) (h : Heap) (m : Str → Option Value) (x : Str) (u : Value) : Prop :=
  (env.kindOf x = some .local ∧ m x = some u) ∨ ((env.kindOf x = some .cell ∨ env.kindOf x = some .free) ∧ ∃ c, env.cells.lookup x = some c ∧ h.IsCell c (some u))

structure Cx.Ok (X : Cx) : Prop where
  mod : Mod X.K X.mg X.base
  kind : X.env.scope.kind = .function
  glob : X.env.globals = mainGlobals
  blt : X.env.builtins = builtinsNs
  above : X.s₀.heap.objs.size ≤ X.env.locals
  inj : ∀ x y c, X.env.cells.lookup x = some c → X.env.cells.lookup y = some c → x = y
  has : ∀ x, (X.env.kindOf x = some .cell ∨ X.env.kindOf x = some .free) → ∃ c, X.env.cells.lookup x = some c
  cab : ∀ x c, X.fn x = true → X.env.cells.lookup x = some c → X.s₀.heap.objs.size ≤ c
  hd : X.calm = true → X.A.handled = none
  frames : X.A.frames = some X.stack
  stk : X.stack = X.outer ∨ (X.stack = X.env :: X.outer ∧ X.env.frame = some X.env.locals)
  exf : ∀ b ∈ X.ex, b ≠ X.env.locals ∧ ∀ x c, X.env.cells.lookup x = some c → c ≠ b
  bs : ∀ b o, X.base.get? b = some o → X.s₀.heap.get? b = some o ∧ X.H₀ b = none
  bsz : X.base.objs.size ≤ X.s₀.heap.objs.size
  noex : ∀ b o, X.base.get? b = some o → b ∉ X.ex
  exfs : ∀ b ∈ X.ex, b ∉ X.fs
  funs : X.s₀.heap.FunFrames X.base X.outer
  frf : ∀ b ∈ X.fs, X.H₀ b = none

structure Inv (X : Cx) (pins : List (Addr × Obj)) (σ : List (Option V)) (H : Hp) (s : Shared) : Prop where
  ok : X.Ok
  os : s.os = X.s₀.os
  bare : AllBare s.gens
  base : Un X.fs X.ex X.H₀ H X.s₀.heap s.heap
  loc : ∃ m, s.heap.Ns X.env.locals m ∧ ∀ (i : Nat) (x : Str) (v : V), X.N[i]? = some x → σ[i]? = some (some v) → Vis X.env.scope x → ∃ u, RelV v u ∧ Look X.env s.heap m x u
  cell : ∀ x c, X.env.cells.lookup x = some c → ∃ v, s.heap.IsCell c v
  free : H X.env.locals = none
  freeC : ∀ x c, X.env.cells.lookup x = some c → H c = none
  pin : ∀ p ∈ X.pn ++ pins, s.heap.get? p.1 = some p.2 ∧ H p.1 = none ∧ p.1 ≠ X.env.locals ∧ p.1 ∉ X.fs ∧ ∀ v, p.2.data ≠ .cell v
  hok : HOk X.prog X.w H s.heap
  len : σ.length = X.N.length

section
variable {X : Cx} {pins : List (Addr × Obj)} {σ : List (Option V)} {H H' : Hp} {s : Shared} {h' : Heap}

theorem Cx.Ok.nofr (ok : X.Ok) {b : Addr} {o : Obj} (e : X.base.get? b = some o) : b ∉ X.fs := fun hb => by
  have := (ok.funs.mem hb).1
  rw [e] at this; cases this
theorem Inv.bs (I : Inv X pins σ H s) : ∀ b o, X.base.get? b = some o → s.heap.get? b = some o ∧ H b = none := fun b o e =>
  ⟨I.base.keep b o (I.ok.bs b o e).1 (I.ok.bs b o e).2 (I.ok.nofr e) (I.ok.noex b o e), I.base.free b o (I.ok.bs b o e).1 (I.ok.bs b o e).2 (I.ok.noex b o e)⟩
theorem Inv.bk (I : Inv X pins σ H s) : ∀ b o, X.base.get? b = some o → s.heap.get? b = some o := fun b o e => (I.bs b o e).1
theorem Inv.mod (I : Inv X pins σ H s) : Mod X.K X.mg X.base := I.ok.mod
theorem Inv.kIn (I : Inv X pins σ H s) : X.K.In s.heap := I.ok.mod.kin.keeps I.bk
theorem Inv.nolimit (I : Inv X pins σ H s) : s.heap.NoLimit := I.ok.mod.nolimit.keeps I.bk
/-- the frame over the base: for OpenK's rules (K.In X.base is I.mod.kin) -/
theorem Inv.fr (I : Inv X pins σ H s) : ∃ m, Fr X.base X.env.locals s.heap m :=
  let ⟨m, hn, _⟩ := I.loc
  ⟨m, hn, I.bk, Nat.le_trans I.ok.bsz I.ok.above⟩
theorem Inv.lt (I : Inv X pins σ H s) : X.env.locals < s.heap.objs.size := let ⟨_, hn, _⟩ := I.loc; hn.lt
theorem Inv.sz (I : Inv X pins σ H s) : X.s₀.heap.objs.size ≤ s.heap.objs.size := Nat.le_trans I.ok.above (Nat.le_of_lt I.lt)
theorem Inv.nofs (I : Inv X pins σ H s) {a : Addr} (h : s.heap.objs.size ≤ a) : a ∉ X.fs := fun hb => by
  obtain ⟨_, o, ho, _⟩ := I.ok.funs.mem hb
  exact absurd (Nat.lt_of_lt_of_le (Heap.lt_size ho) (Nat.le_trans I.sz h)) (Nat.lt_irrefl _)
theorem Inv.cne (I : Inv X pins σ H s) : ∀ x c, X.env.cells.lookup x = some c → c ≠ X.env.locals := fun x c e z => by
  obtain ⟨v, o, ho, hd⟩ := I.cell x c e
  obtain ⟨m, ⟨o', es, ep, ho', hd', _⟩, _⟩ := I.loc
  rw [z, ho'] at ho; cases ho; rw [hd'] at hd; cases hd
theorem Inv.funs (I : Inv X pins σ H s) : s.heap.FunFrames X.base X.outer := by
  have all : ∀ (l : List Env), (∀ b ∈ frs l, b ∈ X.fs) → X.s₀.heap.FunFrames X.base l → s.heap.FunFrames X.base l := by
    intro l
    induction l with
    | nil => intro _ _; trivial
    | cons env r ih =>
      intro hs hl
      obtain ⟨hk, ⟨L, o, hf, hn, ho, hd⟩, hr⟩ := hl
      have hL : L ∈ X.fs := hs L (by unfold frs; rw [List.filterMap_cons, hf]; exact List.mem_cons_self)
      obtain ⟨sl, e⟩ := I.base.slot L o ho (I.ok.frf L hL) hL fun z => I.ok.exfs L z hL
      exact ⟨hk, ⟨L, _, hf, hn, e, hd⟩, ih (fun b hb => hs b (by unfold frs; rw [List.filterMap_cons, hf]; exact List.mem_cons_of_mem _ hb)) hr⟩
  exact all X.outer (fun _ hb => hb) I.ok.funs

/-- the frames that run, for a call -/
theorem Inv.stack (I : Inv X pins σ H s) : s.heap.FunFrames X.base X.stack := by
  rcases I.ok.stk with e | ⟨e, hf⟩
  · rw [e]; exact I.funs
  · rw [e]
    obtain ⟨m, hn, _⟩ := I.loc
    refine .cons (by rw [I.ok.kind]; decide) hf hn ?_ I.funs
    exact Heap.get?_none_of_le (Nat.le_trans I.ok.bsz I.ok.above)
theorem Inv.stkSub (I : Inv X pins σ H s) : ∀ b ∈ frs X.stack, b ∈ X.env.locals :: X.fs := fun b hb => by
  rcases I.ok.stk with e | ⟨e, hf⟩
  · rw [e] at hb; exact List.mem_cons_of_mem _ hb
  · rw [e] at hb
    unfold frs at hb
    rw [List.filterMap_cons, hf] at hb
    exact hb
theorem Inv.stkFree (I : Inv X pins σ H s) : ∀ b ∈ frs X.stack, H b = none := fun b hb => by
  rcases List.mem_cons.mp (I.stkSub b hb) with e | hb
  · rw [e]; exact I.free
  · obtain ⟨_, o, ho, _⟩ := I.ok.funs.mem hb
    exact I.base.free b o ho (I.ok.frf b hb) fun z => I.ok.exfs b z hb

/-- THE STEP: the untracked objects but the frame and the records at ch are kept (the callers' frames up to slots), the frame's map is kept, the new abstract heap is held -/
theorem Inv.step {g' : Array GenState} {t' : Nat} {d' : Drawn} {ch : List Addr} (I : Inv X pins σ H s)
    (hch : ∀ b ∈ ch, (b ∈ X.ex ∨ X.s₀.heap.objs.size ≤ b) ∧ b ≠ X.env.locals ∧ (∀ x c, X.env.cells.lookup x = some c → c ≠ b) ∧ ∀ p ∈ X.pn ++ pins, p.1 ≠ b)
    (keep : ∀ b o, b ≠ X.env.locals → b ∉ X.fs → b ∉ ch → s.heap.get? b = some o → H b = none → h'.get? b = some o)
    (slot : ∀ b o, b ≠ X.env.locals → b ∈ X.fs → b ∉ ch → s.heap.get? b = some o → H b = none → ∃ sl, h'.get? b = some { o with slots := sl }) (free : ∀ b o, b ∉ ch → s.heap.get? b = some o → H b = none → H' b = none)
    (there : ∀ b o, b ∉ ch → s.heap.get? b = some o → ∃ o', h'.get? b = some o')
    (tups : ∀ b xs, H b = some (.tup xs) → H' b = some (.tup xs)) (frzs : ∀ b o u, H b = some (.frz o u) → H' b = some (.frz o u)) (tbls : ∀ b ps, H b = some (.tbl ps) → ∃ more, H' b = some (.tbl (ps ++ more)))
    (ns : ∀ m, s.heap.Ns X.env.locals m → h'.Ns X.env.locals m) (hok : HOk X.prog X.w H' h') (hg : AllBare g') :
    Inv X pins σ H' { s with heap := h', gens := g', drawn := d', toks := t' } := by
  have neL : ∀ b o, X.s₀.heap.get? b = some o → b ≠ X.env.locals := fun b o e => Nat.ne_of_lt (Nat.lt_of_lt_of_le (Heap.lt_size e) I.ok.above)
  have neC : ∀ b o, X.s₀.heap.get? b = some o → b ∉ X.ex → b ∉ ch := fun b o e hx hb => by
    rcases (hch b hb).1 with z | z
    · exact hx z
    · exact absurd (Nat.lt_of_lt_of_le (Heap.lt_size e) z) (Nat.lt_irrefl _)
  have cellK : ∀ x c, X.env.cells.lookup x = some c → ∀ v, s.heap.IsCell c v → h'.IsCell c v := fun x c e v ⟨o, ho, hd⟩ => by
    have nch : c ∉ ch := fun z => (hch c z).2.2.1 x c e rfl
    by_cases hc : c ∈ X.fs
    · obtain ⟨sl, q⟩ := slot c o (I.cne x c e) hc nch ho (I.freeC x c e)
      exact ⟨_, q, hd⟩
    · exact ⟨o, keep c o (I.cne x c e) hc nch ho (I.freeC x c e), hd⟩
  refine ⟨I.ok, I.os, hg, ⟨fun b o e n hb hx => ?_, fun b o e n hb hx => ?_, fun b o e n hx => ?_, fun b o e hx => ?_, fun b xs e => tups b xs (I.base.tups b xs e), fun b o xs e => frzs b o xs (I.base.frzs b o xs e), fun b ps e => ?_⟩, ?_, fun x c e => ?_, ?_, fun x c e => ?_, fun p hp => ?_, hok, I.len⟩
  · exact keep b o (neL b o e) hb (neC b o e hx) (I.base.keep b o e n hb hx) (I.base.free b o e n hx)
  · obtain ⟨sl, e1⟩ := I.base.slot b o e n hb hx
    obtain ⟨sl', e2⟩ := slot b _ (neL b o e) hb (neC b o e hx) e1 (I.base.free b o e n hx)
    exact ⟨sl', e2⟩
  · obtain ⟨o', e1⟩ := I.base.there b o e hx
    exact free b o' (neC b o e hx) e1 (I.base.free b o e n hx)
  · obtain ⟨o', e1⟩ := I.base.there b o e hx
    exact there b o' (neC b o e hx) e1
  · obtain ⟨m1, e1⟩ := I.base.tbls b ps e
    obtain ⟨m2, e2⟩ := tbls b _ e1
    exact ⟨m1 ++ m2, by rw [e2, Array.append_assoc]⟩
  · obtain ⟨m, hn, hl⟩ := I.loc
    refine ⟨m, ns m hn, fun i x v e1 e2 e3 => ?_⟩
    obtain ⟨u, r, l⟩ := hl i x v e1 e2 e3
    refine ⟨u, r, ?_⟩
    rcases l with l | ⟨k, c, e, z⟩
    · exact .inl l
    · exact .inr ⟨k, c, e, cellK x c e _ z⟩
  · obtain ⟨v, z⟩ := I.cell x c e
    exact ⟨v, cellK x c e v z⟩
  · obtain ⟨m, ⟨o, _, _, ho, _⟩, _⟩ := I.loc
    exact free _ o (fun z => (hch _ z).2.1 rfl) ho I.free
  · obtain ⟨v, o, ho, hd⟩ := I.cell x c e
    exact free c o (fun z => (hch c z).2.2.1 x c e rfl) ho (I.freeC x c e)
  · obtain ⟨e, n, ne, nf, d⟩ := I.pin p hp
    have nch : p.1 ∉ ch := fun z => (hch p.1 z).2.2.2 p hp rfl
    exact ⟨keep p.1 p.2 ne nf nch e n, free p.1 p.2 nch e n, ne, nf, d⟩
/-- .. where the frame's own object is kept too -/
theorem Inv.un {t' : Nat} (I : Inv X pins σ H s) (u : Un X.fs [] H H' s.heap h') (hok : HOk X.prog X.w H' h') : Inv X pins σ H' { s with heap := h', toks := t' } := by
  obtain ⟨m, ⟨o, es, ep, ho, r⟩, _⟩ := id I.loc
  obtain ⟨sl, hL⟩ := u.any ho I.free (by simp)
  exact I.step (g' := s.gens) (d' := s.drawn) (ch := []) (fun _ z => nomatch z) (fun b o _ hb _ e n => u.keep b o e n hb (by simp)) (fun b o _ hb _ e n => u.slot b o e n hb (by simp)) (fun b o _ e n => u.free b o e n (by simp)) (fun b o _ e => u.there b o e (by simp)) u.tups u.frzs u.tbls (fun m' hm => by
    obtain ⟨o', es', ep', ho', r'⟩ := hm
    rw [ho] at ho'; cases ho'
    exact ⟨_, es', ep', hL, r'⟩) hok I.bare
/-- behind a call (or a comprehension's block): the slots of this frame may have changed too, the records at ch may have turned -/
theorem Inv.call {g' : Array GenState} {t' : Nat} {d' : Drawn} {ch : List Addr} (I : Inv X pins σ H s) (u : Un (frs X.stack) ch H H' s.heap h') (hok : HOk X.prog X.w H' h') (hg : AllBare g')
    (hch : ∀ b ∈ ch, (b ∈ X.ex ∨ X.s₀.heap.objs.size ≤ b) ∧ b ≠ X.env.locals ∧ (∀ x c, X.env.cells.lookup x = some c → c ≠ b) ∧ ∀ p ∈ X.pn ++ pins, p.1 ≠ b) :
    Inv X pins σ H' { s with heap := h', gens := g', drawn := d', toks := t' } := by
  obtain ⟨m, ⟨o, es, ep, ho, r⟩, _⟩ := id I.loc
  obtain ⟨sl, hL⟩ := u.any ho I.free fun z => (hch _ z).2.1 rfl
  exact I.step (ch := ch) hch (fun b o hL hb hc e n => u.keep b o e n (fun z => (List.mem_cons.mp (I.stkSub b z)).elim hL hb) hc) (fun b o _ _ hc e n => u.any e n hc) (fun b o hc e n => u.free b o e n hc) (fun b o hc e => u.there b o e hc) u.tups u.frzs u.tbls (fun m' hm => by
    obtain ⟨o', es', ep', ho', r'⟩ := hm
    rw [ho] at ho'; cases ho'
    exact ⟨_, es', ep', hL, r'⟩) hok hg
/-- an untracked record of ours (an iterator) has turned -/
theorem Inv.turned {t' : Nat} {it : Addr} (I : Inv X pins σ H s) (k : ∀ b o, b ≠ it → s.heap.get? b = some o → h'.get? b = some o) (hn : H it = none) (hL : it ≠ X.env.locals)
    (h1 : it ∈ X.ex ∨ X.s₀.heap.objs.size ≤ it) (h2 : ∀ x c, X.env.cells.lookup x = some c → c ≠ it) (h3 : ∀ p ∈ X.pn ++ pins, p.1 ≠ it) : Inv X pins σ H { s with heap := h', toks := t' } := by
  have nit : ∀ b u, H b = some u → b ≠ it := fun b u e z => by rw [z, hn] at e; cases e
  refine I.step (g' := s.gens) (d' := s.drawn) (ch := [it]) (fun b hb => ?_) (fun b o _ _ hc e _ => k b o (fun z => hc (by simp [z])) e) (fun b o _ _ hc e _ => ⟨o.slots, k b o (fun z => hc (by simp [z])) e⟩) (fun _ _ _ _ n => n)
    (fun b o hc e => ⟨o, k b o (fun z => hc (by simp [z])) e⟩) (fun _ _ e => e) (fun _ _ _ e => e) (fun b ps e => ⟨#[], by rw [e]; simp⟩) (fun m hm => ?_) (fun b u e => ?_) I.bare
  · have e : b = it := by simpa using hb
    subst e
    exact ⟨h1, hL, h2, h3⟩
  · obtain ⟨o, es, ep, ho, r⟩ := hm
    exact ⟨o, es, ep, k _ o (Ne.symm hL) ho, r⟩
  · refine (I.hok b u e).stay (fun c v hc q => k c v ?_ q) (fun _ q => q) fun _ _ q => q
    rcases hc with z | z
    · rw [z]; exact nit b u e
    · exact nit c _ z
theorem Inv.tok (I : Inv X pins σ H s) (t : Nat) : Inv X pins σ H { s with toks := t } := I.un (h' := s.heap) (t' := t) Un.refl I.hok
/-- all objects kept -/
theorem Inv.kept {t' : Nat} (I : Inv X pins σ H s) (k : ∀ b u, s.heap.get? b = some u → h'.get? b = some u) : Inv X pins σ H { s with heap := h', toks := t' } := I.un (Un.kept k) (I.hok.kept k)
/-- a new object laid and tracked -/
theorem Inv.laid {a : Addr} {o : HO} {t' : Nat} (I : Inv X pins σ H s) (k : ∀ b u, s.heap.get? b = some u → h'.get? b = some u) (hp : s.heap.objs.size ≤ a) (new : ObjOk X.prog X.w (upd H a o) h' a o) :
    Inv X pins σ (upd H a o) { s with heap := h', toks := t' } := I.un (Un.laid k hp (I.hok.fresh hp)) (I.hok.laid k hp new)
/-- an object written -/
theorem Inv.write {x e : Addr} {o : HO} {t' : Nat} (I : Inv X pins σ H s) (mu : Mut (H x)) (he : e = x ∨ H e = some (.own x)) (k : ∀ b u, b ≠ e → s.heap.get? b = some u → h'.get? b = some u) (heo : ∃ u, h'.get? e = some u)
    (new : ObjOk X.prog X.w (upd H x o) h' x o) : Inv X pins σ (upd H x o) { s with heap := h', toks := t' } := I.un (Un.write mu he k heo) (I.hok.write mu he k heo new)
/-- forgetting slots, pins -/
theorem Inv.weak {σ' : List (Option V)} (I : Inv X pins σ H s) (hl : σ'.length = σ.length) (w : ∀ (i : Nat) v, σ'[i]? = some (some v) → σ[i]? = some (some v)) : Inv X pins σ' H s :=
  ⟨I.ok, I.os, I.bare, I.base, let ⟨m, hn, hl'⟩ := I.loc; ⟨m, hn, fun i x v e1 e2 e3 => hl' i x v e1 (w i v e2) e3⟩, I.cell, I.free, I.freeC, I.pin, I.hok, hl.trans I.len⟩
theorem Inv.pins_of {pins' : List (Addr × Obj)} (I : Inv X pins σ H s) (h : ∀ p ∈ pins', s.heap.get? p.1 = some p.2 ∧ H p.1 = none ∧ p.1 ≠ X.env.locals ∧ p.1 ∉ X.fs ∧ ∀ v, p.2.data ≠ .cell v) : Inv X pins' σ H s :=
  ⟨I.ok, I.os, I.bare, I.base, I.loc, I.cell, I.free, I.freeC, fun p hp => (List.mem_append.mp hp).elim (fun z => I.pin p (List.mem_append_left _ z)) (h p), I.hok, I.len⟩

theorem nodup_ix {N : List Str} (hN : N.Nodup) {i j : Nat} {x : Str} (a : N[i]? = some x) (b : N[j]? = some x) : i = j := by
  obtain ⟨h1, e1⟩ := List.getElem?_eq_some_iff.mp a
  obtain ⟨h2, e2⟩ := List.getElem?_eq_some_iff.mp b
  exact (List.getElem_inj hN).mp (e1.trans e2.symm)

/-- a name is stored; what changed -/
theorem store_ok2 {M : Model} {A : Around} {E : Value → Shared → Prop} {i : Nat} {x : Str} {v : V} {u : Value} {Q : Unit → Shared → Prop} (I : Inv X pins σ H s) (hN : X.N.Nodup) (hi : X.N[i]? = some x) (hx : Loc X.env.scope x) (r : RelV v u)
    (h : ∀ s', Inv X pins (σ.set i (some v)) H s' → (∃ a, Heap.SameBut a s.heap s'.heap ∧ (a = X.env.locals ∨ X.env.cells.lookup x = some a)) → Q () s') (hf : X.fn x = true ∨ X.env.scope.names.lookup x = some .local := by first | exact .inl rfl | exact .inr rfl | assumption) : wpAny M A (storeName X.env x u) Q E s := by
  obtain ⟨m, hn, hl⟩ := id I.loc
  have hcls : (X.env.scope.kind == .class || (X.env.scope.kind == .module && X.env.locals != X.env.globals)) = false := by rw [I.ok.kind]; rfl
  have hiσ : i < σ.length := by rw [I.len]; exact (List.getElem?_eq_some_iff.mp hi).1
  have cne := I.cne
  have tracked : ∀ {a : Addr} {h' : Heap}, (∃ o, s.heap.get? a = some o ∧ H a = none) → Heap.SameBut a s.heap h' → HOk X.prog X.w H h' := fun {a h'} ha hs b ob e => by
    obtain ⟨_, _, hfree⟩ := ha
    refine (I.hok b ob e).stay (fun c w' hc q => (hs.2 c ?_).trans q) (fun _ q => q) fun _ _ q => q
    rintro rfl
    rcases hc with rfl | hc
    · rw [hfree] at e; cases e
    · rw [hfree] at hc; cases hc
  rcases hx with hk | hk
  · refine wpAny_storeName_local hk hn (fun h' hn' hs => ?_) hcls
    obtain ⟨oL, _, _, hoL, _⟩ := id hn
    refine h _ ⟨I.ok, I.os, I.bare, ⟨fun b o e n hb hx => ?_, fun b o e n hb hx => ?_, I.base.free, fun b o e hx => ?_, I.base.tups, I.base.frzs, I.base.tbls⟩, ⟨_, hn', fun j y v' e1 e2 e3 => ?_⟩, fun y c e => ?_, I.free, I.freeC, fun p hp => ?_, tracked ⟨oL, hoL, I.free⟩ hs, by simpa using I.len⟩ ⟨_, hs, .inl rfl⟩
    · exact (hs.2 b (Nat.ne_of_lt (Nat.lt_of_lt_of_le (Heap.lt_size e) I.ok.above))).trans (I.base.keep b o e n hb hx)
    · obtain ⟨sl, e1⟩ := I.base.slot b o e n hb hx
      exact ⟨sl, (hs.2 b (Nat.ne_of_lt (Nat.lt_of_lt_of_le (Heap.lt_size e) I.ok.above))).trans e1⟩
    · obtain ⟨o', e1⟩ := I.base.there b o e hx
      exact ⟨o', (hs.2 b (Nat.ne_of_lt (Nat.lt_of_lt_of_le (Heap.lt_size e) I.ok.above))).trans e1⟩
    · by_cases hj : j = i
      · subst hj
        rw [hi] at e1; cases e1
        rw [List.getElem?_set_self hiσ] at e2
        cases e2
        exact ⟨u, r, .inl ⟨hk, by simp⟩⟩
      · rw [List.getElem?_set_ne (Ne.symm hj)] at e2
        obtain ⟨u', r', q⟩ := hl j y v' e1 e2 e3
        refine ⟨u', r', ?_⟩
        rcases q with ⟨k, e⟩ | ⟨k, c, e, z⟩
        · refine .inl ⟨k, ?_⟩
          have : y ≠ x := fun e => hj (nodup_ix hN e1 (e ▸ hi))
          simp [this, e]
        · exact .inr ⟨k, c, e, z.sameBut hs (cne y c e)⟩
    · obtain ⟨w', z⟩ := I.cell y c e
      exact ⟨w', z.sameBut hs (cne y c e)⟩
    · obtain ⟨e, n, ne, nf, d⟩ := I.pin p hp
      exact ⟨(hs.2 p.1 ne).trans e, n, ne, nf, d⟩
  · have hfn : X.fn x = true := by
      rcases hf with z | z
      · exact z
      · rw [z] at hk; cases hk
    obtain ⟨c, hc⟩ := I.ok.has x (.inl hk)
    obtain ⟨w', z⟩ := I.cell x c hc
    refine wpAny_storeName_cell I.ok.kind hk hc z (fun h' hc' hs => ?_)
    obtain ⟨oc, hoc, hocd⟩ := id z
    refine h { s with heap := h' } ⟨I.ok, I.os, I.bare, ⟨fun b o e n hb hx => ?_, fun b o e n hb hx => ?_, I.base.free, fun b o e hx => ?_, I.base.tups, I.base.frzs, I.base.tbls⟩, ⟨m, hn.sameBut hs (Ne.symm (cne x c hc)), fun j y v' e1 e2 e3 => ?_⟩, fun y c' e => ?_, I.free, I.freeC, fun p hp => ?_, tracked ⟨oc, hoc, I.freeC x c hc⟩ hs, by simpa using I.len⟩ ⟨c, hs, .inr hc⟩
    · exact (hs.2 b (Nat.ne_of_lt (Nat.lt_of_lt_of_le (Heap.lt_size e) (I.ok.cab x c hfn hc)))).trans (I.base.keep b o e n hb hx)
    · obtain ⟨sl, e1⟩ := I.base.slot b o e n hb hx
      exact ⟨sl, (hs.2 b (Nat.ne_of_lt (Nat.lt_of_lt_of_le (Heap.lt_size e) (I.ok.cab x c hfn hc)))).trans e1⟩
    · obtain ⟨o', e1⟩ := I.base.there b o e hx
      exact ⟨o', (hs.2 b (Nat.ne_of_lt (Nat.lt_of_lt_of_le (Heap.lt_size e) (I.ok.cab x c hfn hc)))).trans e1⟩
    · by_cases hj : j = i
      · subst hj
        rw [hi] at e1; cases e1
        rw [List.getElem?_set_self hiσ] at e2
        cases e2
        exact ⟨u, r, .inr ⟨.inl hk, c, hc, hc'⟩⟩
      · rw [List.getElem?_set_ne (Ne.symm hj)] at e2
        obtain ⟨u', r', q⟩ := hl j y v' e1 e2 e3
        refine ⟨u', r', ?_⟩
        rcases q with q | ⟨k, c', e, z'⟩
        · exact .inl q
        · refine .inr ⟨k, c', e, z'.sameBut hs ?_⟩
          rintro rfl
          exact hj (nodup_ix hN e1 (I.ok.inj _ _ _ e hc ▸ hi))
    · by_cases hcc : c' = c
      · subst hcc; exact ⟨_, hc'⟩
      · obtain ⟨w2, z2⟩ := I.cell y c' e
        exact ⟨w2, z2.sameBut hs hcc⟩
    · obtain ⟨e, n, ne, nf, d⟩ := I.pin p hp
      refine ⟨(hs.2 p.1 ?_).trans e, n, ne, nf, d⟩
      intro q
      rw [q, hoc] at e
      have q' : oc = p.2 := Option.some.inj e
      exact d w' (by rw [← q']; exact hocd)
theorem store_ok {M : Model} {A : Around} {E : Value → Shared → Prop} {i : Nat} {x : Str} {v : V} {u : Value} {Q : Unit → Shared → Prop} (I : Inv X pins σ H s) (hN : X.N.Nodup) (hi : X.N[i]? = some x) (hx : Loc X.env.scope x) (r : RelV v u)
    (h : ∀ s', Inv X pins (σ.set i (some v)) H s' → Q () s') (hf : X.fn x = true ∨ X.env.scope.names.lookup x = some .local := by first | exact .inl rfl | exact .inr rfl | assumption) : wpAny M A (storeName X.env x u) Q E s :=
  store_ok2 I hN hi hx r (fun s' I' _ => h s' I') hf
/-- behind a call or a block, the state as it is -/
theorem Inv.call' {s' : Shared} {ch : List Addr} (I : Inv X pins σ H s) (ho : s'.os = s.os) (u : Un (frs X.stack) ch H H' s.heap s'.heap) (hok : HOk X.prog X.w H' s'.heap) (hg : AllBare s'.gens)
    (hch : ∀ b ∈ ch, (b ∈ X.ex ∨ X.s₀.heap.objs.size ≤ b) ∧ b ≠ X.env.locals ∧ (∀ x c, X.env.cells.lookup x = some c → c ≠ b) ∧ ∀ p ∈ X.pn ++ pins, p.1 ≠ b) : Inv X pins σ H' s' := by
  obtain ⟨h', g', d', t', o'⟩ := s'
  have e : o' = s.os := ho
  subst e
  exact I.call (g' := g') (t' := t') (d' := d') u hok hg hch
end

/-! ### the judgements -/
/-- an exception: its class, its own dict's address (where it has one), the abstract heap behind it -/
abbrev XK := Value → Option Addr → Hp → Prop
abbrev St := List (Option V)
abbrev VK := V → Hp → Prop
/-- an expression's reading; a test's; an argument list's -/
abbrev TE := St → Hp → VK → Prop
abbrev TT := St → Hp → (Bool → Hp → Prop) → Prop
abbrev TA := St → Hp → (List V → Hp → Prop) → Prop
/-- what is wanted behind a statement -/
structure Ends where
  nx : St → Hp → Prop
  rt : VK
  bk : St → Hp → Prop := fun _ _ => False
  ct : St → Hp → Prop := fun _ _ => False
abbrev TS := Ends → St → Hp → Prop

def EP (X : Cx) (pins : List (Addr × Obj)) (σ : St) (Q : VK) (u : Value) (s' : Shared) : Prop := ∃ v H', Inv X pins σ H' s' ∧ RelV v u ∧ Q v H'
def TP (X : Cx) (pins : List (Addr × Obj)) (σ : St) (Q : Bool → Hp → Prop) (b : Bool) (s' : Shared) : Prop := ∃ H', Inv X pins σ H' s' ∧ Q b H'
def AP (X : Cx) (pins : List (Addr × Obj)) (σ : St) (Q : List V → Hp → Prop) (us : List Value) (s' : Shared) : Prop := ∃ vs H', Inv X pins σ H' s' ∧ Vals vs us ∧ Q vs H'
def SP (X : Cx) (pins : List (Addr × Obj)) (D : Ends) (f : Flow) (s' : Shared) : Prop :=
  match f with
  | .next => ∃ σ' H', Inv X pins σ' H' s' ∧ D.nx σ' H'
  | .brk => ∃ σ' H', Inv X pins σ' H' s' ∧ D.bk σ' H'
  | .cont => ∃ σ' H', Inv X pins σ' H' s' ∧ D.ct σ' H'
  | .ret u => ∃ v σ' H', Inv X pins σ' H' s' ∧ RelV v u ∧ D.rt v H'

def PE (X : Cx) (e : Expr) (t : TE) : Prop :=
  ∀ (pins : List (Addr × Obj)) (s : Shared) (σ : St) (H : Hp) (Q : VK), Inv X pins σ H s → t σ H Q → wpAny (model X.prog X.w) X.A (eval e X.env) (EP X pins σ Q) X.xe s
def PT (X : Cx) (e : Expr) (t : TT) : Prop :=
  ∀ (pins : List (Addr × Obj)) (s : Shared) (σ : St) (H : Hp) (Q : Bool → Hp → Prop), Inv X pins σ H s → t σ H Q → wpAny (model X.prog X.w) X.A (isTrue e X.env (eval e X.env)) (TP X pins σ Q) X.xe s
/-- a test whatever its 'whole' is (and, or) -/
def PW (X : Cx) (e : Expr) (t : TT) : Prop :=
  ∀ (whole : Sem Value) (pins : List (Addr × Obj)) (s : Shared) (σ : St) (H : Hp) (Q : Bool → Hp → Prop), Inv X pins σ H s → t σ H Q → wpAny (model X.prog X.w) X.A (isTrue e X.env whole) (TP X pins σ Q) X.xe s
theorem PW.pt {X : Cx} {e : Expr} {t : TT} (h : PW X e t) : PT X e t := h _
/-- an argument list (no star), from the left -/
def PA (X : Cx) (es : List Expr) (t : TA) : Prop :=
  ∀ (pos : Pos) (pins : List (Addr × Obj)) (s : Shared) (σ : St) (H : Hp) (Q : List V → Hp → Prop), Inv X pins σ H s → t σ H Q → wpAny (model X.prog X.w) X.A (spliced (backTo pos (starEach es X.env))) (AP X pins σ Q) X.xe s
def PS (X : Cx) (st : Stmt) (t : TS) : Prop :=
  ∀ (pins : List (Addr × Obj)) (s : Shared) (σ : St) (H : Hp) (D : Ends), Inv X pins σ H s → t D σ H → wpAny (model X.prog X.w) X.A (exec st X.env) (SP X pins D) X.xe s
def PSs (X : Cx) (st : List Stmt) (t : TS) : Prop :=
  ∀ (pins : List (Addr × Obj)) (s : Shared) (σ : St) (H : Hp) (D : Ends), Inv X pins σ H s → t D σ H → wpAny (model X.prog X.w) X.A (execs st X.env) (SP X pins D) X.xe s
/-- weaken the end -/
theorem thn {α : Type} {t : Sem α} {Q Q' : α → Shared → Prop} {M : Model} {A : Around} {E : Value → Shared → Prop} {s : Shared} (h : wpAny M A t Q E s) (hQ : ∀ a s, Q a s → Q' a s) : wpAny M A t Q' E s := wpAny_mono h hQ fun _ _ x => x
end L2

namespace L2
open PySem PySem.Spec PyProof.Rows
section
variable {X : Cx}

/-! ### names and constants -/
def tVar (i : Nat) : TE := fun σ H Q => ∃ v, σ[i]? = some (some v) ∧ Q v H
def tC (v : V) : TE := fun _ H Q => Q v H
theorem pe_var {i : Nat} {x : Str} {pos : Pos} (hN : X.N[i]? = some x) (hv : Vis X.env.scope x) (hd : (x == ("__debug__" : Str)) = false := by decide) (hcd : (x == ("__classdict__" : Str)) = false := by decide) : PE X (.Name x pos) (tVar i) := by
  intro pins s σ H Q I h
  obtain ⟨v, e, h⟩ := h
  obtain ⟨m, hn, hl⟩ := I.loc
  obtain ⟨u, r, l⟩ := hl i x v hN e hv
  have fin : EP X pins σ Q u s := ⟨v, H, I, r, h⟩
  rcases l with ⟨hk, hm⟩ | ⟨hk, c, hc, hcell⟩
  · exact wpAny_Name (wpAny_loadName_local I.ok.kind hk hn hm fin) hd
  · rcases hk with hk | hk
    · exact wpAny_Name (wpAny_loadName_cell I.ok.kind hk hc hcell fin) hd
    · exact wpAny_Name (wpAny_loadName_free I.ok.kind hk hc hcell fin hcd) hd
theorem pe_int {i j pos} : PE X (.Constant (.int i) j pos) (tC (.int i)) := fun _ _ _ H _ I h => wpAny_Constant_int ⟨.int i, H, I.tok _, ⟨_, rfl⟩, h⟩
theorem pe_bl {b j pos} : PE X (.Constant (.bool b) j pos) (tC (.bl b)) := fun _ _ _ H _ I h => Constant_bool ⟨.bl b, H, I, rfl, h⟩
theorem pe_non {j pos} : PE X (.Constant .none j pos) (tC .non) := fun _ _ _ H _ I h => Constant_none ⟨.non, H, I, rfl, h⟩
theorem pe_str {x j pos} : PE X (.Constant (.str x) j pos) (tC (.str x)) := fun _ _ _ H _ I h => Calls.Constant_str ⟨.str x, H, I.tok _, ⟨_, rfl⟩, h⟩

/-- a global name of the def -/
def Gl (X : Cx) (x : Str) : Prop := X.env.kindOf x = some .globalImplicit
theorem ld_glob {E : Value → Shared → Prop} {pins : List (Addr × Obj)} {s : Shared} {σ : St} {H : Hp} {x : Str} {u : Value} {pos : Pos} {Q : Value → Shared → Prop} (I : Inv X pins σ H s) (hg : Gl X x) (hm : X.mg x = some u) (h : Q u s)
    (hd : (x == ("__debug__" : Str)) = false := by decide) : wpAny (model X.prog X.w) X.A (eval (.Name x pos) X.env) Q E s :=
  Calls.Name_function_global I.ok.kind hg (Calls.loadGlobal_global (by rw [I.ok.glob]; exact I.mod.glob.keeps I.bk) hm h) hd
theorem ld_blt {E : Value → Shared → Prop} {pins : List (Addr × Obj)} {s : Shared} {σ : St} {H : Hp} {x : Str} {u : Value} {pos : Pos} {Q : Value → Shared → Prop} (I : Inv X pins σ H s) (hg : Gl X x) (hm : X.mg x = none) (hv : bootBuiltins x = some u) (h : Q u s)
    (hn : x ≠ "__name__" := by decide) (hd : (x == ("__debug__" : Str)) = false := by decide) : wpAny (model X.prog X.w) X.A (eval (.Name x pos) X.env) Q E s := by
  obtain ⟨mb, h1, h2⟩ := I.mod.blt
  exact Calls.Name_function_global I.ok.kind hg (Calls.loadGlobal_builtin (by rw [I.ok.glob]; exact I.mod.glob.keeps I.bk) hm (by rw [I.ok.blt]; exact h1.keeps I.bk) ((h2 x hn).trans hv) h) hd
/-- a module's constant, a class, a function, as a value -/
theorem pe_glob {x : Str} {v : V} {u : Value} {pos : Pos} (hg : Gl X x) (hm : X.mg x = some u) (r : RelV v u) (hd : (x == ("__debug__" : Str)) = false := by decide) : PE X (.Name x pos) (tC v) :=
  fun _ _ _ H _ I h => ld_glob I hg hm ⟨v, H, I, r, h⟩ hd
theorem pe_bltn {x : Str} {v : V} {u : Value} {pos : Pos} (hg : Gl X x) (hm : X.mg x = none) (hv : bootBuiltins x = some u) (r : RelV v u) (hn : x ≠ "__name__" := by decide) (hd : (x == ("__debug__" : Str)) = false := by decide) : PE X (.Name x pos) (tC v) :=
  fun _ _ _ H _ I h => ld_blt I hg hm hv ⟨v, H, I, r, h⟩ hn hd

/-! ### arithmetic -/
variable {a b : Expr} {ta tb : TE} {pos : Pos}
/-! ### comparisons -/
/-- a comparison as a value, as a test -/
def tB (t : TE) : TT := fun σ H Q => t σ H fun x H1 => ∃ c, x = .bl c ∧ Q c H1
/-- an expression whose value is a bool, as a test -/
theorem pt_val {e : Expr} {t : TE} (h : PE X e t) (he : ∀ whole, isTrue e X.env whole = (do let v ← whole; standAt e.pos; holding [v] (truthy v)) := by intro _; rfl) : PT X e (tB t) := by
  intro pins s σ H Q I hw
  refine isTrue_plain (thn (h pins s σ H _ I hw) fun v s1 ⟨x, H1, I1, r1, q1⟩ => ?_) (he _)
  obtain ⟨d, rfl, q⟩ := q1
  cases r1
  exact wpAny_truthy_bool ⟨H1, I1, q⟩

/-! ### and, or, not -/
variable {tA tB' : TT} {rest : List Expr}
def tAnd (t u : TT) : TT := fun σ H Q => t σ H fun c H1 => if c = true then u σ H1 Q else Q false H1
def tOr (t u : TT) : TT := fun σ H Q => t σ H fun c H1 => if c = true then Q true H1 else u σ H1 Q
def tNot (t : TT) : TT := fun σ H Q => t σ H fun c H1 => Q (!c) H1
theorem pw_and1 (ha : PT X a tA) : PW X (.BoolOp .And [a] pos) tA := by
  intro wh pins s σ H Q I h
  refine isTrue_and (thn (ha pins s σ H Q I h) fun c s1 e => ?_)
  cases c with
  | true => exact isTrue_and_nil e
  | false => exact e
theorem pw_or1 (ha : PT X a tA) : PW X (.BoolOp .Or [a] pos) tA := by
  intro wh pins s σ H Q I h
  refine isTrue_or (thn (ha pins s σ H Q I h) fun c s1 e => ?_)
  cases c with
  | false => exact isTrue_or_nil e
  | true => exact e
theorem pw_and (ha : PT X a tA) (hb : PW X (.BoolOp .And (b :: rest) pos) tB') : PW X (.BoolOp .And (a :: b :: rest) pos) (tAnd tA tB') := by
  intro wh pins s σ H Q I h
  refine isTrue_and (thn (ha pins s σ H _ I h) fun c s1 ⟨H1, I1, q1⟩ => ?_)
  cases c with
  | true => exact hb wh pins s1 σ H1 Q I1 q1
  | false => exact ⟨H1, I1, q1⟩
theorem pw_or (ha : PT X a tA) (hb : PW X (.BoolOp .Or (b :: rest) pos) tB') : PW X (.BoolOp .Or (a :: b :: rest) pos) (tOr tA tB') := by
  intro wh pins s σ H Q I h
  refine isTrue_or (thn (ha pins s σ H _ I h) fun c s1 ⟨H1, I1, q1⟩ => ?_)
  cases c with
  | true => exact ⟨H1, I1, q1⟩
  | false => exact hb wh pins s1 σ H1 Q I1 q1
theorem pt_not (ha : PT X a tA) : PT X (.UnaryOp .Not a pos) (tNot tA) := by
  intro pins s σ H Q I h
  exact isTrue_not (ha pins s σ H (fun c H1 => Q (!c) H1) I h)
/-- .. as values (bools) -/
def tAndV (ta tb : TE) : TE := fun σ H Q => ta σ H fun x H1 => ∃ c, x = .bl c ∧ if c = true then tb σ H1 Q else Q (.bl false) H1
def tOrV (ta tb : TE) : TE := fun σ H Q => ta σ H fun x H1 => ∃ c, x = .bl c ∧ if c = true then Q (.bl true) H1 else tb σ H1 Q
def tNotV (ta : TE) : TE := fun σ H Q => ta σ H fun x H1 => ∃ c, x = .bl c ∧ Q (.bl (!c)) H1
theorem pe_one {op} {t : TE} (h : PE X a t) : PE X (.BoolOp op [a] pos) t := fun pins s σ H Q I hw => BoolOp_one (h pins s σ H Q I hw)
theorem pe_and (ha : PE X a ta) (hb : PE X (.BoolOp .And (b :: rest) pos) tb) : PE X (.BoolOp .And (a :: b :: rest) pos) (tAndV ta tb) := by
  intro pins s σ H Q I h
  refine BoolOp_and (thn (ha pins s σ H _ I h) fun v s1 ⟨x, H1, I1, r1, q1⟩ => ?_)
  obtain ⟨c, rfl, q1⟩ := q1
  cases r1
  refine wpAny_truthy_bool ?_
  cases c with
  | true => exact hb pins s1 σ H1 Q I1 q1
  | false => exact ⟨.bl false, H1, I1, rfl, q1⟩
theorem pe_not (ha : PE X a ta) : PE X (.UnaryOp .Not a pos) (tNotV ta) := by
  intro pins s σ H Q I h
  refine UnaryOp_ (thn (ha pins s σ H _ I h) fun v s1 ⟨x, H1, I1, r1, q1⟩ => ?_)
  obtain ⟨c, rfl, q1⟩ := q1
  cases r1
  exact not_of (wpAny_truthy_bool ⟨.bl (!c), H1, I1, rfl, q1⟩)
end
end L2

namespace L2
open PySem PySem.Spec PyProof.Rows

/-! ### a list, a tuple that is read: tracked, frozen, or an object of the module -/
def SqL (K : PySem.W.Frag) (H : Hp) (a : Addr) (xs : List V) : Prop :=
  Rd H a (.lst xs) ∨
    ∃ (o : Obj) (its : Array Value) (n : Nat), K.lookup a = some o ∧ o.cls = .type "list" ∧ o.dict = none ∧ o.data = .seq its n ∧ its.size ≤ sizeLine ∧ Vals xs its.toList
def SqT (K : PySem.W.Frag) (H : Hp) (a : Addr) (xs : List V) : Prop :=
  Rd H a (.tup xs) ∨
    ∃ (o : Obj) (its : Array Value) (n : Nat), K.lookup a = some o ∧ o.cls = .type "tuple" ∧ o.data = .seq its n ∧ its.size ≤ sizeLine ∧ Vals xs its.toList
def absV : Value → Option V
  | .none => some .non
  | .bool b => some (.bl b)
  | .int i _ => some (.int i)
  | .str x _ => some (.str x)
  | .bytes b _ => some (.byt b)
  | .float b _ => some (.flt b)
  | .ref a => some (.ref a)
  | .type n => some (.ty n)
  | _ => none
theorem RelV.abs {x : V} {u : Value} (r : RelV x u) : absV u = some x := by
  cases x with
  | non => cases r; rfl
  | bl _ => cases r; rfl
  | int _ => obtain ⟨t, rfl⟩ := r; rfl
  | str _ => obtain ⟨t, rfl⟩ := r; rfl
  | byt _ => obtain ⟨t, rfl⟩ := r; rfl
  | flt _ => obtain ⟨t, rfl⟩ := r; rfl
  | ref _ => cases r; rfl
  | ty _ => cases r; rfl
theorem RelV.inj {x y : V} {u : Value} (r : RelV x u) (q : RelV y u) : x = y := Option.some.inj (r.abs.symm.trans q.abs)
theorem Vals.inj : ∀ {xs ys : List V} {us : List Value}, Vals xs us → Vals ys us → xs = ys
  | _, _, _, .nil, .nil => rfl
  | _, _, _, .cons r t, .cons r' t' => by rw [r.inj r', Vals.inj t t']
section
variable {X : Cx} {pins : List (Addr × Obj)} {σ : St} {H : Hp} {s : Shared} {a : Addr} {xs ys : List V}
theorem SqL.of {K : PySem.W.Frag} (h : H a = some (.lst xs)) : SqL K H a xs := .inl (.inl h)
theorem SqT.of {K : PySem.W.Frag} (h : H a = some (.tup xs)) : SqT K H a xs := .inl (.inl h)
theorem Inv.list (I : Inv X pins σ H s) (h : SqL X.K H a xs) : ∃ its : List Value, Vals xs its ∧ PlainL s.heap a its.toArray ∧ xs.length ≤ sizeLine := by
  rcases h with h | ⟨o, its, n, hk, hc, hd, hs, hz, r⟩
  · obtain ⟨z, its, n, r, e⟩ := h.ok I.hok
    exact ⟨its, r, ⟨_, n, e, rfl, rfl, rfl⟩, z⟩
  · refine ⟨its.toList, r, ⟨o, n, I.kIn a o hk, hc, hd, by simpa using hs⟩, ?_⟩
    have e := r.length
    simp only [Array.length_toList] at e
    omega
theorem Inv.tuple (I : Inv X pins σ H s) (h : SqT X.K H a xs) : ∃ its : List Value, Vals xs its ∧ IsTup s.heap a its.toArray ∧ xs.length ≤ sizeLine := by
  rcases h with h | ⟨o, its, n, hk, hc, hs, hz, r⟩
  · obtain ⟨z, its, r, p⟩ := h.ok I.hok
    exact ⟨its, r, p, z⟩
  · refine ⟨its.toList, r, ⟨o, I.kIn a o hk, hc, n, by simpa using hs⟩, ?_⟩
    have e := r.length
    simp only [Array.length_toList] at e
    omega
theorem Inv.list_inj (I : Inv X pins σ H s) (h : SqL X.K H a xs) (h' : SqL X.K H a ys) : xs = ys := by
  obtain ⟨its, r, ⟨o, n, e, _, _, d⟩, _⟩ := I.list h
  obtain ⟨its', r', ⟨o', n', e', _, _, d'⟩, _⟩ := I.list h'
  rw [e] at e'; cases e'
  rw [d] at d'
  injection d' with d1 _
  have : its = its' := by simpa using congrArg Array.toList d1
  subst this
  exact r.inj r'
end

/-! ### another wish about exceptions -/
abbrev Cx.wish (X : Cx) (E : Value → Shared → Prop) : Cx := { X with xe := E }
/-- no exception leaves -/
abbrev Cx.nox (X : Cx) : Cx := X.wish fun _ _ => False
theorem Cx.Ok.wish {X : Cx} (ok : X.Ok) (E : Value → Shared → Prop) : (X.wish E).Ok :=
  ⟨ok.mod, ok.kind, ok.glob, ok.blt, ok.above, ok.inj, ok.has, ok.cab, ok.hd, ok.frames, ok.stk, ok.exf, ok.bs, ok.bsz, ok.noex, ok.exfs, ok.funs, ok.frf⟩
theorem Cx.Ok.unwish {X : Cx} {E : Value → Shared → Prop} (ok : (X.wish E).Ok) : X.Ok :=
  ⟨ok.mod, ok.kind, ok.glob, ok.blt, ok.above, ok.inj, ok.has, ok.cab, ok.hd, ok.frames, ok.stk, ok.exf, ok.bs, ok.bsz, ok.noex, ok.exfs, ok.funs, ok.frf⟩
section
variable {X : Cx} {pins : List (Addr × Obj)} {σ : St} {H : Hp} {s : Shared} {E : Value → Shared → Prop}
theorem Inv.wish (I : Inv X pins σ H s) (E : Value → Shared → Prop) : Inv (X.wish E) pins σ H s := ⟨I.ok.wish E, I.os, I.bare, I.base, I.loc, I.cell, I.free, I.freeC, I.pin, I.hok, I.len⟩
theorem Inv.unwish (I : Inv (X.wish E) pins σ H s) : Inv X pins σ H s := ⟨I.ok.unwish, I.os, I.bare, I.base, I.loc, I.cell, I.free, I.freeC, I.pin, I.hok, I.len⟩
theorem SP.unwish {D : Ends} {f : Flow} {s' : Shared} (h : SP (X.wish E) pins D f s') : SP X pins D f s' := by
  cases f with
  | next => obtain ⟨σ', H', I, q⟩ := h; exact ⟨σ', H', I.unwish, q⟩
  | brk => obtain ⟨σ', H', I, q⟩ := h; exact ⟨σ', H', I.unwish, q⟩
  | cont => obtain ⟨σ', H', I, q⟩ := h; exact ⟨σ', H', I.unwish, q⟩
  | ret u => obtain ⟨v, σ', H', I, r, q⟩ := h; exact ⟨v, σ', H', I.unwish, r, q⟩
theorem PE.nox {e : Expr} {t : TE} (h : PE X.nox e t) : PE X e t := fun pins s σ H Q I hw =>
  wpAny_mono (h pins s σ H Q (I.wish _) hw) (fun _ _ ⟨v, H', I', r, q⟩ => ⟨v, H', I'.unwish, r, q⟩) fun _ _ z => False.elim z
theorem PT.nox {e : Expr} {t : TT} (h : PT X.nox e t) : PT X e t := fun pins s σ H Q I hw =>
  wpAny_mono (h pins s σ H Q (I.wish _) hw) (fun _ _ ⟨H', I', q⟩ => ⟨H', I'.unwish, q⟩) fun _ _ z => False.elim z
theorem PSs.nox {st : List Stmt} {t : TS} (h : PSs X.nox st t) : PSs X st t := fun pins s σ H D I hw =>
  wpAny_mono (h pins s σ H D (I.wish _) hw) (fun _ _ q => q.unwish) fun _ _ z => False.elim z
end

/-! ### blocks and small statements -/
section
variable {X : Cx} {st : Stmt} {rest : List Stmt} {t u : TS} {e : Expr} {te : TE} {pos : Pos}
def tNext : TS := fun D σ H => D.nx σ H
def tSeq (t u : TS) : TS := fun D σ H => t { D with nx := u D } σ H
theorem pss_nil : PSs X [] tNext := fun _ _ σ H _ I h => wpAny_execs_nil ⟨σ, H, I, h⟩
theorem pss_cons (h1 : PS X st t) (h2 : PSs X rest u) : PSs X (st :: rest) (tSeq t u) := by
  intro pins s σ H D I h
  refine wpAny_execs_cons (thn (h1 pins s σ H { D with nx := u D } I h) fun f s1 q => ?_)
  cases f with
  | next =>
    obtain ⟨σ', H', I', q⟩ := q
    exact h2 pins s1 σ' H' D I' q
  | ret v => exact q
  | brk => exact q
  | cont => exact q
theorem pss_one (h1 : PS X st t) : PSs X [st] t := by
  intro pins s σ H D I h
  refine wpAny_execs_cons (thn (h1 pins s σ H D I h) fun f s1 q => ?_)
  cases f with
  | next => exact wpAny_execs_nil q
  | ret v => exact q
  | brk => exact q
  | cont => exact q
/-- in a def's body nothing is shown -/
theorem Inv.quiet {pins : List (Addr × Obj)} {σ : St} {H : Hp} {s : Shared} (I : Inv X pins σ H s) : interactive X.env = false := by simp [interactive, I.ok.kind]
/-- an expression whose value is dropped -/
def tDrop (te : TE) : TS := fun D σ H => te σ H fun _ H1 => D.nx σ H1
theorem ps_expr (he : PE X e te) (hs : swapsWith e none pos.line X.env = pure false := by rfl) : PS X (.Expr e pos) (tDrop te) := by
  intro pins s σ H D I h
  exact wpAny_Expr_any (thn (he pins s σ H _ I h) fun v s1 ⟨x, H1, I1, r1, q1⟩ => ⟨σ, H1, I1, q1⟩) I.quiet hs
def tRet (te : TE) : TS := fun D σ H => te σ H D.rt
theorem ps_ret (he : PE X e te) : PS X (.Return (some e) pos) (tRet te) := by
  intro pins s σ H D I h
  exact wpAny_Return_some (thn (he pins s σ H _ I h) fun v s1 ⟨x, H1, I1, r1, q1⟩ => ⟨x, σ, H1, I1, r1, q1⟩)
def tIfS (c : TT) (t u : TS) : TS := fun D σ H => c σ H fun b H1 => if b = true then t D σ H1 else u D σ H1
theorem ps_if {c : Expr} {a b : List Stmt} {tc : TT} (hc : PT X c tc) (ha : PSs X a t) (hb : PSs X b u) : PS X (.If c a b pos) (tIfS tc t u) := by
  intro pins s σ H D I h
  refine wpAny_If (thn (hc pins s σ H _ I h) fun d s1 ⟨H1, I1, q1⟩ => ?_)
  cases d with
  | true => exact ha pins s1 σ H1 D I1 q1
  | false => exact hb pins s1 σ H1 D I1 q1
end

/-! ### targets -/
abbrev TG := V → St → Hp → (St → Hp → Prop) → Prop
abbrev TGs := List V → St → Hp → (St → Hp → Prop) → Prop
def PG (X : Cx) (target : Expr) (t : TG) : Prop :=
  ∀ (pins : List (Addr × Obj)) (s : Shared) (σ : St) (H : Hp) (v : V) (u : Value) (Q : St → Hp → Prop), Inv X pins σ H s → RelV v u → t v σ H Q →
    wpAny (model X.prog X.w) X.A (assign target X.env u) (fun _ s' => ∃ σ' H', Inv X pins σ' H' s' ∧ Q σ' H') X.xe s
/-- several targets, one after another -/
def PGs (X : Cx) (ts : List Expr) (t : TGs) : Prop :=
  ∀ (pins : List (Addr × Obj)) (s : Shared) (σ : St) (H : Hp) (vs : List V) (us : List Value) (Q : St → Hp → Prop), Inv X pins σ H s → Vals vs us → t vs σ H Q →
    wpAny (model X.prog X.w) X.A (assignInOrder ((assignEach ts X.env).map (·.2)) us) (fun _ s' => ∃ σ' H', Inv X pins σ' H' s' ∧ Q σ' H') X.xe s
/-- o[i] = v, by values -/
abbrev TSet := V → V → V → Hp → (Hp → Prop) → Prop
def PSet (X : Cx) (t : TSet) : Prop :=
  ∀ (pins : List (Addr × Obj)) (s : Shared) (σ : St) (H : Hp) (o i v : V) (ov iv u : Value) (Q : Hp → Prop), Inv X pins σ H s → RelV o ov → RelV i iv → RelV v u → t o i v H Q →
    wpAny (model X.prog X.w) X.A (setItem ov iv u) (fun _ s' => ∃ H', Inv X pins σ H' s' ∧ Q H') X.xe s
section
variable {X : Cx} {pos : Pos}
def gName (i : Nat) : TG := fun v σ H Q => Q (σ.set i (some v)) H
theorem pg_name {i : Nat} {x : Str} (hN : X.N.Nodup) (hi : X.N[i]? = some x) (hx : Loc X.env.scope x) (hf : X.fn x = true ∨ X.env.scope.names.lookup x = some .local := by first | exact .inl rfl | exact .inr rfl | assumption) : PG X (.Name x pos) (gName i) := by
  intro pins s σ H v u Q I r h
  exact wpAny_assign_Name (store_ok I hN hi hx r (fun s' I' => ⟨_, H, I', h⟩) hf)
def gNil : TGs := fun vs σ H Q => vs = [] ∧ Q σ H
def gCons (t : TG) (u : TGs) : TGs := fun vs σ H Q => ∃ v r, vs = v :: r ∧ t v σ H fun σ' H' => u r σ' H' Q
theorem pgs_nil : PGs X [] gNil := by
  intro pins s σ H vs us Q I r h
  obtain ⟨e, h⟩ := h
  subst e
  cases r
  exact assignInOrder_nil ⟨σ, H, I, h⟩
theorem pgs_cons {e : Expr} {es : List Expr} {t : TG} {u : TGs} (h1 : PG X e t) (h2 : PGs X es u)
    (hs : (assignEach (e :: es) X.env).map (·.2) = assign e X.env :: (assignEach es X.env).map (·.2) := by rfl) : PGs X (e :: es) (gCons t u) := by
  intro pins s σ H vs us Q I r h
  obtain ⟨v, vr, e1, h⟩ := h
  subst e1
  cases r with
  | cons r rr =>
    rw [hs]
    refine assignInOrder_cons (thn (h1 pins s σ H _ _ _ I r h) fun _ s1 ⟨σ1, H1, I1, q1⟩ => ?_)
    exact h2 pins s1 σ1 H1 _ _ Q I1 rr q1
/-- (a, b, ..) = a tuple of that length -/
def gTup (K : PySem.W.Frag) (n : Nat) (t : TGs) : TG := fun v σ H Q => ∃ a xs, v = .ref a ∧ SqT K H a xs ∧ xs.length = n ∧ t xs σ H Q
theorem pg_tup {es : List Expr} {k : Nat} {t : TGs} {n : Nat} (hc : X.calm = true) (h : PGs X es t)
    (hn : (assignEach es X.env).length = n := by rfl) (hst : (assignEach es X.env).findIdx? (·.1) = none := by rfl) : PG X (.Tuple es k pos) (gTup X.K n t) := by
  intro pins s σ H v u Q I r hw
  obtain ⟨a, xs, e1, hq, hl, hw⟩ := hw
  subst e1
  cases r
  obtain ⟨its, rv, ht, hz⟩ := I.tuple hq
  refine assign_Tuple_tuple (I.ok.hd hc) ht (by simp [hn, ← hl, rv.length]) hst fun h' hx => ?_
  have I1 : Inv X pins σ H { s with heap := h' } := I.kept (t' := s.toks) fun b o e => hx b o (Nat.ne_of_lt (Heap.lt_size e)) e
  exact h pins _ σ H xs _ Q I1 (by simpa using rv) hw
/-- o[i] = .. -/
def gSub (to ti : TE) (t : TSet) : TG := fun v σ H Q => to σ H fun o H1 => ti σ H1 fun i H2 => t o i v H2 fun H3 => Q σ H3
theorem pg_sub {o i : Expr} {to ti : TE} {t : TSet} (ho : PE X o to) (hi : PE X i ti) (hs : PSet X t)
    (ha : ∀ v, assign (.Subscript o i pos) X.env v = (do
      let ov ← holding [v] (eval o X.env)
      let iv ← holding [v, ov] (eval i X.env)
      standAt pos
      holding [v, ov, iv] (setItem ov iv v)
      release [v, ov, iv] []) := by intro _; rfl) : PG X (.Subscript o i pos) (gSub to ti t) := by
  intro pins s σ H v u Q I r h
  rw [ha]
  refine wpAny_bind (wpAny_holding (thn (ho pins s σ H _ I h) fun ov s1 ⟨x, H1, I1, r1, q1⟩ => ?_))
  refine wpAny_bind (wpAny_holding (thn (hi pins s1 σ H1 _ I1 q1) fun iv s2 ⟨y, H2, I2, r2, q2⟩ => ?_))
  refine wpAny_bind (wpAny_standAt (wpAny_bind (wpAny_holding (thn (hs pins s2 σ H2 x y v ov iv u _ I2 r1 r2 r q2) fun _ s3 ⟨H3, I3, q3⟩ => ?_))))
  exact wpAny_release ⟨σ, H3, I3, q3⟩
/-- target = value -/
def tAsg (te : TE) (g : TG) : TS := fun D σ H => te σ H fun x H1 => g x σ H1 D.nx
theorem ps_asg {tg e : Expr} {te : TE} {g : TG} (he : PE X e te) (hg : PG X tg g) (hs : swapsWithSole [tg] e pos.line X.env = pure false := by rfl) (hw : swappedStores [tg] e X.env = pure none := by rfl)
    (h1 : (assignEach [tg] X.env).map (·.2) = [assign tg X.env] := by rfl) : PS X (.Assign [tg] e pos) (tAsg te g) := by
  intro pins s σ H D I h
  refine wpAny_Assign_stores (thn (he pins s σ H _ I h) fun v s1 ⟨x, H1, I1, r1, q1⟩ => ?_) hs hw
  rw [h1]
  exact thn (hg pins s1 σ H1 x v _ I1 r1 q1) fun _ s2 q => q
/-- name = value -/
theorem ps_set {i : Nat} {x : Str} {e : Expr} {te : TE} {pos' : Pos} (hN : X.N.Nodup) (hi : X.N[i]? = some x) (hx : Loc X.env.scope x) (he : PE X e te) (hs : swapsWith e (some (.Name x pos')) pos.line X.env = pure false := by rfl) (hf : X.fn x = true ∨ X.env.scope.names.lookup x = some .local := by first | exact .inl rfl | exact .inr rfl | assumption) :
    PS X (.Assign [.Name x pos'] e pos) (tAsg te (gName i)) := by
  intro pins s σ H D I h
  refine wpAny_Assign_Name (thn (he pins s σ H _ I h) fun v s1 ⟨y, H1, I1, r1, q1⟩ => ?_) hs
  exact store_ok I1 hN hi hx r1 (fun s2 I2 => ⟨_, H1, I2, q1⟩) hf
end

/-! ### while -/
section
variable {X : Cx} {pos : Pos}
end

/-! ### what a loop or a comprehension walks -/
/-- at turn i: it yields x (the heap may grow), or it stops -/
structure It where
  go : Nat → Hp → Prop
  yld : Nat → Hp → V → Hp → Prop
  stop : Nat → Hp → Prop
/-- the iterator's own objects may turn: they are not the frame's, not pinned, younger than the entry (or a comprehension's own) -/
def FpOk (X : Cx) (pins : List (Addr × Obj)) (H : Hp) (b : Addr) : Prop :=
  H b = none ∧ b ≠ X.env.locals ∧ b ∉ X.fs ∧ (b ∈ X.ex ∨ X.s₀.heap.objs.size ≤ b) ∧ (∀ x c, X.env.cells.lookup x = some c → c ≠ b) ∧ ∀ p ∈ X.pn ++ pins, p.1 ≠ b
theorem Inv.fpOk {X : Cx} {pins : List (Addr × Obj)} {σ : St} {H H' : Hp} {s : Shared} {b : Addr} (I : Inv X pins σ H s) (hb : s.heap.objs.size ≤ b) (hn : H' b = none) : FpOk X pins H' b := by
  refine ⟨hn, Nat.ne_of_gt (Nat.lt_of_lt_of_le I.lt hb), I.nofs hb, .inr (Nat.le_trans I.sz hb), fun x c e z => ?_, fun p hp z => ?_⟩
  · obtain ⟨v, q⟩ := I.cell x c e
    exact absurd (Nat.lt_of_lt_of_le q.lt (by rw [z]; exact hb)) (Nat.lt_irrefl _)
  · exact absurd (Nat.lt_of_lt_of_le (Heap.lt_size (I.pin p hp).1) (by rw [z]; exact hb)) (Nat.lt_irrefl _)
structure Turn (P : Program) (w : World) (K : PySem.W.Frag) (tg : Expr) (J : It) (fp : List Addr) (it : Addr) (tn : Nat → Heap → Prop) : Prop where
  mem : it ∈ fp
  obj : ∀ i h, tn i h → ∀ b ∈ fp, ∃ o, h.get? b = some o ∧ ∀ v, o.data ≠ .cell v
  keep : ∀ i h h', tn i h → (∀ b ∈ fp, ∀ o, h.get? b = some o → h'.get? b = some o) → tn i h'
  item : ∀ (X : Cx), X.prog = P → X.w = w → X.K = K → X.calm = true → ∀ (i : Nat) (pins : List (Addr × Obj)) (s : Shared) (σ : St) (H : Hp) (E : Value → Shared → Prop), Inv X pins σ H s → (∀ b ∈ fp, FpOk X pins H b) → tn i s.heap → J.go i H →
    wpAny (model P w) X.A (pyNext (.ref it)) (fun r s1 => ∃ u, r = some u ∧
      wpAny (model P w) X.A (letOwnedTupleGo tg (.ref it) u) (fun _ s2 => ∃ x H', Inv X pins σ H' s2 ∧ RelV x u ∧ J.yld i H x H' ∧ tn (i + 1) s2.heap ∧ ∀ b ∈ fp, H' b = none) E s1) E s
  done : ∀ (X : Cx), X.prog = P → X.w = w → X.K = K → X.calm = true → ∀ (i : Nat) (pins : List (Addr × Obj)) (s : Shared) (σ : St) (H : Hp) (E : Value → Shared → Prop), Inv X pins σ H s → (∀ b ∈ fp, FpOk X pins H b) → tn i s.heap → J.stop i H →
    wpAny (model P w) X.A (pyNext (.ref it)) (fun r s1 => r = none ∧ Inv X pins σ H s1) E s
  self : ∀ (A : Around) (i : Nat) (s : Shared) (Q : Value → Shared → Prop) (E : Value → Shared → Prop), tn i s.heap → Q (.ref it) s → wpAny (model P w) A (pyIter (.ref it)) Q E s
abbrev TI := St → Hp → (It → Hp → Prop) → Prop
/-- an iterator has come -/
def PIE (X : Cx) (pins : List (Addr × Obj)) (σ : St) (tg : Expr) (R : It → Hp → Prop) (itv : Value) (s2 : Shared) : Prop :=
  ∃ (it : Addr) (fp : List Addr) (tn : Nat → Heap → Prop) (J : It) (H' : Hp), itv = .ref it ∧ Inv X pins σ H' s2 ∧ Turn X.prog X.w X.K tg J fp it tn ∧ tn 0 s2.heap ∧ (∀ b ∈ fp, FpOk X pins H' b) ∧ R J H'
def PI (X : Cx) (tg iter : Expr) (wi : TI) : Prop :=
  ∀ (pins : List (Addr × Obj)) (s : Shared) (σ : St) (H : Hp) (R : It → Hp → Prop), Inv X pins σ H s → wi σ H R →
    wpAny (model X.prog X.w) X.A (eval iter X.env) (fun v s1 => wpAny (model X.prog X.w) X.A (pyIter v) (PIE X pins σ tg R) X.xe s1) X.xe s

/-- the step ahead of the store is nothing for an iterator that keeps no tuple -/
theorem go_of {M : Model} {A : Around} {E : Value → Shared → Prop} {s : Shared} {tg : Expr} {it : Addr} {u : Value} {o : Obj} {n : String} {vs : Array Value} {Q : Unit → Shared → Prop} (ho : s.heap.get? it = some o) (hc : o.cls = .type n) (hd : o.data = .fields vs)
    (hn : ["enumerate", "zip", "dict_itemiterator", "dict_reverseitemiterator", "odict_iterator", "itertools.zip_longest", "itertools.pairwise"].contains n = false) (hQ : Q () s) : wpAny M A (letOwnedTupleGo tg (.ref it) u) Q E s := by
  unfold letOwnedTupleGo
  cases tg <;> first
    | exact wpAny_pure hQ
    | (cases u <;> first
        | exact wpAny_pure hQ
        | (refine wpAny_bind (wpAny_load ho ?_)
           rw [hc, hd]
           show wpAny M A (if (["enumerate", "zip", "dict_itemiterator", "dict_reverseitemiterator", "odict_iterator", "itertools.zip_longest", "itertools.pairwise"].contains n && vs[0]? == some (rawInt _)) = true then _ else _) Q E s
           rw [if_neg (by intro h; rw [hn, Bool.false_and] at h; cases h)]
           exact wpAny_pure hQ))

/-- the list at a, as it stands at each turn (a loop may append to it) -/
def Itl (K : PySem.W.Frag) (a : Addr) : It :=
  ⟨fun i H => ∃ xs x, SqL K H a xs ∧ xs[i]? = some x, fun i H x H' => H' = H ∧ ∀ xs, SqL K H a xs → xs[i]? = some x, fun i H => ∃ xs, SqL K H a xs ∧ xs.length ≤ i⟩
/-- lo, lo + 1, .. (n of them) -/
def Itr (lo : Int) (n : Nat) : It := ⟨fun i _ => i < n, fun i H x H' => H' = H ∧ x = .int (lo + i), fun i _ => n ≤ i⟩
theorem turn_list {P : Program} {w : World} {K : PySem.W.Frag} {tg : Expr} (a it : Addr) : Turn P w K tg (Itl K a) [it] it (fun i h => h.IsListIter it a i) where
  mem := by simp
  obj := fun i h st b hb => by
    have e : b = it := by simpa using hb
    subst e
    obtain ⟨o, e, c, d⟩ := st
    exact ⟨o, e, fun v z => by rw [d] at z; cases z⟩
  keep := fun i h h' st k => st.at fun o e => k it (by simp) o e
  item := by
    intro X hP hw hK hc i pins s σ H E I hf st hg
    subst hP hw hK
    obtain ⟨xs, x, hq, hx⟩ := hg
    obtain ⟨its, rv, p, hz⟩ := I.list hq
    obtain ⟨u, hu, ru⟩ := rv.get hx
    obtain ⟨f0, f1, f2, f3, f4, f5⟩ := hf it (by simp)
    refine wpAny_pyNext_list_item st p.isList (x := u) (by simpa using hu) fun h' st' sb => ?_
    have I1 : Inv X pins σ H { s with heap := h' } := I.turned (t' := s.toks) (fun b o hb e => (sb.2 b hb).trans e) f0 f1 f3 f4 f5
    obtain ⟨o, e, c, d⟩ := id st'
    exact ⟨u, rfl, go_of (s := { s with heap := h' }) e c d (by decide) ⟨x, H, I1, ru, ⟨rfl, fun ys hy => by rw [I.list_inj hy hq]; exact hx⟩, st', fun b hb => (hf b hb).1⟩⟩
  done := by
    intro X hP hw hK hc i pins s σ H E I hf st hg
    subst hP hw hK
    obtain ⟨xs, hq, hx⟩ := hg
    obtain ⟨its, rv, p, hz⟩ := I.list hq
    obtain ⟨f0, f1, f2, f3, f4, f5⟩ := hf it (by simp)
    have hl := rv.length
    exact wpAny_pyNext_list_end (I.ok.hd hc) st p.isList (by simp; omega) fun h' eb => ⟨rfl, I.turned (t' := s.toks) (fun b o hb e => eb b o hb e) f0 f1 f3 f4 f5⟩
  self := fun _ _ _ _ _ st h => wpAny_pyIter_listiter st h
theorem turn_range {P : Program} {w : World} {K : PySem.W.Frag} {tg : Expr} (it : Addr) (lo : Int) (n : Nat) : Turn P w K tg (Itr lo n) [it] it (fun i h => IsRangeIter h it (lo + (i : Nat) * 1) ((n : Int) - (i : Nat)) 1) where
  mem := by simp
  obj := fun i h st b hb => by
    have e : b = it := by simpa using hb
    subst e
    exact ⟨_, st, fun v z => by
      have z' : Data.fields _ = Data.cell v := z
      cases z'⟩
  keep := fun i h h' st k => k it (by simp) _ st
  item := by
    intro X hP hw hK hc i pins s σ H E I hf st hg
    subst hP hw hK
    obtain ⟨f0, f1, f2, f3, f4, f5⟩ := hf it (by simp)
    have W := Walks.range (prog := X.prog) (w := X.w) (I.ok.hd hc) it lo 1 n
    refine W.item i s _ _ hg st fun v h' tk hv st' kk => ?_
    obtain ⟨t, rfl⟩ := hv
    have I1 : Inv X pins σ H { s with heap := h', toks := tk } := I.turned (fun b o hb e => kk b o (by simpa using hb) e) f0 f1 f3 f4 f5
    refine ⟨_, rfl, go_of (s := { s with heap := h', toks := tk }) (n := "range_iterator") st' rfl rfl (by decide) ⟨.int (lo + i), H, I1, ⟨t, ?_⟩, ⟨rfl, rfl⟩, st', fun b hb => (hf b hb).1⟩⟩
    rw [Int.mul_one]
  done := by
    intro X hP hw hK hc i pins s σ H E I hf st hg
    subst hP hw hK
    obtain ⟨f0, f1, f2, f3, f4, f5⟩ := hf it (by simp)
    exact wpAny_pyNext_range_end (I.ok.hd hc) st (by have : n ≤ i := hg; omega) fun h' eb => ⟨rfl, I.turned (t' := s.toks) (fun b o hb e => eb b o hb e) f0 f1 f3 f4 f5⟩
  self := fun _ _ _ _ _ st h => wpAny_pyIter_rangeiter st h
end L2

namespace L2
open PySem PySem.Spec PyProof.Rows
section
variable {X : Cx} {tg : Expr}
def iList (K : PySem.W.Frag) (tl : TE) : TI := fun σ H R => tl σ H fun x H1 => ∃ a, x = .ref a ∧ (∃ xs, SqL K H1 a xs) ∧ R (Itl K a) H1
theorem pi_list {l : Expr} {tl : TE} (hl : PE X l tl) : PI X tg l (iList X.K tl) := by
  intro pins s σ H R I h
  refine thn (hl pins s σ H _ I h) fun v s1 ⟨x, H1, I1, r1, q1⟩ => ?_
  obtain ⟨a, e, ⟨xs, hq⟩, q⟩ := q1
  subst e
  cases r1
  obtain ⟨its, rv, p, hz⟩ := I1.list hq
  refine wpAny_pyIter_list p.isList ?_
  refine ⟨s1.heap.objs.size, [s1.heap.objs.size], _, _, H1, rfl, I1.kept (t' := s1.toks) fun b o e => Heap.get?_push_of_some _ e, turn_list a _, ⟨_, Heap.get?_push_size _ rfl, rfl, rfl⟩, fun b hb => ?_, q⟩
  have e : b = s1.heap.objs.size := by simpa using hb
  subst e
  exact I1.fpOk (Nat.le_refl _) (I1.hok.fresh (Nat.le_refl _))
/-- a range object just made, walked -/
theorem range_it {pins : List (Addr × Obj)} {σ : St} {H : Hp} {s : Shared} {R : It → Hp → Prop} {E : Value → Shared → Prop} {lo hi : Int} {t u v : Tok} {tk : Nat} (I : Inv X pins σ H s) (h1 : -(2 ^ 62) ≤ lo) (h2 : lo < 2 ^ 62) (h3 : -(2 ^ 62) ≤ hi) (h4 : hi < 2 ^ 62)
    (q : R (Itr lo (hi - lo).toNat) H) : wpAny (model X.prog X.w) X.A (pyIter (.ref s.heap.objs.size)) (PIE X pins σ tg R) E { s with heap := s.heap.push { cls := .type "range", data := .fields #[.int lo t, .int hi u, .int 1 v] }, toks := tk } := by
  refine wpAny_pyIter_range (IsRange.new ..) (small_one h1 h2 h3 h4) ?_
  have I1 : Inv X pins σ H { s with heap := s.heap.push { cls := .type "range", data := .fields #[.int lo t, .int hi u, .int 1 v] }, toks := tk } := I.kept fun b o e => Heap.get?_push_of_some _ e
  refine ⟨(s.heap.push { cls := .type "range", data := .fields #[.int lo t, .int hi u, .int 1 v] }).objs.size, [(s.heap.push { cls := .type "range", data := .fields #[.int lo t, .int hi u, .int 1 v] }).objs.size], _, _, H, rfl,
    I1.kept (t' := tk) fun b o e => Heap.get?_push_of_some _ e, turn_range _ lo (hi - lo).toNat, ?_, fun b hb => ?_, q⟩
  · have e1 : lo + ((0 : Nat) : Int) * 1 = lo := by simp
    have e2 : (((hi - lo).toNat : Nat) : Int) - ((0 : Nat) : Int) = Builtin.Range.rangeSize lo hi 1 := by rw [rangeSize_one]; split <;> omega
    show IsRangeIter _ _ (lo + ((0 : Nat) : Int) * 1) ((((hi - lo).toNat : Nat) : Int) - ((0 : Nat) : Int)) 1
    rw [e1, e2]
    exact Heap.get?_push_size _ rfl
  · have e : b = (s.heap.push { cls := .type "range", data := .fields #[.int lo t, .int hi u, .int 1 v] }).objs.size := by simpa using hb
    subst e
    exact I1.fpOk (Nat.le_refl _) (I1.hok.fresh (Nat.le_refl _))
def iRng1 (ta : TA) : TI := fun σ H R => ta σ H fun vs H1 => ∃ j : Int, vs = [.int j] ∧ -(2 ^ 62) ≤ j ∧ j < 2 ^ 62 ∧ R (Itr 0 j.toNat) H1
theorem pi_range1 {a : Expr} {ta : TA} {p pos : Pos} (hg : Gl X "range") (hm : X.mg "range" = none) (ha : PA X [a] ta) (hs : starEach [a] X.env = [(false, eval a X.env)] := by rfl) : PI X tg (.Call (.Name "range" p) [a] [] pos) (iRng1 ta) := by
  intro pins s σ H R I h
  refine Call_ (ld_blt I hg hm boot_range (PyProof.Rows.callWith_type1 (thn (ha pos pins s σ H _ I h) fun us s1 ⟨vs, H1, I1, r1, q1⟩ => ?_) hs rfl))
  obtain ⟨j, e, q1, q2, q⟩ := q1
  subst e
  cases r1 with
  | cons r rr =>
    cases rr
    obtain ⟨t, rfl⟩ := r
    exact call_range_1 (range_it I1 (by omega) (by omega) q1 q2 (by simpa using q))
/-! ### for -/
/-- W: the invariant by the turn and a measure; N: what the body is to reach -/
def tFor (wi : TI) (g : TG) (tb : TS) : TS := fun D σ H => wi σ H fun J H1 => ∃ W : Nat → Nat → St → Hp → Prop, (∃ m, W 0 m σ H1) ∧ ∀ i m σ H, W i m σ H →
  (J.stop i H ∧ D.nx σ H) ∨ (J.go i H ∧ ∃ N : St → Hp → Prop, (∀ σ' H', N σ' H' → ∃ m', m' < m ∧ W (i + 1) m' σ' H') ∧ ∀ x H', J.yld i H x H' → g x σ H' fun σ2 H2 => tb { D with nx := N, ct := N, bk := D.nx } σ2 H2)
/-- the records at fp as they stand -/
def pinsAt (fp : List Addr) (h : Heap) : List (Addr × Obj) := fp.filterMap fun b => (h.get? b).map fun o => (b, o)
theorem mem_pinsAt {fp : List Addr} {h : Heap} {b : Addr} {o : Obj} (hb : b ∈ fp) (e : h.get? b = some o) : (b, o) ∈ pinsAt fp h := List.mem_filterMap.mpr ⟨b, hb, by rw [e]; rfl⟩
theorem of_pinsAt {fp : List Addr} {h : Heap} {p : Addr × Obj} (hp : p ∈ pinsAt fp h) : p.1 ∈ fp ∧ h.get? p.1 = some p.2 := by
  obtain ⟨b, hb, e⟩ := List.mem_filterMap.mp hp
  cases q : h.get? b with
  | none => rw [q] at e; cases e
  | some o =>
    rw [q] at e
    have e' : (b, o) = p := Option.some.inj e
    subst e'
    exact ⟨hb, q⟩
theorem Inv.pinned {pins : List (Addr × Obj)} {σ : St} {H : Hp} {s : Shared} {fp : List Addr} (I : Inv X pins σ H s) (hf : ∀ b ∈ fp, FpOk X pins H b) (ho : ∀ b ∈ fp, ∃ o, s.heap.get? b = some o ∧ ∀ v, o.data ≠ .cell v) : Inv X (pins ++ pinsAt fp s.heap) σ H s :=
  I.pins_of fun p hp => (List.mem_append.mp hp).elim (fun z => I.pin p (List.mem_append_right _ z)) fun z => by
    obtain ⟨hb, e⟩ := of_pinsAt z
    obtain ⟨f0, f1, f2, _⟩ := hf p.1 hb
    obtain ⟨o, e', d⟩ := ho p.1 hb
    rw [e] at e'; cases e'
    exact ⟨e, f0, f1, f2, d⟩
theorem Inv.unpinned {pins pl : List (Addr × Obj)} {σ : St} {H : Hp} {s : Shared} (I : Inv X (pins ++ pl) σ H s) : Inv X pins σ H s := I.pins_of fun p hp => I.pin p (List.mem_append_right _ (List.mem_append_left _ hp))
theorem ps_for {iter : Expr} {body : List Stmt} {wi : TI} {g : TG} {tb : TS} {pos : Pos} (hp : PassesOwn (model X.prog X.w) X.A X.env X.xe) (hc : X.calm = true) (hi : PI X tg iter wi) (hg : PG X tg g) (hb : PSs X body tb)
    (hs : ∀ x, foldedSetIterable iter X.env x = pure x := by intro _; rfl) : PS X (.For tg iter body [] pos) (tFor wi g tb) := by
  intro pins s σ H D I h
  refine wpAny_For (thn (hi pins s σ H _ I h) fun v s1 h1 => thn h1 fun itv s2 h2 => ?_) hs
  obtain ⟨it, fp, tn, J, H2, e, I2, T, st2, f2, W, ⟨m0, w0⟩, turn⟩ := h2
  subst e
  -- what stays true of the iterator's objects through the loop
  have stat : ∀ {H' : Hp}, (∀ b ∈ fp, H' b = none) → ∀ b ∈ fp, FpOk X pins H' b := fun hn b hb => ⟨hn b hb, (f2 b hb).2⟩
  refine codeAny_forLoop_any (fun n s' => ∃ i σ' H', Inv X pins σ' H' s' ∧ tn i s'.heap ∧ (∀ b ∈ fp, H' b = none) ∧ W i n σ' H') ?_ m0 ⟨0, σ, H2, I2, st2, fun b hb => (f2 b hb).1, w0⟩
  rintro n s3 ⟨i, σ3, H3, I3, st3, fr3, w3⟩
  rcases turn i n σ3 H3 w3 with ⟨stop, qn⟩ | ⟨go, N, hN, step⟩
  · refine wpAny_passesOwn hp (thn (T.done X rfl rfl rfl hc i pins s3 σ3 H3 X.xe I3 (stat fr3) st3 stop) fun r s4 ⟨hr, I4⟩ => ?_)
    subst hr
    exact wpAny_execs_nil ⟨σ3, H3, I4, qn⟩
  · refine wpAny_passesOwn hp (thn (T.item X rfl rfl rfl hc i pins s3 σ3 H3 X.xe I3 (stat fr3) st3 go) fun r s4 ⟨u, hr, h4⟩ => ?_)
    subst hr
    refine wpAny_passesOwn hp (thn h4 fun _ s5 ⟨x, H5, I5, r5, y5, st5, fr5⟩ => ?_)
    have I5' := I5.pinned (stat fr5) (T.obj _ _ st5)
    refine wpAny_passesOwn hp (thn (hg _ s5 σ3 H5 x u _ I5' r5 (step x H5 y5)) fun _ s6 ⟨σ6, H6, I6, q6⟩ => ?_)
    refine wpAny_passesOwn hp (thn (hb _ s6 σ6 H6 _ I6 q6) fun f s7 q7 => ?_)
    have again : ∀ {σ7 : St} {H7 : Hp}, Inv X (pins ++ pinsAt fp s5.heap) σ7 H7 s7 → N σ7 H7 → ∃ m, m < n ∧ ∃ i σ' H', Inv X pins σ' H' s7 ∧ tn i s7.heap ∧ (∀ b ∈ fp, H' b = none) ∧ W i m σ' H' := fun {σ7 H7} I7 n7 => by
      obtain ⟨m', hm, w7⟩ := hN σ7 H7 n7
      refine ⟨m', hm, i + 1, σ7, H7, I7.unpinned, T.keep _ _ _ st5 fun b hb o e => (I7.pin (b, o) (List.mem_append_right _ (List.mem_append_right _ (mem_pinsAt hb e)))).1, fun b hb => ?_, w7⟩
      obtain ⟨o, e, d⟩ := T.obj _ _ st5 b hb
      exact (I7.pin (b, o) (List.mem_append_right _ (List.mem_append_right _ (mem_pinsAt hb e)))).2.1
    cases f with
    | next => obtain ⟨σ7, H7, I7, n7⟩ := q7; exact again I7 n7
    | cont => obtain ⟨σ7, H7, I7, n7⟩ := q7; exact again I7 n7
    | brk => obtain ⟨σ7, H7, I7, q7⟩ := q7; exact ⟨σ7, H7, I7.unpinned, q7⟩
    | ret v => obtain ⟨x7, σ7, H7, I7, r7, q7⟩ := q7; exact ⟨x7, σ7, H7, I7.unpinned, r7, q7⟩
end

/-! ### the forms one uses -/
/-- over a list that the body leaves as it is -/
theorem for_list {K : PySem.W.Frag} {a : Addr} {xs : List V} {g : TG} {tb : TS} {D : Ends} {σ : St} {H : Hp} (Pv : Nat → St → Hp → Prop) (h0 : Pv 0 σ H) (hl : ∀ i σ H, i ≤ xs.length → Pv i σ H → SqL K H a xs)
    (hs : ∀ i x σ H, xs[i]? = some x → Pv i σ H → g x σ H fun σ2 H2 => tb { D with nx := Pv (i + 1), ct := Pv (i + 1), bk := D.nx } σ2 H2) (hd : ∀ σ H, Pv xs.length σ H → D.nx σ H) :
    ∃ W : Nat → Nat → St → Hp → Prop, (∃ m, W 0 m σ H) ∧ ∀ i m σ H, W i m σ H →
      ((Itl K a).stop i H ∧ D.nx σ H) ∨ ((Itl K a).go i H ∧ ∃ N : St → Hp → Prop, (∀ σ' H', N σ' H' → ∃ m', m' < m ∧ W (i + 1) m' σ' H') ∧ ∀ x H', (Itl K a).yld i H x H' → g x σ H' fun σ2 H2 => tb { D with nx := N, ct := N, bk := D.nx } σ2 H2) := by
  refine ⟨fun i m σ H => m = xs.length - i ∧ i ≤ xs.length ∧ Pv i σ H, ⟨xs.length, by simp, Nat.zero_le _, h0⟩, ?_⟩
  rintro i m σ H ⟨rfl, hi, p⟩
  have q := hl i σ H hi p
  by_cases hlt : i < xs.length
  · refine .inr ⟨⟨xs, xs[i], q, by simp [hlt]⟩, Pv (i + 1), fun σ' H' p' => ⟨xs.length - (i + 1), by omega, rfl, hlt, p'⟩, fun x H' y => ?_⟩
    obtain ⟨e, y⟩ := y
    subst e
    exact hs i x σ _ (y xs q) p
  · have e : i = xs.length := by omega
    subst e
    exact .inl ⟨⟨xs, q, Nat.le_refl _⟩, hd σ H p⟩
theorem for_range {lo : Int} {n : Nat} {g : TG} {tb : TS} {D : Ends} {σ : St} {H : Hp} (Pv : Nat → St → Hp → Prop) (h0 : Pv 0 σ H)
    (hs : ∀ i σ H, i < n → Pv i σ H → g (.int (lo + i)) σ H fun σ2 H2 => tb { D with nx := Pv (i + 1), ct := Pv (i + 1), bk := D.nx } σ2 H2) (hd : ∀ σ H, Pv n σ H → D.nx σ H) :
    ∃ W : Nat → Nat → St → Hp → Prop, (∃ m, W 0 m σ H) ∧ ∀ i m σ H, W i m σ H →
      ((Itr lo n).stop i H ∧ D.nx σ H) ∨ ((Itr lo n).go i H ∧ ∃ N : St → Hp → Prop, (∀ σ' H', N σ' H' → ∃ m', m' < m ∧ W (i + 1) m' σ' H') ∧ ∀ x H', (Itr lo n).yld i H x H' → g x σ H' fun σ2 H2 => tb { D with nx := N, ct := N, bk := D.nx } σ2 H2) := by
  refine ⟨fun i m σ H => m = n - i ∧ i ≤ n ∧ Pv i σ H, ⟨n, by simp, Nat.zero_le _, h0⟩, ?_⟩
  rintro i m σ H ⟨rfl, hi, p⟩
  by_cases hlt : i < n
  · refine .inr ⟨hlt, Pv (i + 1), fun σ' H' p' => ⟨n - (i + 1), by omega, rfl, hlt, p'⟩, fun x H' y => ?_⟩
    obtain ⟨e, y⟩ := y
    subst e y
    exact hs i σ _ hlt p
  · have e : i = n := by omega
    subst e
    exact .inl ⟨Nat.le_refl _, hd σ H p⟩
end L2

namespace L2
open PySem PySem.Spec PyProof.Rows

abbrev R2 := V → V → Hp → VK → Prop
/-- a two-place operation on values: f is binaryOp op, inplaceOp op or compareOp op -/
def OpR (X : Cx) (f : Value → Value → Sem Value) (r : R2) : Prop :=
  ∀ (pins : List (Addr × Obj)) (s : Shared) (σ : St) (H : Hp) (x y : V) (v u : Value) (Q : VK), Inv X pins σ H s → RelV x v → RelV y u → r x y H Q →
    wpAny (model X.prog X.w) X.A (f v u) (EP X pins σ Q) X.xe s
/-- a call of a value that is known (a builtin, a type) with values -/
def CallR (X : Cx) (f : Value) (r : List V → Hp → VK → Prop) : Prop :=
  ∀ (pins : List (Addr × Obj)) (s : Shared) (σ : St) (H : Hp) (xs : List V) (us : List Value) (Q : VK), Inv X pins σ H s → Vals xs us → r xs H Q →
    wpAny (model X.prog X.w) X.A (call f us) (EP X pins σ Q) X.xe s
def tOp (r : R2) (ta tb : TE) : TE := fun σ H Q => ta σ H fun x H1 => tb σ H1 fun y H2 => r x y H2 Q
def tUn (r : V → Hp → VK → Prop) (ta : TE) : TE := fun σ H Q => ta σ H fun x H1 => r x H1 Q
/-- ints in, under C, and a value out -/
def rI (C : Int → Int → Prop) (g : Int → Int → V) : R2 := fun x y H Q => ∃ i j, x = .int i ∧ y = .int j ∧ C i j ∧ Q (g i j) H
def rI0 (g : Int → Int → V) : R2 := fun x y H Q => ∃ i j, x = .int i ∧ y = .int j ∧ Q (g i j) H
def rU (g : Int → V) : V → Hp → VK → Prop := fun x H Q => ∃ i, x = .int i ∧ Q (g i) H

section
variable {X : Cx} {a b c : Expr} {ta tb tc : TE} {pos : Pos}

theorem binT (ha : PE X a ta) (hb : PE X b tb) {pins : List (Addr × Obj)} {s : Shared} {σ : St} {H : Hp} {R : V → V → Hp → Prop} (I : Inv X pins σ H s)
    (h : ta σ H fun x H1 => tb σ H1 fun y H2 => R x y H2) {Q : Value → Shared → Prop} {f : Value → Value → Sem Value}
    (hf : ∀ v u s2 x y H2, Inv X pins σ H2 s2 → RelV x v → RelV y u → R x y H2 → wpAny (model X.prog X.w) X.A (f v u) Q X.xe s2) :
    wpAny (model X.prog X.w) X.A (eval a X.env) (fun v s₁ => wpAny (model X.prog X.w) X.A (eval b X.env) (fun u s₂ => wpAny (model X.prog X.w) X.A (f v u) Q X.xe s₂) X.xe s₁) X.xe s := by
  refine thn (ha pins s σ H _ I h) fun v s1 ⟨x, H1, I1, r1, q1⟩ => ?_
  refine thn (hb pins s1 σ H1 _ I1 q1) fun u s2 ⟨y, H2, I2, r2, q2⟩ => ?_
  exact hf v u s2 x y H2 I2 r1 r2 q2

theorem pe_op {op : Operator} {r : R2} (ho : OpR X (binaryOp op) r) (ha : PE X a ta) (hb : PE X b tb) : PE X (.BinOp a op b pos) (tOp r ta tb) := by
  intro pins s σ H Q I h
  exact wpAny_BinOp (binT ha hb I h fun v u s2 x y H2 I2 rx ry q => ho pins s2 σ H2 x y v u Q I2 rx ry q)
/-! ### ints -/
theorem opI {f : Value → Value → Sem Value} {C : Int → Int → Prop} {g : Int → Int → Int}
    (rule : ∀ (i j : Int) (t u : Tok) (s : Shared) (Q : Value → Shared → Prop) (E : Value → Shared → Prop), C i j → Q (.int (g i j) s.toks) { s with toks := s.toks + 1 } → wpAny (model X.prog X.w) X.A (f (.int i t) (.int j u)) Q E s) :
    OpR X f (rI C fun i j => .int (g i j)) := by
  intro pins s σ H x y v u Q I rx ry h
  obtain ⟨i, j, rfl, rfl, hc, q⟩ := h
  obtain ⟨t, rfl⟩ := rx
  obtain ⟨t', rfl⟩ := ry
  exact rule i j t t' s _ _ hc ⟨.int (g i j), H, I.tok _, ⟨_, rfl⟩, q⟩
theorem opI0 {f : Value → Value → Sem Value} {g : Int → Int → Int}
    (rule : ∀ (i j : Int) (t u : Tok) (s : Shared) (Q : Value → Shared → Prop) (E : Value → Shared → Prop), Q (.int (g i j) s.toks) { s with toks := s.toks + 1 } → wpAny (model X.prog X.w) X.A (f (.int i t) (.int j u)) Q E s) :
    OpR X f (rI0 fun i j => .int (g i j)) := by
  intro pins s σ H x y v u Q I rx ry h
  obtain ⟨i, j, rfl, rfl, q⟩ := h
  obtain ⟨t, rfl⟩ := rx
  obtain ⟨t', rfl⟩ := ry
  exact rule i j t t' s _ _ ⟨.int (g i j), H, I.tok _, ⟨_, rfl⟩, q⟩
theorem opB0 {f : Value → Value → Sem Value} {g : Int → Int → Bool}
    (rule : ∀ (i j : Int) (t u : Tok) (s : Shared) (Q : Value → Shared → Prop) (E : Value → Shared → Prop), Q (.bool (g i j)) s → wpAny (model X.prog X.w) X.A (f (.int i t) (.int j u)) Q E s) :
    OpR X f (rI0 fun i j => .bl (g i j)) := by
  intro pins s σ H x y v u Q I rx ry h
  obtain ⟨i, j, rfl, rfl, q⟩ := h
  obtain ⟨t, rfl⟩ := rx
  obtain ⟨t', rfl⟩ := ry
  exact rule i j t t' s _ _ ⟨.bl (g i j), H, I, rfl, q⟩

def CDiv (i j : Int) : Prop := 0 < j ∧ j < 1073741824
def CMul (i j : Int) : Prop := (-(2 ^ 64) < i ∧ i < 2 ^ 64) ∨ (-(2 ^ 64) < j ∧ j < 2 ^ 64)
theorem CMul.ok {i j : Int} (h : CMul i j) : IntMulOk i j := by
  rcases h with ⟨h1, h2⟩ | ⟨h1, h2⟩
  · exact .of_left (intBits_le_64 h1 h2)
  · exact .of_right (intBits_le_64 h1 h2)
theorem op_add : OpR X (binaryOp .Add) (rI0 fun i j => .int (i + j)) := opI0 fun _ _ _ _ _ _ _ q => add_int q
theorem op_mul : OpR X (binaryOp .Mult) (rI CMul fun i j => .int (i * j)) := opI fun _ _ _ _ _ _ _ hc q => mul_int q hc.ok
/-- // by a positive divisor -/
theorem op_fdiv : OpR X (binaryOp .FloorDiv) (rI CDiv fun i j => .int (i / j)) := opI fun i j _ _ _ _ _ hc q => by
  have h1 : (0 : Int) < j := hc.1
  have h2 : j < 1073741824 := hc.2
  exact floordiv_int (by omega) (by rw [Int.fdiv_eq_ediv_of_nonneg i (by omega)]; exact q) (.inl (PyProof.noPylong_small (by omega)))
/-- % by a positive divisor of any size -/
theorem op_mod : OpR X (binaryOp .Mod) (rI (fun _ j => 0 < j) fun i j => .int (i % j)) := opI fun i j _ _ _ _ _ hc q => by
  have h1 : (0 : Int) < j := hc
  exact mod_int' (by omega) (by rw [Int.fmod_eq_emod_of_nonneg i (by omega)]; exact q)
/-! ### bools among ints: n += (a < b) -/
end

/-! ### comparisons -/
/-- the scalars that == tells apart as data does -/
def scal : V → V → Bool
  | .non, .non => true | .non, .int _ => true | .int _, .non => true | .non, .bl _ => true | .bl _, .non => true | .non, .str _ => true | .str _, .non => true
  | .int _, .int _ => true | .bl _, .bl _ => true | .str _, .str _ => true | .byt _, .byt _ => true
  | .int _, .str _ => true | .str _, .int _ => true | .bl _, .str _ => true | .str _, .bl _ => true
  | _, _ => false
def rEq : R2 := fun x y H Q => scal x y = true ∧ Q (.bl (decide (x = y))) H
def rNe : R2 := fun x y H Q => scal x y = true ∧ Q (.bl (!decide (x = y))) H

theorem dec_int {i j : Int} : decide (V.int i = V.int j) = (i == j) := by
  rw [Bool.eq_iff_iff]
  simp
theorem dec_bl {i j : Bool} : decide (V.bl i = V.bl j) = (i == j) := by
  rw [Bool.eq_iff_iff]
  simp
theorem dec_str {i j : Str} : decide (V.str i = V.str j) = (i == j) := by
  rw [Bool.eq_iff_iff]
  simp
theorem dec_byt {i j : Array UInt8} : decide (V.byt i = V.byt j) = (i.toList == j.toList) := by
  rw [Bool.eq_iff_iff]
  cases i
  cases j
  simp

section
variable {X : Cx} {a b c : Expr} {ta tb tc : TE} {pos : Pos}
theorem fin_bl {pins : List (Addr × Obj)} {σ : St} {H : Hp} {s : Shared} {Q : VK} {k k' : Bool} (I : Inv X pins σ H s) (q : Q (.bl k) H) (e : k = k') : EP X pins σ Q (.bool k') s := by
  subst e
  exact ⟨.bl k, H, I, rfl, q⟩
theorem op_eq : OpR X (compareOp .Eq) rEq := by
  intro pins s σ H x y v u Q I rx ry h
  obtain ⟨hs, q⟩ := h
  cases x with
  | non =>
    cases rx
    cases y with
    | non => cases ry; exact PySem.EqNone.eq_none_none (fin_bl I q (by simp))
    | bl j => cases ry; exact PySem.EqNone.eq_none_bool (fin_bl I q (by simp))
    | int j => obtain ⟨t', rfl⟩ := ry; exact PySem.EqNone.eq_none_int (fin_bl I q (by simp))
    | str j => obtain ⟨t', rfl⟩ := ry; exact PySem.EqNone.eq_none_str (fin_bl I q (by simp))
    | _ => exact absurd (show false = true from hs) Bool.false_ne_true
  | bl i =>
    cases rx
    cases y with
    | non => cases ry; exact PySem.EqNone.eq_bool_none (fin_bl I q (by simp))
    | bl j => cases ry; exact eq_bool (fin_bl I q dec_bl)
    | str j => obtain ⟨t', rfl⟩ := ry; exact PySem.EqMixed.eq_bool_str (fin_bl I q (by simp))
    | _ => exact absurd (show false = true from hs) Bool.false_ne_true
  | int i =>
    obtain ⟨t, rfl⟩ := rx
    cases y with
    | non => cases ry; exact PySem.EqNone.eq_int_none (fin_bl I q (by simp))
    | int j => obtain ⟨t', rfl⟩ := ry; exact eq_int (fin_bl I q dec_int)
    | str j => obtain ⟨t', rfl⟩ := ry; exact PySem.EqMixed.eq_int_str (fin_bl I q (by simp))
    | _ => exact absurd (show false = true from hs) Bool.false_ne_true
  | str i =>
    obtain ⟨t, rfl⟩ := rx
    cases y with
    | non => cases ry; exact PySem.EqNone.eq_str_none (fin_bl I q (by simp))
    | bl j => cases ry; exact PySem.EqMixed.eq_str_bool (fin_bl I q (by simp))
    | int j => obtain ⟨t', rfl⟩ := ry; exact PySem.EqMixed.eq_str_int (fin_bl I q (by simp))
    | str j => obtain ⟨t', rfl⟩ := ry; exact eq_str (fin_bl I q dec_str)
    | _ => exact absurd (show false = true from hs) Bool.false_ne_true
  | byt i =>
    obtain ⟨t, rfl⟩ := rx
    cases y with
    | byt j => obtain ⟨t', rfl⟩ := ry; exact PySem.W.eq_bytes (fin_bl I q dec_byt)
    | _ => exact absurd (show false = true from hs) Bool.false_ne_true
  | _ => cases y <;> exact absurd (show false = true from hs) Bool.false_ne_true
theorem op_ne : OpR X (compareOp .NotEq) rNe := by
  intro pins s σ H x y v u Q I rx ry h
  obtain ⟨hs, q⟩ := h
  cases x with
  | non =>
    cases rx
    cases y with
    | non => cases ry; exact PySem.EqNone.ne_none_none (fin_bl I q (by simp))
    | bl j => cases ry; exact PySem.EqNone.ne_none_bool (fin_bl I q (by simp))
    | int j => obtain ⟨t', rfl⟩ := ry; exact PySem.EqNone.ne_none_int (fin_bl I q (by simp))
    | str j => obtain ⟨t', rfl⟩ := ry; exact PySem.EqNone.ne_none_str (fin_bl I q (by simp))
    | _ => exact absurd (show false = true from hs) Bool.false_ne_true
  | bl i =>
    cases rx
    cases y with
    | non => cases ry; exact PySem.EqNone.ne_bool_none (fin_bl I q (by simp))
    | bl j => cases ry; exact ne_bool (fin_bl I q (congrArg not dec_bl))
    | str j => obtain ⟨t', rfl⟩ := ry; exact PySem.EqMixed.ne_bool_str (fin_bl I q (by simp))
    | _ => exact absurd (show false = true from hs) Bool.false_ne_true
  | int i =>
    obtain ⟨t, rfl⟩ := rx
    cases y with
    | non => cases ry; exact PySem.EqNone.ne_int_none (fin_bl I q (by simp))
    | int j => obtain ⟨t', rfl⟩ := ry; exact ne_int (fin_bl I q (congrArg not dec_int))
    | str j => obtain ⟨t', rfl⟩ := ry; exact PySem.EqMixed.ne_int_str (fin_bl I q (by simp))
    | _ => exact absurd (show false = true from hs) Bool.false_ne_true
  | str i =>
    obtain ⟨t, rfl⟩ := rx
    cases y with
    | non => cases ry; exact PySem.EqNone.ne_str_none (fin_bl I q (by simp))
    | bl j => cases ry; exact PySem.EqMixed.ne_str_bool (fin_bl I q (by simp))
    | int j => obtain ⟨t', rfl⟩ := ry; exact PySem.EqMixed.ne_str_int (fin_bl I q (by simp))
    | str j => obtain ⟨t', rfl⟩ := ry; exact ne_str (fin_bl I q (congrArg not dec_str))
    | _ => exact absurd (show false = true from hs) Bool.false_ne_true
  | byt i =>
    obtain ⟨t, rfl⟩ := rx
    cases y with
    | byt j => obtain ⟨t', rfl⟩ := ry; exact PySem.W.ne_bytes (fin_bl I q (congrArg not dec_byt))
    | _ => exact absurd (show false = true from hs) Bool.false_ne_true
  | _ => cases y <;> exact absurd (show false = true from hs) Bool.false_ne_true

theorem op_lt : OpR X (compareOp .Lt) (rI0 fun i j => .bl (decide (i < j))) := opB0 fun _ _ _ _ _ _ _ q => lt_int q
theorem op_le : OpR X (compareOp .LtE) (rI0 fun i j => .bl (decide (i ≤ j))) := opB0 fun _ _ _ _ _ _ _ q => le_int q
theorem op_gt : OpR X (compareOp .Gt) (rI0 fun i j => .bl (decide (j < i))) := opB0 fun _ _ _ _ _ _ _ q => gt_int q
/-- two rules for one operation: by cases -/
theorem OpR.or {f : Value → Value → Sem Value} {r r' : R2} (h : OpR X f r) (h' : OpR X f r') : OpR X f (fun x y H Q => r x y H Q ∨ r' x y H Q) := by
  intro pins s σ H x y v u Q I rx ry q
  rcases q with q | q
  · exact h pins s σ H x y v u Q I rx ry q
  · exact h' pins s σ H x y v u Q I rx ry q

theorem nomark (b : Expr) {op : CmpOp} (h : op ≠ .In := by decide) (h2 : op ≠ .NotIn := by decide) : behindInMarks op b = false := by
  have e1 : (op == CmpOp.In) = false := by cases op <;> first | rfl | exact absurd rfl h
  have e2 : (op == CmpOp.NotIn) = false := by cases op <;> first | rfl | exact absurd rfl h2
  cases b <;> simp [behindInMarks, e1, e2]
/-- a comparison as a value; hm: nomark b, or (for in, not in) by with_unfolding_all rfl -/
theorem pe_cmpR {op : CmpOp} {r : R2} (ho : OpR X (compareOp op) r) (ha : PE X a ta) (hb : PE X b tb) (hm : behindInMarks op b = false) : PE X (.Compare a [op] [b] pos) (tOp r ta tb) := by
  intro pins s σ H Q I h
  exact wpAny_Compare1 (binT ha hb I h fun v u s2 x y H2 I2 rx ry q => ho pins s2 σ H2 x y v u Q I2 rx ry q) hm
/-- a reading of a value as a test -/
def tTest (t : TE) : TT := fun σ H Q => t σ H fun x H' => ∃ k, x = .bl k ∧ Q k H'
theorem pt_cmpR {op : CmpOp} {r : R2} (ho : OpR X (compareOp op) r) (ha : PE X a ta) (hb : PE X b tb) (hm : behindInMarks op b = false) : PT X (.Compare a [op] [b] pos) (tTest (tOp r ta tb)) := by
  intro pins s σ H Q I h
  refine wpAny_isTrue_Compare1 (thn (ha pins s σ H _ I h) fun v s1 ⟨x, H1, I1, r1, q1⟩ => thn (hb pins s1 σ H1 _ I1 q1) fun u s2 ⟨y, H2, I2, r2, q2⟩ =>
    thn (ho pins s2 σ H2 x y v u _ I2 r1 r2 q2) fun c s3 ⟨z, H3, I3, r3, k, e, q3⟩ => ?_) hm
  subst e
  cases r3
  exact wpAny_truthy_bool ⟨H3, I3, q3⟩
/-- a op1 b op2 c -/
def tChain (r r' : R2) (ta tb tc : TE) : TE := fun σ H Q => ta σ H fun x H1 => tb σ H1 fun y H2 => r x y H2 fun z H3 => ∃ k, z = .bl k ∧
  (if k = true then tc σ H3 fun w' H4 => r' y w' H4 Q else Q (.bl false) H3)
/-! ### truth -/
theorem line63 : (sizeLine : Nat) < 2 ^ 63 := by rw [sizeLine_eq]; decide
/-! ### strs and bytes -/
/-! ### scalar builtins, by CallR -/
theorem vals1 {x : V} {us : List Value} (r : Vals [x] us) : ∃ u, us = [u] ∧ RelV x u := by
  cases r with
  | cons r1 r2 => cases r2; exact ⟨_, rfl, r1⟩
theorem vals2 {x y : V} {us : List Value} (r : Vals [x, y] us) : ∃ u w', us = [u, w'] ∧ RelV x u ∧ RelV y w' := by
  cases r with
  | cons r1 r2 =>
    cases r2 with
    | cons r3 r4 => cases r4; exact ⟨_, _, rfl, r1, r3⟩
theorem call_min2 (hc : X.calm = true) : CallR X (.builtin "min") (fun xs H Q => ∃ i j, xs = [.int i, .int j] ∧ Q (.int (if j < i then j else i)) H) := by
  intro pins s σ H xs us Q I r h
  obtain ⟨i, j, rfl, q⟩ := h
  obtain ⟨u, w', rfl, ⟨t, rfl⟩, ⟨t', rfl⟩⟩ := vals2 r
  refine min_two_ints (I.ok.hd hc) fun h' tk k => ⟨_, H, I.kept k, ?_, q⟩
  by_cases hj : j < i
  · rw [if_pos hj, if_pos hj]; exact ⟨_, rfl⟩
  · rw [if_neg hj, if_neg hj]; exact ⟨_, rfl⟩
end
end L2

namespace L2
open PySem PySem.Spec PyProof.Rows

/-! ### an instance, its attributes a map -/
structure ObjM (h : Heap) (x dx C : Addr) (mA : Str → Option Value) : Prop where
  obj : h.get? x = some (PySem.W.instObj C dx)
  ns : h.Ns1 dx mA
  ne : dx ≠ x

theorem lookIn_ns {h : Heap} {dx : Addr} {mA : Str → Option Value} (n : h.Ns1 dx mA) : ∃ od, h.get? dx = some od ∧ ∀ name, PySem.W.lookIn name od = some (mA name) := by
  obtain ⟨o, es, ep, ho, hd, hk, _, hm⟩ := n
  refine ⟨o, ho, fun name => ?_⟩
  have e := hm name
  unfold nsFind findBy at e
  rw [← Array.find?_toList] at e
  unfold PySem.W.lookIn
  rw [hd]
  dsimp only
  split
  · rename_i y q
    rw [q] at e
    exact congrArg some e
  · rename_i q
    rw [q] at e
    have a : es.toList.any (·.refKey) = false := by
      rw [List.any_eq_false]
      intro y hy
      obtain ⟨z, t, hkey⟩ := hk y (Array.mem_toList_iff.mp hy)
      simp [DictEntry.refKey, hkey]
    have a' : ¬ es.toList.any (·.refKey) = true := by rw [a]; exact Bool.false_ne_true
    rw [if_neg a']
    exact congrArg some e

theorem ObjM.look {h : Heap} {x dx C : Addr} {mA : Str → Option Value} (I : ObjM h x dx C mA) : ∃ od, PySem.W.InstAt h x (PySem.W.instObj C dx) C (some od) ∧ ∀ name, PySem.W.lookIn name od = some (mA name) :=
  let ⟨od, ho, hl⟩ := lookIn_ns I.ns
  ⟨od, ⟨I.obj, rfl, rfl, ho⟩, hl⟩

section
variable {prog : Program} {w : World} {A : Around} {E : Value → Shared → Prop} {s : Shared} {K : PySem.W.Frag} {x dx C f : Addr} {mA : Str → Option Value} {name : Str} {v : Value}

end

/-! ### the attributes as a list of pairs -/
section
variable {P : Program} {w : World} {H H' : Hp} {h h' : Heap} {a C dx : Addr} {fs fs' : List (Str × V)}
theorem ins_get (hok : HOk P w H h) (e : H a = some (.ins C dx fs)) : ∃ mA, ObjM h a dx C mA ∧ (∀ f, RelO (fs.lookup f) (mA f)) ∧ PySem.Within mA (fs.map (·.1)) ∧ fs.length ≤ 1000 ∧ H dx = some (.own a) := by
  obtain ⟨d, z, ne, ob, mA, n, r, q⟩ := (show ObjOk P w H h a (.ins C dx fs) from hok a _ e)
  exact ⟨mA, ⟨ob, n, ne⟩, r, q, z, d⟩
end

/-! ### what of the text a class must have -/
structure Cls (K : PySem.W.Frag) (C : Addr) : Prop where
  pg : PySem.W.plainGet K C Str.empty = true
  hd : PySem.W.hasDictIn K C = true
  po : PySem.W.plainOver K C = true
  sa : PySem.W.findIn K (.ref C) "__setattr__" = some (some (.builtin "object.__setattr__"))
theorem Cls.get {K : PySem.W.Frag} {C : Addr} (c : Cls K C) (f : Str) : PySem.W.plainGet K C f = true := c.pg
section
variable {X : Cx} {pins : List (Addr × Obj)} {σ : St} {H : Hp} {s : Shared} {a C dx : Addr} {fs : List (Str × V)} {f : Str} {v : V} {A : Around} {E : Value → Shared → Prop}

/-- a new instance, tracked, without attributes -/
theorem Inv.made (I : Inv X pins σ H s) : Inv X pins σ (upd (upd H s.heap.objs.size (.own (s.heap.objs.size + 1))) (s.heap.objs.size + 1) (.ins C s.heap.objs.size []))
    { s with heap := (s.heap.push PySem.W.emptyDict).push (PySem.W.instObj C s.heap.objs.size) } := by
  have e1 : (s.heap.push PySem.W.emptyDict).get? s.heap.objs.size = some PySem.W.emptyDict := Heap.get?_push_size s.heap rfl
  have e2 : ((s.heap.push PySem.W.emptyDict).push (PySem.W.instObj C s.heap.objs.size)).get? (s.heap.objs.size + 1) = some (PySem.W.instObj C s.heap.objs.size) := by
    have := Heap.get?_push_size (s.heap.push PySem.W.emptyDict) (o := PySem.W.instObj C s.heap.objs.size) rfl
    rwa [Heap.size_push] at this
  have e3 : (s.heap.push PySem.W.emptyDict).Ns s.heap.objs.size (fun _ => none) := ⟨PySem.W.emptyDict, #[], _, e1, rfl, (fun e he => absurd he (by simp)), fun _ => rfl⟩
  have I1 := I.laid (a := s.heap.objs.size) (o := .own (s.heap.objs.size + 1)) (h' := s.heap.push PySem.W.emptyDict) (t' := s.toks) (fun b u q => Heap.get?_push_of_some _ q) (Nat.le_refl _) ⟨_, e1⟩
  refine I1.laid (a := s.heap.objs.size + 1) (o := .ins C s.heap.objs.size []) (t' := s.toks) (fun b u q => Heap.get?_push_of_some _ q) (Nat.le_of_eq (Heap.size_push _ _)) ?_
  have ne : s.heap.objs.size ≠ s.heap.objs.size + 1 := Nat.ne_of_lt (Nat.lt_succ_self _)
  refine ⟨by rw [upd_ne ne, upd_same], Nat.zero_le _, ne, e2, fun _ => none, (Heap.Ns1.of_empty e3).at fun o q => Heap.get?_push_of_some _ q, fun _ => True.intro, fun y hy => absurd rfl hy⟩

end

/-! ### readings and rules -/
section
variable {X : Cx} {o e value : Expr} {f : Str} {pos pos' tpos : Pos} {ta tv : TE}
end

/-! ### isinstance -/
section
variable {X : Cx} {pins : List (Addr × Obj)} {σ : St} {H : Hp} {s : Shared} {A : Around} {E : Value → Shared → Prop} {Q : Value → Shared → Prop} {c : Value} {b : Bool}
/-- the type of a value, as the fragment's deciders take it; for an instance its class -/
inductive TyOf (K : PySem.W.Frag) (H : Hp) : V → Value → Prop where
  | non : TyOf K H .non (.type "NoneType")
  | bl (x : Bool) : TyOf K H (.bl x) (.type "bool")
  | int (i : Int) : TyOf K H (.int i) (.type "int")
  | str (x : Str) : TyOf K H (.str x) (.type "str")
  | flt (x : UInt64) : TyOf K H (.flt x) (.type "float")
  | lst {a : Addr} {xs : List V} (e : H a = some (.lst xs)) : TyOf K H (.ref a) (.type "list")
  | frz {a : Addr} {o : Obj} {xs : List V} (e : H a = some (.frz o (.lst xs))) : TyOf K H (.ref a) (.type "list")
  | tup {a : Addr} {xs : List V} (e : H a = some (.tup xs)) : TyOf K H (.ref a) (.type "tuple")
  | dK {a : Addr} {kvs : List (Key × V)} (e : H a = some (.dK kvs)) : TyOf K H (.ref a) (.type "dict")
  | dT {a : Addr} {kvs : List (List Key × V)} (e : H a = some (.dT kvs)) : TyOf K H (.ref a) (.type "dict")
  | ins {a C dx : Addr} {fs : List (Str × V)} (e : H a = some (.ins C dx fs)) (cl : Cls K C) (ha : PySem.W.findIn K (.ref C) "__class__" = some (some (.builtin "object.__class__")))
      (hn : PySem.W.specialIn K (.builtin "object.__class__") "__get__" = some (some (.builtin "getset_descriptor.__get__"))) (htk : PySem.W.takesIn K (.builtin "object.__class__") = some true)
      (hm : PySem.W.mroIn K C (.type "object") = some true) : TyOf K H (.ref a) (.ref C)
/-- isinstance(x, c) for one class c, a built-in or an own one: kitOne's answer -/
theorem isinst_ok {x : V} {u t : Value} (I : Inv X pins σ H s) (rx : RelV x u) (ty : TyOf X.K H x t) (e : PySem.W.kitOne X.K t c = some b) (h : ∀ tk, Q (.bool b) { s with toks := tk }) :
    wpAny (model X.prog X.w) A (call (.builtin "isinstance") [u, c]) Q E s := by
  cases ty with
  | non => cases (show u = Value.none from rx); exact PySem.W.kia_one PySem.W.kitx_none I.kIn True.intro e (fun z => nomatch z) h
  | bl y => cases (show u = Value.bool y from rx); exact PySem.W.kia_one PySem.W.kitx_bool I.kIn True.intro e (fun z => nomatch z) h
  | int i => obtain ⟨t, q⟩ := (show ∃ t, u = Value.int i t from rx); cases q; exact PySem.W.kia_one PySem.W.kitx_int I.kIn True.intro e (fun z => nomatch z) h
  | str y => obtain ⟨t, q⟩ := (show ∃ t, u = Value.str y t from rx); cases q; exact PySem.W.kia_one PySem.W.kitx_str I.kIn True.intro e (fun z => nomatch z) h
  | flt y => obtain ⟨t, q⟩ := (show ∃ t, u = Value.float y t from rx); cases q; exact PySem.W.kia_one PySem.W.kitx_float I.kIn True.intro e (fun z => nomatch z) h
  | @lst a xs ea =>
    cases (show u = Value.ref a from rx)
    obtain ⟨_, _, n, _, h1⟩ := (show ObjOk X.prog X.w H s.heap a (.lst xs) from I.hok a _ ea)
    exact PySem.W.kia_one PySem.W.kitx_list I.kIn ⟨_, h1, rfl⟩ e (fun z => nomatch z) h
  | @frz a ob xs ea =>
    cases (show u = Value.ref a from rx)
    obtain ⟨_, _, _, n, _, h1⟩ := (show ObjOk X.prog X.w H s.heap a (.frz ob (.lst xs)) from I.hok a _ ea)
    exact PySem.W.kia_one PySem.W.kitx_list I.kIn ⟨_, h1, rfl⟩ e (fun z => nomatch z) h
  | @tup a xs ea =>
    cases (show u = Value.ref a from rx)
    obtain ⟨_, _, _, p⟩ := (show ObjOk X.prog X.w H s.heap a (.tup xs) from I.hok a _ ea)
    obtain ⟨o, h1, h2, _⟩ := p
    exact PySem.W.kia_one PySem.W.kitx_tuple I.kIn ⟨o, h1, h2⟩ e (fun z => nomatch z) h
  | @dK a kvs ea =>
    cases (show u = Value.ref a from rx)
    obtain ⟨_, _, vs, _, p⟩ := (show ObjOk X.prog X.w H s.heap a (.dK kvs) from I.hok a _ ea)
    obtain ⟨o, es, ep, h1, h2, _⟩ := p
    exact PySem.W.kia_one PySem.W.kitx_dict I.kIn ⟨o, h1, h2.1⟩ e (fun z => nomatch z) h
  | @dT a kvs ea =>
    cases (show u = Value.ref a from rx)
    obtain ⟨_, _, xs, _, o, es, ep, h1, h2, _⟩ := (show ObjOk X.prog X.w H s.heap a (.dT kvs) from I.hok a _ ea)
    exact PySem.W.kia_one PySem.W.kitx_dict I.kIn ⟨o, h1, h2.1⟩ e (fun z => nomatch z) h
  | @ins a C dx fs ea cl ha hn htk hm =>
    cases (show u = Value.ref a from rx)
    obtain ⟨mA, O, _⟩ := ins_get I.hok ea
    obtain ⟨od, J, _⟩ := O.look
    exact PySem.W.kia_one (PySem.W.kitx_own (cl.get _) cl.hd ha hn htk hm) I.kIn J e (fun z => nomatch z) h
end
end L2

namespace L2
open PySem PySem.Spec PyProof.Rows

/-! ### room -/
structure Room (k : Nat) (A : Around) : Prop where
  hd : A.handled = none
  dp : A.depth + 3 * k + 5 < recursionLimit
  un : A.units + 16 * k + 200 < cLine
  gd : A.guards = some []
theorem Room.mono {j k : Nat} {A : Around} (r : Room k A) (h : j ≤ k) : Room j A := ⟨r.hd, by have := r.dp; omega, by have := r.un; omega, r.gd⟩
theorem Room.deeper {k : Nat} {A : Around} (r : Room (k + 1) A) (env : Env) : Room k (A.deeper env) :=
  ⟨r.hd, by have := r.dp; show A.depth + 1 + 3 * k + 5 < _; omega, by have := r.un; show A.units + 3 + 16 * k + 200 < _; omega, r.gd⟩
theorem Room.depth {k : Nat} {A : Around} (r : Room k A) : A.depth < recursionLimit := by have := r.dp; omega
theorem Room.units {k : Nat} {A : Around} (r : Room k A) : A.units + 64 < cLine := by have := r.un; omega
/-! ### argument lists and displays -/
def tNil : TA := fun _ H Q => Q [] H
def tCons (ta : TE) (tr : TA) : TA := fun σ H Q => ta σ H fun x H1 => tr σ H1 fun xs H2 => Q (x :: xs) H2
section
variable {X : Cx} {e : Expr} {es : List Expr} {te : TE} {t : TA} {pos : Pos}
theorem pa_nil : PA X [] tNil := fun _ _ _ _ H Q I h => Calls.spliced_nil ⟨[], H, I, .nil, h⟩
theorem pa_cons (ha : PE X e te) (hr : PA X es t) (hs : starEach (e :: es) X.env = (false, eval e X.env) :: starEach es X.env := by rfl) : PA X (e :: es) (tCons te t) := by
  intro pos pins s σ H Q I h
  rw [hs]
  show wpAny _ _ (spliced ((false, eval e X.env) :: backTo pos (starEach es X.env))) _ _ s
  refine Calls.spliced_cons (thn (ha pins s σ H _ I h) fun u s1 ⟨x, H1, I1, r1, q1⟩ => ?_)
  exact thn (hr pos pins s1 σ H1 _ I1 q1) fun us s2 ⟨xs, H2, I2, r2, q2⟩ => ⟨x :: xs, H2, I2, .cons r1 r2, q2⟩

/-- a tuple, a list of written items -/
def tTup (t : TA) : TE := fun σ H Q => t σ H fun xs H1 => xs.length ≤ sizeLine ∧ ∀ p, H1 p = none → Q (.ref p) (upd H1 p (.tup xs))
def tLst (t : TA) : TE := fun σ H Q => t σ H fun xs H1 => xs.length ≤ sizeLine ∧ ∀ p, H1 p = none → Q (.ref p) (upd H1 p (.lst xs))
theorem pe_tup {x1} (h : PA X es t) : PE X (.Tuple es x1 pos) (tTup t) := by
  intro pins s σ H Q I hq
  refine wpAny_Tuple_spliced (thn (h pos pins s σ H _ I hq) fun us s1 ⟨xs, H1, I1, r, z, q⟩ => ⟨by rw [← r.length]; exact z, ?_⟩)
  have hf : H1 s1.heap.objs.size = none := I1.hok.fresh (Nat.le_refl _)
  refine ⟨.ref s1.heap.objs.size, upd H1 s1.heap.objs.size (.tup xs), I1.laid (t' := s1.toks) (fun b u e => Heap.get?_push_of_some _ e) (Nat.le_refl _) ?_, rfl, q _ hf⟩
  exact ⟨z, us, r, ⟨_, Heap.get?_push_size _ rfl, rfl, _, rfl⟩⟩
theorem pe_lst (h : PA X es t) : PE X (.List es pos) (tLst t) := by
  intro pins s σ H Q I hq
  refine wpAny_List_spliced (thn (h pos pins s σ H _ I hq) fun us s1 ⟨xs, H1, I1, r, z, q⟩ => ⟨by rw [← r.length]; exact z, ?_⟩)
  have hf : H1 s1.heap.objs.size = none := I1.hok.fresh (Nat.le_refl _)
  refine ⟨.ref s1.heap.objs.size, upd H1 s1.heap.objs.size (.lst xs), I1.laid (t' := s1.toks) (fun b u e => Heap.get?_push_of_some _ e) (Nat.le_refl _) ?_, rfl, q _ hf⟩
  exact ⟨z, us, 0, r, Heap.get?_push_size _ rfl⟩
end

/-! ### what a def promises -/
/-- a def's promise: the bound arguments in the parameters' order, the heap, the wanted end, the wanted exception -/
abbrev Sp := List V → Hp → VK → XK → Prop
/-- how an exception lies behind a call (file 08 gives it): the callers' frames, abstract heap and state ahead of the call, the wish, the exception, the state -/
abbrev CXT := List Env → Hp → Shared → XK → Value → Shared → Prop

/-- the state at a call -/
structure Env0 (P : Program) (w : World) (K : PySem.W.Frag) (mg : Str → Option Value) (base : Heap) (A : Around) (outer : List Env) (s : Shared) (H : Hp) : Prop where
  frames : A.frames = some outer
  mod : Mod K mg base
  bs : ∀ b o, base.get? b = some o → s.heap.get? b = some o ∧ H b = none
  bsz : base.objs.size ≤ s.heap.objs.size
  funs : s.heap.FunFrames base outer
  frf : ∀ b ∈ frs outer, H b = none
  hok : HOk P w H s.heap
  bare : AllBare s.gens
/-- a call's end -/
def CE (outer : List Env) (P : Program) (w : World) (H : Hp) (s : Shared) (Q : VK) (u : Value) (s' : Shared) : Prop :=
  ∃ v H', s'.os = s.os ∧ AllBare s'.gens ∧ Un (frs outer) [] H H' s.heap s'.heap ∧ HOk P w H' s'.heap ∧ RelV v u ∧ Q v H'
def CR (CX : CXT) (outer : List Env) (P : Program) (w : World) (H : Hp) (s : Shared) (Q : VK) (E : XK) (r : Result) (s' : Shared) : Prop :=
  match r with
  | .ok (.ret u) => CE outer P w H s Q u s'
  | .ok _ => False
  | .error e => CX outer H s E e s'
structure FnOk (P : Program) (w : World) (K : PySem.W.Frag) (mg : Str → Option Value) (base : Heap) (CX : CXT) (k : Nat) (f : Addr) (fd : FuncData) (ps : List Str) (sp : Sp) : Prop where
  len : ∀ vs H Q E, sp vs H Q E → vs.length = ps.length
  run : ∀ (A : Around) (outer : List Env) (s : Shared) (H : Hp) (args : Args) (us : List Value) (vs : List V) (Q : VK) (E : XK), Room k A → Env0 P w K mg base A outer s H → BindsTo s fd args (ps.zip us) → Vals vs us → sp vs H Q E →
    codeAny (model P w) A (.call (.ref f) args) (CR CX outer P w H s Q E) s
theorem FnOk.mono {P : Program} {w : World} {K : PySem.W.Frag} {mg : Str → Option Value} {base : Heap} {CX : CXT} {j k : Nat} {f : Addr} {fd : FuncData} {ps : List Str} {sp : Sp} (F : FnOk P w K mg base CX j f fd ps sp) (h : j ≤ k) :
    FnOk P w K mg base CX k f fd ps sp := ⟨F.len, fun A outer s H args us vs Q E hr => F.run A outer s H args us vs Q E (hr.mono h)⟩
/-- a weaker promise -/
theorem FnOk.imp {P : Program} {w : World} {K : PySem.W.Frag} {mg : Str → Option Value} {base : Heap} {CX : CXT} {k : Nat} {f : Addr} {fd : FuncData} {ps : List Str} {sp sp' : Sp} (F : FnOk P w K mg base CX k f fd ps sp)
    (h : ∀ vs H Q E, sp' vs H Q E → sp vs H Q E) : FnOk P w K mg base CX k f fd ps sp' :=
  ⟨fun vs H Q E q => F.len vs H Q E (h _ _ _ _ q), fun A outer s H args us vs Q E hr he hb hv hs => F.run A outer s H args us vs Q E hr he hb hv (h _ _ _ _ hs)⟩

section
variable {X : Cx} {pins : List (Addr × Obj)} {σ : St} {H : Hp} {s s' : Shared}
/-- from a body: what a callee wants -/
theorem Inv.env0 (I : Inv X pins σ H s) : Env0 X.prog X.w X.K X.mg X.base X.A X.stack s H :=
  ⟨I.ok.frames, I.ok.mod, I.bs, Nat.le_trans I.ok.bsz I.sz, I.stack, I.stkFree, I.hok, I.bare⟩
/-- behind a call -/
theorem Inv.after {Q : VK} {u : Value} (I : Inv X pins σ H s) (h : CE X.stack X.prog X.w H s Q u s') : EP X pins σ Q u s' := by
  obtain ⟨v, H', os, bare, un, hok, r, q⟩ := h
  obtain ⟨hh, g, d, t, os'⟩ := s'
  obtain rfl : os' = s.os := os
  exact ⟨v, H', I.call (h' := hh) (g' := g) (d' := d) (t' := t) (ch := []) un hok bare (fun b z => absurd z (by simp)), r, q⟩
end

/-! ### calls -/
/-- f(..): the written arguments, then the defaults dvs; E: what is wanted of an exception -/
def tCall (sp : Sp) (dvs : List V) (E : XK) (t : TA) : TE := fun σ H Q => t σ H fun vs H1 => sp (vs ++ dvs) H1 Q E
/-- how the parameters are bound: us the positional arguments, kw the keywords' values by name, ds the defaults that fill up -/
def Binds (K : PySem.W.Frag) (fd : FuncData) (ps : List Str) (ds : List Value) : Prop :=
  ∀ (s : Shared) (us : List Value), K.In s.heap → (us ++ ds).length = ps.length → BindsTo s fd ⟨us, []⟩ (ps.zip (us ++ ds))
/-- every parameter is given -/
theorem Binds.all {K : PySem.W.Frag} {fd : FuncData} {ps : List Str} (h : ∀ us : List Value, us.length = ps.length → bindArgs fd ⟨us, []⟩ = pure (ps.zip us)) : Binds K fd ps [] := fun s us _ hl => by
  rw [List.append_nil] at hl ⊢
  exact .of_eq (h us hl)

/-- an exception of a callee reaches what this body wants of exceptions -/
def Passes (CX : CXT) (X : Cx) (E : XK) : Prop := ∀ (pins : List (Addr × Obj)) (σ : St) (H : Hp) (s : Shared) (e : Value) (s' : Shared), Inv X pins σ H s → CX X.stack H s E e s' → X.xe e s'

section
variable {X : Cx} {CX : CXT} {k : Nat} {f C : Addr} {fd : FuncData} {ps : List Str} {sp : Sp} {dvs : List V} {ds : List Value} {E : XK} {x m : Str} {p pos apos : Pos} {e o : Expr} {es : List Expr} {ta : TE} {t : TA}

/-- the callee runs -/
theorem run_fn {pins : List (Addr × Obj)} {σ : St} {H : Hp} {s : Shared} {Q : VK} {us : List Value} {vs : List V} (F : FnOk X.prog X.w X.K X.mg X.base CX k f fd ps sp) (hr : Room k X.A) (hb : Binds X.K fd ps ds) (hd : Vals dvs ds) (hx : Passes CX X E)
    (I : Inv X pins σ H s) (r : Vals vs us) (h : sp (vs ++ dvs) H Q E) : wpAny (model X.prog X.w) X.A (call (.ref f) us) (EP X pins σ Q) X.xe s := by
  have r2 : Vals (vs ++ dvs) (us ++ ds) := r.append hd
  have hl : (us ++ ds).length = ps.length := by rw [← r2.length]; exact F.len _ _ _ _ h
  refine wpAny_call (codeAny_mono (F.run X.A X.stack s H ⟨us, []⟩ (us ++ ds) (vs ++ dvs) Q E hr I.env0 (hb s us I.kIn hl) r2 h) fun r s' hq => ?_)
  cases r with
  | error e => exact hx pins σ H s e s' I hq
  | ok fl =>
    cases fl with
    | ret u => exact I.after hq
    | next => exact False.elim hq
    | brk => exact False.elim hq
    | cont => exact False.elim hq

theorem pe_call (F : FnOk X.prog X.w X.K X.mg X.base CX k f fd ps sp) (hr : Room k X.A) (hg : Gl X x) (hm : X.mg x = some (.ref f)) (hk : PySem.W.keepIn X.K (.ref f) = true) (hb : Binds X.K fd ps ds) (hd : Vals dvs ds) (hx : Passes CX X E)
    (ha : PA X (e :: es) t) (hdb : (x == ("__debug__" : Str)) = false := by decide) (he : starEach (e :: es) X.env = (false, eval e X.env) :: starEach es X.env := by rfl) (hpl : (backTo pos (starEach es X.env)).any (·.1) = false := by rfl) :
    PE X (.Call (.Name x p) (e :: es) [] pos) (tCall sp dvs E t) := by
  intro pins s σ H Q I h
  refine wpAny_Call_Name_kw (ld_glob I hg hm ?_ hdb)
  refine PySem.W.callWith_K (h₀ := X.base) I.ok.mod.kin hk (thn (ha pos pins s σ H _ I h) fun us s1 ⟨vs, H1, I1, r, q⟩ => ⟨I1.kIn, ?_⟩) he hpl
  exact run_fn F hr hb hd hx I1 r q
end

/-! ### keywords -/
section
variable {X : Cx} {CX : CXT} {k : Nat} {f C : Addr} {fd : FuncData} {ps ks : List Str} {sp : Sp} {E : XK} {x m : Str} {p pos apos kpos : Pos} {e o : Expr} {es : List Expr} {kws : List Keyword} {te ta : TE} {t tk : TA} {nm : Option Str}
variable {g : List Value → List Value → List Value} {gV : List V → List V → List V}
end

/-! ### a def's body keeps its promise -/
/-- names: the parameters first -/
structure FnScope (N P : List Str) (sc : Scope) : Prop where
  kind : sc.kind = .function
  co : sc.isCoroutine = false
  gen : sc.isGenerator = false
  nd : N.Nodup
  pre : N.take P.length = P
  par : ∀ x ∈ P, sc.names.lookup x = some .local ∨ sc.names.lookup x = some .cell
  nofree : ∀ y ∈ sc.names, y.2 ≠ .free

theorem bindL_out {kindOf : Str → Option NameKind} {x : Str} : ∀ {binds : List (Str × Value)} {m : Str → Option Value}, (∀ v, (x, v) ∉ binds) → bindL kindOf binds m x = m x
  | [], _, _ => rfl
  | (n, v) :: r, m, h => by
    unfold bindL
    rw [bindL_out fun w hw => h w (List.mem_cons_of_mem _ hw)]
    split
    · have : x ≠ n := by rintro rfl; exact h v List.mem_cons_self
      simp [this]
    · rfl
theorem bindC_out {kindOf : Str → Option NameKind} {x : Str} : ∀ {binds : List (Str × Value)} {m : Str → Option Value}, (∀ v, (x, v) ∉ binds) → bindC kindOf binds m x = m x
  | [], _, _ => rfl
  | (n, v) :: r, m, h => by
    unfold bindC
    rw [bindC_out fun w hw => h w (List.mem_cons_of_mem _ hw)]
    split
    · rfl
    · have : x ≠ n := by rintro rfl; exact h v List.mem_cons_self
      simp [this]
theorem bindL_get {kindOf : Str → Option NameKind} {x : Str} {v : Value} : ∀ {P : List Str} {vs : List Value} {i : Nat} {m : Str → Option Value}, P.Nodup → P[i]? = some x → vs[i]? = some v → kindOf x = some .local →
    bindL kindOf (P.zip vs) m x = some v
  | [], _, _, _, _, h, _, _ => by simp at h
  | _ :: _, [], _, _, _, _, h, _ => by simp at h
  | p :: P, w :: vs, 0, m, nd, h1, h2, hk => by
    simp at h1 h2; subst h1; subst h2
    show bindL kindOf ((p, w) :: P.zip vs) m p = _
    unfold bindL
    rw [bindL_out fun v hv => (List.nodup_cons.mp nd).1 (List.of_mem_zip hv).1, if_pos hk]
    simp
  | p :: P, w :: vs, i + 1, m, nd, h1, h2, hk => by
    show bindL kindOf ((p, w) :: P.zip vs) m x = _
    unfold bindL
    exact bindL_get (i := i) (List.nodup_cons.mp nd).2 (by simpa using h1) (by simpa using h2) hk
theorem bindC_get {kindOf : Str → Option NameKind} {x : Str} {v : Value} : ∀ {P : List Str} {vs : List Value} {i : Nat} {m : Str → Option Value}, P.Nodup → P[i]? = some x → vs[i]? = some v → kindOf x ≠ some .local →
    bindC kindOf (P.zip vs) m x = some v
  | [], _, _, _, _, h, _, _ => by simp at h
  | _ :: _, [], _, _, _, _, h, _ => by simp at h
  | p :: P, w :: vs, 0, m, nd, h1, h2, hk => by
    simp at h1 h2; subst h1; subst h2
    show bindC kindOf ((p, w) :: P.zip vs) m p = _
    unfold bindC
    rw [bindC_out fun v hv => (List.nodup_cons.mp nd).1 (List.of_mem_zip hv).1, if_neg hk]
    simp
  | p :: P, w :: vs, i + 1, m, nd, h1, h2, hk => by
    show bindC kindOf ((p, w) :: P.zip vs) m x = _
    unfold bindC
    exact bindC_get (i := i) (List.nodup_cons.mp nd).2 (by simpa using h1) (by simpa using h2) hk

/-- the names' values at the entry -/
def start (N : List Str) (vs : List V) : St := vs.map some ++ List.replicate (N.length - vs.length) none

/-- the context of a def's body, at its entry; an exception leaves the frame, then lies as CX says -/
def cxOf (CX : CXT) (P : Program) (w : World) (K : PySem.W.Frag) (mg : Str → Option Value) (base : Heap) (N : List Str) (qual : Str) (scope : Scope) (f : Addr) (cd : Value) (A : Around) (outer : List Env) (s : Shared) (H : Hp) (E : XK) : Cx where
  prog := P
  w := w
  K := K
  mg := mg
  base := base
  A := A.deeper (envOfC qual scope s.heap.objs.size f cd)
  N := N
  s₀ := s
  H₀ := H
  env := envOfC qual scope s.heap.objs.size f cd
  outer := outer
  stack := envOfC qual scope s.heap.objs.size f cd :: outer
  ex := []
  calm := true
  fn := fun _ => true
  pn := []
  xe := fun e s' => wpAny (model P w) (A.deeper (envOfC qual scope s.heap.objs.size f cd)) (leaving (envOfC qual scope s.heap.objs.size f cd) e) (fun _ s'' => CX outer H s E e s'') (fun e' s'' => CX outer H s E e' s'') s'

theorem cell_has {sc : Scope} {n : Nat} {x : Str} (h : sc.names.lookup x = some .cell) : ∃ c, (cellsFrom n sc.names []).lookup x = some c := by
  have q := PySem.W.cellsFrom_some sc.names n [] (.inl h)
  exact Option.isSome_iff_exists.mp q

theorem inv_start {CX : CXT} {P : Program} {w : World} {K : PySem.W.Frag} {mg : Str → Option Value} {base : Heap} {N ps : List Str} {qual : Str} {scope : Scope} {f : Addr} {cd : Value} {A : Around} {outer : List Env} {s s1 : Shared} {H : Hp} {E : XK} {us : List Value} {vs : List V}
    (S : FnScope N ps scope) (hd : A.handled = none) (e0 : Env0 P w K mg base A outer s H) (hl : vs.length = ps.length) (r : Vals vs us)
    (x : InCallC s s.heap.objs.size (bindL (envOfC qual scope s.heap.objs.size f cd).kindOf (ps.zip us) fun _ => none) (cellsFrom (s.heap.objs.size + 1) scope.names []) (bindC (envOfC qual scope s.heap.objs.size f cd).kindOf (ps.zip us) fun _ => none) s1) :
    Inv (cxOf CX P w K mg base N qual scope f cd A outer s H E) [] (start N vs) H s1 := by
  have hpl : ps.length ≤ N.length := by have := congrArg List.length S.pre; rw [List.length_take] at this; omega
  obtain ⟨h1, tk, rfl, hk⟩ := x.done
  have noA : ∀ b : Addr, b ∉ (cxOf CX P w K mg base N qual scope f cd A outer s H E).ex := fun b z => absurd (show b ∈ ([] : List Addr) from z) (by simp)
  refine ⟨⟨e0.mod, S.kind, rfl, rfl, Nat.le_refl _, fun y z c h1 h2 => ?_, fun y hy => ?_, fun y c _ h => ?_, fun _ => hd, Around.frames_deeper e0.frames, .inr ⟨rfl, rfl⟩, fun b z => absurd z (noA b), e0.bs, e0.bsz, fun b _ _ => noA b, fun b z => absurd z (noA b), e0.funs, e0.frf⟩,
    rfl, e0.bare, Un.kept hk, ⟨_, x.toInCall.ns, fun i y v h1 h2 h3 => ?_⟩, fun y c h => ⟨_, x.cell y c h⟩, e0.hok.fresh (Nat.le_refl _), fun y c h => ?_, fun p hp => absurd (show p ∈ ([] : List (Addr × Obj)) from hp) (by simp), e0.hok.kept hk, ?_⟩
  · exact name_of_addr x.apart (PySem.mem_of_lookup h1) (PySem.mem_of_lookup h2)
  · have hy : scope.names.lookup y = some .cell ∨ scope.names.lookup y = some .free := hy
    rcases hy with hy | hy
    · exact cell_has hy
    · exact absurd rfl (S.nofree _ (PySem.mem_of_lookup hy))
  · exact Nat.le_of_lt (x.above y c (PySem.mem_of_lookup h))
  · have hi : i < vs.length := by
      unfold start at h2
      by_cases hi : i < vs.length
      · exact hi
      · rw [List.getElem?_append_right (by simpa using hi)] at h2
        rw [List.getElem?_replicate] at h2
        split at h2 <;> cases h2
    have ha : vs[i]? = some v := by
      unfold start at h2
      rw [List.getElem?_append_left (by simpa using hi), List.getElem?_map] at h2
      cases e : vs[i]? with
      | none => rw [e] at h2; cases h2
      | some a => rw [e] at h2; cases h2; rfl
    obtain ⟨u, hu, rv⟩ := r.get ha
    have hp : ps[i]? = some y := by
      rw [← S.pre, List.getElem?_take_of_lt (by omega)]; exact h1
    have ndP : ps.Nodup := by rw [← S.pre]; exact S.nd.sublist (List.take_sublist _ _)
    refine ⟨u, rv, ?_⟩
    rcases S.par y (List.mem_of_getElem? hp) with k | k
    · exact .inl ⟨k, bindL_get ndP hp hu k⟩
    · obtain ⟨c, e⟩ := cell_has (n := s.heap.objs.size + 1) k
      refine .inr ⟨.inl k, c, e, ?_⟩
      have q := x.cell y c e
      rw [bindC_get ndP hp hu (by show scope.names.lookup y ≠ _; rw [k]; decide)] at q
      exact q
  · exact e0.hok.fresh (Nat.le_of_lt (x.above y c (PySem.mem_of_lookup h)))
  · unfold start
    show _ = N.length
    rw [List.length_append, List.length_map, List.length_replicate]
    omega

/-- THE RULE: a def (or a method) of the text, by its body. The body's reading t is chosen for each entry; it is run at the parameters' values -/
theorem fn_of {CX : CXT} {P : Program} {w : World} {K : PySem.W.Frag} {mg : Str → Option Value} {base : Heap} {k : Nat} {f : Addr} {name qual : Str} {params : Arguments} {body : List Stmt} {scope : Scope} {dV kV doc pm cdv ct oc : Value} {an od : Option Addr}
    {osl : Array (Option Value)} {N ps : List Str} {sp : Sp} (lk : K.lookup f = some ⟨oc, od, .func (PySem.W.fnOf name qual params body scope dV kV doc pm an cdv ct), osl⟩) (hcd : PySem.W.codeIn K cdv qual = true) (S : FnScope N ps scope)
    (len : ∀ vs H Q E, sp vs H Q E → vs.length = ps.length)
    (hbody : ∀ (A : Around) (outer : List Env) (s : Shared) (H : Hp) (vs : List V) (Q : VK) (E : XK), Room k (A.deeper (envOfC qual scope s.heap.objs.size f cdv)) → sp vs H Q E →
      ∃ t, PSs (cxOf CX P w K mg base N qual scope f cdv A outer s H E) body t ∧ t { nx := fun _ H' => Q .non H', rt := Q } (start N vs) H) :
    FnOk P w K mg base CX (k + 1) f (PySem.W.fnOf name qual params body scope dV kV doc pm an cdv ct) ps sp := by
  refine ⟨len, fun A outer s H args us vs Q E hr e0 hb r hsp => ?_⟩
  have hl := len _ _ _ _ hsp
  have KX : K.In s.heap := e0.mod.kin.keeps fun b o e => (e0.bs b o e).1
  have lim : s.heap.NoLimit := e0.mod.nolimit.keeps fun b o e => (e0.bs b o e).1
  have hkind : ∀ y ∈ ps.zip us, scope.names.lookup y.1 = some .local ∨ (scope.names.lookup y.1 = some .cell ∧ ((cellsFrom (s.heap.objs.size + 1) scope.names []).lookup y.1).isSome = true) := fun ⟨n, v⟩ hy => by
    rcases S.par n (List.of_mem_zip hy).1 with q | q
    · exact .inl q
    · exact .inr ⟨q, PySem.W.cellsFrom_some _ _ _ (.inl q)⟩
  refine codeAny_call_function hr.depth (KX _ _ lk) rfl S.co S.gen rfl (PySem.W.codeRec_of KX hcd) (hb _ _ _ _ ?_)
  refine wpAny_newFunctionEnv_cells S.kind hkind fun env he s1 x => ?_
  subst he
  refine ⟨lim.keeps x.toInCall.keep, codeAny_func ?_⟩
  obtain ⟨t, ht, hq⟩ := hbody A outer s H vs Q E (hr.deeper _) hsp
  have I : Inv (cxOf CX P w K mg base N qual scope f cdv A outer s H E) [] (start N vs) H s1 := inv_start S hr.hd e0 hl r x
  refine wpAny_mono (ht [] s1 (start N vs) H _ I hq) (fun fl s' hs => ?_) fun e s' hs => hs
  have fin : ∀ {σ' : St} {H' : Hp} {v : V} {u : Value}, Inv (cxOf CX P w K mg base N qual scope f cdv A outer s H E) [] σ' H' s' → RelV v u → Q v H' → CE outer P w H s Q u s' :=
    fun {σ' H' v u} J rv q => ⟨v, H', J.os, J.bare, J.base, J.hok, rv, q⟩
  cases fl with
  | ret u =>
    obtain ⟨v, σ', H', J, rv, q⟩ := hs
    exact fin J rv q
  | next =>
    obtain ⟨σ', H', J, q⟩ := hs
    exact fin (v := V.non) (u := Value.none) J rfl q
  | brk =>
    obtain ⟨_, _, _, q⟩ := hs
    exact False.elim q
  | cont =>
    obtain ⟨_, _, _, q⟩ := hs
    exact False.elim q
end L2

namespace L2
open PySem PySem.Spec PyProof.Rows
section
variable {X : Cx} {x : Str} {p pos : Pos} {e : Expr} {es : List Expr} {t : TA} {id T : String} {r : List V → Hp → VK → Prop}

def tCB (r : List V → Hp → VK → Prop) (t : TA) : TE := fun σ H Q => t σ H fun vs H1 => r vs H1 Q
/-- f(e, ..), f a built-in function -/
theorem pe_callB (hc : CallR X (.builtin id) r) (hg : Gl X x) (hm : X.mg x = none) (hv : bootBuiltins x = some (.builtin id)) (ha : PA X (e :: es) t) (hn : x ≠ "__name__" := by decide) (hdb : (x == ("__debug__" : Str)) = false := by decide)
    (he : starEach (e :: es) X.env = (false, eval e X.env) :: starEach es X.env := by rfl) (hpl : (backTo pos (starEach es X.env)).any (·.1) = false := by rfl) : PE X (.Call (.Name x p) (e :: es) [] pos) (tCB r t) := by
  intro pins s σ H Q I h
  refine wpAny_Call_Name_kw (ld_blt I hg hm hv ?_ hn hdb)
  exact PyProof.Rows.callWith_builtin1 (thn (ha pos pins s σ H _ I h) fun us s1 ⟨vs, H1, I1, r1, q1⟩ => hc pins s1 σ H1 vs us Q I1 r1 q1) he hpl
/-- T(e, ..), T a built-in type -/
theorem pe_callTy (hc : CallR X (.type T) r) (hg : Gl X x) (hm : X.mg x = none) (hv : bootBuiltins x = some (.type T)) (ha : PA X (e :: es) t) (hn : x ≠ "__name__" := by decide) (hdb : (x == ("__debug__" : Str)) = false := by decide)
    (he : starEach (e :: es) X.env = (false, eval e X.env) :: starEach es X.env := by rfl) (hpl : (backTo pos (starEach es X.env)).any (·.1) = false := by rfl) : PE X (.Call (.Name x p) (e :: es) [] pos) (tCB r t) := by
  intro pins s σ H Q I h
  refine wpAny_Call_Name_kw (ld_blt I hg hm hv ?_ hn hdb)
  exact PyProof.Rows.callWith_type1 (thn (ha pos pins s σ H _ I h) fun us s1 ⟨vs, H1, I1, r1, q1⟩ => hc pins s1 σ H1 vs us Q I1 r1 q1) he hpl
end
end L2

namespace HT
open PySem PyProof.Rows

section
open PySem.SeqAt
open PySem.AutoSeq1 (wpAny_loadPart')
open PySem.MeetsSeq PySem.MeetsSeq2 PySem.MeetsSeq3

end

section
variable {prog : Program} {w : World} {A : Around} {E : Value → Shared → Prop} {s : Shared}

/-! ### t[a:b], not the whole -/
/-- a slice's bound as a place among n (d where it is left out) -/
def sIx (n d : Nat) : Option Int → Nat
  | none => d
  | some v => if v < 0 then (v + (n : Int)).toNat else min v.toNat n
theorem sIx_none (n d : Nat) : sIx n d none = d := rfl
theorem sIx_nat (n d k : Nat) : sIx n d (some (k : Int)) = min k n := by
  show (if (k : Int) < 0 then ((k : Int) + (n : Int)).toNat else min (k : Int).toNat n) = min k n
  rw [if_neg (by omega), Int.toNat_natCast]
end
end HT

namespace L2
open PySem PySem.Spec PyProof.Rows

/-! ### the parts of a slice -/
abbrev TO := St → Hp → (Option Int → Hp → Prop) → Prop
/-- a slice's part (left out, or an int) -/
def PO (X : Cx) (e : Option Expr) (t : TO) : Prop :=
  ∀ (pins : List (Addr × Obj)) (s : Shared) (σ : St) (H : Hp) (Q : Option Int → Hp → Prop), Inv X pins σ H s → t σ H Q →
    wpAny (model X.prog X.w) X.A (evalPart e X.env) (fun u s' => ∃ o H', Inv X pins σ H' s' ∧ IsPart u o ∧ Q o H') X.xe s
def tNoPart : TO := fun _ H Q => Q none H
def tPart (t : TE) : TO := fun σ H Q => t σ H fun x H1 => ∃ i, x = .int i ∧ Q (some i) H1

section
variable {X : Cx} {e : Expr} {te : TE} {lo hi : Option Expr} {tl th : TO} {pos p2 : Pos}

theorem po_none : PO X none tNoPart := by
  intro pins s σ H Q I h
  rw [evalPart_none]
  exact wpAny_pure ⟨none, H, I, .none, h⟩
theorem po_some (h : PE X e te) : PO X (some e) (tPart te) := by
  intro pins s σ H Q I hw
  rw [evalPart_some]
  refine thn (h pins s σ H _ I hw) fun u s1 ⟨x, H1, I1, r1, q1⟩ => ?_
  obtain ⟨i, rfl, q⟩ := q1
  obtain ⟨t, rfl⟩ := r1
  exact ⟨some i, H1, I1, .int i t, q⟩

/-- what a slice of a value is, by values: the slice object stands at sl -/
def SlR (X : Cx) (r : V → Option Int → Option Int → Hp → VK → Prop) : Prop :=
  ∀ (pins : List (Addr × Obj)) (s : Shared) (σ : St) (H : Hp) (x : V) (v vl vu : Value) (lo hi : Option Int) (sl : Addr) (Q : VK), Inv X pins σ H s → RelV x v → s.heap.IsSliceOf sl vl vu .none → IsPart vl lo → IsPart vu hi → r x lo hi H Q →
    ∃ T id, typeLookup (.type T) "__getitem__" = pure (some (.builtin id)) ∧ s.TypeIs v T ∧ wpAny (model X.prog X.w) X.A (getItem v (.ref sl)) (EP X pins σ Q) X.xe s
theorem SlR.or {r r' : V → Option Int → Option Int → Hp → VK → Prop} (h : SlR X r) (h' : SlR X r') : SlR X (fun x lo hi H Q => r x lo hi H Q ∨ r' x lo hi H Q) := by
  intro pins s σ H x v vl vu lo hi sl Q I rx hs pl pu q
  rcases q with q | q
  · exact h pins s σ H x v vl vu lo hi sl Q I rx hs pl pu q
  · exact h' pins s σ H x v vl vu lo hi sl Q I rx hs pl pu q
def tSl (r : V → Option Int → Option Int → Hp → VK → Prop) (te : TE) (tl th : TO) : TE := fun σ H Q => te σ H fun x H1 => tl σ H1 fun l H2 => th σ H2 fun u H3 => r x l u H3 Q
/-- a[lo:hi], any a -/
theorem pe_slice {r : V → Option Int → Option Int → Hp → VK → Prop} (hr : SlR X r) (he : PE X e te) (hl : PO X lo tl) (hu : PO X hi th) : PE X (.Subscript e (.Slice lo hi none p2) pos) (tSl r te tl th) := by
  intro pins s σ H Q I h
  refine Subscript_ (thn (he pins s σ H _ I h) fun v s1 ⟨x, H1, I1, r1, q1⟩ => ?_)
  refine wpAny_Slice (thn (hl pins s1 σ H1 _ I1 q1) fun vl s2 ⟨l, H2, I2, pl, q2⟩ => thn (hu pins s2 σ H2 _ I2 q2) fun vu s3 ⟨u, H3, I3, pu, q3⟩ => ?_)
  rw [evalPart_none]
  refine wpAny_pure ?_
  have I4 : Inv X pins σ H3 { s3 with heap := s3.heap.push { cls := .type "slice", data := .fields #[vl, vu, .none] } } := I3.kept (t' := s3.toks) fun b ob q => Heap.get?_push_of_some _ q
  obtain ⟨T, id, hT, ht, hg⟩ := hr pins { s3 with heap := s3.heap.push { cls := .type "slice", data := .fields #[vl, vu, .none] } } σ H3 x v vl vu l u s3.heap.objs.size Q I4 r1 (Heap.IsSliceOf.new ..) pl pu q3
  show wpAny (model X.prog X.w) X.A (subscriptTail e (.Slice lo hi none p2) v (.ref s3.heap.objs.size)) (EP X pins σ Q) X.xe { s3 with heap := s3.heap.push { cls := .type "slice", data := .fields #[vl, vu, .none] } }
  exact tail_any (ops := [.ref s3.heap.objs.size, v]) ht hT hg (by with_unfolding_all rfl)

/-- the items of xs[lo:hi] -/
def cutV (xs : List V) (lo hi : Option Int) : List V := (xs.drop (HT.sIx xs.length 0 lo)).take (HT.sIx xs.length xs.length hi - HT.sIx xs.length 0 lo)
theorem cutV_length (xs : List V) (lo hi : Option Int) : (cutV xs lo hi).length ≤ xs.length := by
  unfold cutV
  rw [List.length_take, List.length_drop]
  omega
/-! ### t < u, t + u -/
end
end L2

namespace L2
open PySem PySem.Spec PyProof.Rows

/-! ### places -/
/-- the place that an index of any sign means -/
def ixN (n : Nat) (i : Int) : Option Nat := if 0 ≤ i then (if i < n then some i.toNat else none) else if -(n : Int) ≤ i then some (i + n).toNat else none
def atI {α : Type} (xs : List α) (i : Int) : Option α := (ixN xs.length i).bind fun j => xs[j]?
theorem ixN_seq {n : Nat} {i : Int} {j : Nat} (h : ixN n i = some j) : seqIndex? i n = some j ∧ j < n ∧ -(n : Int) ≤ i ∧ i < n := by
  unfold ixN at h
  by_cases h0 : 0 ≤ i
  · rw [if_pos h0] at h
    by_cases h1 : i < n
    · rw [if_pos h1] at h
      have e : i.toNat = j := Option.some.inj h
      exact ⟨by rw [seqIndex_of h0 h1, e], by omega, by omega, h1⟩
    · rw [if_neg h1] at h; cases h
  · rw [if_neg h0] at h
    by_cases h1 : -(n : Int) ≤ i
    · rw [if_pos h1] at h
      have e : (i + n).toNat = j := Option.some.inj h
      exact ⟨by rw [seqIndex_neg (by omega) h1, e], by omega, h1, by omega⟩
    · rw [if_neg h1] at h; cases h
theorem atI_get {α : Type} {xs : List α} {i : Int} {v : α} (h : atI xs i = some v) : ∃ j, seqIndex? i xs.length = some j ∧ xs[j]? = some v ∧ j < xs.length ∧ -(xs.length : Int) ≤ i ∧ i < xs.length := by
  unfold atI at h
  cases e : ixN xs.length i with
  | none => rw [e] at h; cases h
  | some j =>
    rw [e] at h
    obtain ⟨h1, h2, h3, h4⟩ := ixN_seq e
    exact ⟨j, h1, h, h2, h3, h4⟩
theorem atI_nat {α : Type} {xs : List α} {j : Nat} {v : α} (h : xs[j]? = some v) : atI xs (j : Int) = some v := by
  have hj : j < xs.length := (List.getElem?_eq_some_iff.mp h).1
  have e : ixN xs.length (j : Int) = some j := by
    unfold ixN
    rw [if_pos (by omega), if_pos (by omega)]; simp
  unfold atI; rw [e]; exact h
/-! ### what may be subscripted -/
/-- what stands as an index of a plain subscript -/
def PlainIx (b : Expr) : Prop := ∀ o i, subscripted b false o i = operate [o, i] (getItem o i)
/-- a subscript by values -/
def IxR (X : Cx) (r : R2) : Prop :=
  ∀ (value slice : Expr) (pins : List (Addr × Obj)) (s : Shared) (σ : St) (H : Hp) (x y : V) (v u : Value) (Q : VK), Inv X pins σ H s → RelV x v → RelV y u → r x y H Q →
    subscripted slice false v u = operate [v, u] (getItem v u) → wpAny (model X.prog X.w) X.A (subscriptTail value slice v u) (EP X pins σ Q) X.xe s
/-- a call of a builtin's method by values: the receiver, the arguments -/
def MtR (X : Cx) (id : String) (r : V → List V → Hp → VK → Prop) : Prop :=
  ∀ (pins : List (Addr × Obj)) (s : Shared) (σ : St) (H : Hp) (x : V) (xs : List V) (v : Value) (us : List Value) (Q : VK), Inv X pins σ H s → RelV x v → Vals xs us → r x xs H Q →
    wpAny (model X.prog X.w) X.A (call (.builtin id) (v :: us)) (EP X pins σ Q) X.xe s
section
variable {X : Cx} {a b : Expr} {ta tb : TE} {pos : Pos}
theorem IxR.or {r r' : R2} (h : IxR X r) (h' : IxR X r') : IxR X (fun x y H Q => r x y H Q ∨ r' x y H Q) := by
  intro value slice pins s σ H x y v u Q I rx ry q hs
  rcases q with q | q
  · exact h value slice pins s σ H x y v u Q I rx ry q hs
  · exact h' value slice pins s σ H x y v u Q I rx ry q hs
theorem MtR.or {id : String} {r r' : V → List V → Hp → VK → Prop} (h : MtR X id r) (h' : MtR X id r') : MtR X id (fun x xs H Q => r x xs H Q ∨ r' x xs H Q) := by
  intro pins s σ H x xs v us Q I rx rs q
  rcases q with q | q
  · exact h pins s σ H x xs v us Q I rx rs q
  · exact h' pins s σ H x xs v us Q I rx rs q
/-- a[b] -/
theorem pe_ix {r : R2} (hr : IxR X r) (ha : PE X a ta) (hb : PE X b tb) (hs : PlainIx b) : PE X (.Subscript a b pos) (tOp r ta tb) := by
  intro pins s σ H Q I h
  exact Subscript_ (binT ha hb I h fun v u s2 x y H2 I2 rx ry q => hr a b pins s2 σ H2 x y v u Q I2 rx ry q (hs _ _))

def rIxL (K : PySem.W.Frag) : R2 := fun x y H Q => ∃ p xs i v, x = .ref p ∧ y = .int i ∧ SqL K H p xs ∧ atI xs i = some v ∧ Q v H
def rIxT (K : PySem.W.Frag) : R2 := fun x y H Q => ∃ p xs i v, x = .ref p ∧ y = .int i ∧ SqT K H p xs ∧ atI xs i = some v ∧ Q v H
def rIxS : R2 := fun x y H Q => ∃ z i c, x = .str z ∧ y = .int i ∧ z.length ≤ sizeLine ∧ atI z.cps.toList i = some c ∧ Q (.str ⟨#[c]⟩) H
theorem ix_list : IxR X (rIxL X.K) := by
  intro value slice pins s σ H x y v u Q I rx ry h hs
  obtain ⟨p, xs, i, z, rfl, rfl, hq, he, q⟩ := h
  cases rx
  obtain ⟨t, rfl⟩ := ry
  obtain ⟨its, r, pl, hz⟩ := I.list hq
  obtain ⟨j, h1, h2, h3, h4, h5⟩ := atI_get he
  obtain ⟨w, ew, rw'⟩ := r.get h2
  have hl := r.length
  have hn := line63
  have fin : EP X pins σ Q w s := ⟨z, H, I, rw', q⟩
  by_cases h0 : 0 ≤ i
  · have hj : i.toNat = j := by
      rw [seqIndex_of h0 h5] at h1
      exact Option.some.inj h1
    exact item_listR pl.isList h0 (by omega) (by rw [hj]; simpa using ew) fin hs
  · have hj : (i + (its.toArray.size : Int)).toNat = j := by
      rw [seqIndex_neg (by omega) h4] at h1
      rw [List.size_toArray, ← hl]
      exact Option.some.inj h1
    exact subscriptTail_builtinR (x := w) pl.isList.typeIs slot_list_getitem.lookup
      (wpAny_getItem_list_neg (Q := fun r s' => r = w ∧ EP X pins σ Q r s') pl.isList (by omega) (by rw [List.size_toArray] <;> omega) (by omega) (by rw [hj]; simpa using ew) ⟨rfl, fin⟩) hs
theorem ix_tup : IxR X (rIxT X.K) := by
  intro value slice pins s σ H x y v u Q I rx ry h hs
  obtain ⟨p, xs, i, z, rfl, rfl, hq, he, q⟩ := h
  cases rx
  obtain ⟨t, rfl⟩ := ry
  obtain ⟨its, r, pl, hz⟩ := I.tuple hq
  obtain ⟨j, h1, h2, h3, h4, h5⟩ := atI_get he
  obtain ⟨w, ew, rw'⟩ := r.get h2
  have hl := r.length
  have hn := line63
  have fin : EP X pins σ Q w s := ⟨z, H, I, rw', q⟩
  exact subscriptTail_builtinR (x := w) pl.typeIs slot_tuple_getitem.lookup
    (getItem_tuple (j := j) (Q := fun r s' => r = w ∧ EP X pins σ Q r s') pl (by omega) (by omega) (by rw [List.size_toArray, ← hl]; exact h1) (by simpa using ew) ⟨rfl, fin⟩) hs
theorem ix_str : IxR X rIxS := by
  intro value slice pins s σ H x y v u Q I rx ry h hs
  obtain ⟨z, i, c, rfl, rfl, hz, he, q⟩ := h
  obtain ⟨t, rfl⟩ := rx
  obtain ⟨t', rfl⟩ := ry
  obtain ⟨j, h1, h2, h3, h4, h5⟩ := atI_get he
  have hl : z.cps.toList.length = z.length := by simp [Str.length]
  rw [hl] at h1 h4 h5
  have hn := line63
  exact tail_any (typeIs_str s z t) slot_str_getitem.lookup (getItem_str (c := c) (by
    have e1 : decide (i < -(2 ^ 63 : Int)) = false := decide_eq_false (by omega)
    have e2 : decide (i ≥ 2 ^ 63) = false := decide_eq_false (by omega)
    rw [e1, e2, Bool.or_false]) (by rw [h1]; simpa using h2) ⟨.str ⟨#[c]⟩, H, I.tok _, ⟨_, rfl⟩, q⟩) hs
/-! ### xs[i] = v, any sign -/
/-- the list's object behind a store -/
theorem mapSeq_set (its : List Value) (n j : Nat) (u : Value) : Obj.mapSeq (·.setIfInBounds j u) { cls := .type "list", data := .seq its.toArray n } = { cls := .type "list", data := .seq (its.set j u).toArray n } := by
  simp [Obj.mapSeq]
theorem Inv.lst {pins : List (Addr × Obj)} {σ : St} {H : Hp} {s : Shared} {p : Addr} {xs : List V} (I : Inv X pins σ H s) (h : H p = some (.lst xs)) :
    ∃ (its : List Value) (n : Nat), Vals xs its ∧ s.heap.get? p = some { cls := .type "list", data := .seq its.toArray n } ∧ xs.length ≤ sizeLine := by
  obtain ⟨z, its, n, r, e⟩ := I.hok p _ h
  exact ⟨its, n, r, e, z⟩
/-- the list at p is written by an update of its object -/
theorem Inv.lstUpd {pins : List (Addr × Obj)} {σ : St} {H : Hp} {s : Shared} {p : Addr} {xs ys : List V} {its its' : List Value} {n n' : Nat} {f : Obj → Obj} (I : Inv X pins σ H s) (h : H p = some (.lst xs))
    (ho : s.heap.get? p = some { cls := .type "list", data := .seq its.toArray n }) (hf : f { cls := .type "list", data := .seq its.toArray n } = { cls := .type "list", data := .seq its'.toArray n' }) (r : Vals ys its') (hz : ys.length ≤ sizeLine) (t : Nat) :
    Inv X pins σ (upd H p (.lst ys)) { s with heap := s.heap.update p f, toks := t } := by
  have e : (s.heap.update p f).get? p = some { cls := .type "list", data := .seq its'.toArray n' } := by
    rw [Heap.get?_update_self f ho (by rw [hf] <;> rfl), hf]
  refine I.write (x := p) (e := p) (by rw [h]; trivial) (.inl rfl) (fun b u hb q => (Heap.get?_update_other _ _ (Ne.symm hb)).trans q) ⟨_, e⟩ ?_
  exact ⟨hz, its', n', r, e⟩
def rSetL : V → V → V → Hp → (Hp → Prop) → Prop := fun o i v H Q => ∃ p xs k j, o = .ref p ∧ i = .int k ∧ H p = some (.lst xs) ∧ ixN xs.length k = some j ∧ Q (upd H p (.lst (xs.set j v)))
theorem set_list : PSet X rSetL := by
  intro pins s σ H o i v ov iv u Q I ro ri rv h
  obtain ⟨p, xs, k, j, rfl, rfl, hp, hj, q⟩ := h
  cases ro
  obtain ⟨t, rfl⟩ := ri
  obtain ⟨its, n, r, ho, hz⟩ := I.lst hp
  obtain ⟨h1, h2, h3, h4⟩ := ixN_seq hj
  have hl := r.length
  have hn := line63
  have I' : Inv X pins σ (upd H p (.lst (xs.set j v))) { s with heap := s.heap.update p (Obj.mapSeq (·.setIfInBounds j u)) } :=
    I.lstUpd hp ho (mapSeq_set its n j u) (r.set rv j) (by rw [List.length_set]; exact hz) s.toks
  by_cases h0 : 0 ≤ k
  · have hk : k.toNat = j := by
      rw [seqIndex_of h0 h4] at h1
      exact Option.some.inj h1
    exact PySem.W.ki_setAt ho h0 (by omega) (by rw [List.size_toArray, ← hl]; exact h4) (by rw [hk]; exact ⟨_, I', q⟩)
  · have hk : (k + (its.toArray.size : Int)).toNat = j := by
      rw [seqIndex_neg (by omega) h3] at h1
      rw [List.size_toArray, ← hl]
      exact Option.some.inj h1
    exact PySem.W.ki_setBack ho (by omega) (by rw [List.size_toArray, ← hl]; exact h3) (by omega) (by rw [hk]; exact ⟨_, I', q⟩)

/-! ### slices -/
theorem slice_bounds (lo hi : Option Int) (n : Nat) : (sliceBounds lo hi none n).1 = ((HT.sIx n 0 lo : Nat) : Int) ∧ (sliceBounds lo hi none n).2.1 = ((HT.sIx n n hi : Nat) : Int) ∧ (sliceBounds lo hi none n).2.2 = 1 := by
  refine ⟨?_, ?_, rfl⟩
  · cases lo with
    | none => simp [sliceBounds, HT.sIx]
    | some i =>
      simp only [sliceBounds, HT.sIx, Option.getD_none, show (1 : Int) > 0 by decide, if_true]
      by_cases h : i < 0
      · simp only [h, if_true] <;> omega
      · simp only [h, if_false] <;> omega
  · cases hi with
    | none => simp [sliceBounds, HT.sIx]
    | some i =>
      simp only [sliceBounds, HT.sIx, Option.getD_none, show (1 : Int) > 0 by decide, if_true]
      by_cases h : i < 0
      · simp only [h, if_true] <;> omega
      · simp only [h, if_false] <;> omega
theorem slicePick_cut (its : List Value) (lo hi : Option Int) : slicePick its.toArray lo hi none = ((its.drop (HT.sIx its.length 0 lo)).take (HT.sIx its.length its.length hi - HT.sIx its.length 0 lo)).toArray := by
  obtain ⟨h1, h2, h3⟩ := slice_bounds lo hi its.toArray.size
  unfold slicePick
  rw [h1, h2, h3]
  simp only [sliceRange_one, pick_run, List.size_toArray] <;> rfl
/-- xs[lo:hi] of a list: a new list -/
def rSlL (K : PySem.W.Frag) : V → Option Int → Option Int → Hp → VK → Prop := fun x lo hi H Q => ∃ a xs, x = .ref a ∧ SqL K H a xs ∧ ∀ p, H p = none → Q (.ref p) (upd H p (.lst (cutV xs lo hi)))
theorem sl_list : SlR X (rSlL X.K) := by
  intro pins s σ H x v vl vu lo hi sl Q I rx hs pl pu h
  obtain ⟨a, xs, rfl, hx, q⟩ := h
  cases rx
  obtain ⟨its, r, ht, hz⟩ := I.list hx
  have hlen := r.length
  refine ⟨"list", _, slot_list_getitem.lookup, ht.isList.typeIs, ?_⟩
  refine wpAny_getItem_list_slice ht.isList hs pl pu .none (by simp) ?_ (by rw [List.size_toArray] <;> omega)
  rw [slicePick_cut, ← hlen]
  refine ⟨.ref s.heap.objs.size, _, I.laid (t' := s.toks) (o := .lst (cutV xs lo hi)) (fun b ob q => Heap.get?_push_of_some _ q) (Nat.le_refl _) ?_, rfl, q _ (I.hok.fresh (Nat.le_refl _))⟩
  exact ⟨Nat.le_trans (cutV_length xs lo hi) hz, _, 0, (r.drop (HT.sIx xs.length 0 lo)).take (HT.sIx xs.length xs.length hi - HT.sIx xs.length 0 lo), Heap.get?_push_size _ rfl⟩

/-! ### in, not in: flat items -/
def flatV : V → Bool
  | .non => true
  | .bl _ => true
  | .int _ => true
  | .str _ => true
  | _ => false
/-- == of flat values -/
def eqV : V → V → Bool
  | .non, .non => true
  | .bl a, .bl b => a == b
  | .bl a, .int b => (if a then 1 else 0) == b
  | .int a, .bl b => a == (if b then 1 else 0)
  | .int a, .int b => a == b
  | .str a, .str b => a == b
  | _, _ => false
theorem eqAt_V {A : Around} {s : Shared} {y x : V} {u v : Value} (ry : RelV y u) (rx : RelV x v) (fy : flatV y = true) (fx : flatV x = true) : SeqAt.EqAt A s u v (eqV y x) := by
  cases y with
  | non =>
    cases ry
    cases x with
    | non => cases rx; exact SeqAt.EqAt.same _
    | bl b => cases rx; exact SeqAt.EqAt.none_bool b
    | int b => obtain ⟨t, rfl⟩ := rx; exact SeqAt.EqAt.none_int b t
    | str b => obtain ⟨t, rfl⟩ := rx; exact SeqAt.EqAt.none_str b t
    | _ => exact absurd (show false = true from fx) Bool.false_ne_true
  | bl a =>
    cases ry
    cases x with
    | non => cases rx; exact SeqAt.EqAt.bool_none a
    | bl b => cases rx; exact SeqAt.EqAt.bool_bool a b
    | int b => obtain ⟨t, rfl⟩ := rx; exact SeqAt.EqAt.bool_int a b t
    | str b => obtain ⟨t, rfl⟩ := rx; exact SeqAt.EqAt.bool_str a b t
    | _ => exact absurd (show false = true from fx) Bool.false_ne_true
  | int a =>
    obtain ⟨t', rfl⟩ := ry
    cases x with
    | non => cases rx; exact SeqAt.EqAt.int_none a t'
    | bl b => cases rx; exact SeqAt.EqAt.int_bool a t' b
    | int b => obtain ⟨t, rfl⟩ := rx; exact SeqAt.EqAt.int_int a t' b t
    | str b => obtain ⟨t, rfl⟩ := rx; exact SeqAt.EqAt.int_str a t' b t
    | _ => exact absurd (show false = true from fx) Bool.false_ne_true
  | str a =>
    obtain ⟨t', rfl⟩ := ry
    cases x with
    | non => cases rx; exact SeqAt.EqAt.str_none a t'
    | bl b => cases rx; exact SeqAt.EqAt.str_bool a t' b
    | int b => obtain ⟨t, rfl⟩ := rx; exact SeqAt.EqAt.str_int a t' b t
    | str b => obtain ⟨t, rfl⟩ := rx; exact SeqAt.EqAt.str_str a t' b t
    | _ => exact absurd (show false = true from fx) Bool.false_ne_true
  | _ => exact absurd (show false = true from fy) Bool.false_ne_true
/-- the items' answers, read off the values (a value's own answer does not lean on its token) -/
def eqU (x : V) (u : Value) : Bool := match u with
  | .none => eqV .non x
  | .bool b => eqV (.bl b) x
  | .int i _ => eqV (.int i) x
  | .str z _ => eqV (.str z) x
  | _ => false
theorem eqU_of {x y : V} {u : Value} (r : RelV y u) (f : flatV y = true) : eqU x u = eqV y x := by
  cases y with
  | non => cases r; rfl
  | bl b => cases r; rfl
  | int i => obtain ⟨t, rfl⟩ := r; rfl
  | str z => obtain ⟨t, rfl⟩ := r; rfl
  | _ => exact absurd (show false = true from f) Bool.false_ne_true
theorem any_eqU {x : V} : ∀ {xs : List V} {us : List Value}, Vals xs us → xs.all flatV = true → us.any (eqU x) = xs.any fun y => eqV y x
  | _, _, .nil, _ => rfl
  | y :: xs, u :: us, .cons r t, f => by
    rw [List.all_cons, Bool.and_eq_true] at f
    rw [List.any_cons, List.any_cons, eqU_of r f.1, any_eqU t f.2]
theorem mem_eqAt {A : Around} {s : Shared} {x : V} {v : Value} (rx : RelV x v) (fx : flatV x = true) : ∀ {xs : List V} {us : List Value}, Vals xs us → xs.all flatV = true → ∀ u ∈ us, SeqAt.EqAt A s u v (eqU x u)
  | _, _, .nil, _ => fun u hu => by cases hu
  | y :: xs, u :: us, .cons r t, f => fun u' hu => by
    rw [List.all_cons, Bool.and_eq_true] at f
    rcases List.mem_cons.mp hu with rfl | hu
    · rw [eqU_of r f.1]; exact eqAt_V r rx f.1 fx
    · exact mem_eqAt rx fx t f.2 u' hu
def inV (x : V) (xs : List V) : Bool := xs.any fun y => eqV y x
/-- x in a list or tuple of flat items -/
def rIn (K : PySem.W.Frag) (neg : Bool) : R2 := fun x y H Q => ∃ p xs, y = .ref p ∧ (SqL K H p xs ∨ SqT K H p xs) ∧ flatV x = true ∧ xs.all flatV = true ∧ Q (.bl (if neg then !inV x xs else inV x xs)) H
theorem op_notIn_seq : OpR X (compareOp .NotIn) (rIn X.K true) := by
  intro pins s σ H x y v u Q I rx ry h
  obtain ⟨p, xs, rfl, hq, fx, fs, q⟩ := h
  cases ry
  rcases hq with hq | hq
  · obtain ⟨its, r, pl, hz⟩ := I.list hq
    refine SeqAt.notIn_listAt (eqU x) pl.isList (fun w hw => mem_eqAt rx fx r fs w (by simpa using hw)) ⟨.bl _, H, I, rfl, ?_⟩
    rw [show its.toArray.any (eqU x) = its.any (eqU x) by simp, any_eqU r fs]
    exact q
  · obtain ⟨its, r, pl, hz⟩ := I.tuple hq
    refine SeqAt.notIn_tupleAt (eqU x) pl (fun w hw => mem_eqAt rx fx r fs w (by simpa using hw)) ⟨.bl _, H, I, rfl, ?_⟩
    rw [show its.toArray.any (eqU x) = its.any (eqU x) by simp, any_eqU r fs]
    exact q
/-! ### len, list(x), tuple(x) of any list or tuple that is read -/
theorem call_len_seq : CallR X (.builtin "len") (fun xs H Q => ∃ p ys, xs = [.ref p] ∧ (SqL X.K H p ys ∨ SqT X.K H p ys) ∧ Q (.int ys.length) H) := by
  intro pins s σ H xs us Q I r h
  obtain ⟨p, ys, rfl, hq, q⟩ := h
  obtain ⟨u, rfl, rx⟩ := vals1 r
  cases rx
  have hn := line63
  rcases hq with hq | hq
  · obtain ⟨its, r', pl, hz⟩ := I.list hq
    have hlen := r'.length
    exact Calls.call_len_list pl.isList (by simp only [List.size_toArray] <;> omega) ⟨.int ys.length, H, I.tok _, ⟨s.toks + 1, by rw [List.size_toArray, hlen]⟩, q⟩
  · obtain ⟨its, r', pl, hz⟩ := I.tuple hq
    have hlen := r'.length
    exact len_tuple pl (by simp only [List.size_toArray] <;> omega) ⟨.int ys.length, H, I.tok _, ⟨s.toks + 1, by rw [List.size_toArray, hlen]⟩, q⟩
theorem CallR.or {f : Value} {r r' : List V → Hp → VK → Prop} (h : CallR X f r) (h' : CallR X f r') : CallR X f (fun xs H Q => r xs H Q ∨ r' xs H Q) := by
  intro pins s σ H xs us Q I rs q
  rcases q with q | q
  · exact h pins s σ H xs us Q I rs q
  · exact h' pins s σ H xs us Q I rs q
theorem call_list_of : CallR X (.type "list") (fun xs H Q => ∃ p ys, xs = [.ref p] ∧ (SqL X.K H p ys ∨ SqT X.K H p ys) ∧ ∀ l, H l = none → Q (.ref l) (upd H l (.lst ys))) := by
  intro pins s σ H xs us Q I r h
  obtain ⟨p, ys, rfl, hq, q⟩ := h
  obtain ⟨u, rfl, rx⟩ := vals1 r
  cases rx
  have fin : ∀ (its : List Value), Vals ys its → ys.length ≤ sizeLine → ∀ (h' : Heap) (c' : Nat), (∀ b o', s.heap.get? b = some o' → h'.get? b = some o') →
      h'.get? s.heap.objs.size = some { cls := .type "list", dict := none, data := .seq its.toArray c', slots := #[] } → EP X pins σ Q (.ref s.heap.objs.size) { s with heap := h' } := fun its r' hz h' c' kp e =>
    ⟨.ref s.heap.objs.size, _, I.laid (t' := s.toks) kp (Nat.le_refl _) (show ObjOk X.prog X.w _ h' _ (.lst ys) from ⟨hz, its, c', r', e⟩), rfl, q _ (I.hok.fresh (Nat.le_refl _))⟩
  rcases hq with hq | hq
  · obtain ⟨its, r', pl, hz⟩ := I.list hq
    have hlen := r'.length
    obtain ⟨o, ho, hc, n, hd⟩ := pl.isList
    exact call_list_seq p (.inl rfl) ho hc hd (fun h' c' kp e => fin its r' hz h' c' kp e) (by simp only [List.size_toArray] <;> omega)
  · obtain ⟨its, r', pl, hz⟩ := I.tuple hq
    have hlen := r'.length
    obtain ⟨o, ho, hc, n, hd⟩ := pl
    exact call_list_seq p (.inr rfl) ho hc hd (fun h' c' kp e => fin its r' hz h' c' kp e) (by simp only [List.size_toArray] <;> omega)
/-! ### the call of a builtin's method: o.m(..) -/
/-- the value is of that builtin type -/
def tyV (K : PySem.W.Frag) (T : String) (x : V) (H : Hp) : Prop := match x with
  | .str _ => T = "str"
  | .int _ => T = "int"
  | .ref p => (T = "list" ∧ ∃ xs, SqL K H p xs) ∨ (T = "tuple" ∧ ∃ o, K.lookup p = some o ∧ o.cls = .type "tuple" ∧ o.dict = none) ∨
      (T = "dict" ∧ ((∃ kvs, H p = some (.dK kvs)) ∨ ∃ kvs, H p = some (.dT kvs))) ∨ (T = "set" ∧ ∃ S n, H p = some (.set S n))
  | _ => False
theorem tyV_is {pins : List (Addr × Obj)} {σ : St} {H : Hp} {s : Shared} {T : String} {x : V} {v : Value} (I : Inv X pins σ H s) (r : RelV x v) (ty : tyV X.K T x H) :
    s.TypeIs v T ∧ ∀ a, v = .ref a → ∃ ob, s.heap.get? a = some ob ∧ ob.dict = none := by
  cases x with
  | str z =>
    obtain ⟨t, rfl⟩ := r
    cases (show T = "str" from ty)
    exact ⟨typeIs_str s z t, fun _ e => nomatch e⟩
  | int i =>
    obtain ⟨t, rfl⟩ := r
    cases (show T = "int" from ty)
    exact ⟨typeIs_int s i t, fun _ e => nomatch e⟩
  | ref p =>
    cases r
    rcases ty with ⟨rfl, xs, hq⟩ | ⟨rfl, o, hk, hc, hd⟩ | ⟨rfl, hk⟩ | ⟨rfl, S, n, hk⟩
    · obtain ⟨its, _, pl, _⟩ := I.list hq
      refine ⟨pl.isList.typeIs, fun a e => ?_⟩
      cases e
      obtain ⟨o, n, e, c, hd, _⟩ := pl
      exact ⟨o, e, hd⟩
    · refine ⟨⟨o, I.kIn p o hk, hc⟩, fun a e => ?_⟩
      cases e
      exact ⟨o, I.kIn _ o hk, hd⟩
    · have z : ∃ o, s.heap.get? p = some o ∧ o.ExactDict := by
        rcases hk with ⟨kvs, hk⟩ | ⟨kvs, hk⟩
        · obtain ⟨_, _, _, _, o, _, _, e, ex, _⟩ := I.hok p _ hk
          exact ⟨o, e, ex⟩
        · obtain ⟨_, _, _, _, o, _, _, e, ex, _⟩ := I.hok p _ hk
          exact ⟨o, e, ex⟩
      obtain ⟨o, e, ex⟩ := z
      refine ⟨⟨o, e, ex.1⟩, fun a e2 => ?_⟩
      cases e2
      exact ⟨o, e, ex.2.1⟩
    · obtain ⟨o, _, _, _, e, ex, _⟩ := I.hok p _ hk
      refine ⟨⟨o, e, ex.1⟩, fun a e2 => ?_⟩
      cases e2
      exact ⟨o, e, ex.2.1⟩
  | _ => exact False.elim ty
def tBM (K : PySem.W.Frag) (T : String) (r : V → List V → Hp → VK → Prop) (to : TE) (t : TA) : TE := fun σ H Q => to σ H fun x H1 => tyV K T x H1 ∧ t σ H1 fun xs H2 => r x xs H2 Q
variable {o e : Expr} {es : List Expr} {to : TE} {t : TA} {name : Str} {apos cpos : Pos} {T id : String} {r : V → List V → Hp → VK → Prop}
theorem pe_bm (pa : PlainAttrs T) (slot : Slot T name id) (hty : typeOf (.builtin id) = pure (.type "method_descriptor")) (hm : MtR X id r) (ho : PE X o to) (ha : PA X (e :: es) t)
    (hbase : attributeBase o name X.env (eval o X.env) = eval o X.env := by rfl)
    (hfew : ((backTo cpos (starEach (e :: es) X.env)).all (fun x => !x.1) && (backToKw cpos (keywordEach [] X.env)).all (fun x => x.1.isSome)
      && decide ((e :: es).length + ([] : List Keyword).length + (if ([] : List Keyword).isEmpty then 0 else 1) < 30)) = true := by rfl)
    (hline : (apos.endLine == cpos.line) = true := by rfl) (hs : starEach (e :: es) X.env = (false, eval e X.env) :: starEach es X.env := by rfl) (hplain : (backTo cpos (starEach es X.env)).any (·.1) = false := by rfl) :
    PE X (.Call (.Attribute o name apos) (e :: es) [] cpos) (tBM X.K T r to t) := by
  intro pins s σ H Q I h
  refine wpAny_Call_method_late hbase hfew hline rfl (thn (ho pins s σ H _ I h) fun v s1 ⟨x, H1, I1, r1, ty, q1⟩ => ?_)
  obtain ⟨h1, h2⟩ := tyV_is I1 r1 ty
  refine ⟨T, id, pa, slot, hty, h1, h2, ?_⟩
  have hA := ha cpos pins s1 σ H1 _ I1 q1
  rw [hs] at hA ⊢
  refine Calls.callWith_builtin (by show (false || (backTo cpos (starEach es X.env)).any (·.1)) = false; rw [hplain] <;> rfl) (Calls.evalArgs_plain ?_)
  exact thn hA fun us s2 ⟨vs, H2, I2, r2, q2⟩ => hm pins s2 σ H2 x vs v us Q I2 r1 r2 q2
/- xs.append(e), list.index on a module's tuple .. are MtR facts of 06m -/
end
end L2

namespace L2
open PySem PySem.Spec PyProof.Rows

def MtM (X : Cx) (id : String) (r : V → List V → Hp → VK → Prop) : Prop :=
  ∀ (pins : List (Addr × Obj)) (s : Shared) (σ : St) (H : Hp) (x : V) (xs : List V) (v : Value) (us : List Value) (Q : VK), Inv X pins σ H s → RelV x v → Vals xs us → r x xs H Q →
    wpAny (model X.prog X.w) X.A (call (.builtin id) (v :: us)) (EP X pins σ Q) X.xe s

/-! ### lists of values -/
theorem Vals.one : ∀ {x : V} {us : List Value}, Vals [x] us → ∃ u, us = [u] ∧ RelV x u
  | _, _, .cons r .nil => ⟨_, rfl, r⟩
theorem Vals.two : ∀ {x y : V} {us : List Value}, Vals [x, y] us → ∃ u v, us = [u, v] ∧ RelV x u ∧ RelV y v
  | _, _, _, .cons r (.cons q .nil) => ⟨_, _, rfl, r, q⟩
theorem Vals.zero : ∀ {us : List Value}, Vals [] us → us = []
  | _, .nil => rfl
section
variable {X : Cx} {pins : List (Addr × Obj)} {σ : St} {H : Hp} {s : Shared} {l b : Addr} {xs ys zs : List V}

/-! ### the two steps: a tracked list is rewritten, a new list is laid -/
theorem Inv.lset {its its' : List Value} {n : Nat} {f : Array Value → Array Value} {t' : Nat} (I : Inv X pins σ H s) (hH : H l = some (.lst xs))
    (e : s.heap.get? l = some { cls := .type "list", data := .seq its.toArray n }) (hf : f its.toArray = its'.toArray) (hv : Vals ys its') (hz : ys.length ≤ sizeLine) :
    Inv X pins σ (upd H l (.lst ys)) { s with heap := s.heap.update l (Obj.mapSeq f), toks := t' } := by
  have q := PySem.IsL.update e f
  rw [hf] at q
  refine I.write (x := l) (e := l) (by rw [hH]; exact trivial) (.inl rfl) (fun b' u hb hu => (Heap.get?_update_other s.heap (Obj.mapSeq f) (Ne.symm hb)).trans hu) ⟨_, q⟩ ?_
  exact ⟨hz, its', _, hv, q⟩
theorem Inv.lnew {its : List Value} {t' : Nat} (I : Inv X pins σ H s) (hv : Vals ys its) (hz : ys.length ≤ sizeLine) :
    Inv X pins σ (upd H s.heap.objs.size (.lst ys)) { s with heap := s.heap.push { cls := .type "list", data := .seq its.toArray }, toks := t' } :=
  I.laid (fun _ _ q => Heap.get?_push_of_some _ q) (Nat.le_refl _) ⟨hz, its, 0, hv, Heap.get?_push_size _ rfl⟩
theorem Inv.fresh (I : Inv X pins σ H s) : H s.heap.objs.size = none := I.hok.fresh (Nat.le_refl _)
theorem Inv.lstM (I : Inv X pins σ H s) (hH : H l = some (.lst xs)) : xs.length ≤ sizeLine ∧ ∃ (its : List Value) (n : Nat), Vals xs its ∧ xs.length = its.length ∧ s.heap.get? l = some { cls := .type "list", data := .seq its.toArray n } := by
  obtain ⟨z, its, n, r, e⟩ := I.hok l _ hH
  exact ⟨z, its, n, r, r.length, e⟩

end

section
variable {X : Cx}

/-! ### methods -/
def rAppend : V → List V → Hp → VK → Prop := fun x vs H Q => ∃ l xs y, x = .ref l ∧ vs = [y] ∧ H l = some (.lst xs) ∧ xs.length < sizeLine ∧ Q .non (upd H l (.lst (xs ++ [y])))
theorem mt_append : MtM X "list.append" rAppend := by
  intro pins s σ H x vs v us Q I rx rv h
  obtain ⟨l, xs, y, rfl, rfl, hH, hz, q⟩ := h
  cases rx
  obtain ⟨u, rfl, ru⟩ := rv.one
  obtain ⟨z, its, n, r, hl, e⟩ := I.lstM hH
  refine call_meets F.slot_list_append ⟨_, e, rfl⟩ F.entry_list_append (F.args_list_append_2 _ _) (PySem.list_append l its.toArray n u (by rw [List.size_toArray]; omega)) ⟨e, ?_⟩
  refine ⟨.non, _, I.lset (its' := its ++ [u]) hH e (by simp) (r.append (.cons ru .nil)) ?_, rfl, q⟩
  rw [List.length_append, List.length_singleton]
  omega

/-! ### list + list, list += list, list * int -/
/-! ### del xs[i] -/
end

/-! ### xs[a:b] = ys -/
section
variable {prog : Program} {w : World} {A : Around} {E : Value → Shared → Prop} {s : Shared}
end

section
variable {X : Cx}
end
end L2

namespace Att
open PySem PySem.W PySem.Calls PyProof.Rows

/-! ### the script -/
theorem ints_of_wellAll {P : Params} {h : Heap} : ∀ (ns : List Int) (vs : List Value), WellAll P h vs (ns.map WData.int) → IntsAre vs ns := by
  intro ns
  induction ns with
  | nil =>
    intro vs w
    rw [List.map_nil] at w
    cases w
    exact .nil
  | cons n ns ih =>
    intro vs w
    rw [List.map_cons] at w
    cases w with
    | cons a b =>
      cases a
      exact .cons _ _ (ih _ b)

theorem script_of {l : OpenLaw} {n : Nat} (hn : l.most = some n) {P : Params} {h : Heap} {args : List WData} {vals : List Value}
    (hpre : l.row.toRowW.claim.pre args = true) (hwl : WellAll P h vals args) :
    ∃ a vs ns, vals = [Value.ref a] ∧ args = [WData.list (ns.map WData.int)] ∧ h.get? a = some { cls := .type "list", data := .seq vs.toArray } ∧ IntsAre vs ns ∧ ns.length ≤ n := by
  have hsh : WShape.hasAll [] args [.list .int] = true := (pre_splitW hpre).1
  have hc : l.pre.holds [] { args := args } = true := (pre_splitW hpre).2
  obtain ⟨d, r, rfl, h1, h2⟩ := hasAllW_cons hsh
  obtain rfl := hasAllW_nil h2
  obtain ⟨xs, rfl, h3⟩ := hasW_list h1
  obtain ⟨ns, rfl⟩ := items_int h3
  have hlen : ns.length ≤ n := by
    unfold OpenLaw.pre at hc
    have h4 : (WTm.not (.lt (.lit (.int (n : Int))) (.len (.arg 0)))).holds [] { args := [.list (ns.map .int)] } = true := by
      have h4 := (holds_andW hc).1
      rw [hn] at h4
      exact h4
    have h5 := condW_of h4 (w_not (w_lt w_lit (w_len_list (w_arg rfl))))
    rw [List.length_map] at h5
    refine Nat.le_of_not_lt fun q => ?_
    have q' : (n : Int) < ((ns.length : Nat) : Int) := by omega
    first
      | (rw [decide_eq_true q'] at h5; exact absurd h5 (by decide))
      | (simp at h5; omega)
  cases hwl with
  | cons w1 w2 =>
    cases w2
    cases w1 with
    | list ho hall => exact ⟨_, _, ns, rfl, rfl, ho, ints_of_wellAll ns _ hall, hlen⟩

theorem post_true (l : OpenLaw) (args : List WData) : l.row.toRowW.claim.post args (.bool true) args = true :=
  postW_of (r := l.row.toRowW) (X := (true == true))
    (show WShape.has [] (.bool true) .bool = true by first | rfl | decide | simp [WShape.has, WShape.arms, WShape.armsAll])
    (show (WTm.eq .res (.lit (.bool true))).value [] { args := args, res := some (.bool true), after := args } = some (.bool (true == true)) from w_eq_bool (w_res rfl) w_lit) rfl

/-! ### the attachment: holds_open's last premise (the goal 'hc' behind k_head) from a wpAny of the law's body -/
/-- the same from a codeAny of the CALL (for a layer whose function contracts speak of calls) -/
theorem attach_call {l : OpenLaw} {n : Nat} {q : Program} {loose : List Str} {XP : (Str → Option Value) → Heap → Prop} {YP : World → Heap → Prop} {d : DefRec}
    (hn : l.most = some n) (hdf : d.params.defaults = [])
    (call : ∀ (w : World) (s₀ s₁ : Shared) (mg mb : Str → Option Value) (fa : Addr) (o : Obj) (pm cd doc : Value) (a : Addr) (vs : List Value) (ns : List Int),
      Ground q loose [] XP w s₀ mg mb s₁.heap → YP w s₁.heap →
      s₁.heap.get? fa = some o → o.data = .func (docDef d.name d.params d.body d.scope pm cd doc) → s₁.heap.CodeRec cd d.name → mg d.name = some (.ref fa) →
      s₁.heap.get? a = some { cls := .type "list", data := .seq vs.toArray } → IntsAre vs ns → ns.length ≤ n → s₁.gens = #[] →
      codeAny (model l.prog w) callerA (.call (.ref fa) ⟨[.ref a], []⟩) (fun r s' => r = .ok (.ret (.bool true)) ∧ OldK s₁.heap s'.heap ∧ s'.os = s₁.os ∧ AllBare s'.gens) s₁) :
    WalkO q loose XP YP l.row.toRowW d [] (fun f vs => PySem.call f vs) := by
  intro w s₀ s₁ mg mb G Y fa o pm cd doc dV kV ho hd hcd hD hmg hg args vals as hpre hlay hrd hwl hlo
  obtain rfl : dV = .none := Dflts.none hD hdf
  obtain rfl : kV = .none := Dflts.noKw hD
  obtain ⟨a, vs, ns, rfl, rfl, hobj, hints, hlen⟩ := script_of hn hpre hwl
  refine enter_call (codeAny_mono (call w s₀ s₁ mg mb fa o pm cd doc a vs ns G Y ho (fd_plain hd) hcd hmg hobj hints hlen hg) fun r s' hq => ?_)
  obtain ⟨rfl, h2, h3, h4⟩ := hq
  exact ⟨.inl ⟨.bool true, .bool true, [], rfl, fun _ => rfl, .bool true, post_true l _, fun _ => ⟨List.Pairwise.nil, fun _ hm => (nomatch hm)⟩⟩, h2, h3, h4⟩

/-! ### rules over ANY heap (no ledger) from facts about the written part K: the library's own take a ledger (News) for what they write -/
section
variable {prog : Program} {w : World} {A : Around} {E : Value → Shared → Prop} {s : Shared} {K : Frag}

/-! the whole heap as the ledger: makes every rule that writes through a ledger a rule over any heap -/
def ledger (h : Heap) (L d : Addr) : List (Addr × Obj) := (List.range h.objs.size).filterMap fun a => if a = L ∨ a = d then none else (h.get? a).map fun o => (a, o)
end
end Att

namespace L2
open PySem PySem.Spec PyProof.Rows

theorem vals_ints : ∀ {vs : List Value} {ns : List Int}, IntsAre vs ns → Vals (ns.map V.int) vs
  | _, _, .nil => .nil
  | _, _, .cons n t h => .cons ⟨t, rfl⟩ (vals_ints h)

/-- nothing is tracked but the script, known to the object (or it is an object of the module) -/
def Only (H : Hp) : Prop := ∀ b, H b = none ∨ ∃ o xs, H b = some (.frz o (.lst xs))

/-- THE HEAD: the law's promise, at the heap behind the top. F, the promise of the law's def, may use that base is part of the heap (so K.In base, base.Ns mainGlobals mg stand in Mod) -/
theorem law_call {P : Program} {w : World} {K : PySem.W.Frag} {mg mb : Str → Option Value} {CX : CXT} {k : Nat} {fa a : Addr} {fd : FuncData} {x : Str} {sp : Sp} {s₁ : Shared} {vs : List Value} {ns : List Int}
    (KX : K.In s₁.heap) (hns : s₁.heap.Ns mainGlobals mg) (hb : s₁.heap.Ns builtinsNs mb) (hbb : ∀ x : Str, x ≠ "__name__" → mb x = bootBuiltins x) (hlim : s₁.heap.NoLimit) (hg : s₁.gens = #[])
    (ha : s₁.heap.get? a = some { cls := .type "list", data := .seq vs.toArray }) (hi : IntsAre vs ns) (hl : ns.length ≤ sizeLine) (hr : Room k callerA)
    (F : ∀ base : Heap, K.In base → base.Ns mainGlobals mg → FnOk P w K mg base CX k fa fd [x] sp) (hbind : ∀ (s : Shared) (u : Value), BindsTo s fd ⟨[u], []⟩ [(x, u)])
    (hsp : ∀ H : Hp, Only H → SqL K H a (ns.map V.int) → sp [.ref a] H (fun v _ => v = .bl true) fun _ _ _ => False)
    (hCX : ∀ H e s', CX [] H s₁ (fun _ _ _ => False) e s' → False) :
    codeAny (model P w) callerA (.call (.ref fa) ⟨[.ref a], []⟩) (fun r s' => r = .ok (.ret (.bool true)) ∧ OldK s₁.heap s'.heap ∧ s'.os = s₁.os ∧ AllBare s'.gens) s₁ := by
  have rv := vals_ints hi
  have lenV := hi.length
  -- from an abstract heap in which nothing but the script may be tracked
  have core : ∀ H : Hp, Only H → SqL K H a (ns.map V.int) → HOk P w H s₁.heap → (∀ b, H b ≠ none → b = a) → (H a ≠ none → K.lookup a = none) →
      codeAny (model P w) callerA (.call (.ref fa) ⟨[.ref a], []⟩) (fun r s' => r = .ok (.ret (.bool true)) ∧ OldK s₁.heap s'.heap ∧ s'.os = s₁.os ∧ AllBare s'.gens) s₁ := by
    intro H hO hS hok hA hK
    have base_of : ∀ {b : Addr} {o : Obj}, s₁.heap.get? b = some o → H b = none → (hidT s₁.heap H).get? b = some o := fun e n => hidT_get e n
    have noA : ∀ {b : Addr} {o : Obj} {es : Array DictEntry} {ep : Nat}, s₁.heap.get? b = some o → o.data = .dict es ep → H b = none := fun {b o es ep} e d => by
      cases q : H b with
      | none => rfl
      | some u =>
        have e' : b = a := hA b (by rw [q]; simp)
        subst e'
        rw [ha] at e; cases e
        have d' : Data.seq vs.toArray _ = Data.dict es ep := d
        cases d'
    have nsK : ∀ {b : Addr} {m : Str → Option Value}, s₁.heap.Ns b m → (hidT s₁.heap H).Ns b m := fun {b m} ⟨o, es, ep, e, d, r⟩ => ⟨o, es, ep, base_of e (noA e d), d, r⟩
    have hKb : K.In (hidT s₁.heap H) := fun b o e => base_of (KX b o e) (by
      cases q : H b with
      | none => rfl
      | some u =>
        have e' : b = a := hA b (by rw [q]; simp)
        subst e'
        rw [hK (by rw [q]; simp)] at e; cases e)
    have hM : Mod K mg (hidT s₁.heap H) := ⟨hKb, nsK hns, ⟨mb, nsK hb, hbb⟩, let ⟨mc, h1, h2⟩ := hlim; ⟨mc, nsK h1, h2⟩⟩
    have e0 : Env0 P w K mg (hidT s₁.heap H) callerA [] s₁ H := ⟨rfl, hM, fun b o e => of_hidT e, Nat.le_of_eq (hidT_size _ _), trivial, fun b hb => absurd (show b ∈ ([] : List Addr) from hb) (by simp), hok, .of_eq hg⟩
    refine codeAny_mono ((F _ hKb (nsK hns)).run callerA [] s₁ H ⟨[.ref a], []⟩ [.ref a] [.ref a] _ _ hr e0 (hbind s₁ (.ref a)) (.cons rfl .nil) (hsp H hO hS)) fun r s' h => ?_
    cases r with
    | error e => exact (hCX H e s' h).elim
    | ok fl =>
      cases fl with
      | next => exact False.elim h
      | brk => exact False.elim h
      | cont => exact False.elim h
      | ret u =>
        obtain ⟨v, H', os, bare, un, hok', r', q⟩ := h
        have q' : v = .bl true := q
        subst q'
        obtain rfl : u = Value.bool true := r'
        refine ⟨rfl, OldK.of_keep fun b o e => ?_, os, bare⟩
        cases q : H b with
        | none => exact un.keep b o e q (by intro z; exact absurd (show b ∈ ([] : List Addr) from z) (by simp)) (by simp)
        | some u =>
          rcases hO b with z | ⟨ob, xs, z⟩
          · rw [q] at z; cases z
          · have z2 := un.frzs b ob _ z
            obtain ⟨e1, _⟩ := hok b _ z
            obtain ⟨e2, _⟩ := hok' b _ z2
            rw [e] at e1; cases e1
            exact e2
  cases hk : K.lookup a with
  | some o =>
    -- the script is one of the module's own objects
    have e := KX a o hk
    rw [ha] at e
    cases e
    refine core (fun _ => none) (fun _ => .inl rfl) (.inr ⟨_, vs.toArray, _, hk, rfl, rfl, rfl, by rw [List.size_toArray, lenV]; exact hl, by simpa using rv⟩) (fun b u z => by have z' : (none : Option HO) = some u := z; cases z') (fun b z => absurd rfl z) fun z => absurd rfl z
  | none =>
    refine core (fun b => if b = a then some (.frz { cls := .type "list", data := .seq vs.toArray } (.lst (ns.map V.int))) else none) (fun b => ?_) (.inl (.inr ⟨{ cls := .type "list", data := .seq vs.toArray }, if_pos rfl⟩)) (fun b u z => ?_) (fun b z => ?_) fun _ => hk
    · by_cases hb : b = a
      · exact .inr ⟨_, _, if_pos hb⟩
      · exact .inl (if_neg hb)
    · by_cases hb : b = a
      · have z' := (if_pos hb).symm.trans z
        cases z'
        subst hb
        exact ⟨ha, by rw [List.length_map]; exact hl, vs, _, rv, ha⟩
      · have z' := (if_neg hb).symm.trans z
        cases z'
    · by_cases hb : b = a
      · exact hb
      · exact absurd (if_neg hb) z
end L2

namespace L2
open PySem PySem.Spec PyProof.Rows

/-- the goal that k_head leaves (case hc), from the law's promise. F gives the function object fd (K's own) once, then the promise over every base -/
theorem walk_of {l : PySem.W.OpenLaw} {n k : Nat} {q : Program} {loose : List Str} {XP : (Str → Option Value) → Heap → Prop} {YP : World → Heap → Prop} {d : DefRec} {K : Params → PySem.W.Frag} {CX : World → CXT} {sp : World → Sp} {x : Str}
    (hn : l.most = some n) (hn2 : n ≤ sizeLine) (hdf : d.params.defaults = []) (hr : Room k callerA)
    (hY : ∀ (w : World) (h : Heap), YP w h → (K w.params).In h)
    (F : ∀ (w : World) (mg : Str → Option Value) (fa : Addr) (h : Heap), (K w.params).In h → h.Ns mainGlobals mg → mg d.name = some (.ref fa) →
      ∃ fd : FuncData, (∀ (s : Shared) (u : Value), BindsTo s fd ⟨[u], []⟩ [(x, u)]) ∧
        ∀ base : Heap, (K w.params).In base → base.Ns mainGlobals mg → FnOk l.prog w (K w.params) mg base (CX w) k fa fd [x] (sp w))
    (hsp : ∀ (w : World) (H : Hp) (a : Addr) (ns : List Int), ns.length ≤ n → Only H → SqL (K w.params) H a (ns.map V.int) → sp w [.ref a] H (fun v _ => v = .bl true) fun _ _ _ => False)
    (hCX : ∀ (w : World) (H : Hp) (s : Shared) (e : Value) (s' : Shared), CX w [] H s (fun _ _ _ => False) e s' → False) :
    PySem.W.WalkO q loose XP YP l.row.toRowW d [] (fun f vs => PySem.call f vs) := by
  refine Att.attach_call hn hdf fun w s₀ s₁ mg mb fa o pm cd doc a vs ns G Y ho hd hcd hmg hobj hints hlen hg => ?_
  have KX := hY w _ Y
  obtain ⟨fd, hb, hF⟩ := F w mg fa _ KX G.T.g hmg
  exact law_call KX G.T.g G.T.b G.T.builtins G.T.nolimit hg hobj hints (Nat.le_trans hlen hn2) hr hF hb (fun H hO hS => hsp w H a ns hlen hO hS) fun H e s' => hCX w H s₁ e s'
end L2

/- THE LAST THEOREM (shape; LID, My.* are yours):
   My.Adr: a structure of the addresses that your layer names (classes, functions); My.Txt K t: a structure (Prop) of the equations over K;
   My.txt_mk : {K} {implicit addresses ..} (e1 : nsIn K mainGlobals "law" = some (some (.ref f))) (e2 : K.lookup f = some ⟨oc, od, .func (fnOf "law" "law" params body scope dV kV doc pm an cdv ct), sl⟩) (e3 : codeIn K cdv "law" = true) .. : ∃ t, My.Txt K t

(the tactic k_is has no namespace: write k_is) -/

/-! SHORT WORDS over the layer: a def of the text, its body, what a loop and a test want. -/
namespace L2
open PySem PySem.Spec PyProof.Rows

/-! ### the text by places -/
def defArgs (s : Stmt) : Arguments := match s with
  | .FunctionDef _ a _ _ _ _ _ _ _ _ => a
  | _ => { posonlyargs := [], args := [], vararg := none, kwonlyargs := [], kw_defaults := [], kwarg := none, defaults := [] }
def defBody (s : Stmt) : List Stmt := match s with
  | .FunctionDef _ _ b _ _ _ _ _ _ _ => b
  | _ => []
def defScope (s : Stmt) : Scope := match s with
  | .FunctionDef _ _ _ _ _ _ sc _ _ _ => sc
  | _ => { kind := .function, names := [], isGenerator := false, isCoroutine := false }

/-! ### no exception leaves a def -/
abbrev CX0 : CXT := fun _ _ _ _ _ _ => False
abbrev E0 : XK := fun _ _ _ => False
theorem pass0 {X : Cx} : Passes CX0 X E0 := fun _ _ _ _ _ _ _ h => h.elim

/-! ### a def (or method) of the text as it stands behind the top -/
structure Fun (K : PySem.W.Frag) (x qual : Str) (st : Stmt) (f : Addr) (fd : FuncData) : Prop where
  ex : ∃ (oc : Value) (od : Option Addr) (kV doc pm : Value) (an : Option Addr) (cdv ct : Value) (osl : Array (Option Value)),
    fd = PySem.W.fnOf x qual (defArgs st) (defBody st) (defScope st) .none kV doc pm an cdv ct ∧ K.lookup f = some ⟨oc, od, .func fd, osl⟩ ∧ PySem.W.codeIn K cdv qual = true
  kp : PySem.W.keepIn K (.ref f) = true
section
variable {P : Program} {w : World} {K : PySem.W.Frag} {mg : Str → Option Value} {base : Heap}
/-- THE RULE for a def: its body as a term of rules, and the reading of that term -/
theorem Fun.ok {x qual : Str} {st : Stmt} {f : Addr} {fd : FuncData} {N ps : List Str} {k : Nat} {sp : Sp} (F : Fun K x qual st f fd) (S : FnScope N ps (defScope st)) (len : ∀ vs H Q E, sp vs H Q E → vs.length = ps.length)
    (hbody : ∀ (cdv : Value) (A : Around) (outer : List Env) (s : Shared) (H : Hp) (vs : List V) (Q : VK) (E : XK), Room k (A.deeper (envOfC qual (defScope st) s.heap.objs.size f cdv)) → sp vs H Q E →
      ∃ t, PSs (cxOf CX0 P w K mg base N qual (defScope st) f cdv A outer s H E).nox (defBody st) t ∧ t { nx := fun _ H' => Q .non H', rt := Q } (start N vs) H) : FnOk P w K mg base CX0 (k + 1) f fd ps sp := by
  obtain ⟨oc, od, kV, doc, pm, an, cdv, ct, osl, rfl, lk, hcd⟩ := F.ex
  refine fn_of lk hcd S len fun A outer s H vs Q E hr hsp => ?_
  obtain ⟨t, h, q⟩ := hbody cdv A outer s H vs Q E hr hsp
  exact ⟨t, h.nox, q⟩
/-- how its arguments bind (no defaults): h is «fun _ _ _ _ _ _ us hl => match us, hl with | [_, _], _ => rfl», one _ a parameter -/
theorem Fun.binds {x qual : Str} {st : Stmt} {f : Addr} {fd : FuncData} {ps : List Str} (F : Fun K x qual st f fd)
    (h : ∀ (kV doc pm : Value) (an : Option Addr) (cdv ct : Value) (us : List Value), us.length = ps.length → bindArgs (PySem.W.fnOf x qual (defArgs st) (defBody st) (defScope st) .none kV doc pm an cdv ct) ⟨us, []⟩ = pure (ps.zip us)) : Binds K fd ps [] := by
  obtain ⟨oc, od, kV, doc, pm, an, cdv, ct, osl, rfl, lk, hcd⟩ := F.ex
  exact .all (h kV doc pm an cdv ct)
theorem fun_mk {x qual : Str} {st : Stmt} {f : Addr} {oc : Value} {od an : Option Addr} {osl : Array (Option Value)} {kV doc pm cdv ct : Value} (l : K.lookup f = some ⟨oc, od, .func (PySem.W.fnOf x qual (defArgs st) (defBody st) (defScope st) .none kV doc pm an cdv ct), osl⟩)
    (c : PySem.W.codeIn K cdv qual = true) (k : PySem.W.keepIn K (.ref f) = true) : Fun K x qual st f (PySem.W.fnOf x qual (defArgs st) (defBody st) (defScope st) .none kV doc pm an cdv ct) := ⟨⟨oc, od, kV, doc, pm, an, cdv, ct, osl, rfl, l, c⟩, k⟩
end
theorem small1000 {n : Nat} (h : n ≤ 1000) : n < sizeLine := Nat.lt_of_le_of_lt h (by decide)

/-! ### expressions in short: the name that stands in the i-th slot -/
section
variable {X : Cx}
theorem pv (i : Nat) {x : Str} {pos : Pos} (hN : X.N[i]? = some x := by rfl) (hv : Vis X.env.scope x := by first | exact Or.inl rfl | exact Or.inr (Or.inl rfl) | exact Or.inr (Or.inr rfl)) (hd : (x == ("__debug__" : Str)) = false := by decide)
    (hcd : (x == ("__classdict__" : Str)) = false := by decide) : PE X (.Name x pos) (tVar i) := pe_var hN hv hd hcd
end

/-! ### tests -/
theorem ite2 {c A B : Prop} [Decidable c] (h1 : c → A) (h2 : ¬ c → B) : if c then A else B := by
  by_cases h : c
  · rw [if_pos h]
    exact h1 h
  · rw [if_neg h]
    exact h2 h
/-! ### heaps -/
/-- all that was tracked is as it was -/
def Same (H H' : Hp) : Prop := ∀ b o, H b = some o → H' b = some o
theorem Same.refl (H : Hp) : Same H H := fun _ _ h => h
theorem Same.trans {H H1 H2 : Hp} (a : Same H H1) (b : Same H1 H2) : Same H H2 := fun c o h => b c o (a c o h)
theorem Same.free {H H' : Hp} (e : Same H H') {l : Addr} (h : H' l = Option.none) : H l = Option.none := by
  cases q : H l with
  | none => rfl
  | some o =>
    rw [e l o q] at h
    cases h
theorem Same.seq {K : PySem.W.Frag} {H H' : Hp} {a : Addr} {xs : List V} (e : Same H H') (h : SqL K H a xs) : SqL K H' a xs := by
  rcases h with (h | ⟨o, h⟩) | h
  · exact .inl (.inl (e _ _ h))
  · exact .inl (.inr ⟨o, e _ _ h⟩)
  · exact .inr h

end L2
/-! List comprehensions over the hand layer: one for, at most one if; the block has names of its own and cells of the def's. -/
namespace L2
open PySem PySem.Spec PyProof.Rows

/-- the comprehension's turns, no exception leaving -/
theorem lc_loop {prog : Program} {w : World} {A : Around} {R : Result → Shared → Prop} {s : Shared} {elt tg iter : Expr} {ifs : List Expr} {scope : Scope} {pos : Pos} {it acc : Value} {env : Env} (J : Nat → Shared → Prop)
    (turn : ∀ k s0, J k s0 → wpAny (model prog w) A (pyNext it) (fun r s1 => match r with
      | none => R (.ok .next) s1
      | some v => wpAny (model prog w) A (letOwnedTupleGo tg it v) (fun _ s2 => wpAny (model prog w) A (assign tg env v) (fun _ s3 =>
          wpAny (model prog w) A (forIn ifs true fun c r => if r = true then do let ok ← isTrue c env (eval c env); pure (ForInStep.yield ok) else pure (ForInStep.yield r)) (fun ok s4 =>
            if ok = true then wpAny (model prog w) A (eval elt env) (fun x s5 => wpAny (model prog w) A (call (.builtin "list.append") [acc, x]) (fun _ s6 => ∃ j, j < k ∧ J j s6) (fun _ _ => False) s5) (fun _ _ => False) s4
            else ∃ j, j < k ∧ J j s4) (fun _ _ => False) s3) (fun _ _ => False) s2) (fun _ _ => False) s1) (fun _ _ => False) s0)
    (k : Nat) (h : J k s) : codeAny (model prog w) A (.compLoop (.ListComp elt [⟨tg, iter, ifs, 0⟩] scope pos) 0 it acc env) R s := by
  refine codeAny_loop rfl J (fun k0 s0 hJ => ?_) k h
  show wpAny _ A ((compTurn (.ListComp elt [⟨tg, iter, ifs, 0⟩] scope pos) 0 it acc env).onRaise (fun x => do noteFrame x env; theTreesLotGoes x)) _ _ s0
  refine wpAny_noted ?_
  rw [compTurn_list]
  refine wpAny_bind (wpAny_standAt (wpAny_bind (wpAny_mono (turn k0 s0 hJ) (fun r s1 h1 => ?_) fun _ _ f => f.elim)))
  cases r with
  | none => exact wpAny_pure h1
  | some v =>
    refine wpAny_bind (wpAny_mono h1 (fun _ s2 h2 => wpAny_bind (wpAny_mono h2 (fun _ s3 h3 => wpAny_bind (wpAny_mono h3 (fun ok s4 h4 => ?_) fun _ _ f => f.elim)) fun _ _ f => f.elim)) fun _ _ f => f.elim)
    cases ok with
    | false => exact wpAny_pure ⟨rfl, h4⟩
    | true => exact wpAny_bind (wpAny_bind (wpAny_mono h4 (fun x s5 h5 => wpAny_bind (wpAny_mono h5 (fun _ s6 h6 => wpAny_pure (wpAny_pure ⟨rfl, h6⟩)) fun _ _ f => f.elim)) fun _ _ f => f.elim))

/-- the tests behind if -/
def PTs (X : Cx) (ifs : List Expr) (t : TT) : Prop :=
  ∀ (pins : List (Addr × Obj)) (s : Shared) (σ : St) (H : Hp) (Q : Bool → Hp → Prop), Inv X pins σ H s → t σ H Q →
    wpAny (model X.prog X.w) X.A (forIn ifs true fun c r => if r = true then do let ok ← isTrue c X.env (eval c X.env); pure (ForInStep.yield ok) else pure (ForInStep.yield r)) (TP X pins σ Q) X.xe s
def tYes : TT := fun _ H Q => Q true H
theorem pts_nil {X : Cx} : PTs X [] tYes := fun _ _ _ H _ I h => wpAny_tests_nil ⟨H, I, h⟩
/-- the block's context: its own names, then names of the def's by their cells -/
def cxLc (X : Cx) (N : List Str) (scope : Scope) (cl : List (Str × Addr)) (C : Addr) (s : Shared) (H : Hp) (fp : List Addr) : Cx where
  prog := X.prog
  w := X.w
  K := X.K
  mg := X.mg
  base := X.base
  A := X.A
  N := N
  s₀ := s
  H₀ := H
  env := compEnvC scope cl C X.env
  outer := X.stack
  stack := X.stack
  ex := fp
  fn := fun _ => false
  calm := X.calm
  pn := []
  xe := fun _ _ => False
/-- what the block knows of the def's slots: n own names, then the slots js -/
def pick (n : Nat) (js : List Nat) (σ : St) : St := List.replicate n none ++ js.map fun j => (σ[j]?).join

/-- what of the text a comprehension must have -/
structure LcOk (X : Cx) (N : List Str) (n : Nat) (js : List Nat) (scope : Scope) (cl : List (Str × Addr)) : Prop where
  clos : closureFor scope X.env = pure cl
  nocell : ∀ y ∈ scope.names, y.2 ≠ .cell
  kind : scope.kind = .function
  names : ∀ y ∈ scope.names, y.2 = .local → scope.names.lookup y.1 = some .local
  cells : ∀ x c, cl.lookup x = some c → X.env.cells.lookup x = some c
  has : ∀ x, ((relabel scope X.env).names.lookup x = some .cell ∨ (relabel scope X.env).names.lookup x = some .free) → ∃ c, cl.lookup x = some c
  len : n + js.length = N.length
  free : ∀ (i : Nat) (x : Str), N[n + i]? = some x → ∃ j c, js[i]? = some j ∧ X.N[j]? = some x ∧ (X.env.scope.names.lookup x = some .cell ∨ X.env.scope.names.lookup x = some .free) ∧
    ((relabel scope X.env).names.lookup x = some .cell ∨ (relabel scope X.env).names.lookup x = some .free) ∧ cl.lookup x = some c

section
variable {X : Cx} {pins : List (Addr × Obj)} {σ : St} {H : Hp} {s : Shared} {N : List Str} {n : Nat} {js : List Nat} {scope : Scope} {cl : List (Str × Addr)}
theorem LcOk.ok (L : LcOk X N n js scope cl) (I : Inv X pins σ H s) {fp : List Addr} (hf : ∀ b ∈ fp, FpOk X pins H b) (hlt : ∀ b ∈ fp, b < s.heap.objs.size) {C : Addr} (hC : s.heap.objs.size ≤ C) : (cxLc X N scope cl C s H fp).Ok where
  mod := I.ok.mod
  kind := L.kind
  glob := I.ok.glob
  blt := I.ok.blt
  above := hC
  inj := fun x y c h1 h2 => I.ok.inj x y c (L.cells x c h1) (L.cells y c h2)
  has := fun x hx => L.has x hx
  cab := fun x c hx _ => by cases hx
  hd := I.ok.hd
  frames := I.ok.frames
  stk := .inl rfl
  exf := fun b hb => ⟨Nat.ne_of_lt (Nat.lt_of_lt_of_le (hlt b hb) hC), fun x c e => (hf b hb).2.2.2.2.1 x c (L.cells x c e)⟩
  bs := I.bs
  bsz := Nat.le_trans I.ok.bsz I.sz
  noex := fun b o e hb => by
    rcases (hf b hb).2.2.2.1 with z | z
    · exact I.ok.noex b o e z
    · exact absurd (Nat.lt_of_lt_of_le (Heap.lt_size (I.ok.bs b o e).1) z) (Nat.lt_irrefl _)
  exfs := fun b hb hz => by
    rcases List.mem_cons.mp (I.stkSub b hz) with z | z
    · exact (hf b hb).2.1 z
    · exact (hf b hb).2.2.1 z
  funs := I.stack
  frf := I.stkFree

theorem pick_get {n : Nat} {js : List Nat} {σ : St} {i : Nat} {v : V} (h : (pick n js σ)[i]? = some (some v)) : ∃ k j, i = n + k ∧ js[k]? = some j ∧ σ[j]? = some (some v) := by
  unfold pick at h
  by_cases hi : i < n
  · rw [List.getElem?_append_left (by simpa using hi), List.getElem?_replicate] at h
    split at h <;> cases h
  · rw [List.getElem?_append_right (by simpa using hi), List.length_replicate, List.getElem?_map] at h
    cases e : js[i - n]? with
    | none => rw [e] at h; cases h
    | some j =>
      rw [e] at h
      refine ⟨i - n, j, by omega, e, ?_⟩
      cases e2 : σ[j]? with
      | none => rw [Option.map_some, e2] at h; cases h
      | some o =>
        rw [Option.map_some, e2] at h
        have h' : o = some v := Option.some.inj h
        rw [h']

theorem Inv.lc (L : LcOk X N n js scope cl) (I : Inv X pins σ H s) {fp : List Addr} (hf : ∀ b ∈ fp, FpOk X pins H b) (hlt : ∀ b ∈ fp, b < s.heap.objs.size) {D C : Addr} {h1 : Heap} {m : Str → Option Value} {tk : Nat}
    (hD : s.heap.objs.size ≤ D) (hC : s.heap.objs.size ≤ C) (hDC : D ≠ C) (hn : h1.Ns C m) (old : ∀ b o, s.heap.get? b = some o → h1.get? b = some o) {k : Nat} (hl : h1.get? D = some { cls := .type "list", data := .seq ([] : List Value).toArray k }) :
    Inv (cxLc X N scope cl C s H fp) [] (pick n js σ) (upd H D (.lst [])) { s with heap := h1, toks := tk } where
  ok := L.ok I hf hlt hC
  os := rfl
  bare := I.bare
  base := Un.laid old hD (I.hok.fresh hD)
  loc := by
    refine ⟨m, hn, fun i x v e1 e2 e3 => ?_⟩
    obtain ⟨k, j, rfl, ej, eσ⟩ := pick_get e2
    obtain ⟨j', c, ej', eN, kx, kr, ec⟩ := L.free k x e1
    rw [ej] at ej'
    cases ej'
    obtain ⟨mx, hmx, hl'⟩ := I.loc
    obtain ⟨u, r, lk⟩ := hl' j x v eN eσ (kx.elim (fun z => .inr (.inl z)) fun z => .inr (.inr z))
    refine ⟨u, r, .inr ⟨kr, c, ec, ?_⟩⟩
    have hcx := L.cells x c ec
    rcases lk with ⟨z, _⟩ | ⟨_, c', e', hc'⟩
    · have z' : X.env.scope.names.lookup x = some .local := z
      rcases kx with y | y <;> rw [y] at z' <;> cases z'
    · rw [hcx] at e'
      cases e'
      obtain ⟨o, ho, hd⟩ := hc'
      exact ⟨o, old _ _ ho, hd⟩
  cell := fun x c e => by
    obtain ⟨v, o, ho, hd⟩ := I.cell x c (L.cells x c e)
    exact ⟨v, o, old _ _ ho, hd⟩
  free := by
    show upd H D (.lst []) C = none
    rw [upd_ne (Ne.symm hDC)]
    exact I.hok.fresh hC
  freeC := fun x c e => by
    obtain ⟨v, o, ho, hd⟩ := I.cell x c (L.cells x c e)
    rw [upd_ne (Nat.ne_of_lt (Nat.lt_of_lt_of_le (Heap.lt_size ho) hD))]
    exact I.freeC x c (L.cells x c e)
  pin := fun p hp => absurd (show p ∈ ([] : List (Addr × Obj)) from hp) (by simp)
  hok := I.hok.laid old hD ⟨Nat.zero_le _, [], k, .nil, hl⟩
  len := by
    show (pick n js σ).length = N.length
    unfold pick
    rw [List.length_append, List.length_replicate, List.length_map]
    exact L.len

/-- behind the block, its own frame let go -/
theorem Inv.unlc {fp : List Addr} {C : Addr} {σ' : St} {H' : Hp} {s' : Shared} {h' : Heap} (I : Inv X pins σ H s) (hf : ∀ b ∈ fp, FpOk X pins H b) (hC : s.heap.objs.size ≤ C) (I' : Inv (cxLc X N scope cl C s H fp) [] σ' H' s') (hs : Heap.SameBut C s'.heap h') :
    Inv X pins σ H' { s' with heap := h' } := by
  have nC : ∀ b o, s.heap.get? b = some o → b ≠ C := fun b o e => Nat.ne_of_lt (Nat.lt_of_lt_of_le (Heap.lt_size e) hC)
  have hfree : H' C = none := I'.free
  have u := I'.base
  refine I.call' (ch := fp) (s' := { s' with heap := h' }) I'.os ⟨fun b o e n hb hx => ?_, fun b o e n hb hx => ?_, u.free, fun b o e hx => ?_, u.tups, u.frzs, u.tbls⟩ (fun b ob e => ?_) I'.bare fun b hb => ⟨(hf b hb).2.2.2.1, (hf b hb).2.1, (hf b hb).2.2.2.2.1, (hf b hb).2.2.2.2.2⟩
  · exact (hs.2 b (nC b o e)).trans (u.keep b o e n hb hx)
  · obtain ⟨sl, q⟩ := u.slot b o e n hb hx
    exact ⟨sl, (hs.2 b (nC b o e)).trans q⟩
  · obtain ⟨o', q⟩ := u.there b o e hx
    exact ⟨o', (hs.2 b (nC b o e)).trans q⟩
  · refine (I'.hok b ob e).stay (fun c w' hc q => (hs.2 c ?_).trans q) (fun _ q => q) fun _ _ q => q
    rintro rfl
    rcases hc with rfl | hc
    · rw [hfree] at e
      cases e
    · rw [hfree] at hc
      cases hc

/-- the reading: W the invariant by the turn and a measure; D the new list -/
def tLc (wi : TI) (n : Nat) (js : List Nat) (g : TG) (tt : TT) (te : TE) : TE := fun σ H Q => wi σ H fun J H1 => ∀ D, H1 D = none → ∃ W : Nat → Nat → St → Hp → Prop, (∃ m, W 0 m (pick n js σ) (upd H1 D (.lst []))) ∧ ∀ i m σ' H', W i m σ' H' →
  (J.stop i H' ∧ Q (.ref D) H') ∨ (J.go i H' ∧ ∃ Nx : St → Hp → Prop, (∀ σ2 H2, Nx σ2 H2 → ∃ m', m' < m ∧ W (i + 1) m' σ2 H2) ∧
    ∀ x H2, J.yld i H' x H2 → g x σ' H2 fun σ3 H3 => tt σ3 H3 fun ok H4 => if ok = true then te σ3 H4 fun y H5 => ∃ ys, H5 D = some (.lst ys) ∧ ys.length < sizeLine ∧ Nx σ3 (upd H5 D (.lst (ys ++ [y]))) else Nx σ3 H4)

theorem lc_core {elt tg iter : Expr} {ifs : List Expr} {pos : Pos} {g : TG} {tt : TT} {te : TE} {it : Addr} {fp : List Addr} {tn : Nat → Heap → Prop} {J : It} {Q : V → Hp → Prop} {E : Value → Shared → Prop} {RR : Value → Addr → Result → Shared → Prop}
    (L : LcOk X N n js scope cl) (hc : X.calm = true) (I : Inv X pins σ H s) (T : Turn X.prog X.w X.K tg J fp it tn) (t0 : tn 0 s.heap) (hf : ∀ b ∈ fp, FpOk X pins H b)
    (hg : ∀ C s0 H0 fp0, PG (cxLc X N scope cl C s0 H0 fp0) tg g) (ht : ∀ C s0 H0 fp0, PTs (cxLc X N scope cl C s0 H0 fp0) ifs tt) (he : ∀ C s0 H0 fp0, PE (cxLc X N scope cl C s0 H0 fp0) elt te)
    (hw : ∀ D, H D = none → ∃ W : Nat → Nat → St → Hp → Prop, (∃ m, W 0 m (pick n js σ) (upd H D (.lst []))) ∧ ∀ i m σ' H', W i m σ' H' →
      (J.stop i H' ∧ Q (.ref D) H') ∨ (J.go i H' ∧ ∃ Nx : St → Hp → Prop, (∀ σ2 H2, Nx σ2 H2 → ∃ m', m' < m ∧ W (i + 1) m' σ2 H2) ∧
        ∀ x H2, J.yld i H' x H2 → g x σ' H2 fun σ3 H3 => tt σ3 H3 fun ok H4 => if ok = true then te σ3 H4 fun y H5 => ∃ ys, H5 D = some (.lst ys) ∧ ys.length < sizeLine ∧ Nx σ3 (upd H5 D (.lst (ys ++ [y]))) else Nx σ3 H4))
    (fin : ∀ D C σ' H' s', s.heap.objs.size ≤ C → Inv (cxLc X N scope cl C s H fp) [] σ' H' s' → Q (.ref D) H' → RR (.ref D) C (.ok .next) s') :
    wpAny (model X.prog X.w) X.A (newList []) (fun acc s1 => wpAny (model X.prog X.w) X.A (newFunctionEnv scope X.env.globals cl [] X.env.qual none .none (some X.env)) (fun cenv s2 =>
      codeAny (model X.prog X.w) X.A (.compStart (.ListComp elt [⟨tg, iter, ifs, 0⟩] scope pos) 0 (.ref it) acc { cenv with scope := relabel scope X.env }) (RR acc cenv.locals) s2) E s1) E s := by
  refine wpAny_newObj_type (wpAny_newFunctionEnv L.nocell (by intro y hy; simp at hy) (fun h1 hn1 hs1 => ?_) L.kind)
  dsimp only at hn1 hs1 ⊢
  generalize hG : s.heap.push { cls := .type "list", dict := none, data := .seq ([] : List Value).toArray } = G at hn1 hs1 ⊢
  have eC : G.objs.size = s.heap.objs.size + 1 := by rw [← hG, Heap.size_push]
  have hC : s.heap.objs.size ≤ G.objs.size := by rw [eC]; exact Nat.le_succ _
  have hDC : s.heap.objs.size ≠ G.objs.size := by rw [eC]; exact Nat.ne_of_lt (Nat.lt_succ_self _)
  have hlt : ∀ b ∈ fp, b < s.heap.objs.size := fun b hb => by
    obtain ⟨o, e, _⟩ := T.obj 0 _ t0 b hb
    exact Heap.lt_size e
  have old : ∀ b o, s.heap.get? b = some o → h1.get? b = some o := fun b o e => by
    have hb := Heap.lt_size e
    exact hs1.extBut b o (Nat.ne_of_lt (Nat.lt_of_lt_of_le hb hC)) (Heap.get?_push_of_some _ (hG ▸ Heap.get?_push_of_some _ e))
  have hl : h1.get? s.heap.objs.size = some { cls := .type "list", data := .seq ([] : List Value).toArray 0 } := hs1.extBut _ _ hDC (Heap.get?_push_of_some _ (hG ▸ Heap.get?_push_size _ rfl))
  have I1 : ∀ tk, Inv (cxLc X N scope cl G.objs.size s H fp) [] (pick n js σ) (upd H s.heap.objs.size (.lst [])) { s with heap := h1, toks := tk } := fun tk => Inv.lc L I hf hlt (Nat.le_refl _) hC hDC hn1 old hl
  have t1 : tn 0 h1 := T.keep _ _ _ t0 fun b _ o e => old b o e
  obtain ⟨W, ⟨m0, w0⟩, step⟩ := hw s.heap.objs.size (I.hok.fresh (Nat.le_refl _))
  have fr1 : ∀ b ∈ fp, upd H s.heap.objs.size (.lst []) b = none := fun b hb => by
    rw [upd_ne (Nat.ne_of_lt (hlt b hb))]
    exact (hf b hb).1
  have fps : ∀ {H' : Hp}, (∀ b ∈ fp, H' b = none) → ∀ b ∈ fp, FpOk (cxLc X N scope cl G.objs.size s H fp) [] H' b := fun {H'} hn b hb => by
    refine ⟨hn b hb, Nat.ne_of_lt (Nat.lt_of_lt_of_le (hlt b hb) hC), fun hz => ?_, .inl hb, fun x c e => (hf b hb).2.2.2.2.1 x c (L.cells x c e), fun p hp => absurd (show p ∈ ([] : List (Addr × Obj)) from hp) (by simp)⟩
    rcases List.mem_cons.mp (I.stkSub b hz) with z | z
    · exact (hf b hb).2.1 z
    · exact (hf b hb).2.2.1 z
  have loop : ∀ s0 : Shared, s0 = { s with heap := h1, toks := s.toks + ([] : List (Str × Value)).length } →
      codeAny (model X.prog X.w) X.A (.compLoop (.ListComp elt [⟨tg, iter, ifs, 0⟩] scope pos) 0 (.ref it) (.ref s.heap.objs.size) (compEnvC scope cl G.objs.size X.env)) (RR (.ref s.heap.objs.size) G.objs.size) s0 := by
    rintro s0 rfl
    refine lc_loop (fun k s' => ∃ i σ' H', Inv (cxLc X N scope cl G.objs.size s H fp) [] σ' H' s' ∧ tn i s'.heap ∧ (∀ b ∈ fp, H' b = none) ∧ W i k σ' H') ?_ m0 ⟨0, _, _, I1 _, t1, fr1, w0⟩
    rintro k s3 ⟨i, σ3, H3, I3, t3, fr3, w3⟩
    rcases step i k σ3 H3 w3 with ⟨stop, qn⟩ | ⟨go, Nx, hN, body⟩
    · refine thn (T.done (cxLc X N scope cl G.objs.size s H fp) rfl rfl rfl hc i [] s3 σ3 H3 _ I3 (fps fr3) t3 stop) fun r s4 ⟨hr, I4⟩ => ?_
      subst hr
      exact fin _ _ σ3 H3 s4 hC I4 qn
    · refine thn (T.item (cxLc X N scope cl G.objs.size s H fp) rfl rfl rfl hc i [] s3 σ3 H3 _ I3 (fps fr3) t3 go) fun r s4 ⟨u, hr, h4⟩ => ?_
      subst hr
      refine thn h4 fun _ s5 ⟨x, H5, I5, r5, y5, t5, fr5⟩ => ?_
      have I5' := I5.pinned (fps fr5) (T.obj _ _ t5)
      refine thn (hg _ _ _ _ _ s5 σ3 H5 x u _ I5' r5 (body x H5 y5)) fun _ s6 ⟨σ6, H6, I6, q6⟩ => ?_
      have again : ∀ {σ7 : St} {H7 : Hp} {s7 : Shared}, Inv (cxLc X N scope cl G.objs.size s H fp) ([] ++ pinsAt fp s5.heap) σ7 H7 s7 → Nx σ7 H7 →
          ∃ j, j < k ∧ ∃ i σ' H', Inv (cxLc X N scope cl G.objs.size s H fp) [] σ' H' s7 ∧ tn i s7.heap ∧ (∀ b ∈ fp, H' b = none) ∧ W i j σ' H' := fun {σ7 H7 s7} I7 n7 => by
        obtain ⟨m', hm, w7⟩ := hN σ7 H7 n7
        refine ⟨m', hm, i + 1, σ7, H7, I7.unpinned, T.keep _ _ _ t5 fun b hb o e => (I7.pin (b, o) (List.mem_append_right _ (List.mem_append_right _ (mem_pinsAt hb e)))).1, fun b hb => ?_, w7⟩
        obtain ⟨o, e, _⟩ := T.obj _ _ t5 b hb
        exact (I7.pin (b, o) (List.mem_append_right _ (List.mem_append_right _ (mem_pinsAt hb e)))).2.1
      refine thn (ht _ _ _ _ _ s6 σ6 H6 _ I6 q6) fun ok s7 ⟨H7, I7, q7⟩ => ?_
      cases ok with
      | false =>
        rw [if_neg (by decide)] at q7 ⊢
        exact again I7 q7
      | true =>
        rw [if_pos rfl] at q7 ⊢
        refine thn (he _ _ _ _ _ s7 σ6 H7 _ I7 q7) fun v s8 ⟨y, H8, I8, r8, ys, e8, z8, q8⟩ => ?_
        refine thn (mt_append _ s8 σ6 H8 (.ref s.heap.objs.size) [y] (.ref s.heap.objs.size) [v] (fun _ H9 => Nx σ6 H9) I8 rfl (.cons r8 .nil) ⟨_, ys, y, rfl, rfl, e8, z8, q8⟩) fun _ s9 ⟨_, H9, I9, _, q9⟩ => ?_
        exact again I9 q9
  exact codeAny_compStart_list (loop _ rfl) (T.self X.A 0 _ _ _ t1 (loop _ rfl))

/-- [elt for tg in iter if ..] as a value -/
theorem pe_lc {elt tg iter : Expr} {ifs : List Expr} {pos : Pos} {wi : TI} {g : TG} {tt : TT} {te : TE} (L : LcOk X N n js scope cl) (hc : X.calm = true) (hi : PI X tg iter wi)
    (hg : ∀ C s0 H0 fp0, PG (cxLc X N scope cl C s0 H0 fp0) tg g) (ht : ∀ C s0 H0 fp0, PTs (cxLc X N scope cl C s0 H0 fp0) ifs tt) (he : ∀ C s0 H0 fp0, PE (cxLc X N scope cl C s0 H0 fp0) elt te)
    (hs : ∀ x, foldedSetIterable iter X.env x = pure x := by intro _; rfl) : PE X (.ListComp elt [⟨tg, iter, ifs, 0⟩] scope pos) (tLc wi n js g tt te) := by
  intro pins s σ H Q I h
  rw [eval_ListComp]
  refine wpAny_comprehension_free (use := none) rfl hs L.clos L.kind L.names (thn (hi pins s σ H _ I h) fun v s1 h1 => thn h1 fun itv s2 h2 => ?_)
  obtain ⟨it, fp, tn, J, H2, e, I2, T, t2, f2, hw⟩ := h2
  subst e
  refine lc_core (RR := fun acc C => compPost (model X.prog X.w) X.A X.xe none (EP X pins σ Q) acc C) L hc I2 T t2 f2 hg ht he hw ?_
  intro D C σ' H' s' hC I' q
  obtain ⟨m, hn, _⟩ := I'.loc
  exact ⟨m, hn, fun h' hs' => ⟨.ref D, H', I2.unlc f2 hC I' hs', rfl, q⟩⟩

/-- name = [elt for tg in iter if ..], the name stored ahead of the block's end -/
theorem ps_setlc {i : Nat} {x : Str} {elt tg iter : Expr} {ifs : List Expr} {pos pos' spos : Pos} {wi : TI} {g : TG} {tt : TT} {te : TE} (hN : X.N.Nodup) (hx : X.N[i]? = some x) (hk : X.env.scope.names.lookup x = some .local)
    (L : LcOk X N n js scope cl) (hc : X.calm = true) (hi : PI X tg iter wi)
    (hg : ∀ C s0 H0 fp0, PG (cxLc X N scope cl C s0 H0 fp0) tg g) (ht : ∀ C s0 H0 fp0, PTs (cxLc X N scope cl C s0 H0 fp0) ifs tt) (he : ∀ C s0 H0 fp0, PE (cxLc X N scope cl C s0 H0 fp0) elt te)
    (hsw : swapsWith (.ListComp elt [⟨tg, iter, ifs, 0⟩] scope pos) (some (.Name x pos')) spos.line X.env = pure true := by rfl)
    (hs : ∀ x, foldedSetIterable iter X.env x = pure x := by intro _; rfl) : PS X (.Assign [.Name x pos'] (.ListComp elt [⟨tg, iter, ifs, 0⟩] scope pos) spos) (tAsg (tLc wi n js g tt te) (gName i)) := by
  intro pins s σ H Dn I h
  rw [exec_Assign_Name_used _ _ _ _ hsw]
  refine wpAny_bind (wpAny_standAt (wpAny_bind ?_))
  show wpAny _ X.A (do let _ ← comprehension (.ListComp elt [⟨tg, iter, ifs, 0⟩] scope pos) scope X.env _ (newList []) false (eval iter X.env) (some (assign (.Name x pos') X.env))) _ _ s
  refine wpAny_bind (thn (wpAny_comprehension_free (use := some (assign (.Name x pos') X.env)) (Q := fun _ s' => SP X pins Dn .next s') rfl hs L.clos L.kind L.names (thn (hi pins s σ H _ I h) fun v s1 h1 => thn h1 fun itv s2 h2 => ?_)) fun _ s' hq => wpAny_pure (wpAny_pure hq))
  obtain ⟨it, fp, tn, J, H2, e, I2, T, t2, f2, hw⟩ := h2
  subst e
  refine lc_core (Q := fun x H1 => gName i x σ H1 Dn.nx) (RR := fun acc C => compPost (model X.prog X.w) X.A X.xe (some (assign (.Name x pos') X.env)) (fun _ s' => SP X pins Dn .next s') acc C) L hc I2 T t2 f2 hg ht he hw ?_
  intro D C σ' H' s' hC I' q
  obtain ⟨m, hn, _⟩ := I'.loc
  have I3 : Inv X pins σ H' s' := I2.unlc (h' := s'.heap) f2 hC I' (.refl ..)
  show wpAny _ X.A (assign (.Name x pos') X.env (.ref D)) _ X.xe s'
  refine wpAny_assign_Name (store_ok2 (v := .ref D) I3 hN hx (.inl hk) rfl (fun s4 I4 hb => ?_) (.inr hk))
  obtain ⟨a, hsa, ha⟩ := hb
  have bl : ∀ b o, s2.heap.get? b = some o → b ≠ C := fun b o e => Nat.ne_of_lt (Nat.lt_of_lt_of_le (Heap.lt_size e) hC)
  have hL : C ≠ X.env.locals := fun z => absurd (Nat.lt_of_lt_of_le I2.lt (z ▸ hC)) (Nat.lt_irrefl _)
  have hcl : ∀ y c, X.env.cells.lookup y = some c → c ≠ C := fun y c e => by
    obtain ⟨v, o, ho, _⟩ := I2.cell y c e
    exact bl c o ho
  have hCa : C ≠ a := by
    rcases ha with rfl | ha
    · exact hL
    · exact Ne.symm (hcl _ _ ha)
  exact ⟨m, hn.sameBut hsa hCa, fun h' hs' => ⟨_, H', I4.turned (h' := h') (t' := s4.toks) (it := C) (fun b o hb e => (hs'.2 b hb).trans e) I'.free hL (.inr (Nat.le_trans I2.sz hC)) hcl (fun p hp => bl _ _ (I2.pin p hp).1), q⟩⟩
end
end L2
/-! More rules over the hand layer: calls in short, is True, isinstance, data of any depth and its ==. -/
namespace L2
open PySem PySem.Spec PyProof.Rows

/-! ### a def of the text that may be called -/
structure Cal (P : Program) (w : World) (K : PySem.W.Frag) (mg : Str → Option Value) (base : Heap) (k : Nat) (x : Str) (dvs : List V) (sp : Sp) : Prop where
  ex : ∃ (f : Addr) (fd : FuncData) (ps : List Str) (ds : List Value), FnOk P w K mg base CX0 k f fd ps sp ∧ mg x = some (.ref f) ∧ PySem.W.keepIn K (.ref f) = true ∧ Binds K fd ps ds ∧ Vals dvs ds
section
variable {X : Cx} {k : Nat} {sp : Sp} {dvs : List V} {x : Str} {p pos : Pos} {e : Expr} {es : List Expr} {t : TA}
theorem pe_cal (c : Cal X.prog X.w X.K X.mg X.base k x dvs sp) (hr : Room k X.A) (hg : Gl X x) (ha : PA X (e :: es) t) (hdb : (x == ("__debug__" : Str)) = false := by decide)
    (he : starEach (e :: es) X.env = (false, eval e X.env) :: starEach es X.env := by rfl) (hpl : (backTo pos (starEach es X.env)).any (·.1) = false := by rfl) : PE X (.Call (.Name x p) (e :: es) [] pos) (tCall sp dvs E0 t) := by
  obtain ⟨f, fd, ps, ds, F, hm, hk, hb, hd⟩ := c.ex
  exact pe_call F hr hg hm hk hb hd pass0 ha hdb he hpl
end

section
variable {X : Cx}
/-! ### is True, is not False -/
/-! ### isinstance(x, a built-in class) -/
theorem call_isinst : CallR X (.builtin "isinstance") (fun xs H Q => ∃ x n t b, xs = [x, .ty n] ∧ TyOf X.K H x t ∧ PySem.W.kitOne X.K t (.type n) = some b ∧ Q (.bl b) H) := by
  intro pins s σ H xs us Q I r h
  obtain ⟨x, n, t, b, rfl, ty, e, q⟩ := h
  obtain ⟨u, c, rfl, ru, rc⟩ := r.two
  cases rc
  exact isinst_ok I ru ty e fun tk => ⟨.bl b, H, I.tok tk, rfl, q⟩
theorem kit_ii {K : PySem.W.Frag} : PySem.W.kitOne K (.type "int") (.type "int") = some true := by rfl
theorem kit_ib {K : PySem.W.Frag} : PySem.W.kitOne K (.type "int") (.type "bool") = some false := by rfl
end

/-! ### data of any depth -/
mutual
def Rep (K : PySem.W.Frag) (H : Hp) : PyData → V → Prop
  | .none, x => x = .non
  | .bool b, x => x = .bl b
  | .int i, x => x = .int i
  | .str z, x => x = .str z
  | .list ds, x => ∃ a xs, x = .ref a ∧ SqL K H a xs ∧ Reps K H ds xs
  | .tuple ds, x => ∃ a xs, x = .ref a ∧ SqT K H a xs ∧ Reps K H ds xs
  | .dict _, _ => False
def Reps (K : PySem.W.Frag) (H : Hp) : List PyData → List V → Prop
  | [], xs => xs = []
  | d :: ds, xs => ∃ x r, xs = x :: r ∧ Rep K H d x ∧ Reps K H ds r
end
theorem SqL.same {K : PySem.W.Frag} {H H' : Hp} {a : Addr} {xs : List V} (e : Same H H') (h : SqL K H a xs) : SqL K H' a xs := e.seq h
theorem SqT.same {K : PySem.W.Frag} {H H' : Hp} {a : Addr} {xs : List V} (e : Same H H') (h : SqT K H a xs) : SqT K H' a xs := by
  rcases h with (h | ⟨o, h⟩) | h
  · exact .inl (.inl (e _ _ h))
  · exact .inl (.inr ⟨o, e _ _ h⟩)
  · exact .inr h
mutual
theorem Rep.same {K : PySem.W.Frag} {H H' : Hp} (e : Same H H') : ∀ (d : PyData) (x : V), Rep K H d x → Rep K H' d x
  | .none, _, h => h
  | .bool _, _, h => h
  | .int _, _, h => h
  | .str _, _, h => h
  | .list ds, x, h => by
    obtain ⟨a, xs, e1, h1, h2⟩ := h
    exact ⟨a, xs, e1, h1.same e, Reps.same e ds xs h2⟩
  | .tuple ds, x, h => by
    obtain ⟨a, xs, e1, h1, h2⟩ := h
    exact ⟨a, xs, e1, h1.same e, Reps.same e ds xs h2⟩
  | .dict _, _, h => h
theorem Reps.same {K : PySem.W.Frag} {H H' : Hp} (e : Same H H') : ∀ (ds : List PyData) (xs : List V), Reps K H ds xs → Reps K H' ds xs
  | [], _, h => h
  | d :: ds, xs, h => by
    obtain ⟨x, r, e1, h1, h2⟩ := h
    exact ⟨x, r, e1, Rep.same e d x h1, Reps.same e ds r h2⟩
end
theorem Reps.length {K : PySem.W.Frag} {H : Hp} : ∀ {ds : List PyData} {xs : List V}, Reps K H ds xs → ds.length = xs.length
  | [], xs, h => by
    cases (show xs = [] from h)
    rfl
  | d :: ds, _, h => by
    obtain ⟨x, r, rfl, _, h2⟩ := h
    rw [List.length_cons, List.length_cons, h2.length]
theorem Reps.get {K : PySem.W.Frag} {H : Hp} : ∀ {ds : List PyData} {xs : List V} (i : Nat) {x : V}, Reps K H ds xs → xs[i]? = some x → ∃ d, ds[i]? = some d ∧ Rep K H d x
  | [], _, i, x, h, e => by
    rw [show _ = _ from h] at e
    cases e
  | d :: ds, _, i, x, h, e => by
    obtain ⟨y, r, rfl, h1, h2⟩ := h
    cases i with
    | zero =>
      cases e
      exact ⟨d, rfl, h1⟩
    | succ i =>
      obtain ⟨d', e', h'⟩ := h2.get i (x := x) (by simpa using e)
      exact ⟨d', by simpa using e', h'⟩
theorem Reps.snoc {K : PySem.W.Frag} {H : Hp} : ∀ {ds : List PyData} {xs : List V} {d : PyData} {x : V}, Reps K H ds xs → Rep K H d x → Reps K H (ds ++ [d]) (xs ++ [x])
  | [], _, d, x, h, h' => by
    rw [show _ = _ from h]
    exact ⟨x, [], rfl, h', rfl⟩
  | d0 :: ds, _, d, x, h, h' => by
    obtain ⟨y, r, rfl, h1, h2⟩ := h
    exact ⟨y, r ++ [x], rfl, h1, h2.snoc h'⟩
mutual
theorem Rep.reads {X : Cx} {pins : List (Addr × Obj)} {σ : St} {H : Hp} {s : Shared} (I : Inv X pins σ H s) : ∀ (d : PyData) (x : V) (u : Value), Rep X.K H d x → RelV x u → ∃ as, Reads s.heap u d as
  | .none, x, u, h, r => by
    cases (show x = V.non from h)
    cases r
    exact ⟨_, .none⟩
  | .bool b, x, u, h, r => by
    cases (show x = V.bl b from h)
    cases r
    exact ⟨_, .bool b⟩
  | .int i, x, u, h, r => by
    cases (show x = V.int i from h)
    obtain ⟨t, rfl⟩ := r
    exact ⟨_, .int i t⟩
  | .str z, x, u, h, r => by
    cases (show x = V.str z from h)
    obtain ⟨t, rfl⟩ := r
    exact ⟨_, .str z t⟩
  | .list ds, x, u, h, r => by
    obtain ⟨a, xs, rfl, h1, h2⟩ := h
    cases r
    obtain ⟨its, rv, ⟨o, n, e, c, _, dt⟩, _⟩ := I.list h1
    obtain ⟨as, q⟩ := Reps.reads I ds xs its h2 rv
    exact ⟨_, .list e c dt (by simpa using q)⟩
  | .tuple ds, x, u, h, r => by
    obtain ⟨a, xs, rfl, h1, h2⟩ := h
    cases r
    obtain ⟨its, rv, ⟨o, e, c, n, dt⟩, _⟩ := I.tuple h1
    obtain ⟨as, q⟩ := Reps.reads I ds xs its h2 rv
    exact ⟨_, .tuple e c dt (by simpa using q)⟩
  | .dict _, _, _, h, _ => h.elim
theorem Reps.reads {X : Cx} {pins : List (Addr × Obj)} {σ : St} {H : Hp} {s : Shared} (I : Inv X pins σ H s) : ∀ (ds : List PyData) (xs : List V) (us : List Value), Reps X.K H ds xs → Vals xs us → ∃ as, ReadsAll s.heap us ds as
  | [], xs, us, h, r => by
    cases (show xs = [] from h)
    cases r
    exact ⟨_, .nil⟩
  | d :: ds, xs, us, h, r => by
    obtain ⟨x, rest, rfl, h1, h2⟩ := h
    cases r with
    | cons r1 r2 =>
      obtain ⟨as, q⟩ := Rep.reads I d x _ h1 r1
      obtain ⟨bs, q2⟩ := Reps.reads I ds rest _ h2 r2
      exact ⟨_, .cons q q2⟩
end
section
variable {X : Cx}
def rEqD (K : PySem.W.Frag) : R2 := fun x y H Q => ∃ d e, Rep K H d x ∧ Rep K H e y ∧ SeqAt.shaped d = true ∧ SeqAt.shaped e = true ∧ Q (.bl (PyData.eqv d e)) H
def rNeD (K : PySem.W.Frag) : R2 := fun x y H Q => ∃ d e, Rep K H d x ∧ Rep K H e y ∧ SeqAt.shaped d = true ∧ SeqAt.shaped e = true ∧ Q (.bl (!PyData.eqv d e)) H
theorem op_eqD (hu : X.A.units + 64 < cLine) : OpR X (compareOp .Eq) (rEqD X.K) := by
  intro pins s σ H x y v u Q I rx ry h
  obtain ⟨d, e, h1, h2, s1, s2, q⟩ := h
  obtain ⟨as, r1⟩ := Rep.reads I d x v h1 rx
  obtain ⟨bs, r2⟩ := Rep.reads I e y u h2 ry
  exact eq_dataH r1 r2 s1 s2 hu ⟨.bl _, H, I, rfl, q⟩
theorem op_neD (hu : X.A.units + 64 < cLine) : OpR X (compareOp .NotEq) (rNeD X.K) := by
  intro pins s σ H x y v u Q I rx ry h
  obtain ⟨d, e, h1, h2, s1, s2, q⟩ := h
  obtain ⟨as, r1⟩ := Rep.reads I d x v h1 rx
  obtain ⟨bs, r2⟩ := Rep.reads I e y u h2 ry
  exact ne_dataH r1 r2 s1 s2 hu ⟨.bl _, H, I, rfl, q⟩
end
end L2
/-! What the laws' own texts share: promises over ints, the draw _law_at. -/
namespace L2
open PySem PySem.Spec PyProof.Rows

/-! ### argument lists, the star looked at once; a structure, so that the elaborator does not look into it -/
def noStar : Expr → Bool
  | .Starred .. => false
  | _ => true
theorem starEach_cons {e : Expr} {es : List Expr} {env : Env} (h : noStar e = true) : starEach (e :: es) env = (false, eval e env) :: starEach es env := by
  cases e <;> first | rfl | cases h
structure QA (X : Cx) (es : List Expr) (t : TA) : Prop where
  pa : PA X es t
theorem qn {X : Cx} : QA X [] tNil := ⟨pa_nil⟩
theorem qc {X : Cx} {e : Expr} {es : List Expr} {te : TE} {t : TA} (ha : PE X e te) (hr : QA X es t) (h : noStar e = true := by rfl) : QA X (e :: es) (tCons te t) := ⟨pa_cons ha hr.pa (starEach_cons h)⟩
theorem pe_lstq {X : Cx} {es : List Expr} {t : TA} {pos : Pos} (h : QA X es t) : PE X (.List es pos) (tLst t) := pe_lst h.pa
theorem pe_tupq {X : Cx} {es : List Expr} {t : TA} {pos : Pos} {k : Nat} (h : QA X es t) : PE X (.Tuple es k pos) (tTup t) := pe_tup h.pa

/-! ### promises of defs that take and give ints: under C, the value f, the heap as it was -/
/-- no bound that a factor breaks -/
def Sm (a : Int) : Prop := -1000000000000 ≤ a ∧ a ≤ 1000000000000
theorem Sm.mulL {a b : Int} (h : Sm a) : CMul a b := .inl ⟨Int.lt_of_lt_of_le (by decide) h.1, Int.lt_of_le_of_lt h.2 (by decide)⟩
theorem Sm.mulR {a b : Int} (h : Sm b) : CMul a b := .inr ⟨Int.lt_of_lt_of_le (by decide) h.1, Int.lt_of_le_of_lt h.2 (by decide)⟩
theorem cm_left {a b : Int} (h1 : -1000000000000 ≤ a) (h2 : a ≤ 1000000000000) : CMul a b := Sm.mulL ⟨h1, h2⟩
theorem cm_right {a b : Int} (h1 : -1000000000000 ≤ b) (h2 : b ≤ 1000000000000) : CMul a b := Sm.mulR ⟨h1, h2⟩

theorem same_new {H : Hp} {p : Addr} {o : HO} (hp : H p = none) : Same H (upd H p o) := fun b u e => by
  rw [upd_ne (ne_of_none e hp)]
  exact e
theorem same_upd {H H' : Hp} {r : Addr} {o : HO} (hs : Same H H') (hr : H r = none) : Same H (upd H' r o) := fun b u e => by
  rw [upd_ne (ne_of_none e hr)]
  exact hs b u e
theorem atI_exG {α : Type} {xs : List α} {i : Int} {R : α → Prop} (h0 : 0 ≤ i) (h1 : i < (xs.length : Int)) (h : ∀ v ∈ xs, R v) : ∃ v, atI xs i = some v ∧ R v := by
  obtain ⟨j, hj⟩ : ∃ j : Nat, i = (j : Int) := ⟨_, (Int.toNat_of_nonneg h0).symm⟩
  subst hj
  have hl : j < xs.length := by omega
  exact ⟨xs[j], atI_nat (List.getElem?_eq_getElem hl), h _ (List.getElem_mem hl)⟩

/-! ### loops that stand as one word in a reading, until they are shown by a word of one's own -/
def LoopR (n : Nat) (g : TG) (tb : TS) (D : Ends) (σ : St) (H : Hp) : Prop := ∃ W : Nat → Nat → St → Hp → Prop, (∃ m, W 0 m σ H) ∧ ∀ i m σ H, W i m σ H →
  ((Itr 0 n).stop i H ∧ D.nx σ H) ∨ ((Itr 0 n).go i H ∧ ∃ N : St → Hp → Prop, (∀ σ' H', N σ' H' → ∃ m', m' < m ∧ W (i + 1) m' σ' H') ∧ ∀ x H', (Itr 0 n).yld i H x H' → g x σ H' fun σ2 H2 => tb { D with nx := N, ct := N, bk := D.nx } σ2 H2)
theorem tFor_rng1 {ta : TA} {g : TG} {tb : TS} {D : Ends} {σ : St} {H : Hp} : tFor (iRng1 ta) g tb D σ H = ta σ H fun vs H1 => ∃ j : Int, vs = [.int j] ∧ -(2 ^ 62) ≤ j ∧ j < 2 ^ 62 ∧ LoopR j.toNat g tb D σ H1 := rfl
theorem LoopR.by {n : Nat} {g : TG} {tb : TS} {D : Ends} {σ : St} {H : Hp} (Pv : Nat → St → Hp → Prop) (h0 : Pv 0 σ H)
    (hs : ∀ i σ H, i < n → Pv i σ H → g (.int i) σ H fun σ2 H2 => tb { D with nx := Pv (i + 1), ct := Pv (i + 1), bk := D.nx } σ2 H2) (hd : ∀ σ H, Pv n σ H → D.nx σ H) : LoopR n g tb D σ H :=
  for_range (lo := 0) (n := n) Pv h0 (fun i σ H hi p => by rw [Int.zero_add]; exact hs i σ H hi p) hd
/-- the same, the turn's end as a letter R -/
theorem LoopR.run {n : Nat} {g : TG} {tb : TS} {D : Ends} {σ : St} {H : Hp} (Pv : Nat → St → Hp → Prop) (h0 : Pv 0 σ H)
    (hs : ∀ i σ H, i < n → Pv i σ H → ∀ R : St → Hp → Prop, (∀ σ' H', Pv (i + 1) σ' H' → R σ' H') → g (.int i) σ H fun σ2 H2 => tb { D with nx := R, ct := R, bk := D.nx } σ2 H2) (hd : ∀ σ H, Pv n σ H → D.nx σ H) : LoopR n g tb D σ H :=
  LoopR.by Pv h0 (fun i σ H hi p => hs i σ H hi p _ fun _ _ z => z) hd
def LoopL (K : PySem.W.Frag) (a : Addr) (g : TG) (tb : TS) (D : Ends) (σ : St) (H : Hp) : Prop := ∃ W : Nat → Nat → St → Hp → Prop, (∃ m, W 0 m σ H) ∧ ∀ i m σ H, W i m σ H →
  ((Itl K a).stop i H ∧ D.nx σ H) ∨ ((Itl K a).go i H ∧ ∃ N : St → Hp → Prop, (∀ σ' H', N σ' H' → ∃ m', m' < m ∧ W (i + 1) m' σ' H') ∧ ∀ x H', (Itl K a).yld i H x H' → g x σ H' fun σ2 H2 => tb { D with nx := N, ct := N, bk := D.nx } σ2 H2)
theorem tFor_lst {K : PySem.W.Frag} {tl : TE} {g : TG} {tb : TS} {D : Ends} {σ : St} {H : Hp} : tFor (iList K tl) g tb D σ H = tl σ H fun x H1 => ∃ a, x = .ref a ∧ (∃ xs, SqL K H1 a xs) ∧ LoopL K a g tb D σ H1 := rfl
theorem LoopL.by {K : PySem.W.Frag} {a : Addr} {xs : List V} {g : TG} {tb : TS} {D : Ends} {σ : St} {H : Hp} (Pv : Nat → St → Hp → Prop) (h0 : Pv 0 σ H) (hl : ∀ i σ H, i ≤ xs.length → Pv i σ H → SqL K H a xs)
    (hs : ∀ i x σ H, xs[i]? = some x → Pv i σ H → g x σ H fun σ2 H2 => tb { D with nx := Pv (i + 1), ct := Pv (i + 1), bk := D.nx } σ2 H2) (hd : ∀ σ H, Pv xs.length σ H → D.nx σ H) : LoopL K a g tb D σ H :=
  for_list Pv h0 hl hs hd

theorem LoopL.run {K : PySem.W.Frag} {a : Addr} {xs : List V} {g : TG} {tb : TS} {D : Ends} {σ : St} {H : Hp} (Pv : Nat → St → Hp → Prop) (h0 : Pv 0 σ H) (hl : ∀ i σ H, i ≤ xs.length → Pv i σ H → SqL K H a xs)
    (hs : ∀ i x σ H, xs[i]? = some x → Pv i σ H → ∀ R : St → Hp → Prop, (∀ σ' H', Pv (i + 1) σ' H' → R σ' H') → g x σ H fun σ2 H2 => tb { D with nx := R, ct := R, bk := D.nx } σ2 H2) (hd : ∀ σ H, Pv xs.length σ H → D.nx σ H) : LoopL K a g tb D σ H :=
  LoopL.by Pv h0 hl (fun i x σ H hi p => hs i x σ H hi p _ fun _ _ z => z) hd
/-- a block cut behind its first statement: what holds there, the rest from there, the first statement to there -/
theorem seq_cut {t u : TS} {D : Ends} {σ : St} {H : Hp} (J : St → Hp → Prop) (ht : ∀ R : St → Hp → Prop, (∀ σ' H', J σ' H' → R σ' H') → t { D with nx := R } σ H) (hu : ∀ σ' H', J σ' H' → u D σ' H') : tSeq t u D σ H := ht (u D) hu

/-! ### a def with defaults -/
structure FunD (K : PySem.W.Frag) (x qual : Str) (st : Stmt) (ds : List Value) (f : Addr) (fd : FuncData) : Prop where
  ex : ∃ (oc : Value) (od : Option Addr) (kV doc pm : Value) (an : Option Addr) (cdv ct : Value) (osl : Array (Option Value)) (T : Addr) (oT : Obj) (n : Nat),
    fd = PySem.W.fnOf x qual (defArgs st) (defBody st) (defScope st) (.ref T) kV doc pm an cdv ct ∧ K.lookup f = some ⟨oc, od, .func fd, osl⟩ ∧ PySem.W.codeIn K cdv qual = true ∧ K.lookup T = some oT ∧ oT.data = .seq ds.toArray n
  kp : PySem.W.keepIn K (.ref f) = true
section
variable {P : Program} {w : World} {K : PySem.W.Frag} {mg : Str → Option Value} {base : Heap}
theorem FunD.ok {x qual : Str} {st : Stmt} {ds : List Value} {f : Addr} {fd : FuncData} {N ps : List Str} {k : Nat} {sp : Sp} (F : FunD K x qual st ds f fd) (S : FnScope N ps (defScope st)) (len : ∀ vs H Q E, sp vs H Q E → vs.length = ps.length)
    (hbody : ∀ (cdv : Value) (A : Around) (outer : List Env) (s : Shared) (H : Hp) (vs : List V) (Q : VK) (E : XK), Room k (A.deeper (envOfC qual (defScope st) s.heap.objs.size f cdv)) → sp vs H Q E →
      ∃ t, PSs (cxOf CX0 P w K mg base N qual (defScope st) f cdv A outer s H E).nox (defBody st) t ∧ t { nx := fun _ H' => Q .non H', rt := Q } (L2.start N vs) H) : FnOk P w K mg base CX0 (k + 1) f fd ps sp := by
  obtain ⟨oc, od, kV, doc, pm, an, cdv, ct, osl, T, oT, n, rfl, lk, hcd, _, _⟩ := F.ex
  refine fn_of lk hcd S len fun A outer s H vs Q E hr hsp => ?_
  obtain ⟨t, h, q⟩ := hbody cdv A outer s H vs Q E hr hsp
  exact ⟨t, h.nox, q⟩
theorem FunD.binds {x qual : Str} {st : Stmt} {ds es : List Value} {f : Addr} {fd : FuncData} {ps : List Str} (F : FunD K x qual st ds f fd)
    (h : ∀ (T : Addr) (kV doc pm : Value) (an : Option Addr) (cdv ct : Value) (us : List Value), (us ++ es).length = ps.length →
      ∃ k, bindArgs (PySem.W.fnOf x qual (defArgs st) (defBody st) (defScope st) (.ref T) kV doc pm an cdv ct) ⟨us, []⟩ = seqItems? (PySem.W.fnOf x qual (defArgs st) (defBody st) (defScope st) (.ref T) kV doc pm an cdv ct).defaults >>= k ∧ k (some ds.toArray) = pure (ps.zip (us ++ es))) : Binds K fd ps es := by
  obtain ⟨oc, od, kV, doc, pm, an, cdv, ct, osl, T, oT, n, rfl, lk, hcd, hT, hd⟩ := F.ex
  intro s us hK hl
  obtain ⟨k, h1, h2⟩ := h T kV doc pm an cdv ct us hl
  exact .of_defaults rfl (hK _ _ hT) hd h1 h2
end

/-! ### the draw -/
def cellOf (ns : List Int) (k : Int) : Int := if 0 < ns.length then ns.getD (k % (ns.length : Int)).toNat 0 else 0
def numOf (c k : Int) : Int := (c % 1000003 + 31 * k * k + 7 * k + 11) * 48271 % 1000003
def lawAt (ns : List Int) (k : Int) : Int := numOf (cellOf ns k) k * numOf (cellOf ns k) k % 1000003 / 3
theorem lawAt_ge (ns : List Int) (k : Int) : 0 ≤ lawAt ns k := by
  unfold lawAt
  have h := Int.emod_nonneg (numOf (cellOf ns k) k * numOf (cellOf ns k) k) (show (1000003 : Int) ≠ 0 by decide)
  omega
/-- _law_at's promise -/
def spAt (K : PySem.W.Frag) : Sp := fun vs H Q _ => ∃ a ns k, vs = [.ref a, .int k] ∧ SqL K H a (ns.map V.int) ∧ ns.length ≤ 63 ∧ 0 ≤ k ∧ k ≤ 100000 ∧ Q (.int (lawAt ns k)) H
theorem atI_script {ns : List Int} {k : Int} (h : 0 < ns.length) : atI (ns.map V.int) (k % (ns.length : Int)) = some (V.int (ns.getD (k % (ns.length : Int)).toNat 0)) := by
  have h0 := Int.emod_nonneg k (show (ns.length : Int) ≠ 0 by omega)
  have h1 := Int.emod_lt_of_pos k (show (0 : Int) < (ns.length : Int) by omega)
  obtain ⟨j, hj⟩ : ∃ j : Nat, k % (ns.length : Int) = (j : Int) := ⟨_, (Int.toNat_of_nonneg h0).symm⟩
  rw [hj, Int.toNat_natCast]
  have hl : j < ns.length := by omega
  refine atI_nat ?_
  rw [List.getElem?_map, List.getElem?_eq_getElem hl, Option.map_some, List.getD_eq_getElem?_getD, List.getElem?_eq_getElem hl, Option.getD_some]
end L2
/-! What a comprehension must have, by looks that compute; loops of comprehensions as one word. -/
namespace L2
open PySem PySem.Spec PyProof.Rows
theorem mem_of_look {α : Type} {x : Str} {c : α} : ∀ {l : List (Str × α)}, l.lookup x = some c → (x, c) ∈ l
  | [], h => by cases h
  | (y, d) :: l, h => by
    rw [List.lookup_cons] at h
    cases e : x == y with
    | true =>
      rw [e] at h
      have h1 : x = y := by simpa using e
      have h2 : d = c := Option.some.inj h
      rw [h1, h2]
      exact List.mem_cons_self
    | false =>
      rw [e] at h
      exact List.mem_cons_of_mem _ (mem_of_look h)
def isCF (k : Option NameKind) : Bool := match k with
  | some .cell => true
  | some .free => true
  | _ => false
theorem isCF_of {k : Option NameKind} (h : isCF k = true) : k = some .cell ∨ k = some .free := by
  unfold isCF at h
  split at h
  · exact .inl rfl
  · exact .inr rfl
  · cases h
/-- the cells that a block takes over lie as the def's do -/
inductive CellsIn (big : List (Str × Addr)) : List (Str × Addr) → Prop
  | nil : CellsIn big []
  | cons {x : Str} {c : Addr} {l : List (Str × Addr)} : big.lookup x = some c → CellsIn big l → CellsIn big ((x, c) :: l)
theorem CellsIn.mem {big : List (Str × Addr)} {x : Str} {c : Addr} : ∀ {l : List (Str × Addr)}, CellsIn big l → (x, c) ∈ l → big.lookup x = some c
  | _, .nil, h => by cases h
  | _, .cons e r, h => by
    rcases List.mem_cons.mp h with z | z
    · cases z
      exact e
    · exact r.mem z
theorem lcok {X : Cx} {N : List Str} {n : Nat} {js : List Nat} {scope : Scope} {cl : List (Str × Addr)} (clos : closureFor scope X.env = pure cl := by rfl) (nocell : (scope.names.all fun y => !(y.2 == .cell)) = true := by rfl) (kind : scope.kind = .function := by rfl)
    (names : (scope.names.all fun y => !(y.2 == .local) || scope.names.lookup y.1 == some .local) = true := by rfl) (cells : CellsIn X.env.cells cl := by repeat' first | exact CellsIn.nil | refine CellsIn.cons rfl ?_)
    (has : ((relabel scope X.env).names.all fun y => !(isCF (some y.2)) || (cl.lookup y.1).isSome) = true := by rfl) (len : n + js.length = N.length := by rfl)
    (free : ((N.drop n).zip js).all (fun p => X.N[p.2]? == some p.1 && isCF (X.env.scope.names.lookup p.1) && isCF ((relabel scope X.env).names.lookup p.1) && (cl.lookup p.1).isSome) = true := by rfl) : LcOk X N n js scope cl where
  clos := clos
  nocell := fun y hy e => by
    have h := List.all_eq_true.mp nocell y hy
    rw [e] at h
    cases h
  kind := kind
  names := fun y hy e => by
    have h := List.all_eq_true.mp names y hy
    rw [e] at h
    simpa using h
  cells := fun x c h => cells.mem (mem_of_look h)
  has := fun x h => by
    have key : ∀ k, (relabel scope X.env).names.lookup x = some k → isCF (some k) = true → ∃ c, cl.lookup x = some c := fun k e hk => by
      have h1 := List.all_eq_true.mp has (x, k) (mem_of_look e)
      rw [hk] at h1
      exact Option.isSome_iff_exists.mp (by simpa using h1)
    rcases h with h | h
    · exact key _ h rfl
    · exact key _ h rfl
  len := len
  free := fun i x h => by
    have hd : (N.drop n)[i]? = some x := by rw [List.getElem?_drop]; exact h
    have hi : i < (N.drop n).length := (List.getElem?_eq_some_iff.mp hd).1
    have hj : i < js.length := by rw [List.length_drop] at hi; omega
    have hz : ((N.drop n).zip js)[i]? = some (x, js[i]) := by
      rw [List.getElem?_zip_eq_some]
      exact ⟨hd, List.getElem?_eq_getElem hj⟩
    have h1 := List.all_eq_true.mp free (x, js[i]) (List.mem_of_getElem? hz)
    simp only [Bool.and_eq_true, beq_iff_eq] at h1
    obtain ⟨⟨⟨a1, a2⟩, a3⟩, a4⟩ := h1
    obtain ⟨c, hc⟩ := Option.isSome_iff_exists.mp a4
    exact ⟨js[i], c, List.getElem?_eq_getElem hj, a1, isCF_of a2, isCF_of a3, hc⟩

/-! ### loops of comprehensions as one word -/
def LcL (K : PySem.W.Frag) (a : Addr) (g : TG) (tt : TT) (te : TE) (σ0 : St) (H1 : Hp) (Q : VK) : Prop := ∀ D, H1 D = none → ∃ W : Nat → Nat → St → Hp → Prop, (∃ m, W 0 m σ0 (upd H1 D (.lst []))) ∧ ∀ i m σ' H', W i m σ' H' →
  ((Itl K a).stop i H' ∧ Q (.ref D) H') ∨ ((Itl K a).go i H' ∧ ∃ Nx : St → Hp → Prop, (∀ σ2 H2, Nx σ2 H2 → ∃ m', m' < m ∧ W (i + 1) m' σ2 H2) ∧
    ∀ x H2, (Itl K a).yld i H' x H2 → g x σ' H2 fun σ3 H3 => tt σ3 H3 fun ok H4 => if ok = true then te σ3 H4 fun y H5 => ∃ ys, H5 D = some (.lst ys) ∧ ys.length < sizeLine ∧ Nx σ3 (upd H5 D (.lst (ys ++ [y]))) else Nx σ3 H4)
theorem tLc_lst {K : PySem.W.Frag} {tl : TE} {n : Nat} {js : List Nat} {g : TG} {tt : TT} {te : TE} {σ : St} {H : Hp} {Q : VK} :
    tLc (iList K tl) n js g tt te σ H Q = tl σ H fun x H1 => ∃ a, x = .ref a ∧ (∃ xs, SqL K H1 a xs) ∧ LcL K a g tt te (pick n js σ) H1 Q := rfl
/-- over a list that stays: Pv by the turn, the new list's address D -/
theorem LcL.by {K : PySem.W.Frag} {a : Addr} {xs : List V} {g : TG} {tt : TT} {te : TE} {σ0 : St} {H1 : Hp} {Q : VK} (Pv : Addr → Nat → St → Hp → Prop) (h0 : ∀ D, H1 D = none → Pv D 0 σ0 (upd H1 D (.lst [])))
    (hl : ∀ D i σ H, H1 D = none → i ≤ xs.length → Pv D i σ H → SqL K H a xs)
    (hs : ∀ D i x σ H, H1 D = none → xs[i]? = some x → Pv D i σ H → g x σ H fun σ3 H3 => tt σ3 H3 fun ok H4 => if ok = true then te σ3 H4 fun y H5 => ∃ ys, H5 D = some (.lst ys) ∧ ys.length < sizeLine ∧ Pv D (i + 1) σ3 (upd H5 D (.lst (ys ++ [y]))) else Pv D (i + 1) σ3 H4)
    (hd : ∀ D σ H, H1 D = none → Pv D xs.length σ H → Q (.ref D) H) : LcL K a g tt te σ0 H1 Q := by
  intro D hD
  refine ⟨fun i m σ H => m = xs.length - i ∧ i ≤ xs.length ∧ Pv D i σ H, ⟨xs.length, by simp, Nat.zero_le _, h0 D hD⟩, ?_⟩
  rintro i m σ H ⟨rfl, hi, p⟩
  have q := hl D i σ H hD hi p
  by_cases hlt : i < xs.length
  · refine .inr ⟨⟨xs, xs[i], q, by simp [hlt]⟩, Pv D (i + 1), fun σ' H' p' => ⟨xs.length - (i + 1), by omega, rfl, hlt, p'⟩, fun x H' y => ?_⟩
    obtain ⟨e, y⟩ := y
    subst e
    exact hs D i x σ _ hD (y xs q) p
  · have e : i = xs.length := by omega
    subst e
    exact .inl ⟨⟨xs, q, Nat.le_refl _⟩, hd D σ H hD p⟩
def LcR (n0 : Nat) (g : TG) (tt : TT) (te : TE) (σ0 : St) (H1 : Hp) (Q : VK) : Prop := ∀ D, H1 D = none → ∃ W : Nat → Nat → St → Hp → Prop, (∃ m, W 0 m σ0 (upd H1 D (.lst []))) ∧ ∀ i m σ' H', W i m σ' H' →
  ((Itr 0 n0).stop i H' ∧ Q (.ref D) H') ∨ ((Itr 0 n0).go i H' ∧ ∃ Nx : St → Hp → Prop, (∀ σ2 H2, Nx σ2 H2 → ∃ m', m' < m ∧ W (i + 1) m' σ2 H2) ∧
    ∀ x H2, (Itr 0 n0).yld i H' x H2 → g x σ' H2 fun σ3 H3 => tt σ3 H3 fun ok H4 => if ok = true then te σ3 H4 fun y H5 => ∃ ys, H5 D = some (.lst ys) ∧ ys.length < sizeLine ∧ Nx σ3 (upd H5 D (.lst (ys ++ [y]))) else Nx σ3 H4)
theorem tLc_rng1 {ta : TA} {n : Nat} {js : List Nat} {g : TG} {tt : TT} {te : TE} {σ : St} {H : Hp} {Q : VK} :
    tLc (iRng1 ta) n js g tt te σ H Q = ta σ H fun vs H1 => ∃ j : Int, vs = [.int j] ∧ -(2 ^ 62) ≤ j ∧ j < 2 ^ 62 ∧ LcR j.toNat g tt te (pick n js σ) H1 Q := rfl
theorem LcR.by {n0 : Nat} {g : TG} {tt : TT} {te : TE} {σ0 : St} {H1 : Hp} {Q : VK} (Pv : Addr → Nat → St → Hp → Prop) (h0 : ∀ D, H1 D = none → Pv D 0 σ0 (upd H1 D (.lst [])))
    (hs : ∀ D i σ H, H1 D = none → i < n0 → Pv D i σ H → g (.int i) σ H fun σ3 H3 => tt σ3 H3 fun ok H4 => if ok = true then te σ3 H4 fun y H5 => ∃ ys, H5 D = some (.lst ys) ∧ ys.length < sizeLine ∧ Pv D (i + 1) σ3 (upd H5 D (.lst (ys ++ [y]))) else Pv D (i + 1) σ3 H4)
    (hd : ∀ D σ H, H1 D = none → Pv D n0 σ H → Q (.ref D) H) : LcR n0 g tt te σ0 H1 Q := by
  intro D hD
  refine ⟨fun i m σ H => m = n0 - i ∧ i ≤ n0 ∧ Pv D i σ H, ⟨n0, by simp, Nat.zero_le _, h0 D hD⟩, ?_⟩
  rintro i m σ H ⟨rfl, hi, p⟩
  by_cases hlt : i < n0
  · refine .inr ⟨hlt, Pv D (i + 1), fun σ' H' p' => ⟨n0 - (i + 1), by omega, rfl, hlt, p'⟩, fun x H' y => ?_⟩
    obtain ⟨e, y⟩ := y
    subst e y
    rw [Int.zero_add]
    exact hs D i σ _ hD hlt p
  · have e : i = n0 := by omega
    subst e
    exact .inl ⟨Nat.le_refl _, hd D σ H hD p⟩
end L2
/-! Cells, rows and pictures as data; where they lie. -/
namespace L2
open PySem PySem.Spec PyProof.Rows
abbrev Cel := Str × Int
abbrev Pict := List (List Cel)
def celD (c : Cel) : PyData := .tuple [.str c.1, .int c.2]
def rowD (r : List Cel) : PyData := .list (r.map celD)
def picD (p : Pict) : PyData := .list (p.map rowD)
def okC (c : Cel) : Prop := PyData.strOk c.1 = true
structure IsPic (p : Pict) (w h : Nat) : Prop where
  hh : p.length = h
  ww : ∀ r ∈ p, r.length = w
  ok : ∀ r ∈ p, ∀ c ∈ r, okC c
  w1 : 1 ≤ w
  w2 : w ≤ 24
  h1 : 1 ≤ h
  h2 : h ≤ 12
theorem Reps.at {K : PySem.W.Frag} {H : Hp} : ∀ {ds : List PyData} {xs : List V} (i : Nat) {d : PyData}, Reps K H ds xs → ds[i]? = some d → ∃ x, xs[i]? = some x ∧ Rep K H d x
  | [], _, i, d, _, e => by cases e
  | d0 :: ds, _, i, d, h, e => by
    obtain ⟨y, r, rfl, h1, h2⟩ := h
    cases i with
    | zero =>
      cases e
      exact ⟨y, rfl, h1⟩
    | succ i =>
      obtain ⟨x, e', h'⟩ := h2.at i (d := d) (by simpa using e)
      exact ⟨x, by simpa using e', h'⟩
section
variable {K : PySem.W.Frag} {H : Hp}
theorem rep_pic {p : Pict} {x : V} (h : Rep K H (picD p) x) : ∃ a xs, x = .ref a ∧ SqL K H a xs ∧ xs.length = p.length ∧ ∀ (i : Nat) r, p[i]? = some r → ∃ v, atI xs (i : Int) = some v ∧ Rep K H (rowD r) v := by
  obtain ⟨a, xs, e, h1, h2⟩ := h
  refine ⟨a, xs, e, h1, ?_, fun i r hr => ?_⟩
  · rw [← h2.length, List.length_map]
  · obtain ⟨v, hv, hr'⟩ := h2.at i (d := rowD r) (by rw [List.getElem?_map, hr]; rfl)
    exact ⟨v, atI_nat hv, hr'⟩
theorem rep_row {r : List Cel} {x : V} (h : Rep K H (rowD r) x) : ∃ a xs, x = .ref a ∧ SqL K H a xs ∧ xs.length = r.length ∧ ∀ (i : Nat) c, r[i]? = some c → ∃ v, atI xs (i : Int) = some v ∧ Rep K H (celD c) v := by
  obtain ⟨a, xs, e, h1, h2⟩ := h
  refine ⟨a, xs, e, h1, ?_, fun i c hc => ?_⟩
  · rw [← h2.length, List.length_map]
  · obtain ⟨v, hv, hc'⟩ := h2.at i (d := celD c) (by rw [List.getElem?_map, hc]; rfl)
    exact ⟨v, atI_nat hv, hc'⟩
theorem eqv_cel (c d : Cel) : PyData.eqv (celD c) (celD d) = decide (c = d) := by
  obtain ⟨x, i⟩ := c
  obtain ⟨y, j⟩ := d
  by_cases h1 : x = y <;> by_cases h2 : i = j <;> simp [celD, PyData.eqv, PyData.eqvAll, h1, h2]
theorem shaped_cel {c : Cel} (h : okC c) : SeqAt.shaped (celD c) = true := by
  unfold okC at h
  simp [SeqAt.shaped, celD, PyData.canLay0, PyData.canLayAll0, PyData.depth, PyData.depthAll, h]
def pairD (p : Int × Int) : PyData := .tuple [.int p.1, .int p.2]
theorem shaped_pair (p : Int × Int) : SeqAt.shaped (pairD p) = true := by
  simp [SeqAt.shaped, pairD, PyData.canLay0, PyData.canLayAll0, PyData.depth, PyData.depthAll]
theorem eqv_pair (c d : Int × Int) : PyData.eqv (pairD c) (pairD d) = decide (c = d) := by
  obtain ⟨x, i⟩ := c
  obtain ⟨y, j⟩ := d
  by_cases h1 : x = y <;> by_cases h2 : i = j <;> simp [pairD, PyData.eqv, PyData.eqvAll, h1, h2]
def placesD (l : List (Int × Int)) : PyData := .list (l.map pairD)
theorem lay_pairs : ∀ l : List (Int × Int), PyData.canLayAll0 (l.map pairD) = true ∧ PyData.depthAll (l.map pairD) ≤ 1
  | [] => ⟨rfl, Nat.zero_le _⟩
  | p :: l => by
    obtain ⟨h1, h2⟩ := lay_pairs l
    refine ⟨?_, ?_⟩
    · simp [PyData.canLayAll0, pairD, PyData.canLay0, h1]
    · simp only [List.map_cons, PyData.depthAll, pairD, PyData.depth]
      omega
theorem shaped_places (l : List (Int × Int)) : SeqAt.shaped (placesD l) = true := by
  obtain ⟨h1, h2⟩ := lay_pairs l
  simp only [SeqAt.shaped, placesD, PyData.canLay0, PyData.depth, h1, Bool.true_and, decide_eq_true_eq]
  omega
theorem eqvAll_pairs : ∀ l m : List (Int × Int), PyData.eqvAll (l.map pairD) (m.map pairD) = decide (l = m)
  | [], [] => by simp [PyData.eqvAll]
  | [], _ :: _ => by simp [PyData.eqvAll]
  | _ :: _, [] => by simp [PyData.eqvAll]
  | p :: l, q :: m => by
    simp only [List.map_cons, PyData.eqvAll, eqv_pair, eqvAll_pairs l m, List.cons.injEq, Bool.decide_and]
theorem eqv_places (l m : List (Int × Int)) : PyData.eqv (placesD l) (placesD m) = decide (l = m) := by
  unfold placesD
  simp only [PyData.eqv]
  exact eqvAll_pairs l m
end
/-! ### a list of new pairs -/
def Tups (H : Hp) : List (Int × Int) → List V → Prop
  | [], xs => xs = []
  | p :: l, xs => ∃ t r, xs = .ref t :: r ∧ H t = some (.tup [.int p.1, .int p.2]) ∧ Tups H l r
theorem Tups.same {H H' : Hp} (e : ∀ b xs, H b = some (.tup xs) → H' b = some (.tup xs)) : ∀ {l : List (Int × Int)} {xs : List V}, Tups H l xs → Tups H' l xs
  | [], _, h => h
  | p :: l, _, h => by
    obtain ⟨t, r, e1, h1, h2⟩ := h
    exact ⟨t, r, e1, e _ _ h1, h2.same e⟩
theorem Tups.length {H : Hp} : ∀ {l : List (Int × Int)} {xs : List V}, Tups H l xs → xs.length = l.length
  | [], _, h => by rw [show _ = [] from h]; rfl
  | p :: l, _, h => by
    obtain ⟨t, r, rfl, _, h2⟩ := h
    rw [List.length_cons, List.length_cons, h2.length]
theorem Tups.snoc {H : Hp} {p : Int × Int} {t : Addr} (ht : H t = some (.tup [.int p.1, .int p.2])) : ∀ {l : List (Int × Int)} {xs : List V}, Tups H l xs → Tups H (l ++ [p]) (xs ++ [.ref t])
  | [], _, h => by
    rw [show _ = [] from h]
    exact ⟨t, [], rfl, ht, rfl⟩
  | q :: l, _, h => by
    obtain ⟨u, r, rfl, h1, h2⟩ := h
    exact ⟨u, r ++ [.ref t], rfl, h1, h2.snoc ht⟩
theorem Tups.reps {K : PySem.W.Frag} {H : Hp} : ∀ {l : List (Int × Int)} {xs : List V}, Tups H l xs → Reps K H (l.map pairD) xs
  | [], _, h => h
  | p :: l, _, h => by
    obtain ⟨t, r, rfl, h1, h2⟩ := h
    exact ⟨.ref t, r, rfl, ⟨t, _, rfl, SqT.of h1, .int p.1, [.int p.2], rfl, rfl, .int p.2, [], rfl, rfl, rfl⟩, h2.reps⟩
theorem Tups.at {H : Hp} : ∀ {l : List (Int × Int)} {xs : List V} (i : Nat) {x : V}, Tups H l xs → xs[i]? = some x → ∃ (t : Addr) (p : Int × Int), x = .ref t ∧ H t = some (.tup [.int p.1, .int p.2])
  | [], _, i, x, h, e => by
    rw [show _ = [] from h] at e
    cases e
  | p :: l, _, i, x, h, e => by
    obtain ⟨t, r, rfl, h1, h2⟩ := h
    cases i with
    | zero =>
      cases e
      exact ⟨t, p, rfl, h1⟩
    | succ i => exact h2.at i (by simpa using e)

/-! ### the places at which two pictures differ -/
def cellAt (p : Pict) (i j : Nat) : Cel := (p.getD i []).getD j (Str.ofString "", 0)
def rowDif (p q : Pict) (i j : Nat) : List (Int × Int) := ((List.range j).filter fun c => !decide (cellAt p i c = cellAt q i c)).map fun (c : Nat) => (((i : Nat) : Int), ((c : Nat) : Int))
def dif (p q : Pict) (w i : Nat) : List (Int × Int) := (List.range i).flatMap fun r => rowDif p q r w
theorem rowDif_succ (p q : Pict) (i j : Nat) : rowDif p q i (j + 1) = rowDif p q i j ++ (if cellAt p i j = cellAt q i j then [] else [(((i : Nat) : Int), ((j : Nat) : Int))]) := by
  unfold rowDif
  rw [List.range_succ, List.filter_append, List.map_append]
  by_cases h : cellAt p i j = cellAt q i j <;> simp [h]
theorem dif_succ (p q : Pict) (w i : Nat) : dif p q w (i + 1) = dif p q w i ++ rowDif p q i w := by
  unfold dif
  rw [List.range_succ, List.flatMap_append]
  simp
theorem rowDif_len (p q : Pict) (i : Nat) : ∀ j, (rowDif p q i j).length ≤ j
  | 0 => Nat.le_refl _
  | j + 1 => by
    rw [rowDif_succ, List.length_append]
    have := rowDif_len p q i j
    split <;> simp <;> omega
theorem dif_len (p q : Pict) (w : Nat) : ∀ i, (dif p q w i).length ≤ w * i
  | 0 => Nat.le_refl _
  | i + 1 => by
    rw [dif_succ, List.length_append, Nat.mul_succ]
    have h1 := dif_len p q w i
    have h2 := rowDif_len p q i w
    omega
theorem dif_self (p : Pict) (w : Nat) : ∀ i, dif p p w i = []
  | 0 => rfl
  | i + 1 => by
    rw [dif_succ, dif_self p w i]
    simp [rowDif]
theorem cellAt_comm_dif (p q : Pict) (w i : Nat) : dif p q w i = dif q p w i := by
  unfold dif rowDif
  simp only [eq_comm]
theorem cell_get {p : Pict} {w h : Nat} (ip : IsPic p w h) {i j : Nat} (hi : i < h) (hj : j < w) : ∃ r, p[i]? = some r ∧ r.length = w ∧ r[j]? = some (cellAt p i j) ∧ okC (cellAt p i j) := by
  have hl : i < p.length := by rw [ip.hh]; exact hi
  have hm : p[i] ∈ p := List.getElem_mem hl
  have hw := ip.ww _ hm
  have hj' : j < p[i].length := by rw [hw]; exact hj
  have e : cellAt p i j = p[i][j] := by
    unfold cellAt
    have e1 : p.getD i [] = p[i] := by rw [List.getD_eq_getElem?_getD, List.getElem?_eq_getElem hl, Option.getD_some]
    rw [e1, List.getD_eq_getElem?_getD, List.getElem?_eq_getElem hj', Option.getD_some]
  refine ⟨p[i], List.getElem?_eq_getElem hl, hw, ?_, ?_⟩
  · rw [e, List.getElem?_eq_getElem hj']
  · rw [e]
    exact ip.ok _ hm _ (List.getElem_mem hj')
theorem rep_cell {K : PySem.W.Frag} {H : Hp} {p : Pict} {w h : Nat} {a : Addr} (hx : Rep K H (picD p) (.ref a)) (ip : IsPic p w h) {i j : Nat} (hi : i < h) (hj : j < w) :
    ∃ xs b ys u, SqL K H a xs ∧ xs.length = h ∧ atI xs (i : Int) = some (.ref b) ∧ SqL K H b ys ∧ ys.length = w ∧ atI ys (j : Int) = some u ∧ Rep K H (celD (cellAt p i j)) u ∧ okC (cellAt p i j) := by
  obtain ⟨r, hr, hw, hc, ok⟩ := cell_get ip hi hj
  obtain ⟨a', xs, e, hS, hl, hrow⟩ := rep_pic hx
  cases e
  obtain ⟨v, hv, hrv⟩ := hrow i r hr
  obtain ⟨b, ys, rfl, hS2, hl2, hcell⟩ := rep_row hrv
  obtain ⟨u, hu, hru⟩ := hcell j _ hc
  exact ⟨xs, b, ys, u, hS, by rw [hl, ip.hh], hv, hS2, by rw [hl2, hw], hu, hru, ok⟩
theorem rep_ref {K : PySem.W.Frag} {H : Hp} {p : Pict} {x : V} (hx : Rep K H (picD p) x) : ∃ a, x = .ref a := by
  obtain ⟨a, xs, e, _⟩ := rep_pic hx
  exact ⟨a, e⟩
end L2
/-! A dict of the module from ints to ints, asked by get. -/
namespace L2
open PySem PySem.Spec PyProof.Rows
end L2
namespace L2
open PySem PySem.Spec PyProof.Rows

/-! ### lists of pairs as tables -/
section
variable {κ : Type} [DecidableEq κ]
def valV (kvs : List (κ × V)) (k : κ) : Option V := (kvs.find? fun kv => decide (kv.1 = k)).map (·.2)
/-- in its place, or at the end -/
def putK (kvs : List (κ × V)) (k : κ) (v : V) : List (κ × V) :=
  if (kvs.any fun kv => decide (kv.1 = k)) = true then kvs.map (fun kv => if kv.1 = k then (kv.1, v) else kv) else kvs ++ [(k, v)]
def dropK (kvs : List (κ × V)) (k : κ) : List (κ × V) := kvs.filter fun kv => decide (kv.1 ≠ k)

theorem valV_pos {p : κ × V} {r : List (κ × V)} {k : κ} (e : p.1 = k) : valV (p :: r) k = some p.2 := by simp [valV, List.find?_cons, e]
theorem valV_neg {p : κ × V} {r : List (κ × V)} {k : κ} (e : ¬ p.1 = k) : valV (p :: r) k = valV r k := by simp [valV, List.find?_cons, e]
theorem valV_any (k : κ) : ∀ kvs : List (κ × V), (kvs.any fun kv => decide (kv.1 = k)) = (valV kvs k).isSome
  | [] => rfl
  | p :: r => by
    rw [List.any_cons]
    by_cases e : p.1 = k
    · simp only [valV_pos e, decide_eq_true e, Bool.true_or, Option.isSome_some]
    · rw [valV_neg e, decide_eq_false e, Bool.false_or]; exact valV_any k r
theorem RelO.isSome_eq {o : Option V} {u : Option Value} (r : RelO o u) : o.isSome = u.isSome := by
  cases o with
  | none => cases u with
    | none => rfl
    | some _ => exact (show False from r).elim
  | some _ => cases u with
    | none => exact (show False from r).elim
    | some _ => rfl
theorem RelO.getD {o : Option V} {u : Option Value} {d : V} {d' : Value} (r : RelO o u) (rd : RelV d d') : RelV (o.getD d) (u.getD d') := by
  cases o with
  | none => cases u with
    | none => exact rd
    | some _ => exact (show False from r).elim
  | some _ => cases u with
    | none => exact (show False from r).elim
    | some _ => exact r

/-- raw tables of the same keys -/
theorem KV.val {kvs : List (κ × V)} {vs : List (κ × Value)} (r : KV kvs vs) (k : κ) : RelO (valV kvs k) (valueAt vs k) := by
  unfold KV at r
  induction r with
  | nil => exact True.intro
  | @cons p q ps qs h t ih =>
    obtain ⟨h1, h2⟩ := h
    by_cases e : p.1 = k
    · have e' : q.1 = k := h1.symm.trans e
      have b : valueAt (q :: qs) k = some q.2 := by simp [valueAt, List.find?_cons, e']
      rw [valV_pos e, b]; exact h2
    · have e' : ¬ q.1 = k := fun z => e (h1.trans z)
      have b : valueAt (q :: qs) k = valueAt qs k := by simp [valueAt, List.find?_cons, e']
      rw [valV_neg e, b]; exact ih
theorem KV.any {kvs : List (κ × V)} {vs : List (κ × Value)} (r : KV kvs vs) (k : κ) : (kvs.any fun kv => decide (kv.1 = k)) = vs.any fun kv => decide (kv.1 = k) := by
  unfold KV at r
  induction r with
  | nil => rfl
  | cons h t ih => rw [List.any_cons, List.any_cons, ih, h.1]
theorem KV.repl {kvs : List (κ × V)} {vs : List (κ × Value)} (r : KV kvs vs) (k : κ) {y : V} {u : Value} (ry : RelV y u) :
    KV (kvs.map fun kv => if kv.1 = k then (kv.1, y) else kv) (vs.map fun kv => if kv.1 = k then (kv.1, u) else kv) := by
  unfold KV at r ⊢
  induction r with
  | nil => exact .nil
  | @cons p q ps qs h t ih =>
    rw [List.map_cons, List.map_cons]
    refine .cons ?_ ih
    obtain ⟨h1, h2⟩ := h
    by_cases e : p.1 = k
    · rw [if_pos e, if_pos (h1.symm.trans e)]; exact ⟨h1, ry⟩
    · rw [if_neg e, if_neg (fun z => e (h1.trans z))]; exact ⟨h1, h2⟩
theorem KV.put {kvs : List (κ × V)} {vs : List (κ × Value)} (r : KV kvs vs) (k : κ) {y : V} {u : Value} (ry : RelV y u) : KV (putK kvs k y) (stored vs k u) := by
  unfold putK stored
  rw [r.any k]
  by_cases e : (vs.any fun kv => decide (kv.1 = k)) = true
  · rw [if_pos e, if_pos e]; exact r.repl k ry
  · rw [if_neg e, if_neg e]; exact Paired.snoc r ⟨rfl, ry⟩
theorem KV.drop {kvs : List (κ × V)} {vs : List (κ × Value)} (r : KV kvs vs) (k : κ) : KV (dropK kvs k) (without vs k) := by
  unfold KV at r ⊢
  unfold dropK without
  induction r with
  | nil => exact .nil
  | @cons p q ps qs h t ih =>
    obtain ⟨h1, h2⟩ := h
    rw [List.filter_cons, List.filter_cons]
    by_cases e : p.1 = k
    · have a : ¬ decide (p.1 ≠ k) = true := by simp [e]
      have b : ¬ decide (q.1 ≠ k) = true := by simp [h1.symm.trans e]
      rw [if_neg a, if_neg b]; exact ih
    · have e' : ¬ q.1 = k := fun z => e (h1.trans z)
      have a : decide (p.1 ≠ k) = true := by simp [e]
      have b : decide (q.1 ≠ k) = true := by simp [e']
      rw [if_pos a, if_pos b]; exact .cons ⟨h1, h2⟩ ih
theorem KV.keys {kvs : List (κ × V)} {vs : List (κ × Value)} (r : KV kvs vs) : kvs.map (·.1) = vs.map (·.1) := by
  unfold KV at r
  induction r with
  | nil => rfl
  | cons h t ih => rw [List.map_cons, List.map_cons, ih, h.1]
theorem KV.length {kvs : List (κ × V)} {vs : List (κ × Value)} (r : KV kvs vs) : kvs.length = vs.length := Paired.length r
end


/-! ### a tracked dict, its keys ints and texts or tuples of these -/
/-- raw entries of a dict with tuple keys -/
abbrev KT (H : Hp) : List (List Key × V) → List (List Key × Addr × Value) → Prop := Paired fun p q => p.1 = q.1 ∧ H q.2.1 = some (.tup (p.1.map kV)) ∧ RelV p.2 q.2.2
theorem KT.val {H : Hp} {kvs : List (List Key × V)} {xs : List (List Key × Addr × Value)} (r : KT H kvs xs) (k : List Key) : RelO (valV kvs k) ((atKey xs k).map (·.2)) := by
  induction r with
  | nil => exact True.intro
  | @cons p q ps qs h t ih =>
    obtain ⟨h1, _, h2⟩ := h
    by_cases e : p.1 = k
    · have e' : q.1 = k := h1.symm.trans e
      have b : atKey (q :: qs) k = some q.2 := by simp [atKey, List.find?_cons, e']
      rw [valV_pos e, b]; exact h2
    · have e' : ¬ q.1 = k := fun z => e (h1.trans z)
      have b : atKey (q :: qs) k = atKey qs k := by simp [atKey, List.find?_cons, e']
      rw [valV_neg e, b]; exact ih
theorem KT.repl {H : Hp} {kvs : List (List Key × V)} {xs : List (List Key × Addr × Value)} (r : KT H kvs xs) (k : List Key) {y : V} {u : Value} (ry : RelV y u) :
    KT H (kvs.map fun kv => if kv.1 = k then (kv.1, y) else kv) (xs.map (putAt k u)) := by
  induction r with
  | nil => exact .nil
  | @cons p q ps qs h t ih =>
    rw [List.map_cons, List.map_cons]
    refine .cons ?_ ih
    obtain ⟨h1, h2, h3⟩ := h
    unfold putAt
    by_cases e : p.1 = k
    · rw [if_pos e, if_pos (h1.symm.trans e)]; exact ⟨h1, h2, ry⟩
    · rw [if_neg e, if_neg (fun z => e (h1.trans z))]; exact ⟨h1, h2, h3⟩
theorem KT.put {H : Hp} {kvs : List (List Key × V)} {xs : List (List Key × Addr × Value)} (r : KT H kvs xs) (k : List Key) {b : Addr} {y : V} {u : Value} (hb : H b = some (.tup (k.map kV))) (ry : RelV y u) :
    KT H (putK kvs k y) (storedH xs k b u) := by
  have e : (kvs.any fun kv => decide (kv.1 = k)) = (atKey xs k).isSome := by
    rw [valV_any, (r.val k).isSome_eq, Option.isSome_map]
  unfold putK storedH
  rw [e]
  by_cases q : (atKey xs k).isSome = true
  · rw [if_pos q, if_pos q]; exact r.repl k ry
  · rw [if_neg q, if_neg q]; exact Paired.snoc r ⟨rfl, hb, ry⟩
theorem KT.keeps {H H' : Hp} {kvs : List (List Key × V)} {xs : List (List Key × Addr × Value)} (r : KT H kvs xs) (ht : ∀ b ys, H b = some (.tup ys) → H' b = some (.tup ys)) : KT H' kvs xs :=
  Paired.mapP r fun _ _ z => ⟨z.1, ht _ _ z.2.1, z.2.2⟩

section
variable {P : Program} {w : World} {H : Hp} {h : Heap} {a : Addr}
end

/-- what the dict at a holds at the key y -/
def DGet (H : Hp) (a : Addr) (y : V) (r : Option V) : Prop :=
  (∃ kvs k, Rd H a (.dK kvs) ∧ y = kV k ∧ r = valV kvs k) ∨ ∃ kvs k b, Rd H a (.dT kvs) ∧ y = .ref b ∧ H b = some (.tup (k.map kV)) ∧ r = valV kvs k
/-- the heap behind a[y] = v -/
def DPut (H : Hp) (a : Addr) (y v : V) (H' : Hp) : Prop :=
  (∃ kvs k, H a = some (.dK kvs) ∧ y = kV k ∧ kvs.length < sizeLine ∧ H' = upd H a (.dK (putK kvs k v))) ∨
  ∃ kvs k b, H a = some (.dT kvs) ∧ y = .ref b ∧ H b = some (.tup (k.map kV)) ∧ kvs.length < sizeLine ∧ H' = upd H a (.dT (putK kvs k v))
theorem DGet.k {H : Hp} {a : Addr} {kvs : List (Key × V)} {k : Key} (e : H a = some (.dK kvs)) : DGet H a (kV k) (valV kvs k) := .inl ⟨kvs, k, .inl e, rfl, rfl⟩
theorem DGet.t {H : Hp} {a b : Addr} {kvs : List (List Key × V)} {k : List Key} (e : H a = some (.dT kvs)) (eb : H b = some (.tup (k.map kV))) : DGet H a (.ref b) (valV kvs k) := .inr ⟨kvs, k, b, .inl e, rfl, eb, rfl⟩
theorem DPut.k {H : Hp} {a : Addr} {kvs : List (Key × V)} {k : Key} {v : V} (e : H a = some (.dK kvs)) (hl : kvs.length < sizeLine) : DPut H a (kV k) v (upd H a (.dK (putK kvs k v))) := .inl ⟨kvs, k, e, rfl, hl, rfl⟩
theorem DPut.t {H : Hp} {a b : Addr} {kvs : List (List Key × V)} {k : List Key} {v : V} (e : H a = some (.dT kvs)) (eb : H b = some (.tup (k.map kV))) (hl : kvs.length < sizeLine) :
    DPut H a (.ref b) v (upd H a (.dT (putK kvs k v))) := .inr ⟨kvs, k, b, e, rfl, eb, hl, rfl⟩


section
variable {X : Cx} {pins : List (Addr × Obj)} {σ : St} {H : Hp} {s : Shared} {a : Addr} {y v : V} {u r : Value} {o : Option V} {A : Around} {E : Value → Shared → Prop}

theorem Inv.big (I : Inv X pins σ H s) : sysModules < s.heap.objs.size := by
  have h : mainGlobals < s.heap.objs.size := (I.mod.glob.keeps I.bk).lt
  exact Nat.lt_trans (by decide) h

end

section
variable {X : Cx} {pins : List (Addr × Obj)} {σ : St} {H : Hp} {s : Shared} {a : Addr} {kvs : List (Key × V)} {k : Key} {u : Value} {A : Around} {E : Value → Shared → Prop}
end


/-! ### readings and rules -/
section
variable {X : Cx} {o i e value : Expr} {pos pos' tpos : Pos} {td ty tv : TE}
end


/-! ### displays -/
section
variable {X : Cx} {pos : Pos}
end

/-! ### methods -/
section
variable {X : Cx} {pins : List (Addr × Obj)} {σ : St} {H : Hp} {s : Shared} {a : Addr} {y d : V} {u r : Value} {o : Option V} {A : Around} {E : Value → Shared → Prop}
end

section
variable {X : Cx} {o e f : Expr} {apos cpos : Pos} {td ty tx : TE}
end

/-! ### dict(d): a copy -/
section
variable {X : Cx} {pins : List (Addr × Obj)} {σ : St} {H : Hp} {s : Shared} {a : Addr} {kvs : List (Key × V)} {A : Around} {E : Value → Shared → Prop}
end


section
variable {X : Cx} {pins : List (Addr × Obj)} {σ : St} {H : Hp} {s : Shared} {a : Addr} {y : V} {u : Value} {A : Around} {E : Value → Shared → Prop}
end
end L2
namespace K04
open PySem L2
def top (i : Nat) : Stmt := PySem.Challenge.pw_signscreen_k04_unlike_cells.main.body.getD i (.Pass ⟨0, 0, 0, 0⟩)
theorem cxK {CX : CXT} {P : Program} {w : World} {K : PySem.W.Frag} {mg : Str → Option Value} {base : Heap} {N : List Str} {qual : Str} {scope : Scope} {f : Addr} {cd : Value} {A : Around} {outer : List Env} {s : Shared} {H : Hp} {E : XK} :
    (cxOf CX P w K mg base N qual scope f cd A outer s H E).K = K := rfl
local macro_rules | `(tactic| walk_at "sc") => `(tactic| exact ⟨rfl, rfl, rfl, by decide +kernel, rfl, by decide +kernel, by decide +kernel⟩)
local macro_rules | `(tactic| walk_at "rd") => `(tactic| simp [tRet, tOp, rI, rI0, rU, tUn, tVar, tC, L2.start, tSeq, tIfS, tTest, tAsg, gName, tCall, tCons, tNil, tCB, tNext, tDrop, tAndV, tOrV, tNotV, tChain, tAnd, tOr, tNot, tB, rEq, rNe, scal, tTup, tLst, gTup, gCons, gNil, rIxL, rIxT, rIxS, and_assoc, cxK, tFor_rng1, tFor_lst, rNeD, rEqD, tBM, rAppend, spAt])
abbrev s_size_of : Stmt := top 8
theorem sc_size_of : FnScope ["picture"] ["picture"] (defScope s_size_of) := by walk_at "sc"
abbrev s_need_one_size : Stmt := top 9
theorem sc_need_one_size : FnScope ["one", "other"] ["one", "other"] (defScope s_need_one_size) := by walk_at "sc"
abbrev s_unlike_cells : Stmt := top 10
theorem sc_unlike_cells : FnScope ["one", "other", "places", "row", "column"] ["one", "other"] (defScope s_unlike_cells) := by walk_at "sc"
abbrev s__law_at : Stmt := top 12
theorem sc__law_at : FnScope ["_law_script", "_law_k", "_law_cell", "_law_number"] ["_law_script", "_law_k"] (defScope s__law_at) := by walk_at "sc"
abbrev s__law_whole : Stmt := top 13
theorem sc__law_whole : FnScope ["_law_thing"] ["_law_thing"] (defScope s__law_whole) := by walk_at "sc"
abbrev s__law_sign : Stmt := top 14
theorem sc__law_sign : FnScope ["_law_cell", "_law_signs"] ["_law_cell"] (defScope s__law_sign) := by walk_at "sc"
abbrev s__law_size : Stmt := top 15
theorem sc__law_size : FnScope ["_law_cell"] ["_law_cell"] (defScope s__law_size) := by walk_at "sc"
abbrev s__law_due : Stmt := top 19
theorem sc__law_due : FnScope ["_law_one", "_law_other", "_law_found", "_law_row", "_law_column"] ["_law_one", "_law_other"] (defScope s__law_due) := by walk_at "sc"
structure Txt (K : PySem.W.Frag) (mg : Str → Option Value) : Prop where
  n_len : mg "len" = none
  n_range : mg "range" = none
  n_min : mg "min" = none
  n_int : mg "int" = none
  n_bool : mg "bool" = none
  n_list : mg "list" = none
  n_tuple : mg "tuple" = none
  n_isinstance : mg "isinstance" = none
section
variable {P : Program} {w : World} {K : PySem.W.Frag} {mg : Str → Option Value} {base : Heap} {f : Addr} {fd : FuncData}
def spSizeOf (K : PySem.W.Frag) : Sp := fun vs H Q _ => ∃ x p w h, vs = [x] ∧ Rep K H (picD p) x ∧ IsPic p w h ∧ ∀ q, H q = none → Q (.ref q) (upd H q (.tup [.int w, .int h]))
theorem ok_size_of (F : Fun K "size_of" "size_of" s_size_of f fd) (T : Txt K mg) : FnOk P w K mg base CX0 1 f fd ["picture"] (spSizeOf K) := by
  refine F.ok sc_size_of (fun vs H Q E h => ?_) (fun cdv A outer s H vs Q E hr h => ?_)
  · obtain ⟨x, p, w, h, rfl, _⟩ := h
    rfl
  · obtain ⟨x, p, w, h, rfl, hx, ip, k⟩ := h
    refine ⟨_, (pss_one (ps_ret (pe_tupq (qc (pe_callB call_len_seq (by rfl) T.n_len (by rfl) (QA.pa (qc (pe_ix ix_list (pv 0) pe_int (fun _ _ => rfl)) qn))) (qc (pe_callB call_len_seq (by rfl) T.n_len (by rfl) (QA.pa (qc (pv 0) qn))) qn))))), ?_⟩
    walk_at "rd"
    obtain ⟨a, xs, rfl, hS, hl, hrow⟩ := rep_pic hx
    have h1 := ip.h1
    obtain ⟨r0, hr0⟩ : ∃ r0, p[0]? = some r0 := ⟨p[0]'(by rw [ip.hh]; omega), List.getElem?_eq_getElem _⟩
    obtain ⟨v, hv, hrv⟩ := hrow 0 r0 hr0
    obtain ⟨b, ys, rfl, hS2, hl2, _⟩ := rep_row hrv
    refine ⟨a, rfl, xs, hS, _, hv, b, rfl, ys, .inl hS2, a, rfl, xs, .inl hS, by decide, fun q hq => ?_⟩
    rw [hl2, hl, ip.hh, ip.ww r0 (List.mem_of_getElem? hr0)]
    exact k q hq
def spSize : Sp := fun vs H Q _ => ∃ c, vs = [.int c] ∧ 0 ≤ c ∧ ∀ q (x y : Nat), 1 ≤ x → x ≤ 24 → 1 ≤ y → y ≤ 12 → H q = none → Q (.ref q) (upd H q (.tup [.int x, .int y]))
theorem ok_law_size (F : Fun K "_law_size" "_law_size" s__law_size f fd) (T : Txt K mg) : FnOk P w K mg base CX0 1 f fd ["_law_cell"] spSize := by
  refine F.ok sc__law_size (fun vs H Q E h => ?_) (fun cdv A outer s H vs Q E hr h => ?_)
  · obtain ⟨c, rfl, _⟩ := h
    rfl
  · obtain ⟨c, rfl, c0, k⟩ := h
    refine ⟨_, (pss_cons (ps_if (pt_cmpR op_eq (pe_op op_mod (pv 0) pe_int) pe_int (nomark _)) (pss_one (ps_ret (pe_tupq (qc (pe_op op_add pe_int (pe_op op_mod (pe_op op_fdiv (pv 0) pe_int) pe_int)) (qc (pe_op op_add pe_int (pe_op op_mod (pe_op op_fdiv (pv 0) pe_int) pe_int)) qn))))) pss_nil)
      (pss_cons (ps_if (pt_cmpR op_eq (pe_op op_mod (pv 0) pe_int) pe_int (nomark _)) (pss_one (ps_ret (pe_tupq (qc pe_int (qc pe_int qn))))) pss_nil)
      (pss_one (ps_ret (pe_tupq (qc (pe_op op_add pe_int (pe_op op_mod (pe_op op_fdiv (pv 0) pe_int) pe_int)) (qc (pe_op op_add pe_int (pe_op op_mod (pe_op op_fdiv (pv 0) pe_int) pe_int)) qn))))))), ?_⟩
    walk_at "rd"
    have k' : ∀ (x y : Int), 1 ≤ x → x ≤ 24 → 1 ≤ y → y ≤ 12 → 2 ≤ sizeLine ∧ ∀ q, H q = none → Q (.ref q) (upd H q (.tup [.int x, .int y])) := fun x y x1 x2 y1 y2 => ⟨by decide, fun q hq => by
      have e1 : x = (x.toNat : Int) := by omega
      have e2 : y = (y.toNat : Int) := by omega
      rw [e1, e2]
      exact k q x.toNat y.toNat (by omega) (by omega) (by omega) (by omega) hq⟩
    refine ite2 (fun _ => ⟨⟨by decide, by decide⟩, ⟨by decide, by decide⟩, k' _ _ (by omega) (by omega) (by omega) (by omega)⟩) fun _ => ite2 (fun _ => k' _ _ (by omega) (by omega) (by omega) (by omega)) fun _ => ⟨⟨by decide, by decide⟩, ⟨by decide, by decide⟩, k' _ _ (by omega) (by omega) (by omega) (by omega)⟩
def spSign : Sp := fun vs H Q _ => ∃ c, vs = [.int c] ∧ 0 ≤ c ∧ ∀ x H', Same H H' → PyData.strOk x = true → x.length = 1 → Q (.str x) H'
theorem ok_law_sign (F : Fun K "_law_sign" "_law_sign" s__law_sign f fd) (T : Txt K mg) : FnOk P w K mg base CX0 1 f fd ["_law_cell"] spSign := by
  have nd := sc__law_sign.nd
  refine F.ok sc__law_sign (fun vs H Q E h => ?_) (fun cdv A outer s H vs Q E hr h => ?_)
  · obtain ⟨c, rfl, _⟩ := h
    rfl
  · obtain ⟨c, rfl, c0, k⟩ := h
    refine ⟨_, (pss_cons (ps_set (i := 1) nd rfl (Or.inl rfl) pe_str)
      (pss_one (ps_ret (pe_ix ix_list (pe_lstq (qc (pe_ix ix_str (pv 1) (pe_op op_mod (pe_op op_fdiv (pv 0) pe_int) pe_int) (fun _ _ => rfl)) (qc pe_str (qc pe_str (qc pe_str qn))))) (pe_op op_mod (pv 0) pe_int) (fun _ _ => rfl))))), ?_⟩
    walk_at "rd"
    refine ⟨⟨by decide, by decide⟩, by decide +kernel, ?_⟩
    refine atI_exG (by omega) (Int.lt_of_lt_of_le (show c / 4 % 94 < 94 by omega) (by decide +kernel)) fun x hx => ?_
    have hx' : x < 0x110000 := by
      revert x hx
      decide +kernel
    refine ⟨by decide, fun p hp => ⟨_, SqL.of upd_same, ?_⟩⟩
    refine atI_exG (by omega) (by show _ < (4 : Int); omega) fun v hv => ?_
    have hs := same_new (o := HO.lst [V.str { cps := #[x] }, V.str (Str.ofString "a"), V.str (Str.ofString "~"), V.str (Str.ofString " ")]) hp
    simp only [List.mem_cons, List.not_mem_nil, or_false] at hv
    rcases hv with rfl | rfl | rfl | rfl
    · exact k _ _ hs (by simpa [PyData.strOk] using hx') rfl
    · exact k _ _ hs (by decide +kernel) (by decide +kernel)
    · exact k _ _ hs (by decide +kernel) (by decide +kernel)
    · exact k _ _ hs (by decide +kernel) (by decide +kernel)
end
end K04
namespace K04
open PySem L2
local macro_rules | `(tactic| walk_at "rd") => `(tactic| simp [tRet, tOp, rI, rI0, rU, tUn, tVar, tC, L2.start, tSeq, tIfS, tTest, tAsg, gName, tCall, tCons, tNil, tCB, tNext, tDrop, tAndV, tOrV, tNotV, tChain, tAnd, tOr, tNot, tB, rEq, rNe, scal, tTup, tLst, gTup, gCons, gNil, rIxL, rIxT, rIxS, and_assoc, cxK, tFor_rng1, tFor_lst, rNeD, rEqD, tBM, rAppend, spAt])
section
variable {P : Program} {w : World} {K : PySem.W.Frag} {mg : Str → Option Value} {base : Heap} {f : Addr} {fd : FuncData}
/-- what both loops hand on: a new list of new pairs -/
def spPlaces (K : PySem.W.Frag) : Sp := fun vs H Q _ => ∃ x y p q w h, vs = [x, y] ∧ Rep K H (picD p) x ∧ Rep K H (picD q) y ∧ IsPic p w h ∧ IsPic q w h ∧
  ∀ r xs H', Same H H' → H r = none → H' r = some (.lst xs) → Tups H' (dif p q w h) xs → Q (.ref r) H'
theorem ok_law_due (F : Fun K "_law_due" "_law_due" s__law_due f fd) (T : Txt K mg) : FnOk P w K mg base CX0 1 f fd ["_law_one", "_law_other"] (spPlaces K) := by
  have nd := sc__law_due.nd
  refine F.ok sc__law_due (fun vs H Q E h => ?_) (fun cdv A outer s H vs Q E hr h => ?_)
  · obtain ⟨x, y, p, q, w, h, rfl, _⟩ := h
    rfl
  · obtain ⟨x, y, p, q, w, h, rfl, hx, hy, ip, iq, k⟩ := h
    have hu := hr.units
    refine ⟨_, (pss_cons (ps_set (i := 2) nd rfl (Or.inl rfl) (pe_lstq qn))
      (pss_cons (ps_for PassesOwn.never rfl (pi_range1 rfl T.n_range (QA.pa (qc (pe_callB call_len_seq (by rfl) T.n_len (by rfl) (QA.pa (qc (pv 0) qn))) qn))) (pg_name (i := 3) nd rfl (Or.inl rfl))
      (pss_one (ps_for PassesOwn.never rfl (pi_range1 rfl T.n_range (QA.pa (qc (pe_callB call_len_seq (by rfl) T.n_len (by rfl) (QA.pa (qc (pe_ix ix_list (pv 0) pe_int (fun _ _ => rfl)) qn))) qn))) (pg_name (i := 4) nd rfl (Or.inl rfl))
      (pss_one (ps_if (pt_cmpR (op_neD hu) (pe_ix ix_list (pe_ix ix_list (pv 0) (pv 3) (fun _ _ => rfl)) (pv 4) (fun _ _ => rfl)) (pe_ix ix_list (pe_ix ix_list (pv 1) (pv 3) (fun _ _ => rfl)) (pv 4) (fun _ _ => rfl)) (nomark _)) (pss_one (ps_expr (pe_bm PySem.F.plainAttrs_list PySem.F.slot_list_append PySem.F.type_list_append mt_append (pv 2) (QA.pa (qc (pe_tupq (qc (pv 3) (qc (pv 4) qn))) qn))))) pss_nil)))))
      (pss_one (ps_ret (pv 2))))), ?_⟩
    refine seq_cut (fun σ1 H1 => ∃ r, σ1 = [some x, some y, some (.ref r), none, none] ∧ Same H H1 ∧ H r = none ∧ H1 r = some (.lst [])) (fun R hR => ?_) ?_
    · walk_at "rd"
      exact fun r hr0 => hR _ _ ⟨r, rfl, same_new hr0, hr0, upd_same⟩
    rintro _ H1 ⟨r, rfl, hs1, hr0, hr1⟩
    refine seq_cut (fun σ2 H2 => ∃ v3 v4 xs, σ2 = [some x, some y, some (.ref r), v3, v4] ∧ Same H H2 ∧ H2 r = some (.lst xs) ∧ Tups H2 (dif p q w h) xs) (fun R hR => ?_) ?_
    · obtain ⟨a, rfl⟩ := rep_ref hx
      obtain ⟨b, rfl⟩ := rep_ref hy
      have hh1 := ip.h1
      have hh2 := ip.h2
      have hw1 := ip.w1
      have hw2 := ip.w2
      obtain ⟨as, _, _, _, hSa, hla, _⟩ := rep_cell (Rep.same hs1 _ _ hx) ip (i := 0) (j := 0) (by omega) (by omega)
      walk_at "rd"
      refine ⟨as, .inl hSa, by rw [hla]; omega, ?_⟩
      rw [hla]
      refine LoopR.run (fun i σ' H' => ∃ v3 v4 xs, σ' = [some (.ref a), some (.ref b), some (.ref r), v3, v4] ∧ Same H H' ∧ H' r = some (.lst xs) ∧ Tups H' (dif p q w i) xs) ⟨_, _, _, rfl, hs1, hr1, rfl⟩ ?_ (fun σ' H' ⟨v3, v4, xs, e, hs, hr, ht⟩ => hR _ _ ⟨v3, v4, xs, e, hs, hr, ht⟩)
      rintro i _ H' hi ⟨v3, v4, xs, rfl, hs', hr', ht'⟩ R1 hR1
      obtain ⟨as', b0, ys0, _, hSa', hla', hv0, hS0, hl0, _⟩ := rep_cell (Rep.same hs' _ _ hx) ip (i := 0) (j := 0) (by omega) (by omega)
      walk_at "rd"
      refine ⟨as', hSa', _, hv0, b0, rfl, ys0, .inl hS0, by rw [hl0]; omega, ?_⟩
      rw [hl0]
      refine LoopR.run (fun j σ' H' => ∃ v4 xs, σ' = [some (.ref a), some (.ref b), some (.ref r), some (.int i), v4] ∧ Same H H' ∧ H' r = some (.lst xs) ∧ Tups H' (dif p q w i ++ rowDif p q i j) xs) ⟨_, _, rfl, hs', hr', by rw [show rowDif p q i 0 = [] from rfl, List.append_nil]; exact ht'⟩ ?_ (fun σ' H' ⟨v4, xs, e, hs, hr, ht⟩ => hR1 _ _ ⟨_, v4, xs, e, hs, hr, by rw [dif_succ]; exact ht⟩)
      rintro j _ H2 hj ⟨w4, zs, rfl, hs2, hr2, ht2⟩ R2 hR2
      obtain ⟨x1, x2, x3, x4, g1, g2, g3, g4, g5, g6, g7, g8⟩ := rep_cell (Rep.same hs2 _ _ hx) ip hi hj
      obtain ⟨y1, y2, y3, y4, f1, f2, f3, f4, f5, f6, f7, f8⟩ := rep_cell (Rep.same hs2 _ _ hy) iq hi hj
      have hzl : zs.length < sizeLine := by
        have z1 := ht2.length
        have z2 := dif_len p q w i
        have z3 := rowDif_len p q i j
        rw [List.length_append] at z1
        have z4 : w * i ≤ 24 * 12 := Nat.mul_le_mul hw2 (by omega)
        exact small1000 (by omega)
      walk_at "rd"
      refine ⟨x1, g1, _, g3, x2, rfl, x3, g4, _, g6, y1, f1, _, f3, y2, rfl, y3, f4, _, f6, _, g7, _, f7, shaped_cel g8, shaped_cel f8, ?_⟩
      rw [eqv_cel]
      by_cases hc : cellAt p i j = cellAt q i j
      · refine .inl ⟨decide_eq_true hc, hR2 _ _ ⟨_, zs, rfl, hs2, hr2, ?_⟩⟩
        rw [rowDif_succ, if_pos hc, List.append_nil]
        exact ht2
      · refine .inr ⟨decide_eq_false hc, .inl ⟨rfl, _, SqL.of hr2⟩, by decide, fun t ht => ?_⟩
        have hrt : r ≠ t := ne_of_none hr2 ht
        refine ⟨zs, by rw [upd_ne hrt]; exact hr2, hzl, hR2 _ _ ⟨_, _, rfl, same_upd (hs2.trans (same_new ht)) hr0, upd_same, ?_⟩⟩
        rw [rowDif_succ, if_neg hc, ← List.append_assoc]
        refine Tups.snoc (p := (((i : Nat) : Int), ((j : Nat) : Int))) (by rw [upd_ne hrt.symm]; exact upd_same) (ht2.same fun b xs e => ?_)
        rw [upd_ne (fun z => by rw [z, hr2] at e; cases e), upd_ne (ne_of_none e ht)]
        exact e
    rintro _ H2 ⟨v3, v4, xs, rfl, hs2, hr2, ht2⟩
    walk_at "rd"
    exact k r xs H2 hs2 hr0 hr2 ht2
end
end K04
/-! Exceptions of the text's own classes over the hand layer: raised, passing a frame, caught. -/
namespace L2
open PySem PySem.Spec PyProof.Rows

theorem dict_mapF (o : Obj) (f : Array Value → Array Value) : (o.mapFields f).dict = o.dict := by
  rcases o with ⟨_, _, q, _⟩
  cases q <;> rfl
/-- an exception in flight: its object, its newest entry (fp: these records) -/
def Fly (h : Heap) (e C : Addr) (fp : List Addr) : Prop := ∃ oe vs, h.get? e = some oe ∧ (oe.cls = .ref C ∧ oe.dict = none) ∧ oe.data = .fields vs ∧ 1 < vs.size ∧
  ((vs[1]? = some .none ∧ fp = [e]) ∨ ∃ T oT ts, vs[1]? = some (.ref T) ∧ T ≠ e ∧ h.get? T = some oT ∧ oT.data = .fields ts ∧ ts[3]? = some .none ∧ fp = [e, T])
theorem Fly.mem {h : Heap} {e C : Addr} {fp : List Addr} (F : Fly h e C fp) : ∀ b ∈ fp, ∃ o vs, h.get? b = some o ∧ o.data = .fields vs := by
  obtain ⟨oe, vs, he, _, hd, _, ⟨_, rfl⟩ | ⟨T, oT, ts, _, _, hT, hdT, _, rfl⟩⟩ := F
  · intro b hb
    cases List.mem_singleton.mp hb
    exact ⟨oe, vs, he, hd⟩
  · intro b hb
    rcases List.mem_cons.mp hb with rfl | hb
    · exact ⟨oe, vs, he, hd⟩
    · cases List.mem_singleton.mp hb
      exact ⟨oT, ts, hT, hdT⟩
theorem Fly.self {h : Heap} {e C : Addr} {fp : List Addr} (F : Fly h e C fp) : e ∈ fp := by
  obtain ⟨_, _, _, _, _, _, ⟨_, rfl⟩ | ⟨_, _, _, _, _, _, _, _, rfl⟩⟩ := F <;> exact List.mem_cons_self
theorem Fly.keep {h h' : Heap} {e C : Addr} {fp : List Addr} (F : Fly h e C fp) (k : ∀ b ∈ fp, ∀ o, h.get? b = some o → h'.get? b = some o) : Fly h' e C fp := by
  have hs := F.self
  obtain ⟨oe, vs, he, hc, hd, hz, h1 | ⟨T, oT, ts, h1, h2, hT, hdT, h3, rfl⟩⟩ := F
  · exact ⟨oe, vs, k _ hs _ he, hc, hd, hz, .inl h1⟩
  · exact ⟨oe, vs, k _ hs _ he, hc, hd, hz, .inr ⟨T, oT, ts, h1, h2, k _ (by simp) _ hT, hdT, h3, rfl⟩⟩

section
variable {M : Model} {A : Around} {E : Value → Shared → Prop} {s : Shared}
/-- what a frame's entry changes: the records fp, the frames' slots -/
structure Noted (fs fp : List Addr) (h h' : Heap) : Prop where
  keep : ∀ b o, h.get? b = some o → b ∉ fp → b ∉ fs → h'.get? b = some o
  slot : ∀ b o, h.get? b = some o → b ∉ fp → ∃ sl, h'.get? b = some { o with slots := sl }
  there : ∀ b o, h.get? b = some o → ∃ o', h'.get? b = some o'
theorem Noted.size {fs fp : List Addr} {h h' : Heap} (n : Noted fs fp h h') (hp : h'.objs.size < h.objs.size → False) : h.objs.size ≤ h'.objs.size := Nat.not_lt.mp hp

theorem entry_wp {base : Heap} {env : Env} {outer : List Env} {L e C : Addr} {oe : Obj} {vs : Array Value} {head : Value} {hadNext : Bool} {Q : Unit → Shared → Prop}
    (hfr : A.frames = some (env :: outer)) (hl : s.heap.FunFrames base (env :: outer)) (hf : env.frame = some L) (he : s.heap.get? e = some oe) (hc : oe.cls = .ref C ∧ oe.dict = none) (hd : oe.data = .fields vs) (hz : 1 < vs.size)
    (h : ∀ h' T, s.heap.objs.size ≤ T → s.heap.objs.size ≤ h'.objs.size → Noted (frs (env :: outer)) [e] s.heap h' → Fly h' e C [e, T] → Q () { s with heap := h' }) :
    wpAny M A (do let a ← frameOf env; let pl ← entryPlaceOf L hadNext; let b ← EntryCells.newEntry head a .none (rawInt L) .none pl; setField (.ref e) 1 b) (fun _ s' => wpAny M A (setFlight (.ref e) none) Q E s') E s := by
  have ef : e ∉ frs (env :: outer) := fun hm => by
    obtain ⟨_, o, ho, hn⟩ := hl.mem hm
    rw [he] at ho
    cases ho
    exact hn vs hd
  refine wpAny_bind (wpAny_frameOf_fun hfr hl hf fun h1 s1 => ?_)
  refine wpAny_bind (wpAny_entryPlaceOf fun pl hp => ?_)
  unfold EntryCells.newEntry newFields
  refine wpAny_bind (wpAny_newObj_type ?_ (hp.sizeOk5 _ _ _ _ _))
  generalize hO : ({ cls := .type "traceback", dict := none, data := .fields ([head, .ref L, .none, rawInt L, .none] ++ (if pl.isEmpty then List.replicate 6 Value.none else pl)).toArray } : Obj) = O
  have he1 : h1.get? e = some oe := (s1.2.1 e ef).trans he
  have he2 : (h1.push O).get? e = some oe := Heap.get?_push_of_some _ he1
  refine wpAny_setField he2 hd hz ?_
  have nTe : h1.objs.size ≠ e := Nat.ne_of_gt (Heap.lt_size he1)
  have hd3 := Obj.data_mapFields hd (·.setIfInBounds 1 (Value.ref h1.objs.size))
  have he3 := Heap.get?_update_self (Obj.mapFields (·.setIfInBounds 1 (Value.ref h1.objs.size))) he2 (Obj.isFreed_of_fields hd3)
  have hOd : O.data = .fields ([head, .ref L, .none, rawInt L, .none] ++ (if pl.isEmpty then List.replicate 6 Value.none else pl)).toArray := by rw [← hO]
  have hOf : O.isFreed = false := Obj.isFreed_of_fields hOd
  have hT3 : ((h1.push O).update e (Obj.mapFields (·.setIfInBounds 1 (Value.ref h1.objs.size)))).get? h1.objs.size = some O := (Heap.get?_update_other (h1.push O) (Obj.mapFields (·.setIfInBounds 1 (Value.ref h1.objs.size))) (Ne.symm nTe)).trans (Heap.get?_push_size h1 hOf)
  unfold setFlight
  refine wpAny_bind (wpAny_field he3 hd3 (x := .ref h1.objs.size) (by simp [hz]) ?_)
  rw [if_pos (show (Value.ref h1.objs.size != Value.none) = true from by simp)]
  have h3 : 3 < ([head, .ref L, .none, rawInt L, .none] ++ (if pl.isEmpty then List.replicate 6 Value.none else pl)).toArray.size := by
    simp only [List.size_toArray, List.length_append, List.length_cons, List.length_nil]
    omega
  have kp : ∀ b o, b ≠ e → h1.get? b = some o → (((h1.push O).update e (Obj.mapFields (·.setIfInBounds 1 (Value.ref h1.objs.size)))).update h1.objs.size (Obj.mapFields (·.setIfInBounds 3 ((none : Option Addr).elim Value.none fun f => rawInt f)))).get? b = some o := fun b o hb q => by
    rw [Heap.get?_update_other _ _ (Nat.ne_of_gt (Heap.lt_size q)), Heap.get?_update_other _ _ (Ne.symm hb)]
    exact Heap.get?_push_of_some _ q
  have hd4 := Obj.data_mapFields hOd (·.setIfInBounds 3 ((none : Option Addr).elim Value.none fun f => rawInt f))
  have he4 : (((h1.push O).update e (Obj.mapFields (·.setIfInBounds 1 (Value.ref h1.objs.size)))).update h1.objs.size (Obj.mapFields (·.setIfInBounds 3 ((none : Option Addr).elim Value.none fun f => rawInt f)))).get? e = some (oe.mapFields (·.setIfInBounds 1 (Value.ref h1.objs.size))) :=
    (Heap.get?_update_other _ _ nTe).trans he3
  refine wpAny_setField hT3 hOd h3 (h _ h1.objs.size (Nat.le_of_eq s1.1.symm) ?_ ⟨?_, ?_, ?_⟩ ?_)
  · rw [Heap.size_after_update, Heap.size_after_update, Heap.size_push, s1.1]
    exact Nat.le_succ _
  · intro b o q nb nf
    exact kp b o (fun z => nb (by simp [z])) ((s1.2.1 b nf).trans q)
  · intro b o q nb
    obtain ⟨sl, q2⟩ := s1.2.2 b o q
    exact ⟨sl, kp b _ (fun z => nb (by simp [z])) q2⟩
  · intro b o q
    by_cases z : b = e
    · rw [z]
      exact ⟨_, he4⟩
    · obtain ⟨sl, q2⟩ := s1.2.2 b o q
      exact ⟨_, kp b _ z q2⟩
  · refine ⟨_, _, he4, ⟨(Obj.cls_mapFields _ _).trans hc.1, (dict_mapF _ _).trans hc.2⟩, hd3, by simpa using hz, .inr ⟨_, _, _, by simp [hz], nTe, Heap.get?_update_self _ hT3 (Obj.isFreed_of_fields hd4), hd4, ?_, rfl⟩⟩
    rw [Array.getElem?_setIfInBounds_self_of_lt h3]
    rfl
theorem note_wp {base : Heap} {env : Env} {outer : List Env} {L e C : Addr} {fp : List Addr} {Q : Unit → Shared → Prop}
    (hfr : A.frames = some (env :: outer)) (hl : s.heap.FunFrames base (env :: outer)) (hf : env.frame = some L) (F : Fly s.heap e C fp)
    (h : ∀ h' T, s.heap.objs.size ≤ T → s.heap.objs.size ≤ h'.objs.size → Noted (frs (env :: outer)) fp s.heap h' → Fly h' e C [e, T] → Q () { s with heap := h' }) :
    wpAny M A (noteFrame (.ref e) env) (fun _ s' => wpAny M A (setFlight (.ref e) none) Q E s') E s := by
  obtain ⟨oe, vs, he, hc, hd, hz, ⟨h1, rfl⟩ | ⟨T, oT, ts, h1, nT, hT, hdT, h3, rfl⟩⟩ := F
  · unfold noteFrame
    simp only [hf]
    refine wpAny_bind (wpAny_field he hd h1 ?_)
    rw [if_neg (by decide)]
    exact entry_wp hfr hl hf he hc hd hz h
  · unfold noteFrame
    simp only [hf]
    refine wpAny_bind (wpAny_field he hd h1 ?_)
    rw [if_pos (show (Value.ref T != Value.none) = true from by simp)]
    refine wpAny_bind (wpAny_field hT hdT h3 ?_)
    rw [if_neg (show ¬ ((Value.none == rawInt L) = true) from by simp [rawInt])]
    refine wpAny_bind (wpAny_setField hT hdT (Array.getElem?_eq_some_iff.mp h3).1 ?_)
    have oth : ∀ b, b ≠ T → (s.heap.update T (Obj.mapFields (·.setIfInBounds 3 Value.none))).get? b = s.heap.get? b := fun b hb => Heap.get?_update_other _ _ (Ne.symm hb)
    have hd4 := Obj.data_mapFields hdT (·.setIfInBounds 3 Value.none)
    have hT4 := Heap.get?_update_self (Obj.mapFields (·.setIfInBounds 3 Value.none)) hT (Obj.isFreed_of_fields hd4)
    have noR : ∀ b o, s.heap.get? b = some o → (∀ vs, o.data ≠ .fields vs) → b ≠ T := fun b o hb hn z => by
      rw [z, hT] at hb
      cases hb
      exact hn ts hdT
    refine entry_wp (s := { s with heap := s.heap.update T (Obj.mapFields (·.setIfInBounds 3 Value.none)) }) hfr (hl.of_keeps fun b o hb hn => ⟨o, (oth b (noR b o hb hn)).trans hb, rfl⟩) hf ((oth e (Ne.symm nT)).trans he) hc hd hz fun h' T' z1 z2 N F' => ?_
    have sz : (s.heap.update T (Obj.mapFields (·.setIfInBounds 3 Value.none))).objs.size = s.heap.objs.size := Heap.size_after_update _ _ _
    have z1' : s.heap.objs.size ≤ T' := by rw [← sz]; exact z1
    have z2' : s.heap.objs.size ≤ h'.objs.size := by rw [← sz]; exact z2
    refine h h' T' z1' z2' ⟨fun b o q nb nf => ?_, fun b o q nb => ?_, fun b o q => ?_⟩ F'
    · have nbT : b ≠ T := fun z => nb (by simp [z])
      exact N.keep b o ((oth b nbT).trans q) (fun z => nb (by rw [List.mem_singleton] at z; simp [z])) nf
    · have nbT : b ≠ T := fun z => nb (by simp [z])
      exact N.slot b o ((oth b nbT).trans q) (fun z => nb (by rw [List.mem_singleton] at z; simp [z]))
    · by_cases z : b = T
      · rw [z]
        exact N.there T _ hT4
      · exact N.there b o ((oth b z).trans q)
theorem leave_wp {base : Heap} {env : Env} {outer : List Env} {L e C : Addr} {fp : List Addr} {Q : Unit → Shared → Prop}
    (hfr : A.frames = some (env :: outer)) (hl : s.heap.FunFrames base (env :: outer)) (hf : env.frame = some L) (F : Fly s.heap e C fp)
    (h : ∀ h' T, s.heap.objs.size ≤ T → s.heap.objs.size ≤ h'.objs.size → Noted (frs (env :: outer)) fp s.heap h' → Fly h' e C [e, T] → Q () { s with heap := h' }) :
    wpAny M A (leaving env (.ref e)) Q E s := by
  unfold leaving
  exact wpAny_bind (note_wp hfr hl hf F h)
end

/-! ### how an exception lies behind a call -/
/-- its records are younger than the call, nothing else of the caller's is changed -/
def CX1 (P : Program) (w : World) : CXT := fun outer H s E ev s' => ∃ e C fp H', ev = .ref e ∧ Fly s'.heap e C fp ∧ (∀ b ∈ fp, s.heap.get? b = none ∧ H' b = none) ∧ s'.os = s.os ∧ AllBare s'.gens ∧ Un (frs outer) [] H H' s.heap s'.heap ∧ HOk P w H' s'.heap ∧ E (.ref C) none H'
/-- its records are not the frame's, not pinned, not there at the entry -/
def FpX (X : Cx) (pins : List (Addr × Obj)) (H : Hp) (b : Addr) : Prop :=
  H b = none ∧ b ≠ X.env.locals ∧ b ∉ X.fs ∧ (b ∈ X.ex ∨ X.s₀.heap.get? b = none) ∧ (∀ x c, X.env.cells.lookup x = some c → c ≠ b) ∧ ∀ p ∈ X.pn ++ pins, p.1 ≠ b
theorem Inv.fpX {X : Cx} {pins : List (Addr × Obj)} {σ : St} {H H' : Hp} {s : Shared} {b : Addr} (I : Inv X pins σ H s) (hb : s.heap.get? b = none) (hn : H' b = none) : FpX X pins H' b := by
  have no : ∀ c o, s.heap.get? c = some o → c ≠ b := fun c o q z => by
    rw [z, hb] at q
    cases q
  refine ⟨hn, fun z => ?_, fun z => ?_, ?_, fun x c q => ?_, fun p hp => no _ _ (I.pin p hp).1⟩
  · obtain ⟨m, ⟨o, _, _, ho, _⟩, _⟩ := I.loc
    exact no _ _ ho z.symm
  · obtain ⟨_, o, ho, _⟩ := I.funs.mem z
    exact no _ _ ho rfl
  · by_cases hx : b ∈ X.ex
    · exact .inl hx
    · refine .inr ?_
      cases q : X.s₀.heap.get? b with
      | none => rfl
      | some o =>
        obtain ⟨o', q'⟩ := I.base.there b o q hx
        exact absurd rfl (no _ _ q')
  · obtain ⟨v, o, ho, _⟩ := I.cell x c q
    exact no _ _ ho
/-- an exception that comes up in a body -/
def Up (X : Cx) (W : XK) (ev : Value) (s' : Shared) : Prop := ∃ pins σ H e C fp, ev = .ref e ∧ Inv X pins σ H s' ∧ Fly s'.heap e C fp ∧ (∀ b ∈ fp, FpX X pins H b) ∧ W (.ref C) none H
/-- the body's wish is met by exceptions that come up so -/
def Lifts (X : Cx) (W : XK) : Prop := ∀ ev s', Up X W ev s' → X.xe ev s'
theorem Lifts.passes {X : Cx} {W : XK} (L : Lifts X W) : Passes (CX1 X.prog X.w) X W := by
  rintro pins σ H s ev s' I ⟨e, C, fp, H', rfl, F, hf, os, bare, un, hok, hw⟩
  have I' : Inv X pins σ H' s' := I.call' (ch := []) os un hok bare fun b z => absurd z (by simp)
  exact L _ _ ⟨pins, σ, H', e, C, fp, rfl, I', F, fun b hb => I.fpX (H' := H') (hf b hb).1 (hf b hb).2, hw⟩
/-- a def's body: an exception leaves the frame -/
theorem lifts_def {P : Program} {w : World} {K : PySem.W.Frag} {mg : Str → Option Value} {base : Heap} {N : List Str} {qual : Str} {scope : Scope} {f : Addr} {cd : Value} {A : Around} {outer : List Env} {s : Shared} {H : Hp} {E : XK} :
    Lifts (cxOf (CX1 P w) P w K mg base N qual scope f cd A outer s H E) E := by
  rintro ev s' ⟨pins, σ, H', e, C, fp, rfl, I, F, hf, hw⟩
  show wpAny (model P w) _ (leaving _ (.ref e)) _ _ s'
  refine leave_wp (base := base) (outer := outer) (L := s.heap.objs.size) I.ok.frames I.stack rfl F fun h' T z1 z2 N F' => ?_
  have fz : ∀ b ∈ fp, s.heap.get? b = none ∧ H' b = none := fun b hb => by
    obtain ⟨k0, _, _, k1, _⟩ := hf b hb
    rcases k1 with k1 | k1
    · exact absurd (show b ∈ ([] : List Addr) from k1) (by simp)
    · exact ⟨k1, k0⟩
  have old : ∀ b o, s.heap.get? b = some o → b ∉ fp := fun b o q z => by
    rw [(fz b z).1] at q
    cases q
  have u := I.base
  have notr : ∀ b o, H' b = some o → b ∉ fp ∧ b ∉ frs (envOfC qual scope s.heap.objs.size f cd :: outer) := fun b o q => by
    refine ⟨fun z => ?_, fun z => ?_⟩
    · rw [(fz b z).2] at q
      cases q
    · rw [I.stkFree b z] at q
      cases q
  refine ⟨e, C, [e, T], H', rfl, F', fun b hb => ?_, I.os, I.bare, ⟨fun b o q n hb hx => ?_, fun b o q n hb hx => ?_, u.free, fun b o q hx => ?_, u.tups, u.frzs, u.tbls⟩, fun b ob q => ?_, hw⟩
  · rcases List.mem_cons.mp hb with rfl | hb
    · exact fz _ F.self
    · cases List.mem_singleton.mp hb
      exact ⟨Heap.get?_none_of_le (Nat.le_trans I.sz z1), I.hok.fresh z1⟩
  · refine N.keep b o (u.keep b o q n hb hx) (old b o q) fun z => ?_
    rcases List.mem_cons.mp z with z | z
    · exact absurd (Heap.lt_size q) (by rw [z]; exact Nat.lt_irrefl _)
    · exact hb z
  · obtain ⟨sl, q1⟩ := u.slot b o q n hb hx
    obtain ⟨sl', q2⟩ := N.slot b _ q1 (old b o q)
    exact ⟨sl', q2⟩
  · obtain ⟨o', q1⟩ := u.there b o q hx
    exact N.there b o' q1
  · refine (I.hok b ob q).stay (fun c w' hc q2 => ?_) (fun _ z => z) fun _ _ z => z
    have hcH : ∃ o, H' c = some o := by
      rcases hc with z | z
      · rw [z]
        exact ⟨_, q⟩
      · exact ⟨_, z⟩
    obtain ⟨oc, hoc⟩ := hcH
    exact N.keep c w' q2 (notr c oc hoc).1 (notr c oc hoc).2
/-- behind a frame's entry the state is as it was -/
theorem Inv.noted {X : Cx} {pins : List (Addr × Obj)} {σ : St} {H : Hp} {s : Shared} {h' : Heap} {fp : List Addr} (I : Inv X pins σ H s) (N : Noted (frs X.stack) fp s.heap h') (hf : ∀ b ∈ fp, FpX X pins H b) : Inv X pins σ H { s with heap := h' } := by
  have old : ∀ b o, X.s₀.heap.get? b = some o → b ∉ X.ex → b ∉ fp := fun b o q hx z => by
    rcases (hf b z).2.2.2.1 with k | k
    · exact hx k
    · rw [k] at q
      cases q
  have far : ∀ b, b ≠ X.env.locals → b ∉ X.fs → b ∉ frs X.stack := fun b h1 h2 z => (List.mem_cons.mp (I.stkSub b z)).elim h1 h2
  have up : ∀ b o, X.s₀.heap.get? b = some o → b ≠ X.env.locals := fun b o q z => absurd (Heap.lt_size q) (by rw [z]; exact Nat.not_lt.mpr I.ok.above)
  have cel : ∀ x c, X.env.cells.lookup x = some c → ∀ v, s.heap.IsCell c v → h'.IsCell c v := fun x c q v ⟨o, ho, hd⟩ => by
    obtain ⟨sl, q2⟩ := N.slot c o ho fun z => (hf c z).2.2.2.2.1 x c q rfl
    exact ⟨_, q2, hd⟩
  have u := I.base
  refine ⟨I.ok, I.os, I.bare, ⟨fun b o q n hb hx => ?_, fun b o q n hb hx => ?_, u.free, fun b o q hx => ?_, u.tups, u.frzs, u.tbls⟩, ?_, fun x c q => ?_, I.free, I.freeC, fun p hp => ?_, fun b ob q => ?_, I.len⟩
  · exact N.keep b o (u.keep b o q n hb hx) (old b o q hx) (far b (up b o q) hb)
  · obtain ⟨sl, q1⟩ := u.slot b o q n hb hx
    obtain ⟨sl', q2⟩ := N.slot b _ q1 (old b o q hx)
    exact ⟨sl', q2⟩
  · obtain ⟨o', q1⟩ := u.there b o q hx
    exact N.there b o' q1
  · obtain ⟨m, ⟨o, es, ep, ho, r⟩, hl⟩ := I.loc
    obtain ⟨sl, q2⟩ := N.slot _ o ho fun z => (hf _ z).2.1 rfl
    refine ⟨m, ⟨_, es, ep, q2, r⟩, fun i x v e1 e2 e3 => ?_⟩
    obtain ⟨w', rw', l⟩ := hl i x v e1 e2 e3
    refine ⟨w', rw', ?_⟩
    rcases l with l | ⟨k, c, q, z⟩
    · exact .inl l
    · exact .inr ⟨k, c, q, cel x c q _ z⟩
  · obtain ⟨v, z⟩ := I.cell x c q
    exact ⟨v, cel x c q v z⟩
  · obtain ⟨q, n, ne, nf, d⟩ := I.pin p hp
    exact ⟨N.keep p.1 p.2 q (fun z => (hf _ z).2.2.2.2.2 p hp rfl) (far _ ne nf), n, ne, nf, d⟩
  · refine (I.hok b ob q).stay (fun c w' hc q2 => ?_) (fun _ z => z) fun _ _ z => z
    have hcH : ∃ o, H c = some o := by
      rcases hc with z | z
      · rw [z]
        exact ⟨_, q⟩
      · exact ⟨_, z⟩
    obtain ⟨oc, hoc⟩ := hcH
    refine N.keep c w' q2 (fun z => ?_) fun z => ?_
    · rw [(hf c z).1] at hoc
      cases hoc
    · rw [I.stkFree c z] at hoc
      cases hoc
end L2
/-! isinstance of an exception of the text's own classes. -/
namespace L2
open PySem PySem.W PySem.Spec PySem.Calls PyProof.Rows
/-- what of the text an exception's class must have -/
structure XClass (K : PySem.W.Frag) (C : Addr) : Prop where
  ga : findIn K (.ref C) "__getattribute__" = some (some (.builtin "BaseException.__getattribute__"))
  gh : findIn K (.ref C) "__getattr__" = some none
  cl : findIn K (.ref C) "__class__" = some (some (.builtin "object.__class__"))
  sp : specialIn K (.builtin "object.__class__") "__get__" = some (some (.builtin "getset_descriptor.__get__"))
  tk : takesIn K (.builtin "object.__class__") = some true
  mo : mroIn K C (.type "object") = some true
  mb : mroIn K C (.type "BaseException") = some true
  cs : (clsIn K C).isSome = true
section
variable {prog : Program} {w : World} {A : Around} {E : Value → Shared → Prop} {s : Shared} {K : PySem.W.Frag} {e C : Addr} {oe : Obj}
theorem exc_class {Q : Option Value → Shared → Prop} (XC : XClass K C) (X : K.In s.heap) (I : InstAt s.heap e oe C none) (h : Q (some (.ref C)) { s with toks := s.toks + 1 }) : wpAny (model prog w) A (getAttr? (.ref e) "__class__") Q E s := by
  obtain ⟨hh, g, d, t, os⟩ := s
  have L0 := I.type (M := model prog w)
  have L1 := looks_findIn (M := model prog w) X XC.ga
  have L2 := looks_findIn (M := model prog w) X XC.gh
  have L3 := looks_mroIn (M := model prog w) X XC.mb
  have hf : findObj K C none "__class__" = some (.bind (.builtin "getset_descriptor.__get__") (.builtin "object.__class__")) := by
    obtain ⟨cd, hc⟩ := Option.isSome_iff_exists.mp XC.cs
    unfold findObj
    rw [hc, Option.bind_some, XC.cl, Option.bind_some]
    simp [XC.sp, XC.tk]
  have L4 := looks_find (M := model prog w) X I hf
  have gaB := F.attr_ValueError.ga.bind (.ref e)
  have hx2 : (Value.builtin "BaseException.__getattribute__" == Value.builtin "object.__getattribute__") = false := by decide +kernel
  have hx1 : (onTheHeap (Value.ref C) && Value.builtin "BaseException.__getattribute__" == Value.builtin "object.__getattribute__") = false := by rw [hx2]; rfl
  unfold getAttr? getAttrBy? getAttrBy
  refine wpAny_bind (wpAny_mkText (wpAny_bind (wpAny_attempt (wpAny_holding (wpAny_bind (L0.at (wpAny_bind (L1.at ?_))))))))
  show wpAny _ _ (if (onTheHeap (Value.ref C) && Value.builtin "BaseException.__getattribute__" == Value.builtin "object.__getattribute__") = true then _ else getAttrByItsOwn _ _ _ _ _ _) _ _ _
  rw [hx1, if_neg (by decide)]
  unfold getAttrByItsOwn hookBefore
  rw [if_pos (show onTheHeap (Value.ref C) = true by rfl)]
  refine wpAny_bind (L2.at ?_)
  refine wpAny_bind (wpAny_attempt (wpAny_holding ?_))
  unfold callGetattribute boundAndCalled
  rw [if_neg (by decide)]
  refine wpAny_bind (wpAny_of_eq gaB ?_)
  refine wpAny_call (codeAny_call_builtin F.attr_ValueError.ga.plain F.entry_bexc_ga ?_)
  have hk : builtinKind "BaseException.__getattribute__" = some .slot := by decide +kernel
  have hsp : splitId "BaseException.__getattribute__" = some ("BaseException", "__getattribute__") := by decide +kernel
  have ha := F.args_bexc_ga (.ref e) (.str "__class__" t)
  simp only [checkBuiltinCall, hk, hsp]
  refine wpAny_bind ?_
  unfold isInstance
  repeat lk
  refine wpAny_run (h := none) (class_get (ox := oe) (od := none) X I XC.mo ?_)
  refine wpAny_pure (wpAny_pure ?_)
  exact handed_on rfl (wpAny_pure h)
theorem kitx_exc (XC : XClass K C) : KitX K (.ref e) (.ref C) (fun h => InstAt h e oe C none) where
  ty := fun _ _ _ I => I.type
  it := fun _ _ X _ => by
    obtain ⟨cd, hc⟩ := Option.isSome_iff_exists.mp XC.cs
    unfold clsIn at hc
    split at hc
    · rename_i c' d' cd' sl' ho
      intro A' Q' E' s' k q
      unfold isType loadHead
      exact wpAny_bind (wpAny_loadPart (k _ _ (X _ _ ho)) (wpAny_pure q))
    · cases hc
  ne := fun h tp dd its n sl X htp => by
    obtain ⟨cd, hc⟩ := Option.isSome_iff_exists.mp XC.cs
    refine Bool.eq_false_iff.mpr fun q => ?_
    have z : C = tp := Value.ref.inj (beq_iff_eq.mp q)
    subst z
    unfold clsIn at hc
    split at hc
    · rename_i c' d' cd' sl' ho
      have z := (X _ _ ho).symm.trans htp
      cases z
    · cases hc
  ca := fun X I k => exc_class XC X I k
end
end L2
/-! raise of an exception of the text's own classes, over the hand layer. -/
namespace L2
open PySem PySem.W PySem.Spec PySem.Calls PyProof.Rows
/-- what is tracked is there -/
theorem objok_there {P : Program} {w : World} {H : Hp} {h : Heap} {a : Addr} {o : HO} (x : ObjOk P w H h a o) : ∃ u, h.get? a = some u := by
  cases o with
  | lst xs =>
    obtain ⟨_, _, _, _, q⟩ := x
    exact ⟨_, q⟩
  | tup xs =>
    obtain ⟨_, _, _, ⟨_, q, _⟩⟩ := x
    exact ⟨_, q⟩
  | dK kvs =>
    obtain ⟨_, _, _, _, o, _, _, q, _⟩ := x
    exact ⟨_, q⟩
  | dT kvs =>
    obtain ⟨_, _, _, _, o, _, _, q, _⟩ := x
    exact ⟨_, q⟩
  | set S n =>
    obtain ⟨o, _, _, _, q, _⟩ := x
    exact ⟨_, q⟩
  | ins C dx fs =>
    obtain ⟨_, _, _, q, _⟩ := x
    exact ⟨_, q⟩
  | own y => exact x
  | xd fs =>
    obtain ⟨_, ⟨o, _, _, q, _⟩, _⟩ := x
    exact ⟨_, q⟩
  | rng lo hi =>
    obtain ⟨_, _, _, q⟩ := x
    exact ⟨_, q⟩
  | frz o u => exact ⟨_, x.1⟩
  | tbl ps => exact ⟨_, x⟩
  | met f y => exact ⟨_, x⟩
  | ext φ => exact x.2.1
theorem hok_none {P : Program} {w : World} {H : Hp} {h : Heap} {a : Addr} (x : HOk P w H h) (n : h.get? a = none) : H a = none := by
  cases q : H a with
  | none => rfl
  | some o =>
    obtain ⟨u, z⟩ := objok_there (x a o q)
    rw [n] at z
    cases z
/-- a class of the text's own whose road to the built-in one is bare -/
structure XMake (K : PySem.W.Frag) (C : Addr) : Prop where
  ex : ∃ B nid iid bmB, ExcBaseFacts B nid iid bmB ∧ excIn K C bmB nid = true
/-- what an own class is, as an object -/
theorem XMake.obj {K : PySem.W.Frag} {C : Addr} {h : Heap} (m : XMake K C) (X : K.In h) : ∃ B nid iid bmB, ExcBaseFacts B nid iid bmB ∧ ∃ bm ns nm qn bs hd sn sub ab col dd k0 k1 k2 k3 k5 mN,
    h.get? C = some (excClassObj nm qn C ns bs bm hd sn sub ab col dd k0 k1 k2 k3 k5 nid) ∧ h.Ns ns mN ∧ mN "__init__" = none ∧ OwnTail h bmB bm := by
  obtain ⟨B, nid, iid, bmB, F, z⟩ := m.ex
  refine ⟨B, nid, iid, bmB, F, ?_⟩
  unfold excIn at z
  split at z
  · rename_i d0 c0 s0 lk0
    split at z
    · rename_i A0 tl j0 j1 j2 j3 nm0 j5 hm0 hs0
      rw [Bool.and_eq_true, Bool.and_eq_true, Bool.and_eq_true, Bool.and_eq_true, Bool.and_eq_true] at z
      obtain ⟨⟨⟨⟨⟨z1, z2⟩, z3⟩, z4⟩, z5⟩, z6⟩ := z
      rw [beq_iff_eq.mp z1] at hm0
      rw [beq_iff_eq.mp z2] at hs0
      obtain ⟨n0, b0, r0, y0, q0, h0, t0, u0, a0, l0, del0⟩ := c0
      have e3 : del0 = false := by simpa using z3
      have e1 : r0 = .ref C :: tl := hm0
      have e2 : s0 = #[j0, j1, j2, j3, some (.builtin nid), j5] := by
        cases s0
        exact congrArg Array.mk hs0
      subst e1 e2 e3
      have g1 := Heap.Ns.of_isNs (isNs_of_in X z5)
      have g2 := nsMap_none_of_in X z5 (beq_iff_eq.mp z6)
      exact ⟨tl, y0, n0, q0, b0, h0, t0, u0, a0, l0, d0, j0, j1, j2, j3, j5, _, X _ _ lk0, g1, g2, tail_of_in X z4⟩
    · cases z
  · cases z
def tRaise (t : TA) (C : Addr) (W : XK) : TS := fun _ σ H => t σ H fun vs H1 => vs.length ≤ sizeLine ∧ W (.ref C) none H1
theorem ps_raise {X : Cx} {W : XK} {C : Addr} {x : Str} {np cpos pos : Pos} {e : Expr} {es : List Expr} {t : TA} (L : Lifts X W) (m : XMake X.K C) (hc : X.calm = true) (hg : Gl X x) (hm : X.mg x = some (.ref C)) (ha : PA X (e :: es) t)
    (hs : starEach (e :: es) X.env = (false, eval e X.env) :: starEach es X.env := by rfl) (hpl : (backTo cpos (starEach (e :: es) X.env)).any (·.1) = false := by rfl) (hdb : (x == ("__debug__" : Str)) = false := by decide) :
    PS X (.Raise (some (.Call (.Name x np) (e :: es) [] cpos)) none pos) (tRaise t C W) := by
  intro pins s σ H D I h
  obtain ⟨B, nid, iid, bmB, F, bm, ns, nm, qn, bs, hd, sn, sub, ab, col, dd, k0, k1, k2, k3, k5, mN, lc, ln, hni, TL⟩ := m.obj I.mod.kin
  refine wpAny_Raise_call_subT (nm := nm) (q := qn) (N := ns) (bs := bs) (hdct := hd) (sn := sn) (sub := sub) (ab := ab) (col := col) (dd := dd) (k0 := k0) (k1 := k1) (k2 := k2) (k3 := k3) (k5 := k5) F (TL.hasType F.hasBase) (I.ok.hd hc) hpl hni (ld_glob I hg hm ⟨rfl, ?_⟩ hdb)
  have ar := ha cpos pins s σ H _ I h
  rw [hs] at ar ⊢
  refine evalArgs_plain (thn ar fun us s1 ⟨vs, H1, I1, r, z, q⟩ => ?_)
  refine ⟨rfl, by rw [← r.length]; exact z, I1.bk _ _ lc, ln.keeps I1.bk, TL.keeps I1.bk, fun h' e' M => ?_⟩
  obtain ⟨t0, ht, _, _⟩ := M.there
  have I2 : Inv X pins σ H1 { s1 with heap := h' } := I1.kept (t' := s1.toks) M.keeps
  refine L _ _ ⟨pins, σ, H1, e', C, [e'], rfl, I2, ⟨_, _, ht, ⟨rfl, rfl⟩, rfl, Nat.lt_of_sub_pos (Nat.zero_lt_succ 4), .inl ⟨rfl, rfl⟩⟩, fun b hb => ?_, q⟩
  cases List.mem_singleton.mp hb
  exact I1.fpX M.new (hok_none I1.hok M.new)
/-- a def of the text that may raise -/
theorem Fun.okX {P : Program} {w : World} {K : PySem.W.Frag} {mg : Str → Option Value} {base : Heap} {x qual : Str} {st : Stmt} {f : Addr} {fd : FuncData} {N ps : List Str} {k : Nat} {sp : Sp} (F : Fun K x qual st f fd) (S : FnScope N ps (defScope st))
    (len : ∀ vs H Q E, sp vs H Q E → vs.length = ps.length)
    (hbody : ∀ (cdv : Value) (A : Around) (outer : List Env) (s : Shared) (H : Hp) (vs : List V) (Q : VK) (E : XK), Room k (A.deeper (envOfC qual (defScope st) s.heap.objs.size f cdv)) → sp vs H Q E →
      ∃ t, PSs (cxOf (CX1 P w) P w K mg base N qual (defScope st) f cdv A outer s H E) (defBody st) t ∧ t { nx := fun _ H' => Q .non H', rt := Q } (start N vs) H) : FnOk P w K mg base (CX1 P w) (k + 1) f fd ps sp := by
  obtain ⟨oc, od, kV, doc, pm, an, cdv, ct, osl, rfl, lk, hcd⟩ := F.ex
  exact fn_of lk hcd S len fun A outer s H vs Q E hr hsp => hbody cdv A outer s H vs Q E hr hsp
end L2
/-! try and except of the text's own classes, over the hand layer. -/
namespace L2
open PySem PySem.W PySem.Spec PySem.Calls PyProof.Rows
/-- within a try: what comes up is wanted as Z says; what was pinned stays so -/
abbrev Cx.tried (X : Cx) (pins : List (Addr × Obj)) (Z : Value → Shared → Prop) : Cx := { X with pn := X.pn ++ pins, xe := Z }
/-- within a suite: e is handled, and pinned; nothing comes up -/
abbrev Cx.suite (X : Cx) (pins : List (Addr × Obj)) (e : Addr) : Cx := { X with A := X.A.mark (some (.ref e)), calm := false, pn := X.pn ++ pins, xe := fun _ _ => False }
section
variable {X : Cx} {pins ps : List (Addr × Obj)} {σ : St} {H : Hp} {s : Shared} {Z : Value → Shared → Prop} {e : Addr}
theorem Inv.tried (I : Inv X pins σ H s) (Z : Value → Shared → Prop) : Inv (X.tried pins Z) [] σ H s :=
  ⟨⟨I.ok.mod, I.ok.kind, I.ok.glob, I.ok.blt, I.ok.above, I.ok.inj, I.ok.has, I.ok.cab, I.ok.hd, I.ok.frames, I.ok.stk, I.ok.exf, I.ok.bs, I.ok.bsz, I.ok.noex, I.ok.exfs, I.ok.funs, I.ok.frf⟩,
    I.os, I.bare, I.base, I.loc, I.cell, I.free, I.freeC, fun p hp => I.pin p (by simpa using hp), I.hok, I.len⟩
theorem Inv.untried (I : Inv (X.tried pins Z) ps σ H s) : Inv X pins σ H s :=
  ⟨⟨I.ok.mod, I.ok.kind, I.ok.glob, I.ok.blt, I.ok.above, I.ok.inj, I.ok.has, I.ok.cab, I.ok.hd, I.ok.frames, I.ok.stk, I.ok.exf, I.ok.bs, I.ok.bsz, I.ok.noex, I.ok.exfs, I.ok.funs, I.ok.frf⟩,
    I.os, I.bare, I.base, I.loc, I.cell, I.free, I.freeC, fun p hp => I.pin p (List.mem_append_left _ hp), I.hok, I.len⟩
theorem Inv.suite (I : Inv X pins σ H s) (e : Addr) (hz : (X.A.mark (some (.ref e))).frames = X.A.frames) : Inv (X.suite pins e) [] σ H s :=
  ⟨⟨I.ok.mod, I.ok.kind, I.ok.glob, I.ok.blt, I.ok.above, I.ok.inj, I.ok.has, I.ok.cab, fun z => (Bool.noConfusion z), hz.trans I.ok.frames, I.ok.stk, I.ok.exf, I.ok.bs, I.ok.bsz, I.ok.noex, I.ok.exfs, I.ok.funs, I.ok.frf⟩,
    I.os, I.bare, I.base, I.loc, I.cell, I.free, I.freeC, fun p hp => I.pin p (by simpa using hp), I.hok, I.len⟩
theorem Inv.unsuite (I : Inv (X.suite pins e) ps σ H s) (c : X.calm = true → X.A.handled = none) (hz : (X.A.mark (some (.ref e))).frames = X.A.frames) : Inv X pins σ H s :=
  ⟨⟨I.ok.mod, I.ok.kind, I.ok.glob, I.ok.blt, I.ok.above, I.ok.inj, I.ok.has, I.ok.cab, c, hz.symm.trans I.ok.frames, I.ok.stk, I.ok.exf, I.ok.bs, I.ok.bsz, I.ok.noex, I.ok.exfs, I.ok.funs, I.ok.frf⟩,
    I.os, I.bare, I.base, I.loc, I.cell, I.free, I.freeC, fun p hp => I.pin p (List.mem_append_left _ hp), I.hok, I.len⟩
/-- the name of the exception goes behind the suite -/
theorem Inv.forget (I : Inv X pins σ H s) : Inv X pins (List.replicate X.N.length none) H s :=
  I.weak (by rw [List.length_replicate]; exact I.len.symm) fun i v q => by
    rw [List.getElem?_replicate] at q
    split at q <;> cases q
theorem name_goes {M : Model} {A : Around} {E : Value → Shared → Prop} {n : Str} {pos : Pos} {Q : Unit → Shared → Prop} (I : Inv X pins σ H s) (hl : X.env.kindOf n = some .local) (h : ∀ s', Inv X pins (List.replicate X.N.length none) H s' → Q () s') :
    wpAny M A (do bindName X.env n .none; unbindBehindTheSuite X.env n pos) Q E s := by
  obtain ⟨m, hn, _⟩ := id I.loc
  obtain ⟨oL, _, _, hoL, _⟩ := id hn
  refine wpAny_nameGoes hl hn (by rw [I.ok.kind]; rfl) fun h' m' hn' hs => h _ ?_
  have kp : ∀ b o, b ≠ X.env.locals → s.heap.get? b = some o → h'.get? b = some o := fun b o nb q => (hs.2 b nb).trans q
  have far : ∀ b o, X.s₀.heap.get? b = some o → b ≠ X.env.locals := fun b o q z => absurd (Heap.lt_size q) (by rw [z]; exact Nat.not_lt.mpr I.ok.above)
  have u := I.base
  refine ⟨I.ok, I.os, I.bare, ⟨fun b o q nn hb hx => kp b o (far b o q) (u.keep b o q nn hb hx), fun b o q nn hb hx => ?_, u.free, fun b o q hx => ?_, u.tups, u.frzs, u.tbls⟩, ⟨m', hn', fun i x v _ q _ => ?_⟩, fun x c q => ?_, I.free, I.freeC, fun p hp => ?_, fun b ob q => ?_, List.length_replicate⟩
  · obtain ⟨sl, q1⟩ := u.slot b o q nn hb hx
    exact ⟨sl, kp b _ (far b o q) q1⟩
  · obtain ⟨o', q1⟩ := u.there b o q hx
    exact ⟨o', kp b o' (far b o q) q1⟩
  · rw [List.getElem?_replicate] at q
    split at q <;> cases q
  · obtain ⟨v, o, ho, hd⟩ := I.cell x c q
    exact ⟨v, o, kp c o (I.cne x c q) ho, hd⟩
  · obtain ⟨q, nn, ne, nf, d⟩ := I.pin p hp
    exact ⟨kp p.1 p.2 ne q, nn, ne, nf, d⟩
  · refine (I.hok b ob q).stay (fun c w' hc q2 => kp c w' (fun z => ?_) q2) (fun _ z => z) fun _ _ z => z
    have hcH : ∃ o, H c = some o := by
      rcases hc with z | z
      · rw [z]
        exact ⟨_, q⟩
      · exact ⟨_, z⟩
    obtain ⟨oc, hoc⟩ := hcH
    rw [z, I.free] at hoc
    cases hoc
/-- the place of its flight is taken away once more -/
theorem flight_wp {M : Model} {A : Around} {E : Value → Shared → Prop} {e C T : Addr} {fs : List Addr} {Q : Unit → Shared → Prop} (F : Fly s.heap e C [e, T]) (h : ∀ h', Noted fs [e, T] s.heap h' → Fly h' e C [e, T] → Q () { s with heap := h' }) :
    wpAny M A (setFlight (.ref e) none) Q E s := by
  obtain ⟨oe, vs, he, hc, hd, hz, ⟨_, z⟩ | ⟨T', oT, ts, h1, nT, hT, hdT, h3, z⟩⟩ := F
  · cases z
  · cases z
    unfold setFlight
    refine wpAny_bind (wpAny_field he hd h1 ?_)
    rw [if_pos (show (Value.ref T != Value.none) = true from by simp)]
    have l3 := (Array.getElem?_eq_some_iff.mp h3).1
    refine wpAny_setField hT hdT l3 ?_
    have d4 := Obj.data_mapFields hdT (·.setIfInBounds 3 ((none : Option Addr).elim Value.none fun f => rawInt f))
    have g4 := Heap.get?_update_self (Obj.mapFields (·.setIfInBounds 3 ((none : Option Addr).elim Value.none fun f => rawInt f))) hT (Obj.isFreed_of_fields d4)
    have oth : ∀ b, b ≠ T → (s.heap.update T (Obj.mapFields (·.setIfInBounds 3 ((none : Option Addr).elim Value.none fun f => rawInt f)))).get? b = s.heap.get? b := fun b hb => Heap.get?_update_other _ _ (Ne.symm hb)
    refine h _ ⟨fun b o q nb _ => (oth b fun z => nb (by simp [z])).trans q, fun b o q nb => ⟨o.slots, (oth b fun z => nb (by simp [z])).trans q⟩, fun b o q => ?_⟩ ⟨oe, vs, (oth e (Ne.symm nT)).trans he, hc, hd, hz, .inr ⟨T, _, _, h1, nT, g4, d4, ?_, rfl⟩⟩
    · by_cases z : b = T
      · rw [z]
        exact ⟨_, g4⟩
      · exact ⟨o, (oth b z).trans q⟩
    · rw [Array.getElem?_setIfInBounds_self_of_lt l3]
      rfl
/-- a try with one except, as a name: the suite returns; G: what it wants of what is returned -/
def tTry (tb : TS) (G : VK → Prop) : TS := fun D σ H => tb D σ H ∧ G D.rt
theorem ps_try {body : List Stmt} {x n : Str} {np hpos pos : Pos} {b0 : Stmt} {suite : List Stmt} {tb : TS} {W : XK} {G : VK → Prop} {i N : Nat} {D : Addr} (hN : X.N.length = N) (hnd : X.N.Nodup) (hi : X.N[i]? = some n) (hl : X.env.kindOf n = some .local)
    (hg : Gl X x) (hm : X.mg x = some (.ref D)) (hx : ∀ C H, W (.ref C) none H → exmOne X.K (.ref C) (.ref D) = some true)
    (hb : ∀ pins Z, Lifts (X.tried pins Z) W → PSs (X.tried pins Z) body tb)
    (hs : ∀ pins e C oe H' rt, W (.ref C) none H' → H' e = none → (e, oe) ∈ pins → (oe.cls = .ref C ∧ oe.dict = none) → (∃ vs, oe.data = .fields vs) → G rt → ∃ ts, PSs (X.suite pins e) (b0 :: suite) ts ∧ ts { nx := fun _ _ => False, rt := rt } ((List.replicate N none).set i (some (.ref e))) H')
    (hst : X.stack = X.env :: X.outer := by rfl) (hfr : X.env.frame = some X.env.locals := by rfl) (hdb : (x == ("__debug__" : Str)) = false := by decide) :
    PS X (.Try body [.ExceptHandler (some (.Name x np)) (some n) (b0 :: suite) hpos] [] [] pos) (tTry tb G) := by
  intro pins s σ H B I ⟨h1, h2⟩
  refine wpAny_Try_except ?_
  have mono : ∀ Z, Lifts (X.tried pins Z) W → wpAny (model X.prog X.w) X.A (execs body X.env) (fun f s₁ => match f with | .next => wpAny (model X.prog X.w) X.A (execs [] X.env) (SP X pins B) X.xe s₁ | f => SP X pins B f s₁) Z s := fun Z L => by
    refine wpAny_mono (hb pins Z L [] s σ H B (I.tried Z) h1) (fun f s1 q => ?_) fun _ _ z => z
    cases f with
    | next =>
      obtain ⟨σ', H', J, q⟩ := q
      exact wpAny_execs_nil ⟨σ', H', J.untried, q⟩
    | brk =>
      obtain ⟨σ', H', J, q⟩ := q
      exact ⟨σ', H', J.untried, q⟩
    | cont =>
      obtain ⟨σ', H', J, q⟩ := q
      exact ⟨σ', H', J.untried, q⟩
    | ret u =>
      obtain ⟨v, σ', H', J, r, q⟩ := q
      exact ⟨v, σ', H', J.untried, r, q⟩
  refine mono _ ?_
  rintro ev s' ⟨pins', σ', H', e, C, fp, rfl, I', F, hf, hw⟩
  have fr : X.A.frames = some (X.env :: X.outer) := I.ok.frames.trans (by rw [hst])
  have st : s'.heap.FunFrames X.base (X.env :: X.outer) := by
    have z := I'.stack
    rw [show (X.tried pins _).stack = X.env :: X.outer from hst] at z
    exact z
  refine note_wp (base := X.base) (outer := X.outer) fr st hfr F fun h' T z1 z2 NN F' => ?_
  rw [← hst] at NN
  have fT : FpX X pins H' T := (I'.untried).fpX (Heap.get?_none_of_le z1) (I'.hok.fresh z1)
  have fe : FpX X pins H' e := by
    obtain ⟨k0, k1, k2, k3, k4, k5⟩ := hf e F.self
    exact ⟨k0, k1, k2, k3, k4, fun p hp => k5 p (List.mem_append_left _ hp)⟩
  have I2 : Inv X pins (List.replicate X.N.length none) H' { s' with heap := h' } := (I'.noted NN hf).untried.forget
  have I3 := I2.suite e rfl
  have hfp : ∀ b ∈ [e, T], FpX X pins H' b := fun b hb => by
    rcases List.mem_cons.mp hb with z | z
    · rw [z]
      exact fe
    · rw [List.mem_singleton.mp z]
      exact fT
  refine wpAny_handleBy_cons (codeAny_handlers_test (ld_glob I3 hg hm ?_ hdb)) (by intro q; cases q)
  have LT : Looks (model X.prog X.w) h' (typeOf (.ref e)) (.ref C) := by
    obtain ⟨oe, _, he, hc, _⟩ := F'
    exact hc.1 ▸ (Looks.ld he).andThen .now
  refine (exm_one I3.kIn LT (hx C H' hw)).here ?_
  refine codeAny_handlers_suite_as (flight_wp (fs := frs X.stack) F' fun h5 N5 F5 => ?_)
  have I5 : Inv X pins (List.replicate X.N.length none) H' { s' with heap := h5 } := I2.noted N5 hfp
  obtain ⟨oe, vs, he, hc, hd, _⟩ := F5
  have I6 : Inv X (pins ++ [(e, oe)]) (List.replicate X.N.length none) H' { s' with heap := h5 } := I5.pins_of fun p hp => by
    rcases List.mem_append.mp hp with z | z
    · exact I5.pin p (List.mem_append_right _ z)
    · rw [List.mem_singleton.mp z]
      exact ⟨he, fe.1, fe.2.1, fe.2.2.1, fun v q => by rw [hd] at q; cases q⟩
  have I7 := I6.suite e rfl
  refine store_ok (X := X.suite (pins ++ [(e, oe)]) e) I7 hnd hi (.inl hl) (v := .ref e) rfl (fun s6 I8 => ?_) (.inr hl)
  obtain ⟨ts, ht, g⟩ := hs (pins ++ [(e, oe)]) e C oe H' _ hw fe.1 (by simp) hc ⟨vs, hd⟩ h2
  rw [← hN] at g
  refine wpAny_mono (ht [] s6 _ H' _ I8 g) (fun f s7 q => ?_) fun _ _ z => z.elim
  cases f with
  | next =>
    obtain ⟨_, _, _, q⟩ := q
    exact q.elim
  | brk =>
    obtain ⟨_, _, _, q⟩ := q
    exact q.elim
  | cont =>
    obtain ⟨_, _, _, q⟩ := q
    exact q.elim
  | ret u =>
    obtain ⟨v, σ7, H7, J, r, q⟩ := q
    have J2 := J.unsuite I.ok.hd rfl
    refine name_goes J2 hl fun s8 J3 => ⟨v, _, H7, J3.pins_of fun p hp => J3.pin p ?_, r, q⟩
    exact List.mem_append_right _ (List.mem_append_left _ hp)
/-- isinstance of the exception that is handled -/
theorem call_isexc {C : Addr} {oe : Obj} (XC : XClass X.K C) (hp : (e, oe) ∈ X.pn) (hc : oe.cls = .ref C ∧ oe.dict = none) (hd : ∃ vs, oe.data = .fields vs) :
    CallR X (.builtin "isinstance") (fun xs H Q => (∃ D b, xs = [.ref e, .ref D] ∧ kitOne X.K (.ref C) (.ref D) = some b ∧ Q (.bl b) H) ∨ ∃ n b, xs = [.ref e, .ty n] ∧ kitOne X.K (.ref C) (.type n) = some b ∧ Q (.bl b) H) := by
  intro pins s σ H xs us Q I r h
  have at0 : InstAt s.heap e oe C none := by
    obtain ⟨vs, hd⟩ := hd
    refine ⟨(I.pin _ (List.mem_append_left _ hp)).1, hc.1, ?_, ?_⟩
    · unfold notCls
      rw [hd]
    · rw [hc.2]
      trivial
  rcases h with ⟨D, b, rfl, k, q⟩ | ⟨n, b, rfl, k, q⟩
  · obtain ⟨u, c, rfl, ru, rc⟩ := r.two
    cases ru
    cases rc
    exact kia_one (kitx_exc (oe := oe) XC) I.kIn at0 k (fun z => nomatch z) fun tk => ⟨.bl b, H, I.tok tk, rfl, q⟩
  · obtain ⟨u, c, rfl, ru, rc⟩ := r.two
    cases ru
    cases rc
    exact kia_one (kitx_exc (oe := oe) XC) I.kIn at0 k (fun z => nomatch z) fun tk => ⟨.bl b, H, I.tok tk, rfl, q⟩
end
/-- a def of the text that may raise, called -/
structure CalX (P : Program) (w : World) (K : PySem.W.Frag) (mg : Str → Option Value) (base : Heap) (k : Nat) (x : Str) (dvs : List V) (sp : Sp) : Prop where
  ex : ∃ (f : Addr) (fd : FuncData) (ps : List Str) (ds : List Value), FnOk P w K mg base (CX1 P w) k f fd ps sp ∧ mg x = some (.ref f) ∧ keepIn K (.ref f) = true ∧ Binds K fd ps ds ∧ Vals dvs ds
theorem pass1 {X : Cx} : Passes (CX1 X.prog X.w) X E0 := by
  rintro pins σ H s ev s' I ⟨e, C, fp, H', rfl, F, hf, os, bare, un, hok, hw⟩
  exact hw.elim
theorem pe_calX {X : Cx} {k : Nat} {sp : Sp} {dvs : List V} {W : XK} {x : Str} {p pos : Pos} {e : Expr} {es : List Expr} {t : TA} (c : CalX X.prog X.w X.K X.mg X.base k x dvs sp) (ps : Passes (CX1 X.prog X.w) X W) (hr : Room k X.A) (hg : Gl X x) (ha : PA X (e :: es) t)
    (hdb : (x == ("__debug__" : Str)) = false := by decide) (hse : starEach (e :: es) X.env = (false, eval e X.env) :: starEach es X.env := by rfl) (hpl : (backTo pos (starEach es X.env)).any (·.1) = false := by rfl) :
    PE X (.Call (.Name x p) (e :: es) [] pos) (tCall sp dvs W t) := by
  obtain ⟨f, fd, qs, ds, F, hm, hk, hb, hd⟩ := c.ex
  exact pe_call F hr hg hm hk hb hd ps ha hdb hse hpl
end L2
namespace K04
open PySem L2
local macro_rules | `(tactic| walk_at "rd") => `(tactic| simp [tRet, tOp, rI, rI0, rU, tUn, tVar, tC, L2.start, tSeq, tIfS, tTest, tAsg, gName, tCall, tCons, tNil, tCB, tNext, tDrop, tAndV, tOrV, tNotV, tChain, tAnd, tOr, tNot, tB, rEq, rNe, scal, tTup, tLst, gTup, gCons, gNil, rIxL, rIxT, rIxS, and_assoc, cxK, tFor_rng1, tFor_lst, rNeD, rEqD, tBM, rAppend, spAt, tRaise])
/-- the text's own errors -/
structure TxtX (K : PySem.W.Frag) (mg : Str → Option Value) (se bp bs bi ba un : Addr) : Prop where
  c_se : mg "ScreenError" = some (.ref se)
  c_bp : mg "BadPicture" = some (.ref bp)
  c_bs : mg "BadSize" = some (.ref bs)
  c_bi : mg "BadInk" = some (.ref bi)
  c_ba : mg "BadPaper" = some (.ref ba)
  c_u : mg "Unlike" = some (.ref un)
  n_ve : mg "ValueError" = none
  xm : XMake K un
  xc : XClass K un
  k_se : PySem.W.exmOne K (.ref un) (.ref se) = some true
  k_bp : PySem.W.kitOne K (.ref un) (.ref bp) = some false
  k_bs : PySem.W.kitOne K (.ref un) (.ref bs) = some false
  k_bi : PySem.W.kitOne K (.ref un) (.ref bi) = some false
  k_ba : PySem.W.kitOne K (.ref un) (.ref ba) = some false
  k_u : PySem.W.kitOne K (.ref un) (.ref un) = some true
  k_ve : PySem.W.kitOne K (.ref un) (.type "ValueError") = some true
section
variable {P : Program} {w : World} {K : PySem.W.Frag} {mg : Str → Option Value} {base : Heap} {f : Addr} {fd : FuncData} {se bp bs bi ba un : Addr}
/-- the places, or Unlike -/
def spUnlike (K : PySem.W.Frag) (un : Addr) : Sp := fun vs H Q E => ∃ x y p q w h w' h', vs = [x, y] ∧ Rep K H (picD p) x ∧ Rep K H (picD q) y ∧ IsPic p w h ∧ IsPic q w' h' ∧
  (w = w' ∧ h = h' → ∀ r xs H', Same H H' → H r = none → H' r = some (.lst xs) → Tups H' (dif p q w h) xs → Q (.ref r) H') ∧ (¬ (w = w' ∧ h = h') → ∀ H', Same H H' → E (.ref un) none H')
def spOneSize (K : PySem.W.Frag) (un : Addr) : Sp := fun vs H Q E => ∃ x y p q w h w' h', vs = [x, y] ∧ Rep K H (picD p) x ∧ Rep K H (picD q) y ∧ IsPic p w h ∧ IsPic q w' h' ∧
  (w = w' ∧ h = h' → ∀ H', Same H H' → Q .non H') ∧ (¬ (w = w' ∧ h = h') → ∀ H', Same H H' → E (.ref un) none H')
theorem okX_need_one_size (F : Fun K "need_one_size" "need_one_size" s_need_one_size f fd) (T : Txt K mg) (X : TxtX K mg se bp bs bi ba un) (c_size_of : Cal P w K mg base 1 "size_of" [] (spSizeOf K)) : FnOk P w K mg base (CX1 P w) 2 f fd ["one", "other"] (spOneSize K un) := by
  have nd := sc_need_one_size.nd
  refine F.okX sc_need_one_size (fun vs H Q E h => ?_) (fun cdv A outer s H vs Q E hr h => ?_)
  · obtain ⟨x, y, p, q, w, h, w', h', rfl, _⟩ := h
    rfl
  · obtain ⟨x, y, p, q, w, h, w', h', rfl, hx, hy, ip, iq, k, ku⟩ := h
    have hu := hr.units
    refine ⟨_, (pss_one (ps_if (pt_cmpR (op_neD hu) (pe_cal c_size_of (hr.mono (by decide)) rfl (QA.pa (qc (pv 0) qn))) (pe_cal c_size_of (hr.mono (by decide)) rfl (QA.pa (qc (pv 1) qn))) (nomark _)) (pss_one (ps_raise lifts_def X.xm rfl rfl X.c_u (QA.pa (qc pe_str qn)))) pss_nil)), ?_⟩
    walk_at "rd"
    refine ⟨x, p, w, h, rfl, hx, ip, fun t1 g1 => ⟨y, q, w', h', rfl, Rep.same (same_new g1) _ _ hy, iq, fun t2 g2 => ?_⟩⟩
    have r1 : upd (upd H t1 (HO.tup [V.int w, V.int h])) t2 (HO.tup [V.int w', V.int h']) t1 = some (HO.tup [V.int w, V.int h]) := same_new g2 _ _ upd_same
    refine ⟨pairD (w, h), ⟨t1, _, rfl, SqT.of r1, _, _, rfl, rfl, _, _, rfl, rfl, rfl⟩, pairD (w', h'), ⟨t2, _, rfl, SqT.of upd_same, _, _, rfl, rfl, _, _, rfl, rfl, rfl⟩, shaped_pair _, shaped_pair _, ?_⟩
    rw [eqv_pair]
    by_cases z : w = w' ∧ h = h'
    · exact .inl ⟨decide_eq_true (by rw [z.1, z.2]), k z _ ((same_new g1).trans (same_new g2))⟩
    · refine .inr ⟨decide_eq_false fun q => z ?_, by decide, ku z _ ((same_new g1).trans (same_new g2))⟩
      have q1 := congrArg Prod.fst q
      have q2 := congrArg Prod.snd q
      simp only [Int.natCast_inj] at q1 q2
      exact ⟨q1, q2⟩
theorem okX_unlike_cells (F : Fun K "unlike_cells" "unlike_cells" s_unlike_cells f fd) (T : Txt K mg) (X : TxtX K mg se bp bs bi ba un) (c_need_one_size : CalX P w K mg base 2 "need_one_size" [] (spOneSize K un)) : FnOk P w K mg base (CX1 P w) 3 f fd ["one", "other"] (spUnlike K un) := by
  have nd := sc_unlike_cells.nd
  refine F.okX sc_unlike_cells (fun vs H Q E h => ?_) (fun cdv A outer s H vs Q E hr h => ?_)
  · obtain ⟨x, y, p, q, w, h, w', h', rfl, _⟩ := h
    rfl
  · obtain ⟨x, y, p, q, w, h, w', h', rfl, hx, hy, ip, iq, k, ku⟩ := h
    have hu := hr.units
    refine ⟨_, (pss_cons (ps_expr (pe_calX c_need_one_size lifts_def.passes (hr.mono (by decide)) rfl (QA.pa (qc (pv 0) (qc (pv 1) qn)))))
      (PSs.nox (pss_cons (ps_set (i := 2) nd rfl (Or.inl rfl) (pe_lstq qn))
      (pss_cons (ps_for PassesOwn.never rfl (pi_range1 rfl T.n_range (QA.pa (qc (pe_callB call_len_seq (by rfl) T.n_len (by rfl) (QA.pa (qc (pv 0) qn))) qn))) (pg_name (i := 3) nd rfl (Or.inl rfl))
      (pss_one (ps_for PassesOwn.never rfl (pi_range1 rfl T.n_range (QA.pa (qc (pe_callB call_len_seq (by rfl) T.n_len (by rfl) (QA.pa (qc (pe_ix ix_list (pv 0) (pv 3) (fun _ _ => rfl)) qn))) qn))) (pg_name (i := 4) nd rfl (Or.inl rfl))
      (pss_one (ps_if (pt_cmpR (op_neD hu) (pe_ix ix_list (pe_ix ix_list (pv 0) (pv 3) (fun _ _ => rfl)) (pv 4) (fun _ _ => rfl)) (pe_ix ix_list (pe_ix ix_list (pv 1) (pv 3) (fun _ _ => rfl)) (pv 4) (fun _ _ => rfl)) (nomark _)) (pss_one (ps_expr (pe_bm PySem.F.plainAttrs_list PySem.F.slot_list_append PySem.F.type_list_append mt_append (pv 2) (QA.pa (qc (pe_tupq (qc (pv 3) (qc (pv 4) qn))) qn))))) pss_nil)))))
      (pss_one (ps_ret (pv 2))))))), ?_⟩
    refine seq_cut (fun σ1 H1 => (w = w' ∧ h = h') ∧ σ1 = [some x, some y, none, none, none] ∧ Same H H1) (fun R hR => ?_) ?_
    · walk_at "rd"
      exact ⟨x, y, p, q, w, h, w', h', rfl, hx, hy, ip, iq, fun z H' hs => hR _ _ ⟨z, rfl, hs⟩, ku⟩
    rintro _ H0 ⟨⟨rfl, rfl⟩, rfl, hs0⟩
    refine seq_cut (fun σ1 H1 => ∃ r, σ1 = [some x, some y, some (.ref r), none, none] ∧ Same H H1 ∧ H r = none ∧ H1 r = some (.lst [])) (fun R hR => ?_) ?_
    · walk_at "rd"
      exact fun r hr0 => hR _ _ ⟨r, rfl, hs0.trans (same_new hr0), hs0.free hr0, upd_same⟩
    rintro _ H1 ⟨r, rfl, hs1, hr0, hr1⟩
    refine seq_cut (fun σ2 H2 => ∃ v3 v4 xs, σ2 = [some x, some y, some (.ref r), v3, v4] ∧ Same H H2 ∧ H2 r = some (.lst xs) ∧ Tups H2 (dif p q w h) xs) (fun R hR => ?_) ?_
    · obtain ⟨a, rfl⟩ := rep_ref hx
      obtain ⟨b, rfl⟩ := rep_ref hy
      have hh1 := ip.h1
      have hh2 := ip.h2
      have hw1 := ip.w1
      have hw2 := ip.w2
      obtain ⟨as, _, _, _, hSa, hla, _⟩ := rep_cell (Rep.same hs1 _ _ hx) ip (i := 0) (j := 0) (by omega) (by omega)
      walk_at "rd"
      refine ⟨as, .inl hSa, by rw [hla]; omega, ?_⟩
      rw [hla]
      refine LoopR.run (fun i σ' H' => ∃ v3 v4 xs, σ' = [some (.ref a), some (.ref b), some (.ref r), v3, v4] ∧ Same H H' ∧ H' r = some (.lst xs) ∧ Tups H' (dif p q w i) xs) ⟨_, _, _, rfl, hs1, hr1, rfl⟩ ?_ (fun σ' H' ⟨v3, v4, xs, e, hs, hr, ht⟩ => hR _ _ ⟨v3, v4, xs, e, hs, hr, ht⟩)
      rintro i _ H' hi ⟨v3, v4, xs, rfl, hs', hr', ht'⟩ R1 hR1
      obtain ⟨as', b0, ys0, _, hSa', hla', hv0, hS0, hl0, _⟩ := rep_cell (Rep.same hs' _ _ hx) ip (i := i) (j := 0) hi (by omega)
      walk_at "rd"
      refine ⟨as', hSa', _, hv0, b0, rfl, ys0, .inl hS0, by rw [hl0]; omega, ?_⟩
      rw [hl0]
      refine LoopR.run (fun j σ' H' => ∃ v4 xs, σ' = [some (.ref a), some (.ref b), some (.ref r), some (.int i), v4] ∧ Same H H' ∧ H' r = some (.lst xs) ∧ Tups H' (dif p q w i ++ rowDif p q i j) xs) ⟨_, _, rfl, hs', hr', by rw [show rowDif p q i 0 = [] from rfl, List.append_nil]; exact ht'⟩ ?_ (fun σ' H' ⟨v4, xs, e, hs, hr, ht⟩ => hR1 _ _ ⟨_, v4, xs, e, hs, hr, by rw [dif_succ]; exact ht⟩)
      rintro j _ H2 hj ⟨w4, zs, rfl, hs2, hr2, ht2⟩ R2 hR2
      obtain ⟨x1, x2, x3, x4, g1, g2, g3, g4, g5, g6, g7, g8⟩ := rep_cell (Rep.same hs2 _ _ hx) ip hi hj
      obtain ⟨y1, y2, y3, y4, f1, f2, f3, f4, f5, f6, f7, f8⟩ := rep_cell (Rep.same hs2 _ _ hy) iq hi hj
      have hzl : zs.length < sizeLine := by
        have z1 := ht2.length
        have z2 := dif_len p q w i
        have z3 := rowDif_len p q i j
        rw [List.length_append] at z1
        have z4 : w * i ≤ 24 * 12 := Nat.mul_le_mul hw2 (by omega)
        exact small1000 (by omega)
      walk_at "rd"
      refine ⟨x1, g1, _, g3, x2, rfl, x3, g4, _, g6, y1, f1, _, f3, y2, rfl, y3, f4, _, f6, _, g7, _, f7, shaped_cel g8, shaped_cel f8, ?_⟩
      rw [eqv_cel]
      by_cases hc : cellAt p i j = cellAt q i j
      · refine .inl ⟨decide_eq_true hc, hR2 _ _ ⟨_, zs, rfl, hs2, hr2, ?_⟩⟩
        rw [rowDif_succ, if_pos hc, List.append_nil]
        exact ht2
      · refine .inr ⟨decide_eq_false hc, .inl ⟨rfl, _, SqL.of hr2⟩, by decide, fun t ht => ?_⟩
        have hrt : r ≠ t := ne_of_none hr2 ht
        refine ⟨zs, by rw [upd_ne hrt]; exact hr2, hzl, hR2 _ _ ⟨_, _, rfl, same_upd (hs2.trans (same_new ht)) hr0, upd_same, ?_⟩⟩
        rw [rowDif_succ, if_neg hc, ← List.append_assoc]
        refine Tups.snoc (p := (((i : Nat) : Int), ((j : Nat) : Int))) (by rw [upd_ne hrt.symm]; exact upd_same) (ht2.same fun b xs e => ?_)
        rw [upd_ne (fun z => by rw [z, hr2] at e; cases e), upd_ne (ne_of_none e ht)]
        exact e
    rintro _ H2 ⟨v3, v4, xs, rfl, hs2, hr2, ht2⟩
    walk_at "rd"
    exact k ⟨rfl, rfl⟩ r xs H2 hs2 hr0 hr2 ht2
end
end K04
namespace K04
open PySem L2
local macro_rules | `(tactic| walk_at "sc") => `(tactic| exact ⟨rfl, rfl, rfl, by decide +kernel, rfl, by decide +kernel, by decide +kernel⟩)
local macro_rules | `(tactic| walk_at "rd") => `(tactic| simp [tRet, tOp, rI, rI0, rU, tUn, tVar, tC, L2.start, tSeq, tIfS, tTest, tAsg, gName, tCall, tCons, tNil, tCB, tNext, tDrop, tAndV, tOrV, tNotV, tChain, tAnd, tOr, tNot, tB, rEq, rNe, scal, tTup, tLst, gTup, gCons, gNil, rIxL, rIxT, rIxS, and_assoc, cxK, tFor_rng1, tFor_lst, rNeD, rEqD, tBM, rAppend, spAt, tRaise, tTry, rIn])
abbrev s__law_refused : Stmt := top 21
theorem sc__law_refused : FnScope ["_law_one", "_law_other", "error", "_law_kinds"] ["_law_one", "_law_other"] (defScope s__law_refused) := by walk_at "sc"
section
variable {P : Program} {w : World} {K : PySem.W.Frag} {mg : Str → Option Value} {base : Heap} {f : Addr} {fd : FuncData} {se bp bs bi ba un : Addr}
def spRefused (K : PySem.W.Frag) : Sp := fun vs H Q _ => ∃ x y p q w h w' h', vs = [x, y] ∧ Rep K H (picD p) x ∧ Rep K H (picD q) y ∧ IsPic p w h ∧ IsPic q w' h' ∧ ¬ (w = w' ∧ h = h') ∧ ∀ H', Same H H' → Q (.bl true) H'
theorem ok_law_refused (F : Fun K "_law_refused" "_law_refused" s__law_refused f fd) (T : Txt K mg) (X : TxtX K mg se bp bs bi ba un) (c_unlike_cells : CalX P w K mg base 3 "unlike_cells" [] (spUnlike K un)) : FnOk P w K mg base CX0 4 f fd ["_law_one", "_law_other"] (spRefused K) := by
  have nd := sc__law_refused.nd
  refine F.ok sc__law_refused (fun vs H Q E h => ?_) (fun cdv A outer s H vs Q E hr h => ?_)
  · obtain ⟨x, y, p, q, w, h, w', h', rfl, _⟩ := h
    rfl
  · obtain ⟨x, y, p, q, w, h, w', h', rfl, hx, hy, ip, iq, hne, k⟩ := h
    have hu := hr.units
    refine ⟨_, pss_cons (ps_try (W := fun c _ H1 => c = .ref un ∧ Same H H1) (G := fun rt => ∀ H1, Same H H1 → rt (.bl true) H1) (N := 4) (i := 2) rfl nd rfl rfl rfl X.c_se (fun C H1 z => by cases z.1; exact X.k_se)
      (fun pins Z L => pss_one (ps_expr (pe_calX c_unlike_cells L.passes (hr.mono (by decide)) rfl (QA.pa (qc (pv 0) (qc (pv 1) qn))))))
      ?hs) (pss_one (ps_ret pe_bl)), ?_⟩
    case hs =>
      intro pins e C oe H1 rt hw he hm hc hd g
      obtain ⟨hw, hsm⟩ := hw
      cases hw
      refine ⟨_, (pss_cons (ps_set (i := 3) nd rfl (Or.inl rfl) (pe_lstq (qc (pe_callB (call_isexc X.xc (List.mem_append_right _ hm) hc hd) (by rfl) T.n_isinstance (by rfl) (QA.pa (qc (pv 2) (qc (pe_glob (v := .ref bp) (by rfl) X.c_bp (by rfl)) qn)))) (qc (pe_callB (call_isexc X.xc (List.mem_append_right _ hm) hc hd) (by rfl) T.n_isinstance (by rfl) (QA.pa (qc (pv 2) (qc (pe_glob (v := .ref bs) (by rfl) X.c_bs (by rfl)) qn)))) (qc (pe_callB (call_isexc X.xc (List.mem_append_right _ hm) hc hd) (by rfl) T.n_isinstance (by rfl) (QA.pa (qc (pv 2) (qc (pe_glob (v := .ref bi) (by rfl) X.c_bi (by rfl)) qn)))) qn)))))
      (pss_cons (ps_expr (pe_bm PySem.F.plainAttrs_list PySem.F.slot_list_append PySem.F.type_list_append mt_append (pv 3) (QA.pa (qc (pe_callB (call_isexc X.xc (List.mem_append_right _ hm) hc hd) (by rfl) T.n_isinstance (by rfl) (QA.pa (qc (pv 2) (qc (pe_glob (v := .ref ba) (by rfl) X.c_ba (by rfl)) qn)))) qn))))
      (pss_one (ps_ret (pe_and (pe_callB (call_isexc X.xc (List.mem_append_right _ hm) hc hd) (by rfl) T.n_isinstance (by rfl) (QA.pa (qc (pv 2) (qc (pe_glob (v := .ref un) (by rfl) X.c_u (by rfl)) qn)))) (pe_and (pe_callB (call_isexc X.xc (List.mem_append_right _ hm) hc hd) (by rfl) T.n_isinstance (by rfl) (QA.pa (qc (pv 2) (qc (pe_bltn (v := .ty "ValueError") (u := .type "ValueError") (by rfl) X.n_ve (by rfl) (by rfl)) qn)))) (pe_one (pe_cmpR op_notIn_seq pe_bl (pv 3) (by rfl))))))))), ?_⟩
      walk_at "rd"
      simp [X.k_bp, X.k_bs, X.k_bi, X.k_ba, X.k_u, X.k_ve, flatV]
      refine ⟨by decide, fun t ht => ⟨.inl ⟨rfl, _, SqL.of upd_same⟩, _, upd_same, by decide, _, .inl (SqL.of upd_same), fun v hv => ?_, ?_⟩⟩
      · simp only [List.cons_append, List.nil_append, List.mem_cons, List.not_mem_nil, or_false] at hv
        rcases hv with rfl | rfl | rfl | rfl <;> rfl
      · have z : (!inV (V.bl true) ([V.bl false, V.bl false, V.bl false] ++ [V.bl false])) = true := by decide
        rw [z]
        exact g _ (same_upd (hsm.trans (same_new ht)) (hsm.free ht))
    walk_at "rd"
    exact ⟨⟨x, y, p, q, w, h, w', h', rfl, hx, hy, ip, iq, fun z => absurd z hne, fun _ H1 hs => ⟨rfl, hs⟩⟩, k⟩
end
end K04
namespace K04
open PySem L2
local macro_rules | `(tactic| walk_at "sc") => `(tactic| exact ⟨rfl, rfl, rfl, by decide +kernel, rfl, by decide +kernel, by decide +kernel⟩)
local macro_rules | `(tactic| walk_at "rd") => `(tactic| simp [tRet, tOp, rI, rI0, rU, tUn, tVar, tC, L2.start, tSeq, tIfS, tTest, tAsg, gName, tCall, tCons, tNil, tCB, tNext, tDrop, tAndV, tOrV, tNotV, tChain, tAnd, tOr, tNot, tB, rEq, rNe, scal, tTup, tLst, gTup, gCons, gNil, rIxL, rIxT, rIxS, and_assoc, cxK, tFor_rng1, tFor_lst, rNeD, rEqD, tBM, rAppend, spAt, tRaise, tTry, rIn])
abbrev s__law_right : Stmt := top 20
theorem sc__law_right : FnScope ["_law_one", "_law_other", "_law_due_here", "_law_found", "_law_place"] ["_law_one", "_law_other", "_law_due_here"] (defScope s__law_right) := by walk_at "sc"
section
variable {P : Program} {w : World} {K : PySem.W.Frag} {mg : Str → Option Value} {base : Heap} {f : Addr} {fd : FuncData} {se bp bs bi ba un : Addr}
theorem ok_law_at (F : Fun K "_law_at" "_law_at" s__law_at f fd) (T : Txt K mg) : FnOk P w K mg base CX0 1 f fd ["_law_script", "_law_k"] (spAt K) := by
  have nd := sc__law_at.nd
  refine F.ok sc__law_at (fun vs H Q E h => ?_) (fun cdv A outer s H vs Q E hr h => ?_)
  · obtain ⟨a, ns, k, rfl, _⟩ := h
    rfl
  · obtain ⟨a, ns, k, rfl, hS, hl, k0, k1, q⟩ := h
    refine ⟨_, (pss_cons (ps_set (i := 2) nd rfl (Or.inl rfl) pe_int)
      (pss_cons (ps_if (pt_cmpR op_gt (pe_callB call_len_seq (by rfl) T.n_len (by rfl) (QA.pa (qc (pv 0) qn))) pe_int (nomark _)) (pss_one (ps_set (i := 2) nd rfl (Or.inl rfl) (pe_ix ix_list (pv 0) (pe_op op_mod (pv 1) (pe_callB call_len_seq (by rfl) T.n_len (by rfl) (QA.pa (qc (pv 0) qn)))) (fun _ _ => rfl)))) pss_nil)
      (pss_cons (ps_set (i := 3) nd rfl (Or.inl rfl) (pe_op op_mod (pe_op op_mul (pe_op op_add (pe_op op_add (pe_op op_add (pe_op op_mod (pv 2) pe_int) (pe_op op_mul (pe_op op_mul pe_int (pv 1)) (pv 1))) (pe_op op_mul pe_int (pv 1))) pe_int) pe_int) pe_int))
      (pss_one (ps_ret (pe_op op_fdiv (pe_op op_mod (pe_op op_mul (pv 3) (pv 3)) pe_int) pe_int)))))), ?_⟩
    walk_at "rd"
    have sq : ∀ z : Int, CMul (z % 1000003) (z % 1000003) := fun z => cm_left (by have := Int.emod_nonneg z (show (1000003 : Int) ≠ 0 by decide); omega) (by have := Int.emod_lt_of_pos z (show (0 : Int) < 1000003 by decide); omega)
    refine ⟨ns.map V.int, .inl hS, ?_⟩
    rw [List.length_map]
    refine ite2 (fun h => ?_) (fun h => ?_)
    · refine ⟨ns.map V.int, .inl hS, by rw [List.length_map]; exact h, ns.map V.int, hS, _, by rw [List.length_map]; exact atI_script h, _, rfl, cm_left (by decide) (by decide), cm_right (by omega) (by omega), cm_left (by decide) (by decide), cm_right (by decide) (by decide), sq _, ⟨by decide, by decide⟩, ?_⟩
      have e : cellOf ns k = ns.getD (k % (ns.length : Int)).toNat 0 := if_pos h
      unfold lawAt numOf at q
      rw [e] at q
      exact q
    · refine ⟨cm_left (by decide) (by decide), cm_right (by omega) (by omega), cm_left (by decide) (by decide), cm_right (by decide) (by decide), sq _, ⟨by decide, by decide⟩, ?_⟩
      have e : cellOf ns k = 0 := if_neg h
      simpa [lawAt, numOf, e] using q
def spIsInt : Sp := fun vs H Q _ => ∃ i, vs = [.int i] ∧ Q (.bl true) H
theorem ok_law_whole (F : Fun K "_law_whole" "_law_whole" s__law_whole f fd) (T : Txt K mg) : FnOk P w K mg base CX0 1 f fd ["_law_thing"] spIsInt := by
  refine F.ok sc__law_whole (fun vs H Q E h => ?_) (fun cdv A outer s H vs Q E hr h => ?_)
  · obtain ⟨i, rfl, _⟩ := h
    rfl
  · obtain ⟨i, rfl, q⟩ := h
    refine ⟨_, (pss_one (ps_ret (pe_and (pe_callB call_isinst (by rfl) T.n_isinstance (by rfl) (QA.pa (qc (pv 0) (qc (pe_bltn (v := .ty "int") (u := .type "int") rfl T.n_int rfl rfl) qn)))) (pe_one (pe_not (pe_callB call_isinst (by rfl) T.n_isinstance (by rfl) (QA.pa (qc (pv 0) (qc (pe_bltn (v := .ty "bool") (u := .type "bool") rfl T.n_bool rfl rfl) qn))))))))), ?_⟩
    walk_at "rd"
    exact ⟨_, .int i, .inr ⟨kit_ii, _, .int i, .inl ⟨kit_ib, q⟩⟩⟩
theorem kit_ll {K : PySem.W.Frag} : PySem.W.kitOne K (.type "list") (.type "list") = some true := by rfl
theorem kit_tt {K : PySem.W.Frag} : PySem.W.kitOne K (.type "tuple") (.type "tuple") = some true := by rfl
def spRight (K : PySem.W.Frag) : Sp := fun vs H Q _ => ∃ x y d p q w h, vs = [x, y, d] ∧ Rep K H (picD p) x ∧ Rep K H (picD q) y ∧ Rep K H (placesD (dif p q w h)) d ∧ IsPic p w h ∧ IsPic q w h ∧ ∀ H', Same H H' → Q (.bl true) H'
theorem ok_law_right (F : Fun K "_law_right" "_law_right" s__law_right f fd) (T : Txt K mg) (c_unlike_cells : CalX P w K mg base 3 "unlike_cells" [] (spUnlike K un)) (c__law_whole : Cal P w K mg base 1 "_law_whole" [] spIsInt) :
    FnOk P w K mg base CX0 4 f fd ["_law_one", "_law_other", "_law_due_here"] (spRight K) := by
  have nd := sc__law_right.nd
  refine F.ok sc__law_right (fun vs H Q E h => ?_) (fun cdv A outer s H vs Q E hr h => ?_)
  · obtain ⟨x, y, d, p, q, w, h, rfl, _⟩ := h
    rfl
  · obtain ⟨x, y, d, p, q, w, h, rfl, hx, hy, hd, ip, iq, k⟩ := h
    have hu := hr.units
    refine ⟨_, (pss_cons (ps_set (i := 3) nd rfl (Or.inl rfl) (pe_calX c_unlike_cells pass1 (hr.mono (by decide)) rfl (QA.pa (qc (pv 0) (qc (pv 1) qn)))))
      (pss_cons (ps_if (PW.pt (pw_or (pt_not (pt_val (pe_callB call_isinst (by rfl) T.n_isinstance (by rfl) (QA.pa (qc (pv 3) (qc (pe_bltn (v := .ty "list") (u := .type "list") rfl T.n_list rfl rfl) qn)))))) (pw_or1 (pt_cmpR (op_neD hu) (pv 3) (pv 2) (nomark _))))) (pss_one (ps_ret pe_bl)) pss_nil)
      (pss_cons (ps_for PassesOwn.never rfl (pi_list (pv 3)) (pg_name (i := 4) nd rfl (Or.inl rfl))
      (pss_one (ps_if (PW.pt (pw_or (pt_not (pt_val (pe_callB call_isinst (by rfl) T.n_isinstance (by rfl) (QA.pa (qc (pv 4) (qc (pe_bltn (v := .ty "tuple") (u := .type "tuple") rfl T.n_tuple rfl rfl) qn)))))) (pw_or (pt_not (pt_val (pe_cal c__law_whole (hr.mono (by decide)) rfl (QA.pa (qc (pe_ix ix_tup (pv 4) pe_int (fun _ _ => rfl)) qn))))) (pw_or1 (pt_not (pt_val (pe_cal c__law_whole (hr.mono (by decide)) rfl (QA.pa (qc (pe_ix ix_tup (pv 4) pe_int (fun _ _ => rfl)) qn))))))))) (pss_one (ps_ret pe_bl)) pss_nil)))
      (pss_cons (ps_expr (pe_bm PySem.F.plainAttrs_list PySem.F.slot_list_append PySem.F.type_list_append mt_append (pv 3) (QA.pa (qc pe_non qn))))
      (pss_one (ps_ret pe_bl)))))), ?_⟩
    refine seq_cut (fun σ1 H1 => ∃ r xs, σ1 = [some x, some y, some d, some (.ref r), none] ∧ Same H H1 ∧ H r = none ∧ H1 r = some (.lst xs) ∧ Tups H1 (dif p q w h) xs) (fun R hR => ?_) ?_
    · walk_at "rd"
      exact ⟨x, y, p, q, w, h, w, h, rfl, hx, hy, ip, iq, fun _ r xs H1 h1 h2 h3 h4 => hR _ _ ⟨r, xs, rfl, h1, h2, h3, h4⟩, fun z => absurd ⟨rfl, rfl⟩ z⟩
    rintro _ H1 ⟨r, xs, rfl, hs1, hr0, hr1, ht1⟩
    refine seq_cut (fun σ1 H2 => σ1 = [some x, some y, some d, some (.ref r), none] ∧ H1 = H2) (fun R hR => ?_) ?_
    · walk_at "rd"
      refine ⟨_, .lst hr1, .inr ⟨kit_ll, placesD (dif p q w h), ⟨r, xs, rfl, SqL.of hr1, ht1.reps⟩, placesD (dif p q w h), Rep.same hs1 _ _ hd, shaped_places _, shaped_places _, .inl ⟨?_, hR _ _ ⟨rfl, rfl⟩⟩⟩⟩
      rw [eqv_places]
      exact decide_eq_true rfl
    rintro _ _ ⟨rfl, rfl⟩
    refine seq_cut (fun σ1 H2 => ∃ v, σ1 = [some x, some y, some d, some (.ref r), v] ∧ H1 = H2) (fun R hR => ?_) ?_
    · walk_at "rd"
      refine ⟨⟨xs, SqL.of hr1⟩, ?_⟩
      refine LoopL.run (xs := xs) (fun i σ' H' => ∃ v, σ' = [some x, some y, some d, some (.ref r), v] ∧ H1 = H') ⟨_, rfl, rfl⟩ (fun i σ' H' _ ⟨v, _, e⟩ => by rw [← e]; exact SqL.of hr1) ?_ (fun σ' H' ⟨v, e1, e2⟩ => hR _ _ ⟨v, e1, e2⟩)
      rintro i z _ _ hz ⟨v, rfl, rfl⟩ R1 hR1
      obtain ⟨t, c, rfl, ht⟩ := ht1.at i hz
      walk_at "rd"
      exact ⟨_, .tup ht, .inr ⟨kit_tt, _, SqT.of ht, _, rfl, c.1, rfl, .inr ⟨rfl, _, SqT.of ht, _, rfl, c.2, rfl, .inr ⟨rfl, hR1 _ _ ⟨_, rfl, rfl⟩⟩⟩⟩⟩
    rintro _ _ ⟨v, rfl, rfl⟩
    have hl : xs.length < sizeLine := by
      have z1 := ht1.length
      have z2 := dif_len p q w h
      have z3 := ip.w2
      have z4 := ip.h2
      have z5 : w * h ≤ 24 * 12 := Nat.mul_le_mul z3 z4
      exact small1000 (by omega)
    walk_at "rd"
    exact ⟨.inl ⟨rfl, _, SqL.of hr1⟩, xs, hr1, hl, k _ (same_upd hs1 hr0)⟩
end
end K04
/-! Lists that grow: what they hold lies in a part of the heap that is not changed. -/
namespace L2
open PySem PySem.Spec PyProof.Rows
/-- the list at r holds ds; what they are lies in a part G that has neither r nor av -/
def Bld (K : PySem.W.Frag) (H0 H : Hp) (av : List Addr) (r : Addr) (ds : List PyData) : Prop := ∃ G vs, Same H0 G ∧ Same G H ∧ (∀ b ∈ r :: av, G b = none) ∧ H r = some (.lst vs) ∧ Reps K G ds vs
section
variable {K : PySem.W.Frag} {H0 H H1 : Hp} {av : List Addr} {r t l : Addr} {ds es : List PyData} {d : PyData}
theorem Bld.new (hs : Same H0 H) (ha : ∀ b ∈ av, H0 b = none) (hr : H r = none) : Bld K H0 (upd H r (.lst [])) av r [] := by
  refine ⟨H0, [], fun _ _ e => e, same_upd hs (hs.free hr), fun b hb => ?_, upd_same, rfl⟩
  rcases List.mem_cons.mp hb with z | z
  · rw [z]
    exact hs.free hr
  · exact ha b z
theorem Bld.same (b : Bld K H0 H av r ds) (hs : Same H H1) : Bld K H0 H1 av r ds := by
  obtain ⟨G, vs, h1, h2, h3, h4, h5⟩ := b
  exact ⟨G, vs, h1, h2.trans hs, h3, hs _ _ h4, h5⟩
theorem Bld.base (b : Bld K H0 H av r ds) : Same H0 H := by
  obtain ⟨G, vs, h1, h2, _⟩ := b
  exact h1.trans h2
theorem Bld.lst (b : Bld K H0 H av r ds) : ∃ vs, H r = some (.lst vs) ∧ vs.length = ds.length := by
  obtain ⟨G, vs, h1, h2, h3, h4, h5⟩ := b
  exact ⟨vs, h4, h5.length.symm⟩
/-- a new tuple of flat things goes in -/
theorem Bld.tup {cs vs : List V} (b : Bld K H0 H av r ds) (hv : H r = some (.lst vs)) (ha : ∀ c ∈ av, ∃ o, H c = some o) (ht : H t = none) (hc : ∀ G, Reps K G es cs) :
    Bld K H0 (upd (upd H t (.tup cs)) r (.lst (vs ++ [.ref t]))) av r (ds ++ [.tuple es]) := by
  obtain ⟨G, ws, h1, h2, h3, h4, h5⟩ := b
  rw [hv] at h4
  cases h4
  have nr : t ≠ r := fun z => by rw [z, hv] at ht; cases ht
  have gt : G t = none := h2.free ht
  refine ⟨upd G t (.tup cs), _, h1.trans (same_new gt), fun c o q => ?_, fun c hc' => ?_, upd_same, ?_⟩
  · by_cases z : c = t
    · rw [z] at q ⊢
      rw [upd_same] at q
      rw [upd_ne nr, upd_same]
      exact q
    · rw [upd_ne z] at q
      have nc : c ≠ r := fun y => by rw [y, h3 r List.mem_cons_self] at q; cases q
      rw [upd_ne nc, upd_ne z]
      exact h2 _ _ q
  · have nc : c ≠ t := fun y => by
      rcases List.mem_cons.mp hc' with z | z
      · exact nr (y.symm.trans z)
      · obtain ⟨o, q⟩ := ha c z
        rw [y, ht] at q
        cases q
    rw [upd_ne nc]
    exact h3 c hc'
  · exact (Reps.same (same_new gt) _ _ h5).snoc ⟨t, cs, rfl, SqT.of upd_same, hc _⟩
/-- a list that was built goes in -/
theorem Bld.row {vs : List V} {G : Hp} (h1 : Same H0 G) (h3 : ∀ b ∈ r :: av, G b = none) (h5 : Reps K G ds vs) (b : Bld K G H (r :: av) l es) (hv : H r = some (.lst vs)) (nl : ∀ c ∈ r :: av, c ≠ l) :
    Bld K H0 (upd H r (.lst (vs ++ [.ref l]))) av r (ds ++ [.list es]) := by
  obtain ⟨G2, us, k1, k2, k3, k4, k5⟩ := b
  have gl : G2 l = none := k3 l List.mem_cons_self
  have nr : l ≠ r := (nl r List.mem_cons_self).symm
  have sn : Same G2 (upd G2 l (.lst us)) := same_new gl
  refine ⟨upd G2 l (.lst us), _, (h1.trans k1).trans sn, fun c o q => ?_, fun c hc => ?_, upd_same, ?_⟩
  · by_cases z : c = l
    · rw [z] at q ⊢
      rw [upd_same] at q
      rw [upd_ne nr, k4]
      exact q
    · rw [upd_ne z] at q
      have nc : c ≠ r := fun y => by rw [y, k3 r (List.mem_cons_of_mem _ List.mem_cons_self)] at q; cases q
      rw [upd_ne nc]
      exact k2 _ _ q
  · rw [upd_ne (nl c hc)]
    exact k3 c (List.mem_cons_of_mem _ hc)
  · exact (Reps.same (k1.trans sn) _ _ h5).snoc ⟨l, us, rfl, SqL.of upd_same, Reps.same sn _ _ k5⟩
theorem Bld.done (b : Bld K H0 H av r ds) : Rep K H (.list ds) (.ref r) := by
  obtain ⟨G, vs, h1, h2, h3, h4, h5⟩ := b
  exact ⟨r, vs, rfl, SqL.of h4, Reps.same h2 _ _ h5⟩
end
end L2
namespace K04
open PySem L2
local macro_rules | `(tactic| walk_at "sc") => `(tactic| exact ⟨rfl, rfl, rfl, by decide +kernel, rfl, by decide +kernel, by decide +kernel⟩)
local macro_rules | `(tactic| walk_at "rd") => `(tactic| simp [tRet, tOp, rI, rI0, rU, tUn, tVar, tC, L2.start, tSeq, tIfS, tTest, tAsg, gName, tCall, tCons, tNil, tCB, tNext, tDrop, tAndV, tOrV, tNotV, tChain, tAnd, tOr, tNot, tB, rEq, rNe, scal, tTup, tLst, gTup, gCons, gNil, rIxL, rIxT, rIxS, and_assoc, cxK, tFor_rng1, tFor_lst, rNeD, rEqD, tBM, rAppend, spAt, tRaise, tTry, rIn])
abbrev s__law_picture : Stmt := top 16
theorem sc__law_picture : FnScope ["_law_script", "_law_at_here", "_law_wide", "_law_high", "_law_many", "_law_found", "_law_row", "_law_line", "_law_column", "_law_cell", "_law_ink"] ["_law_script", "_law_at_here"] (defScope s__law_picture) := by walk_at "sc"
section
variable {P : Program} {w : World} {K : PySem.W.Frag} {mg : Str → Option Value} {base : Heap} {f : Addr} {fd : FuncData}
def spPicture (K : PySem.W.Frag) : Sp := fun vs H Q _ => ∃ (a : Addr) (ns : List Int) (k : Int), vs = [.ref a, .int k] ∧ SqL K H a (ns.map V.int) ∧ ns.length ≤ 63 ∧ 0 ≤ k ∧ k ≤ 1000 ∧ ∀ r p w h H', Same H H' → IsPic p w h → Rep K H' (picD p) (.ref r) → Q (.ref r) H'
theorem ok_law_picture (F : Fun K "_law_picture" "_law_picture" s__law_picture f fd) (T : Txt K mg) (c__law_at : Cal P w K mg base 1 "_law_at" [] (spAt K)) (c__law_size : Cal P w K mg base 1 "_law_size" [] spSize) (c__law_sign : Cal P w K mg base 1 "_law_sign" [] spSign) :
    FnOk P w K mg base CX0 2 f fd ["_law_script", "_law_at_here"] (spPicture K) := by
  have nd := sc__law_picture.nd
  refine F.ok sc__law_picture (fun vs H Q E h => ?_) (fun cdv A outer s H vs Q E hr h => ?_)
  · obtain ⟨a, ns, k, rfl, _⟩ := h
    rfl
  · obtain ⟨a, ns, k, rfl, hS, hl, k0, k1, fin⟩ := h
    refine ⟨_, (pss_cons (ps_asg (pe_cal c__law_size (hr.mono (by decide)) rfl (QA.pa (qc (pe_cal c__law_at (hr.mono (by decide)) rfl (QA.pa (qc (pv 0) (qc (pv 1) qn)))) qn))) (pg_tup rfl (pgs_cons (pg_name (i := 2) nd rfl (Or.inl rfl)) (pgs_cons (pg_name (i := 3) nd rfl (Or.inl rfl)) pgs_nil))))
      (pss_cons (ps_set (i := 4) nd rfl (Or.inl rfl) (pe_ix ix_list (pe_lstq (qc pe_int (qc pe_int (qc pe_int (qc pe_int qn))))) (pe_op op_mod (pe_cal c__law_at (hr.mono (by decide)) rfl (QA.pa (qc (pv 0) (qc (pe_op op_add (pv 1) pe_int) qn)))) pe_int) (fun _ _ => rfl)))
      (pss_cons (ps_set (i := 5) nd rfl (Or.inl rfl) (pe_lstq qn))
      (pss_cons (ps_for PassesOwn.never rfl (pi_range1 rfl T.n_range (QA.pa (qc (pv 3) qn))) (pg_name (i := 6) nd rfl (Or.inl rfl))
      (pss_cons (ps_set (i := 7) nd rfl (Or.inl rfl) (pe_lstq qn))
      (pss_cons (ps_for PassesOwn.never rfl (pi_range1 rfl T.n_range (QA.pa (qc (pv 2) qn))) (pg_name (i := 8) nd rfl (Or.inl rfl))
      (pss_cons (ps_set (i := 9) nd rfl (Or.inl rfl) (pe_cal c__law_at (hr.mono (by decide)) rfl (QA.pa (qc (pv 0) (qc (pe_op op_add (pe_op op_add (pe_op op_add (pv 1) pe_int) (pe_op op_mul pe_int (pv 6))) (pv 8)) qn)))))
      (pss_cons (ps_set (i := 10) nd rfl (Or.inl rfl) (pe_op op_mod (pe_op op_add (pe_op op_fdiv (pe_cal c__law_at (hr.mono (by decide)) rfl (QA.pa (qc (pv 0) (qc (pe_op op_add (pv 1) pe_int) qn)))) pe_int) (pe_op op_mul (pe_op op_mod (pe_op op_fdiv (pv 9) pe_int) (pv 4)) pe_int)) pe_int))
      (pss_one (ps_expr (pe_bm PySem.F.plainAttrs_list PySem.F.slot_list_append PySem.F.type_list_append mt_append (pv 7) (QA.pa (qc (pe_tupq (qc (pe_cal c__law_sign (hr.mono (by decide)) rfl (QA.pa (qc (pv 9) qn))) (qc (pv 10) qn))) qn))))))))
      (pss_one (ps_expr (pe_bm PySem.F.plainAttrs_list PySem.F.slot_list_append PySem.F.type_list_append mt_append (pv 5) (QA.pa (qc (pv 7) qn))))))))
      (pss_one (ps_ret (pv 5))))))), ?_⟩
    refine seq_cut (fun σ1 H1 => ∃ (w h : Nat), σ1 = [some (.ref a), some (.int k), some (.int w), some (.int h), none, none, none, none, none, none, none] ∧ Same H H1 ∧ 1 ≤ w ∧ w ≤ 24 ∧ 1 ≤ h ∧ h ≤ 12) (fun R hR => ?_) ?_
    · walk_at "rd"
      exact ⟨ns, hS, hl, k0, by omega, _, rfl, lawAt_ge _ _, fun q x y x1 x2 y1 y2 hq => ⟨q, rfl, _, SqT.of upd_same, rfl, _, _, rfl, _, _, rfl, rfl, hR _ _ ⟨x, y, rfl, same_new hq, x1, x2, y1, y2⟩⟩⟩
    rintro _ H1 ⟨w, h, rfl, hs1, w1, w2, h1, h2⟩
    refine seq_cut (fun σ1 H2 => ∃ m, σ1 = [some (.ref a), some (.int k), some (.int w), some (.int h), some (.int m), none, none, none, none, none, none] ∧ Same H H2 ∧ 1 ≤ m ∧ m ≤ 512) (fun R hR => ?_) ?_
    · walk_at "rd"
      refine ⟨by decide, fun t ht => ⟨ns, SqL.same (hs1.trans (same_new ht)) hS, hl, by omega, by omega, _, SqL.of upd_same, ?_⟩⟩
      refine atI_exG (by omega) (by show _ < (4 : Int); omega) fun v hv => ?_
      have hs := hs1.trans (same_new (o := HO.lst [V.int 1, V.int 2, V.int 3, V.int 512]) ht)
      simp only [List.mem_cons, List.not_mem_nil, or_false] at hv
      rcases hv with rfl | rfl | rfl | rfl
      · exact hR _ _ ⟨1, rfl, hs, by decide, by decide⟩
      · exact hR _ _ ⟨2, rfl, hs, by decide, by decide⟩
      · exact hR _ _ ⟨3, rfl, hs, by decide, by decide⟩
      · exact hR _ _ ⟨512, rfl, hs, by decide, by decide⟩
    rintro _ H2 ⟨m, rfl, hs2, m1, m2⟩
    refine seq_cut (fun σ1 H3 => ∃ r, σ1 = [some (.ref a), some (.int k), some (.int w), some (.int h), some (.int m), some (.ref r), none, none, none, none, none] ∧ H r = none ∧ Bld K H H3 [] r []) (fun R hR => ?_) ?_
    · walk_at "rd"
      exact fun r hr0 => hR _ _ ⟨r, rfl, hs2.free hr0, Bld.new hs2 (by simp) hr0⟩
    rintro _ H3 ⟨r, rfl, hr0, hb⟩
    refine seq_cut (fun σ1 H4 => ∃ v6 v7 v8 v9 v10, ∃ p : Pict, σ1 = [some (.ref a), some (.int k), some (.int w), some (.int h), some (.int m), some (.ref r), v6, v7, v8, v9, v10] ∧ Bld K H H4 [] r (p.map rowD) ∧ IsPic p w h) (fun R hR => ?_) ?_
    · walk_at "rd"
      refine ⟨by omega, LoopR.run (fun i σ' H' => ∃ v6 v7 v8 v9 v10, ∃ p : Pict, σ' = [some (.ref a), some (.int k), some (.int w), some (.int h), some (.int m), some (.ref r), v6, v7, v8, v9, v10] ∧ Bld K H H' [] r (p.map rowD) ∧ p.length = i ∧ (∀ z ∈ p, z.length = w) ∧ ∀ z ∈ p, ∀ c ∈ z, okC c)
        ⟨_, _, _, _, _, [], rfl, hb, rfl, by simp, by simp⟩ ?_ fun σ' H' ⟨v6, v7, v8, v9, v10, p, e, hb', hp1, hp2, hp3⟩ => hR _ _ ⟨v6, v7, v8, v9, v10, p, e, hb', ⟨hp1, hp2, hp3, w1, w2, h1, h2⟩⟩⟩
      rintro i _ H5 hi ⟨v6, v7, v8, v9, v10, p, rfl, hb5, hp1, hp2, hp3⟩ R1 hR1
      obtain ⟨G, vs, g1, g2, g3, g4, g5⟩ := id hb5
      refine seq_cut (fun σ1 H6 => ∃ l, σ1 = [some (.ref a), some (.int k), some (.int w), some (.int h), some (.int m), some (.ref r), some (.int i), some (.ref l), v8, v9, v10] ∧ H6 r = some (.lst vs) ∧ r ≠ l ∧ Bld K G H6 [r] l []) (fun R hR => ?_) ?_
      · walk_at "rd"
        exact fun l hl0 => hR _ _ ⟨l, rfl, same_new hl0 _ _ g4, ne_of_none g4 hl0, Bld.new g2 (fun b hb => g3 b (by simpa using hb)) hl0⟩
      rintro _ H6 ⟨l, rfl, hr6, nl, hb6⟩
      refine seq_cut (fun σ1 H7 => ∃ v8 v9 v10, ∃ z : List Cel, σ1 = [some (.ref a), some (.int k), some (.int w), some (.int h), some (.int m), some (.ref r), some (.int i), some (.ref l), v8, v9, v10] ∧ H7 r = some (.lst vs) ∧ Bld K G H7 [r] l (z.map celD) ∧ z.length = w ∧ ∀ c ∈ z, okC c) (fun R hR => ?_) ?_
      · walk_at "rd"
        refine ⟨by omega, LoopR.run (fun j σ' H' => ∃ v8 v9 v10, ∃ z : List Cel, σ' = [some (.ref a), some (.int k), some (.int w), some (.int h), some (.int m), some (.ref r), some (.int i), some (.ref l), v8, v9, v10] ∧ H' r = some (.lst vs) ∧ Bld K G H' [r] l (z.map celD) ∧ z.length = j ∧ ∀ c ∈ z, okC c)
          ⟨_, _, _, [], rfl, hr6, hb6, rfl, by simp⟩ ?_ fun σ' H' ⟨v8, v9, v10, z, e, a1, a2, a3, a4⟩ => hR _ _ ⟨v8, v9, v10, z, e, a1, a2, a3, a4⟩⟩
        rintro j _ H7 hj ⟨u8, u9, u10, z, rfl, hr7, hb7, hz1, hz2⟩ R2 hR2
        have hSa : SqL K H7 a (ns.map V.int) := SqL.same (g1.trans hb7.base) hS
        obtain ⟨us, hl7, hul⟩ := hb7.lst
        rw [List.length_map] at hul
        walk_at "rd"
        refine ⟨cm_left (by decide) (by decide), ns, hSa, hl, by omega, by omega, ns, hSa, hl, by omega, by omega, ⟨by decide, by decide⟩, ⟨by decide, by decide⟩, by omega, cm_right (by decide) (by decide), .inl ⟨rfl, _, SqL.of hl7⟩, _, rfl, lawAt_ge _ _, fun sg H8 hs8 ok1 ok2 => ⟨by decide, fun t ht => ?_⟩⟩
        have hl8 : H8 l = some (.lst us) := hs8 _ _ hl7
        refine ⟨us, same_new ht _ _ hl8, small1000 (by omega), hR2 _ _ ⟨_, _, _, z ++ [(sg, (lawAt ns (k + 1) / 4 + lawAt ns (k + 2 + 24 * ↑i + ↑j) / 400 % m * 37) % 512)], rfl, ?_, ?_, by simp [hz1], fun c hc => ?_⟩⟩
        · rw [upd_ne nl]
          exact same_new ht _ _ (hs8 _ _ hr7)
        · rw [List.map_append]
          exact Bld.tup (es := [.str sg, .int _]) (hb7.same hs8) hl8 (fun c hc => ⟨.lst vs, by rw [List.mem_singleton.mp hc]; exact hs8 _ _ hr7⟩) ht (fun G => ⟨.str sg, _, rfl, rfl, .int _, [], rfl, rfl, rfl⟩)
        · rcases List.mem_append.mp hc with q | q
          · exact hz2 c q
          · rw [List.mem_singleton.mp q]
            exact ok1
      rintro _ H7 ⟨u8, u9, u10, z, rfl, hr7, hb7, hz1, hz2⟩
      have hvl : vs.length < sizeLine := by
        have z1 := g5.length
        rw [List.length_map] at z1
        exact small1000 (by omega)
      walk_at "rd"
      refine ⟨.inl ⟨rfl, _, SqL.of hr7⟩, vs, hr7, hvl, hR1 _ _ ⟨_, _, _, _, _, p ++ [z], rfl, ?_, by simp [hp1], fun y hy => ?_, fun y hy => ?_⟩⟩
      · rw [List.map_append]
        exact Bld.row g1 g3 g5 hb7 hr7 fun c hc => by
          rw [List.mem_singleton.mp hc]
          exact nl
      · rcases List.mem_append.mp hy with q | q
        · exact hp2 y q
        · rw [List.mem_singleton.mp q]
          exact hz1
      · rcases List.mem_append.mp hy with q | q
        · exact hp3 y q
        · rw [List.mem_singleton.mp q]
          exact hz2
    rintro _ H4 ⟨v6, v7, v8, v9, v10, p, rfl, hb4, ip⟩
    walk_at "rd"
    exact fin r p w h _ hb4.base ip hb4.done
end
end K04
/-! A picture whose rows are lists of its own, that are changed in place. -/
namespace L2
open PySem PySem.Spec PyProof.Rows
def Grid (K : PySem.W.Frag) (H0 H : Hp) (r : Addr) (p : Pict) : Prop := ∃ (G : Hp) (as : List Addr), Same H0 G ∧ Same G H ∧ (∀ a ∈ r :: as, G a = none) ∧ (r :: as).Nodup ∧ H r = some (.lst (as.map V.ref)) ∧ as.length = p.length ∧
  ∀ (i : Nat) row, p[i]? = some row → ∃ a us, as[i]? = some a ∧ H a = some (.lst us) ∧ Reps K G (row.map celD) us
section
variable {K : PySem.W.Frag} {H0 H H1 : Hp} {r b t : Addr} {p : Pict} {row : List Cel}
theorem Grid.new (hs : Same H0 H) (hr : H r = none) : Grid K H0 (upd H r (.lst [])) r [] := by
  refine ⟨H0, [], fun _ _ e => e, same_upd hs (hs.free hr), fun b hb => ?_, by simp, upd_same, rfl, fun i row q => by simp at q⟩
  rw [List.mem_singleton.mp hb]
  exact hs.free hr
theorem Grid.same (g : Grid K H0 H r p) (hs : Same H H1) : Grid K H0 H1 r p := by
  obtain ⟨G, as, h1, h2, h3, h4, h5, h6, h7⟩ := g
  refine ⟨G, as, h1, h2.trans hs, h3, h4, hs _ _ h5, h6, fun i row q => ?_⟩
  obtain ⟨a, us, k1, k2, k3⟩ := h7 i row q
  exact ⟨a, us, k1, hs _ _ k2, k3⟩
theorem Grid.base (g : Grid K H0 H r p) : Same H0 H := by
  obtain ⟨G, as, h1, h2, _⟩ := g
  exact h1.trans h2
theorem Grid.lst (g : Grid K H0 H r p) : ∃ vs, H r = some (.lst vs) ∧ vs.length = p.length := by
  obtain ⟨G, as, h1, h2, h3, h4, h5, h6, h7⟩ := g
  exact ⟨_, h5, by rw [List.length_map]; exact h6⟩
theorem Grid.put {ys vs : List V} {H2 : Hp} (g : Grid K H0 H r p) (hv : H r = some (.lst vs)) (hy : Reps K H0 (row.map celD) ys) (hb : H b = none) (hs : Same H H2) (hb2 : H2 b = some (.lst ys)) : Grid K H0 (upd H2 r (.lst (vs ++ [.ref b]))) r (p ++ [row]) := by
  obtain ⟨G, as, h1, h2, h3, h4, h5, h6, h7⟩ := g
  rw [hv] at h5
  have h5 : vs = as.map V.ref := by cases h5; rfl
  subst h5
  have nb : ∀ (c : Addr) (o : HO), H c = some o → c ≠ b := fun c o q z => by
    rw [z, hb] at q
    cases q
  have inH : ∀ c ∈ as, ∃ o, H c = some o := fun c hc => by
    obtain ⟨i, hi, e⟩ := List.getElem_of_mem hc
    obtain ⟨a, us, k1, k2, _⟩ := h7 i _ (List.getElem?_eq_getElem (h6 ▸ hi))
    rw [List.getElem?_eq_getElem hi] at k1
    cases k1
    exact ⟨_, e ▸ k2⟩
  have nr := nb r _ hv
  have nin : b ∉ as := fun z => by
    obtain ⟨o, q⟩ := inH b z
    exact nb b o q rfl
  obtain ⟨n1, n2⟩ := List.nodup_cons.mp h4
  refine ⟨G, as ++ [b], h1, fun c o q => ?_, fun c hc => ?_, ?_, by rw [List.map_append]; exact upd_same, by simp [h6], fun i y q => ?_⟩
  · have c1 : c ≠ r := fun z => by rw [z, h3 r List.mem_cons_self] at q; cases q
    rw [upd_ne c1]
    exact hs _ _ (h2 _ _ q)
  · rcases List.mem_cons.mp hc with z | z
    · rw [z]
      exact h3 r List.mem_cons_self
    · rcases List.mem_append.mp z with z | z
      · exact h3 c (List.mem_cons_of_mem _ z)
      · rw [List.mem_singleton.mp z]
        exact h2.free hb
  · rw [List.nodup_cons]
    refine ⟨fun z => ?_, List.nodup_append.mpr ⟨n2, by simp, fun x hx y hy z => ?_⟩⟩
    · rcases List.mem_append.mp z with z | z
      · exact n1 z
      · exact nr (List.mem_singleton.mp z)
    · rw [z, List.mem_singleton.mp hy] at hx
      exact nin hx
  · by_cases hi : i < p.length
    · rw [List.getElem?_append_left hi] at q
      obtain ⟨a, us, k1, k2, k3⟩ := h7 i y q
      have ar : a ≠ r := fun z => n1 (z ▸ List.mem_of_getElem? k1)
      exact ⟨a, us, by rw [List.getElem?_append_left (h6 ▸ hi)]; exact k1, by rw [upd_ne ar]; exact hs _ _ k2, k3⟩
    · have e : i = p.length := by
        have := (List.getElem?_eq_some_iff.mp q).1
        simp at this
        omega
      subst e
      simp only [List.getElem?_concat_length, Option.some.injEq] at q
      subst q
      exact ⟨b, ys, by rw [← h6]; simp, by rw [upd_ne nr.symm]; exact hb2, Reps.same h1 _ _ hy⟩
theorem Grid.push {ys vs : List V} (g : Grid K H0 H r p) (hv : H r = some (.lst vs)) (hy : Reps K H0 (row.map celD) ys) (hb : H b = none) : Grid K H0 (upd (upd H b (.lst ys)) r (.lst (vs ++ [.ref b]))) r (p ++ [row]) := g.put hv hy hb (same_new hb) upd_same
theorem Reps.set {G : Hp} : ∀ {ds : List PyData} {xs : List V} (j : Nat) {d : PyData} {x : V}, Reps K G ds xs → Rep K G d x → Reps K G (ds.set j d) (xs.set j x)
  | [], _, j, d, x, h, _ => by
    rw [show _ = [] from h]
    rfl
  | d0 :: ds, _, j, d, x, h, h' => by
    obtain ⟨y, q, rfl, h1, h2⟩ := h
    cases j with
    | zero => exact ⟨x, q, rfl, h', h2⟩
    | succ j => exact ⟨y, _, rfl, h1, h2.set j h'⟩
theorem rep_cel {c : Cel} {u : V} (h : Rep K H (celD c) u) : ∃ t, u = .ref t ∧ SqT K H t [.str c.1, .int c.2] := by
  obtain ⟨t, xs, rfl, h1, x1, q1, rfl, e1, x2, q2, rfl, e2, e3⟩ := h
  cases e1
  cases e2
  cases e3
  exact ⟨t, rfl, h1⟩
/-- a cell of it, and the same with another cell there -/
theorem Grid.cell {i j : Nat} {c : Cel} (g : Grid K H0 H r p) (hi : p[i]? = some row) (hj : row[j]? = some c) : ∃ vs a us t, H r = some (.lst vs) ∧ atI vs (i : Int) = some (.ref a) ∧ H a = some (.lst us) ∧ us.length = row.length ∧ atI us (j : Int) = some (.ref t) ∧ SqT K H t [.str c.1, .int c.2] ∧
    ∀ H2 t2 z n, Same H H2 → H2 t2 = none → Grid K H0 (upd (upd H2 t2 (.tup [.str z, .int n])) a (.lst (us.set j (.ref t2)))) r (p.set i (row.set j (z, n))) := by
  obtain ⟨G, as, h1, h2, h3, h4, h5, h6, h7⟩ := g
  obtain ⟨a, us, k1, k2, k3⟩ := h7 i row hi
  obtain ⟨u, hu, ru⟩ := k3.at j (d := celD c) (by rw [List.getElem?_map, hj]; rfl)
  obtain ⟨t, rfl, ht⟩ := rep_cel (Rep.same h2 _ _ ru)
  obtain ⟨n1, n2⟩ := List.nodup_cons.mp h4
  have am : a ∈ as := List.mem_of_getElem? k1
  have ar : a ≠ r := fun z => n1 (z ▸ am)
  refine ⟨_, a, us, t, h5, atI_nat (by rw [List.getElem?_map, k1]; rfl), k2, by rw [← k3.length, List.length_map], atI_nat hu, ht, fun H2 t2 z n hs ht2 => ?_⟩
  have nt : ∀ (b : Addr) (o : HO), H2 b = some o → b ≠ t2 := fun b o q y => by
    rw [y, ht2] at q
    cases q
  have gt : G t2 = none := (h2.trans hs).free ht2
  have sn : Same G (upd G t2 (.tup [.str z, .int n])) := same_new gt
  refine ⟨upd G t2 (.tup [.str z, .int n]), as, h1.trans sn, fun b o q => ?_, fun b hb => ?_, h4, ?_, by rw [List.length_set]; exact h6, fun i' y q => ?_⟩
  · have na : b ≠ a := fun y => by
      rw [y] at q
      by_cases w : a = t2
      · exact nt a _ (hs _ _ k2) w
      · rw [upd_ne w, h3 a (List.mem_cons_of_mem _ am)] at q
        cases q
    rw [upd_ne na]
    by_cases w : b = t2
    · rw [w] at q ⊢
      rw [upd_same] at q ⊢
      exact q
    · rw [upd_ne w] at q ⊢
      exact hs _ _ (h2 _ _ q)
  · have nb : b ≠ t2 := by
      rcases List.mem_cons.mp hb with y | y
      · rw [y]
        exact nt r _ (hs _ _ h5)
      · obtain ⟨k, hk, e⟩ := List.getElem_of_mem y
        obtain ⟨a', us', m1, m2, _⟩ := h7 k _ (List.getElem?_eq_getElem (h6 ▸ hk))
        rw [List.getElem?_eq_getElem hk] at m1
        cases m1
        rw [← e]
        exact nt _ _ (hs _ _ m2)
    rw [upd_ne nb]
    exact h3 b hb
  · rw [upd_ne ar.symm, upd_ne (nt r _ (hs _ _ h5))]
    exact hs _ _ h5
  · by_cases e : i' = i
    · subst e
      have hl : i' < p.length := (List.getElem?_eq_some_iff.mp hi).1
      rw [List.getElem?_set_self hl] at q
      cases q
      refine ⟨a, _, k1, upd_same, ?_⟩
      rw [List.map_set]
      exact (Reps.same sn _ _ k3).set j ⟨t2, _, rfl, SqT.of upd_same, .str z, _, rfl, rfl, .int n, [], rfl, rfl, rfl⟩
    · rw [List.getElem?_set_ne (Ne.symm e)] at q
      obtain ⟨a', us', m1, m2, m3⟩ := h7 i' y q
      have na : a' ≠ a := fun w => by
        rw [w] at m1
        have l1 := (List.getElem?_eq_some_iff.mp m1)
        have l2 := (List.getElem?_eq_some_iff.mp k1)
        exact e ((List.getElem_inj n2).mp (l1.2.trans l2.2.symm))
      exact ⟨a', us', m1, by rw [upd_ne na, upd_ne (nt a' _ (hs _ _ m2))]; exact hs _ _ m2, Reps.same sn _ _ m3⟩
theorem Grid.done (g : Grid K H0 H r p) : Rep K H (picD p) (.ref r) := by
  obtain ⟨G, as, h1, h2, h3, h4, h5, h6, h7⟩ := g
  refine ⟨r, _, rfl, SqL.of h5, ?_⟩
  clear h5 h4 h3
  induction p generalizing as with
  | nil =>
    cases as with
    | nil => rfl
    | cons _ _ => cases h6
  | cons y p ih =>
    cases as with
    | nil => cases h6
    | cons a as =>
      obtain ⟨a', us, k1, k2, k3⟩ := h7 0 y rfl
      cases k1
      exact ⟨.ref a, as.map V.ref, rfl, ⟨a, us, rfl, SqL.of k2, Reps.same h2 _ _ k3⟩, ih as (by simpa using h6) fun i z q => h7 (i + 1) z (by simpa using q)⟩
end
end L2
/-! Rules whose reading names the text's facts, not the context's: for comprehensions' blocks. -/
namespace L2
open PySem PySem.Spec PyProof.Rows
def rLo (K : PySem.W.Frag) : List V → Hp → VK → Prop := fun xs H Q => ∃ p ys, xs = [.ref p] ∧ (SqL K H p ys ∨ SqT K H p ys) ∧ ∀ l : Addr, H l = none → Q (.ref l) (upd H l (.lst ys))
section
variable {X : Cx} {K : PySem.W.Frag}
theorem lo_of (h : X.K = K) : CallR X (.type "list") (rLo K) := by
  subst h
  exact call_list_of
theorem cut_of (h : X.K = K) : SlR X (rSlL K) := by
  subst h
  exact sl_list
theorem at_of (h : X.K = K) : IxR X (rIxL K) := by
  subst h
  exact ix_list
theorem isPic_set {q : Pict} {w h k j : Nat} {row : List Cel} {c : Cel} (iq : IsPic q w h) (hk : q[k]? = some row) (hc : okC c) : IsPic (q.set k (row.set j c)) w h := by
  have hm : row ∈ q := List.mem_of_getElem? hk
  refine ⟨by rw [List.length_set]; exact iq.hh, fun y hy => ?_, fun y hy d hd => ?_, iq.w1, iq.w2, iq.h1, iq.h2⟩
  · rcases List.mem_or_eq_of_mem_set hy with z | z
    · exact iq.ww y z
    · rw [z, List.length_set]
      exact iq.ww row hm
  · rcases List.mem_or_eq_of_mem_set hy with z | z
    · exact iq.ok y z d hd
    · rw [z] at hd
      rcases List.mem_or_eq_of_mem_set hd with u | u
      · exact iq.ok row hm d u
      · rw [u]
        exact hc
/-- [list(row) for row in a picture]: rows of its own -/
theorem copy_rows {H : Hp} {a : Addr} {p : Pict} {Q : VK} (hx : Rep K H (picD p) (.ref a)) (hp : p.length ≤ 1000) (fin : ∀ D H', Grid K H H' D p → Q (.ref D) H') : LcL K a (gName 0) tYes (tCB (rLo K) (tCons (tVar 0) tNil)) [none] H Q := by
  obtain ⟨a', xs, e, hS, hr⟩ := hx
  cases e
  have hl := hr.length
  rw [List.length_map] at hl
  refine LcL.by (xs := xs) (fun D i σ H' => ∃ v, σ = [v] ∧ Grid K H H' D (p.take i)) (fun D hD => ⟨none, rfl, Grid.new (Same.refl _) hD⟩) (fun D i σ H' _ _ ⟨v, _, g⟩ => SqL.same g.base hS) ?_ ?_
  · rintro D i x _ H' hD hx ⟨v, rfl, g⟩
    obtain ⟨d, hd, rx⟩ := hr.get i hx
    rw [List.getElem?_map] at hd
    obtain ⟨row, hrow, rfl⟩ := Option.map_eq_some_iff.mp hd
    obtain ⟨b, ys, rfl, hSb, hy⟩ := rx
    obtain ⟨vs, hv, hvl⟩ := g.lst
    simp only [gName, tYes, tCB, rLo, tCons, tNil, tVar, if_true]
    refine ⟨_, rfl, b, ys, rfl, .inl (SqL.same g.base hSb), fun l hl0 => ⟨vs, same_new hl0 _ _ hv, small1000 ?_, _, rfl, ?_⟩⟩
    · rw [hvl, List.length_take]
      omega
    · rw [List.take_add_one, hrow]
      exact g.push hv hy hl0
  · rintro D _ H' hD ⟨v, rfl, g⟩
    rw [← hl, List.take_length] at g
    exact fin D H' g
end
end L2
namespace K04
open PySem L2
local macro_rules | `(tactic| walk_at "sc") => `(tactic| exact ⟨rfl, rfl, rfl, by decide +kernel, rfl, by decide +kernel, by decide +kernel⟩)
local macro_rules | `(tactic| walk_at "rd") => `(tactic| simp [tRet, tOp, rI, rI0, rU, tUn, tVar, tC, L2.start, tSeq, tIfS, tTest, tAsg, gName, tCall, tCons, tNil, tCB, tNext, tDrop, tAndV, tOrV, tNotV, tChain, tAnd, tOr, tNot, tB, rEq, rNe, scal, tTup, tLst, gTup, gCons, gNil, rIxL, rIxT, rIxS, and_assoc, cxK, tFor_rng1, tFor_lst, rNeD, rEqD, tBM, rAppend, spAt, tRaise, tTry, rIn, tLc_lst, tLc_rng1, rLo])
abbrev s__law_changed : Stmt := top 17
theorem sc__law_changed : FnScope ["_law_picture_here", "_law_script", "_law_found", "_law_k", "_law_cell", "_law_other", "_law_row", "_law_column", "_law_sign_here", "_law_ink"] ["_law_picture_here", "_law_script"] (defScope s__law_changed) := by walk_at "sc"
section
variable {P : Program} {w : World} {K : PySem.W.Frag} {mg : Str → Option Value} {base : Heap} {f : Addr} {fd : FuncData}
def spChanged (K : PySem.W.Frag) : Sp := fun vs H Q _ => ∃ (x : V) (a : Addr) (ns : List Int) (p : Pict) (w h : Nat), vs = [x, .ref a] ∧ SqL K H a (ns.map V.int) ∧ ns.length ≤ 63 ∧ Rep K H (picD p) x ∧ IsPic p w h ∧ ∀ r q H', Same H H' → IsPic q w h → Rep K H' (picD q) (.ref r) → Q (.ref r) H'
theorem ok_law_changed (F : Fun K "_law_changed" "_law_changed" s__law_changed f fd) (T : Txt K mg) (c__law_at : Cal P w K mg base 1 "_law_at" [] (spAt K)) (c__law_sign : Cal P w K mg base 1 "_law_sign" [] spSign) :
    FnOk P w K mg base CX0 2 f fd ["_law_picture_here", "_law_script"] (spChanged K) := by
  have nd := sc__law_changed.nd
  refine F.ok sc__law_changed (fun vs H Q E h => ?_) (fun cdv A outer s H vs Q E hr h => ?_)
  · obtain ⟨x, a, ns, p, w, h, rfl, _⟩ := h
    rfl
  · obtain ⟨x, a, ns, p, w, h, rfl, hS, hl, hx, ip, fin⟩ := h
    have nd1 : List.Nodup (α := Str) ["_law_row"] := by decide +kernel
    refine ⟨_, (pss_cons (ps_setlc (i := 2) nd rfl rfl (lcok (N := ["_law_row"]) (n := 1) (js := [])) rfl (pi_list (pv 0)) (fun _ _ _ _ => (pg_name (i := 0) nd1 rfl (Or.inl rfl))) (fun _ _ _ _ => pts_nil) (fun _ _ _ _ => (pe_callTy (lo_of (K := K) rfl) (by rfl) T.n_list rfl (QA.pa (qc (pv 0) qn)))))
      (pss_cons (ps_for PassesOwn.never rfl (pi_range1 rfl T.n_range (QA.pa (qc (pe_op op_mod (pe_cal c__law_at (hr.mono (by decide)) rfl (QA.pa (qc (pv 1) (qc pe_int qn)))) (pe_op op_add pe_int (pe_callB (call_min2 rfl) (by rfl) T.n_min (by rfl) (QA.pa (qc (pe_callB call_len_seq (by rfl) T.n_len (by rfl) (QA.pa (qc (pv 1) qn))) (qc pe_int qn)))))) qn))) (pg_name (i := 3) nd rfl (Or.inl rfl))
      (pss_cons (ps_set (i := 4) nd rfl (Or.inl rfl) (pe_cal c__law_at (hr.mono (by decide)) rfl (QA.pa (qc (pv 1) (qc (pe_op op_add pe_int (pe_op op_mul pe_int (pv 3))) qn)))))
      (pss_cons (ps_set (i := 5) nd rfl (Or.inl rfl) (pe_cal c__law_at (hr.mono (by decide)) rfl (QA.pa (qc (pv 1) (qc (pe_op op_add pe_int (pe_op op_mul pe_int (pv 3))) qn)))))
      (pss_cons (ps_set (i := 6) nd rfl (Or.inl rfl) (pe_op op_mod (pv 4) (pe_callB call_len_seq (by rfl) T.n_len (by rfl) (QA.pa (qc (pv 0) qn)))))
      (pss_cons (ps_set (i := 7) nd rfl (Or.inl rfl) (pe_op op_mod (pe_op op_fdiv (pv 4) pe_int) (pe_callB call_len_seq (by rfl) T.n_len (by rfl) (QA.pa (qc (pe_ix ix_list (pv 0) pe_int (fun _ _ => rfl)) qn)))))
      (pss_cons (ps_asg (pe_ix ix_list (pe_ix ix_list (pv 2) (pv 6) (fun _ _ => rfl)) (pv 7) (fun _ _ => rfl)) (pg_tup rfl (pgs_cons (pg_name (i := 8) nd rfl (Or.inl rfl)) (pgs_cons (pg_name (i := 9) nd rfl (Or.inl rfl)) pgs_nil))))
      (pss_cons (ps_if (pt_cmpR op_ne (pe_op op_mod (pv 5) pe_int) pe_int (nomark _)) (pss_one (ps_set (i := 8) nd rfl (Or.inl rfl) (pe_cal c__law_sign (hr.mono (by decide)) rfl (QA.pa (qc (pe_op op_fdiv (pv 5) pe_int) qn))))) pss_nil)
      (pss_cons (ps_if (pt_cmpR op_gt (pe_op op_mod (pv 5) pe_int) pe_int (nomark _)) (pss_one (ps_set (i := 9) nd rfl (Or.inl rfl) (pe_op op_mod (pe_op op_add (pv 9) (pe_ix ix_list (pe_lstq (qc pe_int (qc pe_int (qc pe_int (qc pe_int (qc pe_int (qc (pe_op op_mod (pe_op op_fdiv (pv 5) pe_int) pe_int) qn))))))) (pe_op op_mod (pe_op op_fdiv (pv 5) pe_int) pe_int) (fun _ _ => rfl))) pe_int))) pss_nil)
      (pss_one (ps_asg (pe_tupq (qc (pv 8) (qc (pv 9) qn))) (pg_sub (pe_ix ix_list (pv 2) (pv 6) (fun _ _ => rfl)) (pv 7) set_list)))))))))))
      (pss_one (ps_ret (pv 2))))), ?_⟩
    refine seq_cut (fun σ1 H1 => ∃ r, σ1 = [some x, some (.ref a), some (.ref r), none, none, none, none, none, none, none] ∧ Grid K H H1 r p) (fun R hR => ?_) ?_
    · walk_at "rd"
      obtain ⟨b, xs, rfl, hSx, _⟩ := rep_pic hx
      have hh := ip.hh
      have h2 := ip.h2
      exact ⟨b, rfl, ⟨xs, hSx⟩, copy_rows hx (by omega) fun D H' g => hR _ _ ⟨D, rfl, g⟩⟩
    rintro _ H1 ⟨r, rfl, g1⟩
    refine seq_cut (fun σ1 H2 => ∃ v3 v4 v5 v6 v7 v8 v9, ∃ q : Pict, σ1 = [some x, some (.ref a), some (.ref r), v3, v4, v5, v6, v7, v8, v9] ∧ Grid K H H2 r q ∧ IsPic q w h) (fun R hR => ?_) ?_
    · walk_at "rd"
      have hSa : SqL K H1 a (ns.map V.int) := SqL.same g1.base hS
      have hdv : (0 : Int) < 9 + if 54 < ((ns.map V.int).length : Int) then 54 else ((ns.map V.int).length : Int) := by
        split <;> omega
      have hdv2 : (9 : Int) + (if 54 < ((ns.map V.int).length : Int) then 54 else ((ns.map V.int).length : Int)) ≤ 63 := by
        split <;> omega
      refine ⟨ns, hSa, hl, ns.map V.int, .inl hSa, hdv, ?_, ?_, ?_⟩
      · have := Int.emod_nonneg (lawAt ns 300) (Int.ne_of_gt hdv)
        omega
      · have := Int.emod_lt_of_pos (lawAt ns 300) hdv
        omega
      have hk0 := Int.emod_nonneg (lawAt ns 300) (Int.ne_of_gt hdv)
      have hk1 := Int.emod_lt_of_pos (lawAt ns 300) hdv
      generalize lawAt ns 300 % (9 + if 54 < ((ns.map V.int).length : Int) then 54 else ((ns.map V.int).length : Int)) = n at hk0 hk1 ⊢
      have hn : n.toNat ≤ 63 := by omega
      refine LoopR.run (fun i σ' H' => ∃ v3 v4 v5 v6 v7 v8 v9, ∃ q : Pict, σ' = [some x, some (.ref a), some (.ref r), v3, v4, v5, v6, v7, v8, v9] ∧ Grid K H H' r q ∧ IsPic q w h) ⟨_, _, _, _, _, _, _, p, rfl, g1, ip⟩ ?_ fun σ' H' z => hR _ _ z
      rintro i _ H3 hi ⟨v3, v4, v5, v6, v7, v8, v9, q, rfl, g3, iq⟩ R1 hR1
      obtain ⟨b, rfl⟩ := rep_ref hx
      have hSa3 : SqL K H3 a (ns.map V.int) := SqL.same g3.base hS
      have hh1 := ip.h1
      have hw1 := ip.w1
      obtain ⟨as, b0, ys0, _, hSb, hlb, hv0, hS0, hl0, _⟩ := rep_cell (Rep.same g3.base _ _ hx) ip (i := 0) (j := 0) (by omega) (by omega)
      have A0 := lawAt_ge ns (301 + 2 * (i : Int))
      have B0 := lawAt_ge ns (302 + 2 * (i : Int))
      refine seq_cut (fun σ1 H4 => σ1 = [some (.ref b), some (.ref a), some (.ref r), some (.int i), some (.int (lawAt ns (301 + 2 * (i : Int)))), v5, v6, v7, v8, v9] ∧ H3 = H4) (fun R hR => ?_) ?_
      · walk_at "rd"
        exact ⟨cm_left (by decide) (by decide), ns, hSa3, hl, by omega, by omega, hR _ _ ⟨rfl, rfl⟩⟩
      rintro _ _ ⟨rfl, rfl⟩
      refine seq_cut (fun σ1 H4 => σ1 = [some (.ref b), some (.ref a), some (.ref r), some (.int i), some (.int (lawAt ns (301 + 2 * (i : Int)))), some (.int (lawAt ns (302 + 2 * (i : Int)))), v6, v7, v8, v9] ∧ H3 = H4) (fun R hR => ?_) ?_
      · walk_at "rd"
        exact ⟨cm_left (by decide) (by decide), ns, hSa3, hl, by omega, by omega, hR _ _ ⟨rfl, rfl⟩⟩
      rintro _ _ ⟨rfl, rfl⟩
      generalize lawAt ns (301 + 2 * (i : Int)) = A1 at A0 ⊢
      generalize lawAt ns (302 + 2 * (i : Int)) = B1 at B0 ⊢
      refine seq_cut (fun σ1 H4 => ∃ k : Nat, k < h ∧ σ1 = [some (.ref b), some (.ref a), some (.ref r), some (.int i), some (.int A1), some (.int B1), some (.int k), v7, v8, v9] ∧ H3 = H4) (fun R hR => ?_) ?_
      · walk_at "rd"
        obtain ⟨k, hk⟩ := Int.eq_ofNat_of_zero_le (Int.emod_nonneg A1 (show (h : Int) ≠ 0 by omega))
        have hk2 := Int.emod_lt_of_pos A1 (show (0 : Int) < h by omega)
        refine ⟨as, .inl hSb, by omega, ?_⟩
        rw [hlb, hk]
        exact hR _ _ ⟨k, by omega, rfl, rfl⟩
      rintro _ _ ⟨k, hk, rfl, rfl⟩
      refine seq_cut (fun σ1 H4 => ∃ j : Nat, j < w ∧ σ1 = [some (.ref b), some (.ref a), some (.ref r), some (.int i), some (.int A1), some (.int B1), some (.int k), some (.int j), v8, v9] ∧ H3 = H4) (fun R hR => ?_) ?_
      · walk_at "rd"
        obtain ⟨j, hj⟩ := Int.eq_ofNat_of_zero_le (Int.emod_nonneg (A1 / 16) (show (w : Int) ≠ 0 by omega))
        have hj2 := Int.emod_lt_of_pos (A1 / 16) (show (0 : Int) < w by omega)
        refine ⟨⟨by decide, by decide⟩, as, hSb, _, hv0, b0, rfl, ys0, .inl hS0, by omega, ?_⟩
        rw [hl0, hj]
        exact hR _ _ ⟨j, by omega, rfl, rfl⟩
      rintro _ _ ⟨j, hj, rfl, rfl⟩
      obtain ⟨row, hrow, hrw, hcel, hok⟩ := cell_get iq hk hj
      obtain ⟨vs, ra, us, t, e1, e2, e3, e4, e5, e6, e7⟩ := g3.cell hrow hcel
      refine seq_cut (fun σ1 H4 => σ1 = [some (.ref b), some (.ref a), some (.ref r), some (.int i), some (.int A1), some (.int B1), some (.int k), some (.int j), some (.str (cellAt q k j).1), some (.int (cellAt q k j).2)] ∧ H3 = H4) (fun R hR => ?_) ?_
      · walk_at "rd"
        exact ⟨vs, SqL.of e1, _, e2, ra, rfl, us, SqL.of e3, _, e5, t, rfl, _, e6, rfl, _, _, rfl, _, _, rfl, rfl, hR _ _ ⟨rfl, rfl⟩⟩
      rintro _ _ ⟨rfl, rfl⟩
      refine seq_cut (fun σ1 H4 => ∃ z, PyData.strOk z = true ∧ σ1 = [some (.ref b), some (.ref a), some (.ref r), some (.int i), some (.int A1), some (.int B1), some (.int k), some (.int j), some (.str z), some (.int (cellAt q k j).2)] ∧ Same H3 H4) (fun R hR => ?_) ?_
      · walk_at "rd"
        by_cases hB : B1 % 3 = 1
        · exact .inl ⟨hB, hR _ _ ⟨_, hok, rfl, Same.refl _⟩⟩
        · exact .inr ⟨hB, ⟨by decide, by decide⟩, _, rfl, by omega, fun sg H4 hs4 ok1 _ => hR _ _ ⟨sg, ok1, rfl, hs4⟩⟩
      rintro _ H4 ⟨z, hz, rfl, hs4⟩
      refine seq_cut (fun σ1 H5 => ∃ n, σ1 = [some (.ref b), some (.ref a), some (.ref r), some (.int i), some (.int A1), some (.int B1), some (.int k), some (.int j), some (.str z), some (.int n)] ∧ Same H3 H5) (fun R hR => ?_) ?_
      · walk_at "rd"
        refine ite2 (fun _ => ⟨⟨by decide, by decide⟩, by decide, fun t5 ht5 => ⟨⟨by decide, by decide⟩, _, SqL.of upd_same, ?_⟩⟩) fun _ => hR _ _ ⟨_, rfl, hs4⟩
        refine atI_exG (by omega) (by show _ < (6 : Int); omega) fun v hv => ?_
        have hs := hs4.trans (same_new (o := HO.lst [V.int 0, V.int 1, V.int 64, V.int 8, V.int 256, V.int (B1 / 64 % 512)]) ht5)
        simp only [List.mem_cons, List.not_mem_nil, or_false] at hv
        rcases hv with rfl | rfl | rfl | rfl | rfl | rfl <;> exact ⟨_, rfl, hR _ _ ⟨_, rfl, hs⟩⟩
      rintro _ H5 ⟨n5, rfl, hs5⟩
      walk_at "rd"
      refine ⟨by decide, fun t6 ht6 => ?_⟩
      have sn := same_new (o := HO.tup [V.str z, V.int n5]) ht6
      refine ⟨_, rfl, _, rfl, r, vs, _, _, rfl, rfl, SqL.of (sn _ _ (hs5 _ _ e1)), e2, _, rfl, ra, us, _, j, rfl, rfl, sn _ _ (hs5 _ _ e3), ?_, hR1 _ _ ⟨_, _, _, _, _, _, _, q.set k (row.set j (z, n5)), rfl, e7 H5 t6 z n5 hs5 ht6, isPic_set iq hrow hz⟩⟩
      have hj' : j < us.length := by omega
      unfold ixN
      simp
      exact hj'
    rintro _ H2 ⟨v3, v4, v5, v6, v7, v8, v9, q, rfl, g2, iq⟩
    walk_at "rd"
    exact fin r q _ g2.base iq g2.done
end
end K04
namespace L2
open PySem PySem.Spec PyProof.Rows
/-- the sum of two lists, wherever they lie -/
def rSum (K : PySem.W.Frag) : R2 := fun x y H Q => ∃ l b xs zs, x = .ref l ∧ y = .ref b ∧ SqL K H l xs ∧ SqL K H b zs ∧ xs.length + zs.length ≤ sizeLine ∧ ∀ p, H p = none → Q (.ref p) (upd H p (.lst (xs ++ zs)))
theorem sum_of {X : Cx} {K : PySem.W.Frag} (hK : X.K = K) : OpR X (binaryOp .Add) (rSum K) := by
  subst hK
  intro pins s σ H x y v u Q I rx ry h
  obtain ⟨l, b, xs, zs, rfl, rfl, hH, hB, hz, q⟩ := h
  cases rx
  cases ry
  obtain ⟨its, r, ⟨o1, n1, e1, c1, d1, m1⟩, z1⟩ := I.list hH
  obtain ⟨ita, r2, ⟨o2, n2, e2, c2, d2, m2⟩, z2⟩ := I.list hB
  obtain ⟨g1, g2, g3, g4⟩ := o1
  obtain ⟨f1, f2, f3, f4⟩ := o2
  simp only at c1 d1 m1 c2 d2 m2
  subst c1 d1 m1 c2 d2 m2
  have hs : its.length + ita.length ≤ sizeLine := by
    rw [← r.length, ← r2.length]
    exact hz
  have ea : its.toArray ++ ita.toArray = (its ++ ita).toArray := by simp
  refine concat_meets ⟨_, e1, rfl⟩ ⟨_, e2, rfl⟩ noFill_list_add seq_list_add F.slot_list_add F.entry_list_add (F.args_list_add_2 _ _) (list_addW l b its.toArray ita.toArray n1 n2 none none g4 f4 (by simpa using hs)) ⟨e1, e2, ?_⟩
  rw [ea]
  exact ⟨.ref _, _, I.lnew (t' := s.toks) (r.append r2) (by rw [List.length_append]; omega), rfl, q _ I.fresh⟩
theorem Reps.drop {K : PySem.W.Frag} {H : Hp} : ∀ {ds : List PyData} {xs : List V} (k : Nat), Reps K H ds xs → Reps K H (ds.drop k) (xs.drop k)
  | [], _, k, h => by
    rw [show _ = [] from h]
    simp only [List.drop_nil]
    rfl
  | d :: ds, _, k, h => by
    obtain ⟨y, q, rfl, h1, h2⟩ := h
    cases k with
    | zero => exact ⟨y, q, rfl, h1, h2⟩
    | succ k => exact h2.drop k
theorem Reps.take {K : PySem.W.Frag} {H : Hp} : ∀ {ds : List PyData} {xs : List V} (k : Nat), Reps K H ds xs → Reps K H (ds.take k) (xs.take k)
  | [], _, k, h => by
    rw [show _ = [] from h]
    simp only [List.take_nil]
    rfl
  | d :: ds, _, k, h => by
    obtain ⟨y, q, rfl, h1, h2⟩ := h
    cases k with
    | zero => rfl
    | succ k => exact ⟨y, _, rfl, h1, h2.take k⟩
theorem Reps.append {K : PySem.W.Frag} {H : Hp} : ∀ {ds es : List PyData} {xs ys : List V}, Reps K H ds xs → Reps K H es ys → Reps K H (ds ++ es) (xs ++ ys)
  | [], _, _, _, h, h' => by
    rw [show _ = [] from h]
    exact h'
  | d :: ds, _, _, _, h, h' => by
    obtain ⟨y, q, rfl, h1, h2⟩ := h
    exact ⟨y, _, rfl, h1, h2.append h'⟩
theorem cut_tail (xs : List V) (h : 1 ≤ xs.length) : cutV xs (some 1) none = xs.drop 1 := by
  unfold cutV
  have e1 : HT.sIx xs.length 0 (some 1) = 1 := (HT.sIx_nat xs.length 0 1).trans (Nat.min_eq_left h)
  rw [e1, HT.sIx_none, List.take_of_length_le (by rw [List.length_drop]; omega)]
theorem cut_head (xs : List V) (h : 1 ≤ xs.length) : cutV xs none (some 1) = xs.take 1 := by
  unfold cutV
  have e1 : HT.sIx xs.length xs.length (some 1) = 1 := (HT.sIx_nat xs.length xs.length 1).trans (Nat.min_eq_left h)
  rw [e1, HT.sIx_none]
  rfl
theorem IsPic.tail {p : Pict} {w h : Nat} (ip : IsPic p w h) (h2 : 1 < h) : IsPic (p.drop 1) w (h - 1) :=
  ⟨by rw [List.length_drop, ip.hh], fun r hr => ip.ww r (List.mem_of_mem_drop hr), fun r hr => ip.ok r (List.mem_of_mem_drop hr), ip.w1, ip.w2, by omega, by have := ip.h2; omega⟩
theorem IsPic.more {p : Pict} {w h : Nat} (ip : IsPic p w h) (h2 : h < 12) : IsPic (p ++ p.take 1) w (h + 1) := by
  have hm : ∀ r, r ∈ p ++ p.take 1 → r ∈ p := fun r hr => (List.mem_append.mp hr).elim id List.mem_of_mem_take
  have := ip.h1
  exact ⟨by rw [List.length_append, List.length_take, ip.hh]; omega, fun r hr => ip.ww r (hm r hr), fun r hr => ip.ok r (hm r hr), ip.w1, ip.w2, by omega, by omega⟩
theorem IsPic.rows {p : Pict} {w h w' : Nat} (g : List Cel → List Cel) (ip : IsPic p w h) (hg : ∀ r ∈ p, (g r).length = w') (hm : ∀ r c, c ∈ g r → c ∈ r) (h1 : 1 ≤ w') (h2 : w' ≤ 24) : IsPic (p.map g) w' h := by
  refine ⟨by rw [List.length_map, ip.hh], fun r hr => ?_, fun r hr c hc => ?_, h1, h2, ip.h1, ip.h2⟩
  · obtain ⟨y, hy, rfl⟩ := List.mem_map.mp hr
    exact hg y hy
  · obtain ⟨y, hy, rfl⟩ := List.mem_map.mp hr
    exact ip.ok y hy c (hm y c hc)
def turnP (p : Pict) (h w : Nat) : Pict := (List.range w).map fun c => (List.range h).map fun i => cellAt p i c
theorem IsPic.turn {p : Pict} {w h : Nat} (ip : IsPic p w h) (hw : w ≤ 12) : IsPic (turnP p h w) h w := by
  refine ⟨by simp [turnP], fun r hr => ?_, fun r hr c hc => ?_, ip.h1, by have := ip.h2; omega, ip.w1, hw⟩
  · obtain ⟨y, _, rfl⟩ := List.mem_map.mp hr
    simp
  · obtain ⟨y, hy, rfl⟩ := List.mem_map.mp hr
    obtain ⟨i, hi, rfl⟩ := List.mem_map.mp hc
    obtain ⟨_, _, _, _, ok⟩ := cell_get ip (List.mem_range.mp hi) (List.mem_range.mp hy)
    exact ok
/-- [.. for row in a picture], a new list for each row -/
theorem map_rows {K : PySem.W.Frag} {H : Hp} {a : Addr} {p : Pict} {Q : VK} {te : TE} (g : List Cel → List Cel) (hx : Rep K H (picD p) (.ref a)) (hp : p.length ≤ 1000)
    (hte : ∀ H' b us row (Z : VK), Same H H' → row ∈ p → SqL K H b us → Reps K H (row.map celD) us → (∀ l ys H'', Same H' H'' → H' l = none → H'' l = some (.lst ys) → Reps K H ((g row).map celD) ys → Z (.ref l) H'') → te [some (.ref b)] H' Z)
    (fin : ∀ D H', Grid K H H' D (p.map g) → Q (.ref D) H') : LcL K a (gName 0) tYes te [none] H Q := by
  obtain ⟨a', xs, e, hS, hr⟩ := hx
  cases e
  have hl := hr.length
  rw [List.length_map] at hl
  refine LcL.by (xs := xs) (fun D i σ H' => ∃ v, σ = [v] ∧ Grid K H H' D ((p.take i).map g)) (fun D hD => ⟨none, rfl, Grid.new (Same.refl _) hD⟩) (fun D i σ H' _ _ ⟨v, _, q⟩ => SqL.same q.base hS) ?_ ?_
  · rintro D i x _ H' hD hx ⟨v, rfl, q⟩
    obtain ⟨d, hd, rx⟩ := hr.get i hx
    rw [List.getElem?_map] at hd
    obtain ⟨row, hrow, rfl⟩ := Option.map_eq_some_iff.mp hd
    obtain ⟨b, us, rfl, hSb, hy⟩ := rx
    obtain ⟨vs, hv, hvl⟩ := q.lst
    simp only [gName, tYes, if_true]
    refine hte H' b us row _ q.base (List.mem_of_getElem? hrow) hSb hy fun l ys H'' h1 h2 h3 h4 => ⟨vs, h1 _ _ hv, small1000 ?_, _, rfl, ?_⟩
    · rw [hvl, List.length_map, List.length_take]
      omega
    · rw [List.take_add_one, hrow, List.map_append]
      exact q.put hv h4 h2 h1 h3
  · rintro D _ H' hD ⟨v, rfl, q⟩
    rw [← hl, List.take_length] at q
    exact fin D H' q
end L2
/-! List comprehensions whose block has one cell of its own (a comprehension within reads it). -/
namespace L2
open PySem PySem.Spec PyProof.Rows
theorem new_block {M : Model} {A : Around} {E : Value → Shared → Prop} {s : Shared} {scope : Scope} {g : Addr} {cl : List (Str × Addr)} {q y : Str} {env : Env} {bi : Addr} {Q : Env → Shared → Prop} (one : ∀ k, cellsFrom k scope.names cl = (y, k) :: cl)
    (onep : ∀ h : Heap, pushCells h scope.names = h.push { cls := .type "cell", data := .cell none })
    (h : ∀ h1 : Heap, h1.Ns s.heap.objs.size (fun _ => none) → (∀ b o, s.heap.get? b = some o → h1.get? b = some o) → h1.IsCell (s.heap.objs.size + 1) none →
      Q { scope := scope, locals := s.heap.objs.size, globals := g, cells := (y, s.heap.objs.size + 1) :: cl, qual := q, func := none, code := env.code, frame := env.frame, builtins := env.builtins } { s with heap := h1 }) :
    wpAny M A (newFunctionEnv scope g cl [] q none .none (some env) bi) Q E s := by
  simp only [newFunctionEnv, Option.isSome_some, if_true]
  refine wpAny_bind (wpAny_alloc ?_)
  refine wpAny_bind (wpAny_layCells _ (fun name kind cells => by cases hkc : kind == NameKind.cell <;> simp [hkc]) _ _ _ _ ?_)
  dsimp only
  rw [one, onep, Heap.size_push]
  refine wpAny_bind (wpAny_pure (wpAny_pure ?_))
  refine h _ ((Heap.Ns.new s.heap (.type "dict")).keeps fun b o e => Heap.get?_push_of_some _ e) (fun b o e => Heap.get?_push_of_some _ (Heap.get?_push_of_some _ e)) ⟨{ cls := .type "cell", data := .cell none }, ?_, rfl⟩
  have z := Heap.get?_push_size (s.heap.push { cls := .type "dict", data := .dict #[] }) (o := { cls := .type "cell", data := .cell none }) rfl
  rw [Heap.size_push] at z
  exact z
def cxLcC (X : Cx) (N : List Str) (scope : Scope) (cl : List (Str × Addr)) (y : Str) (C : Addr) (s : Shared) (H : Hp) (fp : List Addr) : Cx :=
  { cxLc X N scope cl C s H fp with env := compEnvC scope ((y, C + 1) :: cl) C X.env, fn := fun x => x == y }
structure LcOkC (X : Cx) (N : List Str) (n : Nat) (js : List Nat) (scope : Scope) (cl : List (Str × Addr)) (y : Str) : Prop where
  clos : closureFor scope X.env = pure cl
  one : ∀ k, cellsFrom k scope.names cl = (y, k) :: cl
  onep : ∀ h : Heap, pushCells h scope.names = h.push { cls := .type "cell", data := .cell none }
  kind : scope.kind = .function
  names : ∀ y ∈ scope.names, y.2 = .local → scope.names.lookup y.1 = some .local
  cells : ∀ x c, cl.lookup x = some c → X.env.cells.lookup x = some c
  has : ∀ x, ((relabel scope X.env).names.lookup x = some .cell ∨ (relabel scope X.env).names.lookup x = some .free) → x = y ∨ ∃ c, cl.lookup x = some c
  len : n + js.length = N.length
  free : ∀ (i : Nat) (x : Str), N[n + i]? = some x → ∃ j c, js[i]? = some j ∧ X.N[j]? = some x ∧ (X.env.scope.names.lookup x = some .cell ∨ X.env.scope.names.lookup x = some .free) ∧
    ((relabel scope X.env).names.lookup x = some .cell ∨ (relabel scope X.env).names.lookup x = some .free) ∧ cl.lookup x = some c ∧ x ≠ y
theorem own_look {cl : List (Str × Addr)} {y x : Str} {k c : Addr} (h : List.lookup x ((y, k) :: cl) = some c) : (x = y ∧ c = k) ∨ cl.lookup x = some c := by
  rw [List.lookup_cons] at h
  cases q : x == y with
  | true =>
    rw [q] at h
    exact .inl ⟨beq_iff_eq.mp q, (Option.some.inj h).symm⟩
  | false =>
    rw [q] at h
    exact .inr h
theorem own_else {cl : List (Str × Addr)} {y x : Str} {k : Addr} (h : x ≠ y) : List.lookup x ((y, k) :: cl) = cl.lookup x := by
  rw [List.lookup_cons, beq_eq_false_iff_ne.mpr h]
theorem own_self {cl : List (Str × Addr)} {y : Str} {k : Addr} : List.lookup y ((y, k) :: cl) = some k := by
  rw [List.lookup_cons, beq_self_eq_true]
section
variable {X : Cx} {pins : List (Addr × Obj)} {σ : St} {H : Hp} {s : Shared} {N : List Str} {n : Nat} {js : List Nat} {scope : Scope} {cl : List (Str × Addr)} {y : Str}
theorem LcOkC.far (L : LcOkC X N n js scope cl y) {fp : List Addr} {C b c : Addr} {x : Str} {z : Nat} (hf : ∀ b ∈ fp, FpOk X pins H b) (hlt : b < z) (hb : b ∈ fp) (hC : z ≤ C) (e : List.lookup x ((y, C + 1) :: cl) = some c) : c ≠ b := by
  rcases own_look e with ⟨_, q⟩ | q
  · rw [q]
    exact Nat.ne_of_gt (Nat.lt_of_lt_of_le hlt (Nat.le_succ_of_le hC))
  · exact (hf b hb).2.2.2.2.1 x c (L.cells x c q)
theorem LcOkC.low (L : LcOkC X N n js scope cl y) (I : Inv X pins σ H s) {x : Str} {c : Addr} (e : cl.lookup x = some c) : c < s.heap.objs.size := by
  obtain ⟨v, o, ho, _⟩ := I.cell x c (L.cells x c e)
  exact Heap.lt_size ho
theorem LcOkC.ok (L : LcOkC X N n js scope cl y) (I : Inv X pins σ H s) {fp : List Addr} (hf : ∀ b ∈ fp, FpOk X pins H b) (hlt : ∀ b ∈ fp, b < s.heap.objs.size) {C : Addr} (hC : s.heap.objs.size ≤ C) : (cxLcC X N scope cl y C s H fp).Ok where
  mod := I.ok.mod
  kind := L.kind
  glob := I.ok.glob
  blt := I.ok.blt
  above := hC
  inj := fun x x' c h1 h2 => by
    rcases own_look h1 with ⟨e1, q1⟩ | q1 <;> rcases own_look h2 with ⟨e2, q2⟩ | q2
    · rw [e1, e2]
    · exact absurd (Nat.lt_of_lt_of_le (L.low I q2) hC) (by rw [q1]; exact Nat.not_lt.mpr (Nat.le_succ C))
    · exact absurd (Nat.lt_of_lt_of_le (L.low I q1) hC) (by rw [q2]; exact Nat.not_lt.mpr (Nat.le_succ C))
    · exact I.ok.inj x x' c (L.cells x c q1) (L.cells x' c q2)
  has := fun x hx => by
    rcases L.has x hx with e | ⟨c, e⟩
    · rw [e]
      exact ⟨_, own_self⟩
    · by_cases q : x = y
      · rw [q]
        exact ⟨_, own_self⟩
      · exact ⟨c, (own_else q).trans e⟩
  cab := fun x c hx e => by
    have hx : x = y := beq_iff_eq.mp hx
    rw [hx] at e
    cases (own_self.symm.trans e)
    exact Nat.le_succ_of_le hC
  hd := I.ok.hd
  frames := I.ok.frames
  stk := .inl rfl
  exf := fun b hb => ⟨Nat.ne_of_lt (Nat.lt_of_lt_of_le (hlt b hb) hC), fun x c e => L.far hf (hlt b hb) hb hC e⟩
  bs := I.bs
  bsz := Nat.le_trans I.ok.bsz I.sz
  noex := fun b o e hb => by
    rcases (hf b hb).2.2.2.1 with z | z
    · exact I.ok.noex b o e z
    · exact absurd (Nat.lt_of_lt_of_le (Heap.lt_size (I.ok.bs b o e).1) z) (Nat.lt_irrefl _)
  exfs := fun b hb hz => by
    rcases List.mem_cons.mp (I.stkSub b hz) with z | z
    · exact (hf b hb).2.1 z
    · exact (hf b hb).2.2.1 z
  funs := I.stack
  frf := I.stkFree
theorem Inv.lcC (L : LcOkC X N n js scope cl y) (I : Inv X pins σ H s) {fp : List Addr} (hf : ∀ b ∈ fp, FpOk X pins H b) (hlt : ∀ b ∈ fp, b < s.heap.objs.size) {D C : Addr} {h1 : Heap} {m : Str → Option Value} {tk : Nat}
    (hD : s.heap.objs.size ≤ D) (hC : s.heap.objs.size ≤ C) (hDC : D ≠ C) (hn : h1.Ns C m) (old : ∀ b o, s.heap.get? b = some o → h1.get? b = some o) {k : Nat} (hl : h1.get? D = some { cls := .type "list", data := .seq ([] : List Value).toArray k }) (hcell : h1.IsCell (C + 1) none) :
    Inv (cxLcC X N scope cl y C s H fp) [] (pick n js σ) (upd H D (.lst [])) { s with heap := h1, toks := tk } where
  ok := L.ok I hf hlt hC
  os := rfl
  bare := I.bare
  base := Un.laid old hD (I.hok.fresh hD)
  loc := by
    refine ⟨m, hn, fun i x v e1 e2 e3 => ?_⟩
    obtain ⟨k, j, rfl, ej, eσ⟩ := pick_get e2
    obtain ⟨j', c, ej', eN, kx, kr, ec, ny⟩ := L.free k x e1
    rw [ej] at ej'
    cases ej'
    obtain ⟨mx, hmx, hl'⟩ := I.loc
    obtain ⟨u, r, lk⟩ := hl' j x v eN eσ (kx.elim (fun z => .inr (.inl z)) fun z => .inr (.inr z))
    refine ⟨u, r, .inr ⟨kr, c, (own_else ny).trans ec, ?_⟩⟩
    have hcx := L.cells x c ec
    rcases lk with ⟨z, _⟩ | ⟨_, c', e', hc'⟩
    · have z' : X.env.scope.names.lookup x = some .local := z
      rcases kx with w | w <;> rw [w] at z' <;> cases z'
    · rw [hcx] at e'
      cases e'
      obtain ⟨o, ho, hd⟩ := hc'
      exact ⟨o, old _ _ ho, hd⟩
  cell := fun x c e => by
    rcases own_look e with ⟨_, q⟩ | q
    · rw [q]
      exact ⟨none, hcell⟩
    · obtain ⟨v, o, ho, hd⟩ := I.cell x c (L.cells x c q)
      exact ⟨v, o, old _ _ ho, hd⟩
  free := by
    show upd H D (.lst []) C = none
    rw [upd_ne (Ne.symm hDC)]
    exact I.hok.fresh hC
  freeC := fun x c e => by
    have hne : c ≠ D := fun z => by
      rcases own_look e with ⟨_, q⟩ | q
      · obtain ⟨o, ho, hd⟩ := hcell
        rw [← q, z, hl] at ho
        cases ho
        cases hd
      · exact absurd (L.low I q) (by rw [z]; exact Nat.not_lt.mpr hD)
    rw [upd_ne hne]
    rcases own_look e with ⟨_, q⟩ | q
    · rw [q]
      exact I.hok.fresh (Nat.le_succ_of_le hC)
    · exact I.freeC x c (L.cells x c q)
  pin := fun p hp => absurd (show p ∈ ([] : List (Addr × Obj)) from hp) (by simp)
  hok := I.hok.laid old hD ⟨Nat.zero_le _, [], k, .nil, hl⟩
  len := by
    show (pick n js σ).length = N.length
    unfold pick
    rw [List.length_append, List.length_replicate, List.length_map]
    exact L.len
theorem Inv.unlcC {fp : List Addr} {C : Addr} {σ' : St} {H' : Hp} {s' : Shared} {h' : Heap} (I : Inv X pins σ H s) (hf : ∀ b ∈ fp, FpOk X pins H b) (hC : s.heap.objs.size ≤ C) (I' : Inv (cxLcC X N scope cl y C s H fp) [] σ' H' s') (hs : Heap.SameBut C s'.heap h') :
    Inv X pins σ H' { s' with heap := h' } := by
  have nC : ∀ b o, s.heap.get? b = some o → b ≠ C := fun b o e => Nat.ne_of_lt (Nat.lt_of_lt_of_le (Heap.lt_size e) hC)
  have hfree : H' C = none := I'.free
  have u := I'.base
  refine I.call' (ch := fp) (s' := { s' with heap := h' }) I'.os ⟨fun b o e n hb hx => ?_, fun b o e n hb hx => ?_, u.free, fun b o e hx => ?_, u.tups, u.frzs, u.tbls⟩ (fun b ob e => ?_) I'.bare fun b hb => ⟨(hf b hb).2.2.2.1, (hf b hb).2.1, (hf b hb).2.2.2.2.1, (hf b hb).2.2.2.2.2⟩
  · exact (hs.2 b (nC b o e)).trans (u.keep b o e n hb hx)
  · obtain ⟨sl, q⟩ := u.slot b o e n hb hx
    exact ⟨sl, (hs.2 b (nC b o e)).trans q⟩
  · obtain ⟨o', q⟩ := u.there b o e hx
    exact ⟨o', (hs.2 b (nC b o e)).trans q⟩
  · refine (I'.hok b ob e).stay (fun c w' hc q => (hs.2 c ?_).trans q) (fun _ q => q) fun _ _ q => q
    rintro rfl
    rcases hc with rfl | hc
    · rw [hfree] at e
      cases e
    · rw [hfree] at hc
      cases hc

theorem lc_coreC {elt tg iter : Expr} {ifs : List Expr} {pos : Pos} {g : TG} {tt : TT} {te : TE} {it : Addr} {fp : List Addr} {tn : Nat → Heap → Prop} {J : It} {Q : V → Hp → Prop} {E : Value → Shared → Prop} {RR : Value → Addr → Result → Shared → Prop}
    (L : LcOkC X N n js scope cl y) (hc : X.calm = true) (I : Inv X pins σ H s) (T : Turn X.prog X.w X.K tg J fp it tn) (t0 : tn 0 s.heap) (hf : ∀ b ∈ fp, FpOk X pins H b)
    (hg : ∀ C s0 H0 fp0, PG (cxLcC X N scope cl y C s0 H0 fp0) tg g) (ht : ∀ C s0 H0 fp0, PTs (cxLcC X N scope cl y C s0 H0 fp0) ifs tt) (he : ∀ C s0 H0 fp0, PE (cxLcC X N scope cl y C s0 H0 fp0) elt te)
    (hw : ∀ D, H D = none → ∃ W : Nat → Nat → St → Hp → Prop, (∃ m, W 0 m (pick n js σ) (upd H D (.lst []))) ∧ ∀ i m σ' H', W i m σ' H' →
      (J.stop i H' ∧ Q (.ref D) H') ∨ (J.go i H' ∧ ∃ Nx : St → Hp → Prop, (∀ σ2 H2, Nx σ2 H2 → ∃ m', m' < m ∧ W (i + 1) m' σ2 H2) ∧
        ∀ x H2, J.yld i H' x H2 → g x σ' H2 fun σ3 H3 => tt σ3 H3 fun ok H4 => if ok = true then te σ3 H4 fun y H5 => ∃ ys, H5 D = some (.lst ys) ∧ ys.length < sizeLine ∧ Nx σ3 (upd H5 D (.lst (ys ++ [y]))) else Nx σ3 H4))
    (fin : ∀ D C σ' H' s', s.heap.objs.size ≤ C → Inv (cxLcC X N scope cl y C s H fp) [] σ' H' s' → Q (.ref D) H' → RR (.ref D) C (.ok .next) s') :
    wpAny (model X.prog X.w) X.A (newList []) (fun acc s1 => wpAny (model X.prog X.w) X.A (newFunctionEnv scope X.env.globals cl [] X.env.qual none .none (some X.env)) (fun cenv s2 =>
      codeAny (model X.prog X.w) X.A (.compStart (.ListComp elt [⟨tg, iter, ifs, 0⟩] scope pos) 0 (.ref it) acc { cenv with scope := relabel scope X.env }) (RR acc cenv.locals) s2) E s1) E s := by
  refine wpAny_newObj_type (new_block L.one L.onep ?_)
  dsimp only
  generalize hG : s.heap.push { cls := .type "list", dict := none, data := .seq ([] : List Value).toArray } = G
  intro h1 hn1 hk1 hcell
  have eC : G.objs.size = s.heap.objs.size + 1 := by rw [← hG, Heap.size_push]
  have hC : s.heap.objs.size ≤ G.objs.size := by rw [eC]; exact Nat.le_succ _
  have hDC : s.heap.objs.size ≠ G.objs.size := by rw [eC]; exact Nat.ne_of_lt (Nat.lt_succ_self _)
  have hlt : ∀ b ∈ fp, b < s.heap.objs.size := fun b hb => by
    obtain ⟨o, e, _⟩ := T.obj 0 _ t0 b hb
    exact Heap.lt_size e
  have old : ∀ b o, s.heap.get? b = some o → h1.get? b = some o := fun b o e => hk1 b o (hG ▸ Heap.get?_push_of_some _ e)
  have hl : h1.get? s.heap.objs.size = some { cls := .type "list", data := .seq ([] : List Value).toArray 0 } := hk1 _ _ (hG ▸ Heap.get?_push_size _ rfl)
  have I1 : ∀ tk, Inv (cxLcC X N scope cl y G.objs.size s H fp) [] (pick n js σ) (upd H s.heap.objs.size (.lst [])) { s with heap := h1, toks := tk } := fun tk => Inv.lcC L I hf hlt (Nat.le_refl _) hC hDC hn1 old hl hcell
  have t1 : tn 0 h1 := T.keep _ _ _ t0 fun b _ o e => old b o e
  obtain ⟨W, ⟨m0, w0⟩, step⟩ := hw s.heap.objs.size (I.hok.fresh (Nat.le_refl _))
  have fr1 : ∀ b ∈ fp, upd H s.heap.objs.size (.lst []) b = none := fun b hb => by
    rw [upd_ne (Nat.ne_of_lt (hlt b hb))]
    exact (hf b hb).1
  have fps : ∀ {H' : Hp}, (∀ b ∈ fp, H' b = none) → ∀ b ∈ fp, FpOk (cxLcC X N scope cl y G.objs.size s H fp) [] H' b := fun {H'} hn b hb => by
    refine ⟨hn b hb, Nat.ne_of_lt (Nat.lt_of_lt_of_le (hlt b hb) hC), fun hz => ?_, .inl hb, fun x c e => L.far hf (hlt b hb) hb hC e, fun p hp => absurd (show p ∈ ([] : List (Addr × Obj)) from hp) (by simp)⟩
    rcases List.mem_cons.mp (I.stkSub b hz) with z | z
    · exact (hf b hb).2.1 z
    · exact (hf b hb).2.2.1 z
  have loop : ∀ s0 : Shared, s0 = { s with heap := h1 } →
      codeAny (model X.prog X.w) X.A (.compLoop (.ListComp elt [⟨tg, iter, ifs, 0⟩] scope pos) 0 (.ref it) (.ref s.heap.objs.size) (compEnvC scope ((y, G.objs.size + 1) :: cl) G.objs.size X.env)) (RR (.ref s.heap.objs.size) G.objs.size) s0 := by
    rintro s0 rfl
    refine lc_loop (fun k s' => ∃ i σ' H', Inv (cxLcC X N scope cl y G.objs.size s H fp) [] σ' H' s' ∧ tn i s'.heap ∧ (∀ b ∈ fp, H' b = none) ∧ W i k σ' H') ?_ m0 ⟨0, _, _, I1 _, t1, fr1, w0⟩
    rintro k s3 ⟨i, σ3, H3, I3, t3, fr3, w3⟩
    rcases step i k σ3 H3 w3 with ⟨stop, qn⟩ | ⟨go, Nx, hN, body⟩
    · refine thn (T.done (cxLcC X N scope cl y G.objs.size s H fp) rfl rfl rfl hc i [] s3 σ3 H3 _ I3 (fps fr3) t3 stop) fun r s4 ⟨hr, I4⟩ => ?_
      subst hr
      exact fin _ _ σ3 H3 s4 hC I4 qn
    · refine thn (T.item (cxLcC X N scope cl y G.objs.size s H fp) rfl rfl rfl hc i [] s3 σ3 H3 _ I3 (fps fr3) t3 go) fun r s4 ⟨u, hr, h4⟩ => ?_
      subst hr
      refine thn h4 fun _ s5 ⟨x, H5, I5, r5, y5, t5, fr5⟩ => ?_
      have I5' := I5.pinned (fps fr5) (T.obj _ _ t5)
      refine thn (hg _ _ _ _ _ s5 σ3 H5 x u _ I5' r5 (body x H5 y5)) fun _ s6 ⟨σ6, H6, I6, q6⟩ => ?_
      have again : ∀ {σ7 : St} {H7 : Hp} {s7 : Shared}, Inv (cxLcC X N scope cl y G.objs.size s H fp) ([] ++ pinsAt fp s5.heap) σ7 H7 s7 → Nx σ7 H7 →
          ∃ j, j < k ∧ ∃ i σ' H', Inv (cxLcC X N scope cl y G.objs.size s H fp) [] σ' H' s7 ∧ tn i s7.heap ∧ (∀ b ∈ fp, H' b = none) ∧ W i j σ' H' := fun {σ7 H7 s7} I7 n7 => by
        obtain ⟨m', hm, w7⟩ := hN σ7 H7 n7
        refine ⟨m', hm, i + 1, σ7, H7, I7.unpinned, T.keep _ _ _ t5 fun b hb o e => (I7.pin (b, o) (List.mem_append_right _ (List.mem_append_right _ (mem_pinsAt hb e)))).1, fun b hb => ?_, w7⟩
        obtain ⟨o, e, _⟩ := T.obj _ _ t5 b hb
        exact (I7.pin (b, o) (List.mem_append_right _ (List.mem_append_right _ (mem_pinsAt hb e)))).2.1
      refine thn (ht _ _ _ _ _ s6 σ6 H6 _ I6 q6) fun ok s7 ⟨H7, I7, q7⟩ => ?_
      cases ok with
      | false =>
        rw [if_neg (by decide)] at q7 ⊢
        exact again I7 q7
      | true =>
        rw [if_pos rfl] at q7 ⊢
        refine thn (he _ _ _ _ _ s7 σ6 H7 _ I7 q7) fun v s8 ⟨y, H8, I8, r8, ys, e8, z8, q8⟩ => ?_
        refine thn (mt_append _ s8 σ6 H8 (.ref s.heap.objs.size) [y] (.ref s.heap.objs.size) [v] (fun _ H9 => Nx σ6 H9) I8 rfl (.cons r8 .nil) ⟨_, ys, y, rfl, rfl, e8, z8, q8⟩) fun _ s9 ⟨_, H9, I9, _, q9⟩ => ?_
        exact again I9 q9
  exact codeAny_compStart_list (loop _ rfl) (T.self X.A 0 _ _ _ t1 (loop _ rfl))

theorem pe_lcC {elt tg iter : Expr} {ifs : List Expr} {pos : Pos} {wi : TI} {g : TG} {tt : TT} {te : TE} (L : LcOkC X N n js scope cl y) (hc : X.calm = true) (hi : PI X tg iter wi)
    (hg : ∀ C s0 H0 fp0, PG (cxLcC X N scope cl y C s0 H0 fp0) tg g) (ht : ∀ C s0 H0 fp0, PTs (cxLcC X N scope cl y C s0 H0 fp0) ifs tt) (he : ∀ C s0 H0 fp0, PE (cxLcC X N scope cl y C s0 H0 fp0) elt te)
    (hs : ∀ x, foldedSetIterable iter X.env x = pure x := by intro _; rfl) : PE X (.ListComp elt [⟨tg, iter, ifs, 0⟩] scope pos) (tLc wi n js g tt te) := by
  intro pins s σ H Q I h
  rw [eval_ListComp]
  refine wpAny_comprehension_free (use := none) rfl hs L.clos L.kind L.names (thn (hi pins s σ H _ I h) fun v s1 h1 => thn h1 fun itv s2 h2 => ?_)
  obtain ⟨it, fp, tn, J, H2, e, I2, T, t2, f2, hw⟩ := h2
  subst e
  refine lc_coreC (RR := fun acc C => compPost (model X.prog X.w) X.A X.xe none (EP X pins σ Q) acc C) L hc I2 T t2 f2 hg ht he hw ?_
  intro D C σ' H' s' hC I' q
  obtain ⟨m, hn, _⟩ := I'.loc
  exact ⟨m, hn, fun h' hs' => ⟨.ref D, H', I2.unlcC f2 hC I' hs', rfl, q⟩⟩

end
theorem lcokC {X : Cx} {N : List Str} {n : Nat} {js : List Nat} {scope : Scope} {cl : List (Str × Addr)} {y : Str} (clos : closureFor scope X.env = pure cl := by rfl) (one : ∀ k, cellsFrom k scope.names cl = (y, k) :: cl := by intro _; rfl)
    (onep : ∀ h : Heap, pushCells h scope.names = h.push { cls := .type "cell", data := .cell none } := by intro _; rfl) (kind : scope.kind = .function := by rfl)
    (names : (scope.names.all fun z => !(z.2 == .local) || scope.names.lookup z.1 == some .local) = true := by rfl) (cells : CellsIn X.env.cells cl := by repeat' first | exact CellsIn.nil | refine CellsIn.cons rfl ?_)
    (has : ((relabel scope X.env).names.all fun z => !(isCF (some z.2)) || z.1 == y || (cl.lookup z.1).isSome) = true := by rfl) (len : n + js.length = N.length := by rfl)
    (free : ((N.drop n).zip js).all (fun p => X.N[p.2]? == some p.1 && isCF (X.env.scope.names.lookup p.1) && isCF ((relabel scope X.env).names.lookup p.1) && (cl.lookup p.1).isSome && !(p.1 == y)) = true := by rfl) : LcOkC X N n js scope cl y where
  clos := clos
  one := one
  onep := onep
  kind := kind
  names := fun z hz e => by
    have h := List.all_eq_true.mp names z hz
    rw [e] at h
    simpa using h
  cells := fun x c h => cells.mem (mem_of_look h)
  has := fun x h => by
    have key : ∀ k, (relabel scope X.env).names.lookup x = some k → isCF (some k) = true → x = y ∨ ∃ c, cl.lookup x = some c := fun k e hk => by
      have h1 := List.all_eq_true.mp has (x, k) (mem_of_look e)
      rw [hk] at h1
      simp only [Bool.not_true, Bool.false_or, Bool.or_eq_true, beq_iff_eq] at h1
      exact h1.imp id Option.isSome_iff_exists.mp
    rcases h with h | h
    · exact key _ h rfl
    · exact key _ h rfl
  len := len
  free := fun i x h => by
    have hd : (N.drop n)[i]? = some x := by rw [List.getElem?_drop]; exact h
    have hi : i < (N.drop n).length := (List.getElem?_eq_some_iff.mp hd).1
    have hj : i < js.length := by rw [List.length_drop] at hi; omega
    have hz : ((N.drop n).zip js)[i]? = some (x, js[i]) := by
      rw [List.getElem?_zip_eq_some]
      exact ⟨hd, List.getElem?_eq_getElem hj⟩
    have h1 := List.all_eq_true.mp free (x, js[i]) (List.mem_of_getElem? hz)
    simp only [Bool.and_eq_true, beq_iff_eq, Bool.not_eq_true', beq_eq_false_iff_ne] at h1
    obtain ⟨⟨⟨⟨a1, a2⟩, a3⟩, a4⟩, a5⟩ := h1
    obtain ⟨c, hc⟩ := Option.isSome_iff_exists.mp a4
    exact ⟨js[i], c, List.getElem?_eq_getElem hj, a1, isCF_of a2, isCF_of a3, hc, a5⟩
end L2
namespace K04
open PySem L2
local macro_rules | `(tactic| walk_at "sc") => `(tactic| exact ⟨rfl, rfl, rfl, by decide +kernel, rfl, by decide +kernel, by decide +kernel⟩)
local macro_rules | `(tactic| walk_at "rd") => `(tactic| simp [tRet, tOp, rI, rI0, rU, tUn, tVar, tC, L2.start, tSeq, tIfS, tTest, tAsg, gName, tCall, tCons, tNil, tCB, tNext, tDrop, tAndV, tOrV, tNotV, tChain, tAnd, tOr, tNot, tB, rEq, rNe, scal, tTup, tLst, gTup, gCons, gNil, rIxL, rIxT, rIxS, and_assoc, cxK, tFor_rng1, tFor_lst, rNeD, rEqD, tBM, rAppend, spAt, tRaise, tTry, rIn, tLc_lst, tLc_rng1, rLo, tSl, rSlL, rSum, tPart, tNoPart])
abbrev s__law_other_size : Stmt := top 18
theorem sc__law_other_size : FnScope ["_law_picture_here", "_law_cell", "_law_high", "_law_wide"] ["_law_picture_here", "_law_cell"] (defScope s__law_other_size) := by walk_at "sc"
section
variable {P : Program} {w : World} {K : PySem.W.Frag} {mg : Str → Option Value} {base : Heap} {f : Addr} {fd : FuncData}
def spOther (K : PySem.W.Frag) : Sp := fun vs H Q _ => ∃ (x : V) (c : Int) (p : Pict) (w h : Nat), vs = [x, .int c] ∧ Rep K H (picD p) x ∧ IsPic p w h ∧ ∀ r q w' h' H', Same H H' → IsPic q w' h' → Rep K H' (picD q) (.ref r) → Q (.ref r) H'
theorem ok_law_other_size (F : Fun K "_law_other_size" "_law_other_size" s__law_other_size f fd) (T : Txt K mg) : FnOk P w K mg base CX0 1 f fd ["_law_picture_here", "_law_cell"] (spOther K) := by
  have nd := sc__law_other_size.nd
  refine F.ok sc__law_other_size (fun vs H Q E h => ?_) (fun cdv A outer s H vs Q E hr h => ?_)
  · obtain ⟨x, c, p, w, h, rfl, _⟩ := h
    rfl
  · obtain ⟨x, c, p, w, h, rfl, hx, ip, fin⟩ := h
    have nd1 : List.Nodup (α := Str) ["_law_row"] := by decide +kernel
    have nd3 : List.Nodup (α := Str) ["_law_column", "_law_picture_here", "_law_high"] := by decide +kernel
    have nd4 : List.Nodup (α := Str) ["_law_row", "_law_column", "_law_picture_here"] := by decide +kernel
    refine ⟨_, (pss_cons (ps_set (i := 2) nd rfl (Or.inr rfl) (pe_callB call_len_seq (by rfl) T.n_len (by rfl) (QA.pa (qc (pv 0) qn))))
      (pss_cons (ps_set (i := 3) nd rfl (Or.inl rfl) (pe_callB call_len_seq (by rfl) T.n_len (by rfl) (QA.pa (qc (pe_ix ix_list (pv 0) pe_int (fun _ _ => rfl)) qn))))
      (pss_cons (ps_if (PW.pt (pw_and (pt_cmpR op_eq (pe_op op_mod (pv 1) pe_int) pe_int (nomark _)) (pw_and1 (pt_cmpR op_gt (pv 2) pe_int (nomark _))))) (pss_one (ps_ret (pe_slice (cut_of (K := K) rfl) (pv 0) (po_some pe_int) po_none))) pss_nil)
      (pss_cons (ps_if (PW.pt (pw_and (pt_cmpR op_eq (pe_op op_mod (pv 1) pe_int) pe_int (nomark _)) (pw_and1 (pt_cmpR op_lt (pv 2) pe_int (nomark _))))) (pss_one (ps_ret (pe_op (sum_of (K := K) rfl) (pv 0) (pe_slice (cut_of (K := K) rfl) (pv 0) po_none (po_some pe_int))))) pss_nil)
      (pss_cons (ps_if (PW.pt (pw_and (pt_cmpR op_eq (pe_op op_mod (pv 1) pe_int) pe_int (nomark _)) (pw_and1 (pt_cmpR op_gt (pv 3) pe_int (nomark _))))) (pss_one (ps_ret (pe_lc (lcok (N := ["_law_row"]) (n := 1) (js := [])) rfl (pi_list (pv 0)) (fun _ _ _ _ => (pg_name (i := 0) (nd1) rfl (Or.inl rfl))) (fun _ _ _ _ => pts_nil) (fun _ _ _ _ => (pe_slice (cut_of (K := K) rfl) (pv 0) (po_some pe_int) po_none))))) pss_nil)
      (pss_cons (ps_if (PW.pt (pw_and (pt_cmpR op_eq (pe_op op_mod (pv 1) pe_int) pe_int (nomark _)) (pw_and1 (pt_cmpR op_lt (pv 3) pe_int (nomark _))))) (pss_one (ps_ret (pe_lc (lcok (N := ["_law_row"]) (n := 1) (js := [])) rfl (pi_list (pv 0)) (fun _ _ _ _ => (pg_name (i := 0) (nd1) rfl (Or.inl rfl))) (fun _ _ _ _ => pts_nil) (fun _ _ _ _ => (pe_op (sum_of (K := K) rfl) (pv 0) (pe_slice (cut_of (K := K) rfl) (pv 0) po_none (po_some pe_int))))))) pss_nil)
      (pss_cons (ps_if (pt_cmpR op_le (pv 3) pe_int (nomark _)) (pss_one (ps_ret (pe_lcC (lcokC (N := ["_law_column", "_law_picture_here", "_law_high"]) (n := 1) (js := [0, 2]) (y := "_law_column")) rfl (pi_range1 rfl T.n_range (QA.pa (qc (pv 3) qn))) (fun _ _ _ _ => (pg_name (i := 0) (nd3) rfl (Or.inr rfl))) (fun _ _ _ _ => pts_nil) (fun _ _ _ _ => (pe_lc (lcok (N := ["_law_row", "_law_column", "_law_picture_here"]) (n := 1) (js := [0, 1])) rfl (pi_range1 rfl T.n_range (QA.pa (qc (pv 2) qn))) (fun _ _ _ _ => (pg_name (i := 0) (nd4) rfl (Or.inl rfl))) (fun _ _ _ _ => pts_nil) (fun _ _ _ _ => (pe_ix (at_of (K := K) rfl) (pe_ix (at_of (K := K) rfl) (pv 2) (pv 0) (fun _ _ => rfl)) (pv 1) (fun _ _ => rfl)))))))) pss_nil)
      (pss_one (ps_ret (pv 0)))))))))), ?_⟩
    have hh1 := ip.h1
    have hw1 := ip.w1
    obtain ⟨a, rfl⟩ := rep_ref hx
    obtain ⟨as, b0, ys0, _, hSb, hlb, hv0, hS0, hl0, _⟩ := rep_cell hx ip (i := 0) (j := 0) (by omega) (by omega)
    refine seq_cut (fun σ1 H1 => σ1 = [some (.ref a), some (.int c), some (.int h), none] ∧ H = H1) (fun R hR => ?_) ?_
    · walk_at "rd"
      refine ⟨as, .inl hSb, ?_⟩
      rw [hlb]
      exact hR _ _ ⟨rfl, rfl⟩
    rintro _ _ ⟨rfl, rfl⟩
    refine seq_cut (fun σ1 H1 => σ1 = [some (.ref a), some (.int c), some (.int h), some (.int w)] ∧ H = H1) (fun R hR => ?_) ?_
    · walk_at "rd"
      refine ⟨as, hSb, _, hv0, b0, rfl, ys0, .inl hS0, ?_⟩
      rw [hl0]
      exact hR _ _ ⟨rfl, rfl⟩
    rintro _ _ ⟨rfl, rfl⟩
    refine seq_cut (fun σ1 H1 => σ1 = [some (.ref a), some (.int c), some (.int h), some (.int w)] ∧ H = H1) (fun R hR => ?_) ?_
    · walk_at "rd"
      obtain ⟨_, xs, e, hSx, hrx⟩ := id hx
      cases e
      have hxl := hrx.length
      rw [List.length_map, ip.hh] at hxl
      refine ite2 (fun _ => ite2 (fun h1 => ⟨xs, hSx, fun r hr => ?_⟩) fun _ => hR _ _ ⟨rfl, rfl⟩) fun _ => hR _ _ ⟨rfl, rfl⟩
      refine fin r (p.drop 1) w (h - 1) _ (same_new hr) (ip.tail (by omega)) ⟨r, _, rfl, SqL.of upd_same, ?_⟩
      rw [cut_tail xs (by omega), List.map_drop]
      exact Reps.same (same_new hr) _ _ (hrx.drop 1)
    rintro _ _ ⟨rfl, rfl⟩
    refine seq_cut (fun σ1 H1 => σ1 = [some (.ref a), some (.int c), some (.int h), some (.int w)] ∧ H = H1) (fun R hR => ?_) ?_
    · walk_at "rd"
      obtain ⟨_, xs, e, hSx, hrx⟩ := id hx
      cases e
      have hxl := hrx.length
      rw [List.length_map, ip.hh] at hxl
      refine ite2 (fun _ => ite2 (fun h1 => ⟨xs, hSx, fun t ht => ⟨xs, SqL.same (same_new ht) hSx, _, SqL.of upd_same, ?_, fun r hr => ?_⟩⟩) fun _ => hR _ _ ⟨rfl, rfl⟩) fun _ => hR _ _ ⟨rfl, rfl⟩
      · have := cutV_length xs none (some 1)
        exact Nat.le_of_lt (small1000 (by omega))
      · have hs := (same_new (o := HO.lst (cutV xs none (some 1))) ht).trans (same_new (o := HO.lst (xs ++ cutV xs none (some 1))) hr)
        refine fin r (p ++ p.take 1) w (h + 1) _ hs (ip.more (by omega)) ⟨r, _, rfl, SqL.of upd_same, ?_⟩
        rw [cut_head xs (by omega), List.map_append, List.map_take]
        rw [cut_head xs (by omega)] at hs
        exact Reps.same hs _ _ (hrx.append (hrx.take 1))
    rintro _ _ ⟨rfl, rfl⟩
    refine seq_cut (fun σ1 H1 => σ1 = [some (.ref a), some (.int c), some (.int h), some (.int w)] ∧ H = H1) (fun R hR => ?_) ?_
    · walk_at "rd"
      refine ite2 (fun _ => ite2 (fun h1 => ⟨⟨as, hSb⟩, ?_⟩) fun _ => hR _ _ ⟨rfl, rfl⟩) fun _ => hR _ _ ⟨rfl, rfl⟩
      refine map_rows (fun r => r.drop 1) hx (by have := ip.hh; have := ip.h2; omega) (fun H' b us row Z h1 h2 h3 h4 k => ?_) fun D H' g => fin D _ (w - 1) h _ g.base (ip.rows _ (fun r hr => ?_) (fun r c hc => List.mem_of_mem_drop hc) (by omega) (by have := ip.w2; omega)) g.done
      · have hul := h4.length
        rw [List.length_map, ip.ww row h2] at hul
        refine ⟨_, rfl, 1, rfl, b, us, rfl, SqL.same h1 h3, fun l hl => k l _ _ (same_new hl) hl upd_same ?_⟩
        rw [cut_tail us (by omega), List.map_drop]
        exact h4.drop 1
      · rw [List.length_drop, ip.ww r hr]
    rintro _ _ ⟨rfl, rfl⟩
    refine seq_cut (fun σ1 H1 => σ1 = [some (.ref a), some (.int c), some (.int h), some (.int w)] ∧ H = H1) (fun R hR => ?_) ?_
    · walk_at "rd"
      refine ite2 (fun _ => ite2 (fun h1 => ⟨⟨as, hSb⟩, ?_⟩) fun _ => hR _ _ ⟨rfl, rfl⟩) fun _ => hR _ _ ⟨rfl, rfl⟩
      refine map_rows (fun r => r ++ r.take 1) hx (by have := ip.hh; have := ip.h2; omega) (fun H' b us row Z h1 h2 h3 h4 k => ?_) fun D H' g => fin D _ (w + 1) h _ g.base (ip.rows _ (fun r hr => ?_) (fun r c hc => (List.mem_append.mp hc).elim id List.mem_of_mem_take) (by omega) (by omega)) g.done
      · have hul := h4.length
        rw [List.length_map, ip.ww row h2] at hul
        have hw2 := ip.w2
        refine ⟨_, rfl, _, rfl, 1, rfl, b, us, rfl, SqL.same h1 h3, fun t ht => ⟨b, t, us, _, rfl, rfl, SqL.same (h1.trans (same_new ht)) h3, SqL.of upd_same, ?_, fun l hl => k l _ _ ((same_new ht).trans (same_new hl)) ((same_new ht).free hl) upd_same ?_⟩⟩
        · have := cutV_length us none (some 1)
          exact Nat.le_of_lt (small1000 (by omega))
        · rw [cut_head us (by omega), List.map_append, List.map_take]
          exact h4.append (h4.take 1)
      · rw [List.length_append, List.length_take, ip.ww r hr]
        omega
    rintro _ _ ⟨rfl, rfl⟩
    refine seq_cut (fun σ1 H1 => σ1 = [some (.ref a), some (.int c), some (.int h), some (.int w)] ∧ H = H1) (fun R hR => ?_) ?_
    · walk_at "rd"
      refine ite2 (fun hw12 => ⟨by omega, ?_⟩) fun _ => hR _ _ ⟨rfl, rfl⟩
      refine LcR.by (fun D i σ H' => ∃ v, σ = [v, some (.ref a), some (.int h)] ∧ Grid K H H' D ((List.range i).map fun c => (List.range h).map fun r => cellAt p r c)) (fun D hD => ⟨none, rfl, Grid.new (Same.refl _) hD⟩) ?_ ?_
      · rintro D i _ H' hD hi ⟨v, rfl, q⟩
        obtain ⟨vs, hv, hvl⟩ := q.lst
        rw [List.length_map, List.length_range] at hvl
        have hh2 := ip.h2
        have hw2 := ip.w2
        simp only [gName, tYes, if_true]
        rw [tLc_rng1]
        refine ⟨_, rfl, h, rfl, by omega, by omega, ?_⟩
        rw [Int.toNat_natCast]
        refine LcR.by (fun l j σ H2 => ∃ v us, σ = [v, some (.int i), some (.ref a)] ∧ Same H' H2 ∧ H2 l = some (.lst us) ∧ Reps K H (((List.range j).map fun r => cellAt p r i).map celD) us) (fun l hl => ⟨none, [], rfl, same_new hl, upd_same, rfl⟩) ?_ ?_
        · rintro l j _ H2 hl hj ⟨v, us, rfl, hs2, hl2, hus⟩
          obtain ⟨xs, b, ys, u, hSx, hxl, hv1, hSy, hyl, hv2, hRu, ok⟩ := rep_cell hx ip hj hi
          have hs := q.base.trans hs2
          have hul := hus.length
          rw [List.length_map, List.length_map, List.length_range] at hul
          simp only [gName, tYes, if_true]
          refine ⟨_, rfl, _, rfl, a, xs, _, _, rfl, rfl, SqL.same hs hSx, hv1, _, rfl, b, ys, _, u, rfl, rfl, SqL.same hs hSy, hv2, us, hl2, small1000 (by omega), _, us ++ [u], rfl, same_upd hs2 hl, upd_same, ?_⟩
          rw [List.range_succ, List.map_append, List.map_append]
          exact hus.snoc hRu
        · rintro l _ H2 hl ⟨v, us, rfl, hs2, hl2, hus⟩
          refine ⟨vs, hs2 _ _ hv, small1000 (by omega), _, rfl, ?_⟩
          rw [List.range_succ, List.map_append]
          exact q.put hv hus hl hs2 hl2
      · rintro D _ H' hD ⟨v, rfl, q⟩
        exact fin D (turnP p h w) h w _ q.base (ip.turn (by omega)) q.done
    rintro _ _ ⟨rfl, rfl⟩
    walk_at "rd"
    exact fin a p w h _ (Same.refl _) ip hx
end
end K04
namespace K04
open PySem L2
local macro_rules | `(tactic| walk_at "sc") => `(tactic| exact ⟨rfl, rfl, rfl, by decide +kernel, rfl, by decide +kernel, by decide +kernel⟩)
local macro_rules | `(tactic| walk_at "rd") => `(tactic| simp [tRet, tOp, rI, rI0, rU, tUn, tVar, tC, L2.start, tSeq, tIfS, tTest, tAsg, gName, tCall, tCons, tNil, tCB, tNext, tDrop, tAndV, tOrV, tNotV, tChain, tAnd, tOr, tNot, tB, rEq, rNe, scal, tTup, tLst, gTup, gCons, gNil, rIxL, rIxT, rIxS, and_assoc, cxK, tFor_rng1, tFor_lst, rNeD, rEqD, tBM, rAppend, spAt, tRaise, tTry, rIn, tLc_lst, tLc_rng1, rLo, tSl, rSlL, rSum, tPart, tNoPart])
abbrev s_law : Stmt := top 22
theorem sc_law : FnScope ["_law_script", "_law_picture_here", "_law_other", "_law_wider", "_law_handed", "_law_due_here"] ["_law_script"] (defScope s_law) := by walk_at "sc"
section
variable {P : Program} {w : World} {K : PySem.W.Frag} {mg : Str → Option Value} {base : Heap} {f : Addr} {fd : FuncData}
def spLaw (K : PySem.W.Frag) : Sp := fun vs H Q _ => ∃ (a : Addr) (ns : List Int), vs = [.ref a] ∧ SqL K H a (ns.map V.int) ∧ ns.length ≤ 63 ∧ ∀ H', Q (.bl true) H'
def allD (p q t : Pict) : PyData := .list [picD p, picD q, picD t]
theorem eqvAll_refl {α : Type} {f : α → PyData} (h : ∀ x, PyData.eqv (f x) (f x) = true) : ∀ l : List α, PyData.eqvAll (l.map f) (l.map f) = true
  | [] => by simp [PyData.eqvAll]
  | x :: l => by simp [PyData.eqvAll, h x, eqvAll_refl h l]
theorem eqv_row (r : List Cel) : PyData.eqv (rowD r) (rowD r) = true := by
  unfold rowD
  simp only [PyData.eqv]
  exact eqvAll_refl (fun c => by rw [eqv_cel]; simp) r
theorem eqv_pic (p : Pict) : PyData.eqv (picD p) (picD p) = true := by
  unfold picD
  simp only [PyData.eqv]
  exact eqvAll_refl eqv_row p
theorem eqv_all (p q t : Pict) : PyData.eqv (allD p q t) (allD p q t) = true := by
  simp [allD, PyData.eqv, PyData.eqvAll, eqv_pic]
theorem lay_all {α : Type} {f : α → PyData} {n : Nat} : ∀ l : List α, (∀ x ∈ l, PyData.canLay0 (f x) = true ∧ PyData.depth (f x) ≤ n) → PyData.canLayAll0 (l.map f) = true ∧ PyData.depthAll (l.map f) ≤ n
  | [], _ => ⟨rfl, Nat.zero_le _⟩
  | x :: l, h => by
    obtain ⟨h1, h2⟩ := lay_all l fun y hy => h y (List.mem_cons_of_mem _ hy)
    obtain ⟨h3, h4⟩ := h x List.mem_cons_self
    refine ⟨by simp [PyData.canLayAll0, h1, h3], ?_⟩
    simp only [List.map_cons, PyData.depthAll]
    omega
theorem lay_row {r : List Cel} (h : ∀ c ∈ r, okC c) : PyData.canLay0 (rowD r) = true ∧ PyData.depth (rowD r) ≤ 10 := by
  obtain ⟨h1, h2⟩ := lay_all (f := celD) (n := 9) r fun c hc => by
    have z := h c hc
    unfold okC at z
    simp [celD, PyData.canLay0, PyData.canLayAll0, PyData.depth, PyData.depthAll, z]
  refine ⟨by simpa [rowD, PyData.canLay0] using h1, ?_⟩
  simp only [rowD, PyData.depth]
  omega
theorem lay_pic {p : Pict} {w h : Nat} (ip : IsPic p w h) : PyData.canLay0 (picD p) = true ∧ PyData.depth (picD p) ≤ 11 := by
  obtain ⟨h1, h2⟩ := lay_all (f := rowD) (n := 10) p fun r hr => lay_row (ip.ok r hr)
  refine ⟨by simpa [picD, PyData.canLay0] using h1, ?_⟩
  simp only [picD, PyData.depth]
  omega
theorem shaped_all {p q t : Pict} {w h w' h' w2 h2 : Nat} (ip : IsPic p w h) (iq : IsPic q w2 h2) (it : IsPic t w' h') : SeqAt.shaped (allD p q t) = true := by
  obtain ⟨a1, a2⟩ := lay_pic ip
  obtain ⟨b1, b2⟩ := lay_pic iq
  obtain ⟨c1, c2⟩ := lay_pic it
  simp only [SeqAt.shaped, allD, PyData.canLay0, PyData.canLayAll0, PyData.depth, PyData.depthAll, a1, b1, c1, Bool.and_true, Bool.true_and, decide_eq_true_eq]
  omega
theorem rep_list {H : Hp} {p : Pict} {r : Addr} (h : Rep K H (picD p) (.ref r)) : ∃ xs, SqL K H r xs := by
  obtain ⟨_, xs, e, hS, _⟩ := rep_pic h
  cases e
  exact ⟨xs, hS⟩
theorem ok_law (F : Fun K "law" "law" s_law f fd) (T : Txt K mg) (c__law_at : Cal P w K mg base 1 "_law_at" [] (spAt K)) (c__law_picture : Cal P w K mg base 2 "_law_picture" [] (spPicture K)) (c__law_changed : Cal P w K mg base 2 "_law_changed" [] (spChanged K))
    (c__law_other_size : Cal P w K mg base 1 "_law_other_size" [] (spOther K)) (c__law_due : Cal P w K mg base 1 "_law_due" [] (spPlaces K)) (c__law_right : Cal P w K mg base 4 "_law_right" [] (spRight K)) (c__law_refused : Cal P w K mg base 4 "_law_refused" [] (spRefused K)) :
    FnOk P w K mg base CX0 5 f fd ["_law_script"] (spLaw K) := by
  have nd := sc_law.nd
  refine F.ok sc_law (fun vs H Q E h => ?_) (fun cdv A outer s H vs Q E hr h => ?_)
  · obtain ⟨a, ns, rfl, _⟩ := h
    rfl
  · obtain ⟨a, ns, rfl, hS, hl, fin⟩ := h
    have hu := hr.units
    have nd1 : List.Nodup (α := Str) ["_law_row"] := by decide +kernel
    refine ⟨_, (pss_cons (ps_set (i := 1) nd rfl (Or.inl rfl) (pe_cal c__law_picture (hr.mono (by decide)) rfl (QA.pa (qc (pv 0) (qc pe_int qn)))))
      (pss_cons (ps_set (i := 2) nd rfl (Or.inl rfl) (pe_cal c__law_changed (hr.mono (by decide)) rfl (QA.pa (qc (pv 1) (qc (pv 0) qn)))))
      (pss_cons (ps_set (i := 3) nd rfl (Or.inl rfl) (pe_cal c__law_other_size (hr.mono (by decide)) rfl (QA.pa (qc (pv 1) (qc (pe_cal c__law_at (hr.mono (by decide)) rfl (QA.pa (qc (pv 0) (qc pe_int qn)))) qn)))))
      (pss_cons (ps_set (i := 4) nd rfl (Or.inl rfl) (pe_lstq (qc (pe_lc (lcok (N := ["_law_row"]) (n := 1) (js := [])) rfl (pi_list (pv 1)) (fun _ _ _ _ => (pg_name (i := 0) nd1 rfl (Or.inl rfl))) (fun _ _ _ _ => pts_nil) (fun _ _ _ _ => (pe_callTy (lo_of (K := K) rfl) (by rfl) T.n_list rfl (QA.pa (qc (pv 0) qn))))) (qc (pe_lc (lcok (N := ["_law_row"]) (n := 1) (js := [])) rfl (pi_list (pv 2)) (fun _ _ _ _ => (pg_name (i := 0) nd1 rfl (Or.inl rfl))) (fun _ _ _ _ => pts_nil) (fun _ _ _ _ => (pe_callTy (lo_of (K := K) rfl) (by rfl) T.n_list rfl (QA.pa (qc (pv 0) qn))))) (qc (pe_lc (lcok (N := ["_law_row"]) (n := 1) (js := [])) rfl (pi_list (pv 3)) (fun _ _ _ _ => (pg_name (i := 0) nd1 rfl (Or.inl rfl))) (fun _ _ _ _ => pts_nil) (fun _ _ _ _ => (pe_callTy (lo_of (K := K) rfl) (by rfl) T.n_list rfl (QA.pa (qc (pv 0) qn))))) qn)))))
      (pss_cons (ps_set (i := 5) nd rfl (Or.inl rfl) (pe_cal c__law_due (hr.mono (by decide)) rfl (QA.pa (qc (pv 1) (qc (pv 2) qn)))))
      (pss_cons (ps_if (PW.pt (pw_or (pt_not (pt_val (pe_cal c__law_right (hr.mono (by decide)) rfl (QA.pa (qc (pe_ix ix_list (pv 4) pe_int (fun _ _ => rfl)) (qc (pe_ix ix_list (pv 4) pe_int (fun _ _ => rfl)) (qc (pv 5) qn))))))) (pw_or1 (pt_not (pt_val (pe_cal c__law_right (hr.mono (by decide)) rfl (QA.pa (qc (pe_ix ix_list (pv 4) pe_int (fun _ _ => rfl)) (qc (pe_ix ix_list (pv 4) pe_int (fun _ _ => rfl)) (qc (pv 5) qn)))))))))) (pss_one (ps_ret pe_bl)) pss_nil)
      (pss_cons (ps_if (pt_not (pt_val (pe_cal c__law_right (hr.mono (by decide)) rfl (QA.pa (qc (pe_ix ix_list (pv 4) pe_int (fun _ _ => rfl)) (qc (pe_ix ix_list (pv 4) pe_int (fun _ _ => rfl)) (qc (pe_lstq qn) qn))))))) (pss_one (ps_ret pe_bl)) pss_nil)
      (pss_cons (ps_if (pt_cmpR (op_neD hu) (pe_tupq (qc (pe_callB call_len_seq (by rfl) T.n_len (by rfl) (QA.pa (qc (pv 3) qn))) (qc (pe_callB call_len_seq (by rfl) T.n_len (by rfl) (QA.pa (qc (pe_ix ix_list (pv 3) pe_int (fun _ _ => rfl)) qn))) qn))) (pe_tupq (qc (pe_callB call_len_seq (by rfl) T.n_len (by rfl) (QA.pa (qc (pv 1) qn))) (qc (pe_callB call_len_seq (by rfl) T.n_len (by rfl) (QA.pa (qc (pe_ix ix_list (pv 1) pe_int (fun _ _ => rfl)) qn))) qn))) (nomark _)) (pss_one (ps_if (PW.pt (pw_or (pt_not (pt_val (pe_cal c__law_refused (hr.mono (by decide)) rfl (QA.pa (qc (pe_ix ix_list (pv 4) pe_int (fun _ _ => rfl)) (qc (pe_ix ix_list (pv 4) pe_int (fun _ _ => rfl)) qn)))))) (pw_or1 (pt_not (pt_val (pe_cal c__law_refused (hr.mono (by decide)) rfl (QA.pa (qc (pe_ix ix_list (pv 4) pe_int (fun _ _ => rfl)) (qc (pe_ix ix_list (pv 4) pe_int (fun _ _ => rfl)) qn))))))))) (pss_one (ps_ret pe_bl)) pss_nil)) pss_nil)
      (pss_one (ps_ret (pe_and (pe_cal c__law_right (hr.mono (by decide)) rfl (QA.pa (qc (pe_ix ix_list (pv 4) pe_int (fun _ _ => rfl)) (qc (pe_ix ix_list (pv 4) pe_int (fun _ _ => rfl)) (qc (pv 5) qn))))) (pe_one (pe_cmpR (op_eqD hu) (pv 4) (pe_lstq (qc (pv 1) (qc (pv 2) (qc (pv 3) qn)))) (nomark _)))))))))))))), ?_⟩
    refine seq_cut (fun σ1 H1 => ∃ r1 p w h, σ1 = [some (.ref a), some (.ref r1), none, none, none, none] ∧ Same H H1 ∧ IsPic p w h ∧ Rep K H1 (picD p) (.ref r1)) (fun R hR => ?_) ?_
    · walk_at "rd"
      exact ⟨a, ns, 3, rfl, hS, hl, by decide, by decide, fun r p w h H1 h1 h2 h3 => hR _ _ ⟨r, p, w, h, rfl, h1, h2, h3⟩⟩
    rintro _ H1 ⟨r1, p, w, h, rfl, hs1, ip, hp⟩
    refine seq_cut (fun σ1 H2 => ∃ r2 q, σ1 = [some (.ref a), some (.ref r1), some (.ref r2), none, none, none] ∧ Same H1 H2 ∧ IsPic q w h ∧ Rep K H2 (picD q) (.ref r2)) (fun R hR => ?_) ?_
    · walk_at "rd"
      exact ⟨_, a, ns, p, w, h, rfl, SqL.same hs1 hS, hl, hp, ip, fun r q H2 h1 h2 h3 => hR _ _ ⟨r, q, rfl, h1, h2, h3⟩⟩
    rintro _ H2 ⟨r2, q, rfl, hs2, iq, hq⟩
    refine seq_cut (fun σ1 H3 => ∃ r3 t w' h', σ1 = [some (.ref a), some (.ref r1), some (.ref r2), some (.ref r3), none, none] ∧ Same H2 H3 ∧ IsPic t w' h' ∧ Rep K H3 (picD t) (.ref r3)) (fun R hR => ?_) ?_
    · walk_at "rd"
      exact ⟨ns, SqL.same (hs1.trans hs2) hS, hl, _, _, p, w, h, rfl, Rep.same hs2 _ _ hp, ip, fun r t w' h' H3 h1 h2 h3 => hR _ _ ⟨r, t, w', h', rfl, h1, h2, h3⟩⟩
    rintro _ H3 ⟨r3, t, w', h', rfl, hs3, it, ht⟩
    have hp3 := Rep.same (hs2.trans hs3) _ _ hp
    have hq3 := Rep.same hs3 _ _ hq
    refine seq_cut (fun σ1 H4 => ∃ r4 g1 g2 g3, σ1 = [some (.ref a), some (.ref r1), some (.ref r2), some (.ref r3), some (.ref r4), none] ∧ Same H3 H4 ∧ H4 r4 = some (.lst [.ref g1, .ref g2, .ref g3]) ∧ Rep K H4 (picD p) (.ref g1) ∧ Rep K H4 (picD q) (.ref g2) ∧ Rep K H4 (picD t) (.ref g3)) (fun R hR => ?_) ?_
    · walk_at "rd"
      exact ⟨rep_list hp3, copy_rows hp3 (by have := ip.hh; have := ip.h2; omega) fun g1 Ha ga => ⟨rep_list (Rep.same ga.base _ _ hq3), copy_rows (Rep.same ga.base _ _ hq3) (by have := iq.hh; have := iq.h2; omega) fun g2 Hb gb => ⟨rep_list (Rep.same (ga.base.trans gb.base) _ _ ht), copy_rows (Rep.same (ga.base.trans gb.base) _ _ ht) (by have := it.hh; have := it.h2; omega) fun g3 Hc gc => ⟨by decide, fun r4 hr4 =>
        hR _ _ ⟨r4, g1, g2, g3, rfl, ((ga.base.trans gb.base).trans gc.base).trans (same_new hr4), upd_same, Rep.same ((gb.base.trans gc.base).trans (same_new hr4)) _ _ ga.done, Rep.same (gc.base.trans (same_new hr4)) _ _ gb.done, Rep.same (same_new hr4) _ _ gc.done⟩⟩⟩⟩⟩
    rintro _ H4 ⟨r4, g1, g2, g3, rfl, hs4, hr4, hg1, hg2, hg3⟩
    have hp4 := Rep.same hs4 _ _ hp3
    have hq4 := Rep.same hs4 _ _ hq3
    have ht4 := Rep.same hs4 _ _ ht
    refine seq_cut (fun σ1 H5 => ∃ r5, σ1 = [some (.ref a), some (.ref r1), some (.ref r2), some (.ref r3), some (.ref r4), some (.ref r5)] ∧ Same H4 H5 ∧ Rep K H5 (placesD (dif p q w h)) (.ref r5)) (fun R hR => ?_) ?_
    · walk_at "rd"
      exact ⟨_, _, p, q, w, h, rfl, hp4, hq4, ip, iq, fun r xs H5 h1 h2 h3 h4 => hR _ _ ⟨r, rfl, h1, ⟨r, xs, rfl, SqL.of h3, h4.reps⟩⟩⟩
    rintro _ H5 ⟨r5, rfl, hs5, hd5⟩
    refine seq_cut (fun σ1 H6 => σ1 = [some (.ref a), some (.ref r1), some (.ref r2), some (.ref r3), some (.ref r4), some (.ref r5)] ∧ Same H5 H6) (fun R hR => ?_) ?_
    · walk_at "rd"
      refine ⟨_, SqL.of (hs5 _ _ hr4), _, rfl, _, SqL.of (hs5 _ _ hr4), _, rfl, _, _, _, p, q, w, h, rfl, Rep.same hs5 _ _ hg1, Rep.same hs5 _ _ hg2, hd5, ip, iq, fun H6 hs6 => .inr ⟨rfl, _, SqL.of (hs6 _ _ (hs5 _ _ hr4)), _, rfl, _, SqL.of (hs6 _ _ (hs5 _ _ hr4)), _, rfl, _, _, _, q, p, w, h, rfl, Rep.same (hs5.trans hs6) _ _ hg2, Rep.same (hs5.trans hs6) _ _ hg1, ?_, iq, ip, fun H7 hs7 => .inr ⟨rfl, hR _ _ ⟨rfl, hs6.trans hs7⟩⟩⟩⟩
      rw [cellAt_comm_dif q p]
      exact Rep.same hs6 _ _ hd5
    rintro _ H6 ⟨rfl, hs6⟩
    refine seq_cut (fun σ1 H7 => σ1 = [some (.ref a), some (.ref r1), some (.ref r2), some (.ref r3), some (.ref r4), some (.ref r5)] ∧ Same H6 H7) (fun R hR => ?_) ?_
    · walk_at "rd"
      refine ⟨_, SqL.of (hs6 _ _ (hs5 _ _ hr4)), _, rfl, _, SqL.of (hs6 _ _ (hs5 _ _ hr4)), _, rfl, fun l hl => ⟨_, _, _, p, p, w, h, rfl, Rep.same ((hs5.trans hs6).trans (same_new hl)) _ _ hg1, Rep.same ((hs5.trans hs6).trans (same_new hl)) _ _ hg1, ?_, ip, ip, fun H7 hs7 => .inr ⟨rfl, hR _ _ ⟨rfl, (same_new hl).trans hs7⟩⟩⟩⟩
      rw [dif_self]
      exact ⟨l, [], rfl, SqL.of upd_same, rfl⟩
    rintro _ H7 ⟨rfl, hs7⟩
    refine seq_cut (fun σ1 H8 => σ1 = [some (.ref a), some (.ref r1), some (.ref r2), some (.ref r3), some (.ref r4), some (.ref r5)] ∧ Same H7 H8) (fun R hR => ?_) ?_
    · walk_at "rd"
      have s47 := (hs5.trans hs6).trans hs7
      have hh1 := ip.h1
      have hw1 := ip.w1
      have hh2 := it.h1
      have hw2 := it.w1
      obtain ⟨ts, tb, tys, _, hT, hTl, hTv, hTb, hTbl, _⟩ := rep_cell (Rep.same s47 _ _ ht4) it (i := 0) (j := 0) (by omega) (by omega)
      obtain ⟨ps, pb, pys, _, hP, hPl, hPv, hPb, hPbl, _⟩ := rep_cell (Rep.same s47 _ _ hp4) ip (i := 0) (j := 0) (by omega) (by omega)
      refine ⟨ts, .inl hT, ts, hT, _, hTv, tb, rfl, tys, .inl hTb, by decide, fun u hu0 => ⟨ps, .inl (SqL.same (same_new hu0) hP), ps, SqL.same (same_new hu0) hP, _, hPv, pb, rfl, pys, .inl (SqL.same (same_new hu0) hPb), by decide, fun v hv0 => ?_⟩⟩
      rw [hTl, hTbl, hPl, hPbl] at *
      have sx := same_new (o := HO.tup [V.int h, V.int w]) hv0
      refine ⟨pairD (h', w'), ⟨u, _, rfl, SqT.of (sx _ _ upd_same), _, _, rfl, rfl, _, _, rfl, rfl, rfl⟩, pairD (h, w), ⟨v, _, rfl, SqT.of upd_same, _, _, rfl, rfl, _, _, rfl, rfl, rfl⟩, shaped_pair _, shaped_pair _, ?_⟩
      rw [eqv_pair]
      have sa := (same_new (o := HO.tup [V.int h', V.int w']) hu0).trans sx
      have sb := s47.trans sa
      by_cases z : w = w' ∧ h = h'
      · exact .inl ⟨decide_eq_true (by rw [z.1, z.2]), hR _ _ ⟨rfl, sa⟩⟩
      · refine .inr ⟨decide_eq_false fun e => z ?_, _, SqL.of (sb _ _ hr4), _, rfl, _, SqL.of (sb _ _ hr4), _, rfl, _, _, p, t, w, h, w', h', rfl, Rep.same sb _ _ hg1, Rep.same sb _ _ hg3, ip, it, z, fun H8 hs8 => .inr ⟨rfl, _, SqL.of (hs8 _ _ (sb _ _ hr4)), _, rfl, _, SqL.of (hs8 _ _ (sb _ _ hr4)), _, rfl, _, _, t, q, w', h', w, h, rfl, Rep.same (sb.trans hs8) _ _ hg3, Rep.same (sb.trans hs8) _ _ hg2, it, iq, fun y => z ⟨y.1.symm, y.2.symm⟩, fun H9 hs9 => .inr ⟨rfl, hR _ _ ⟨rfl, (sa.trans hs8).trans hs9⟩⟩⟩⟩
        have e1 := congrArg Prod.fst e
        have e2 := congrArg Prod.snd e
        simp only [Int.natCast_inj] at e1 e2
        exact ⟨e2.symm, e1.symm⟩
    rintro _ H8 ⟨rfl, hs8⟩
    have s48 := ((hs5.trans hs6).trans hs7).trans hs8
    walk_at "rd"
    refine ⟨_, SqL.of (s48 _ _ hr4), _, rfl, _, SqL.of (s48 _ _ hr4), _, rfl, _, _, _, p, q, w, h, rfl, Rep.same s48 _ _ hg1, Rep.same s48 _ _ hg2, Rep.same ((hs6.trans hs7).trans hs8) _ _ hd5, ip, iq, fun H9 hs9 => .inr ⟨rfl, by decide, fun v hv => ?_⟩⟩
    have sz := (s48.trans hs9).trans (same_new (o := HO.lst [V.ref r1, V.ref r2, V.ref r3]) hv)
    refine ⟨allD p q t, ⟨r4, _, rfl, SqL.of (sz _ _ hr4), _, _, rfl, Rep.same sz _ _ hg1, _, _, rfl, Rep.same sz _ _ hg2, _, _, rfl, Rep.same sz _ _ hg3, rfl⟩, allD p q t, ⟨v, _, rfl, SqL.of upd_same, _, _, rfl, Rep.same sz _ _ hp4, _, _, rfl, Rep.same sz _ _ hq4, _, _, rfl, Rep.same sz _ _ ht4, rfl⟩, shaped_all ip iq it, shaped_all ip iq it, ?_⟩
    rw [eqv_all]
    exact fin _
end
end K04
namespace K04
open PySem L2
theorem fk {K : PySem.W.Frag} {h : Heap} {mg : Str → Option Value} {x : Str} {st : Stmt} {f : Addr} {oc kV doc pm cd ct : Value} {od an : Option Addr} {sl : Array (Option Value)} (X : K.In h) (G : h.Ns mainGlobals mg)
    (a : PySem.W.nsIn K mainGlobals x = some (some (.ref f))) (l : K.lookup f = some ⟨oc, od, .func (PySem.W.fnOf x x (defArgs st) (defBody st) (defScope st) .none kV doc pm an cd ct), sl⟩) (c : PySem.W.codeIn K cd x = true) (k : PySem.W.keepIn K (.ref f) = true) :
    ∃ f fd, Fun K x x st f fd ∧ mg x = some (.ref f) := ⟨f, _, fun_mk (st := st) l c k, PySem.W.mg_of X G a⟩
theorem all_mk {P : Program} {w : World} {K : PySem.W.Frag} {mg : Str → Option Value} {fa se bp bs bi ba un : Addr} (T : Txt K mg) (X : TxtX K mg se bp bs bi ba un) (hfa : mg "law" = some (.ref fa))
    (e1 : ∃ f fd, Fun K "size_of" "size_of" s_size_of f fd ∧ mg "size_of" = some (.ref f))
    (e2 : ∃ f fd, Fun K "unlike_cells" "unlike_cells" s_unlike_cells f fd ∧ mg "unlike_cells" = some (.ref f))
    (e0 : ∃ f fd, Fun K "need_one_size" "need_one_size" s_need_one_size f fd ∧ mg "need_one_size" = some (.ref f))
    (e3 : ∃ f fd, Fun K "_law_at" "_law_at" s__law_at f fd ∧ mg "_law_at" = some (.ref f))
    (e4 : ∃ f fd, Fun K "_law_whole" "_law_whole" s__law_whole f fd ∧ mg "_law_whole" = some (.ref f))
    (e5 : ∃ f fd, Fun K "_law_sign" "_law_sign" s__law_sign f fd ∧ mg "_law_sign" = some (.ref f))
    (e6 : ∃ f fd, Fun K "_law_size" "_law_size" s__law_size f fd ∧ mg "_law_size" = some (.ref f))
    (e7 : ∃ f fd, Fun K "_law_picture" "_law_picture" s__law_picture f fd ∧ mg "_law_picture" = some (.ref f))
    (e8 : ∃ f fd, Fun K "_law_changed" "_law_changed" s__law_changed f fd ∧ mg "_law_changed" = some (.ref f))
    (e9 : ∃ f fd, Fun K "_law_other_size" "_law_other_size" s__law_other_size f fd ∧ mg "_law_other_size" = some (.ref f))
    (e10 : ∃ f fd, Fun K "_law_due" "_law_due" s__law_due f fd ∧ mg "_law_due" = some (.ref f))
    (e11 : ∃ f fd, Fun K "_law_right" "_law_right" s__law_right f fd ∧ mg "_law_right" = some (.ref f))
    (e12 : ∃ f fd, Fun K "_law_refused" "_law_refused" s__law_refused f fd ∧ mg "_law_refused" = some (.ref f))
    (e13 : ∃ f fd, Fun K "law" "law" s_law f fd ∧ mg "law" = some (.ref f)) :
    ∃ fd : FuncData, (∀ (s : Shared) (v : Value), BindsTo s fd ⟨[v], []⟩ [("_law_script", v)]) ∧ ∀ base : Heap, K.In base → base.Ns mainGlobals mg → FnOk P w K mg base CX0 5 fa fd ["_law_script"] (spLaw K) := by
  obtain ⟨f1, d1, F1, m1⟩ := e1
  obtain ⟨f2, d2, F2, m2⟩ := e2
  obtain ⟨f0, d0, F0, m0⟩ := e0
  obtain ⟨f3, d3, F3, m3⟩ := e3
  obtain ⟨f4, d4, F4, m4⟩ := e4
  obtain ⟨f5, d5, F5, m5⟩ := e5
  obtain ⟨f6, d6, F6, m6⟩ := e6
  obtain ⟨f7, d7, F7, m7⟩ := e7
  obtain ⟨f8, d8, F8, m8⟩ := e8
  obtain ⟨f9, d9, F9, m9⟩ := e9
  obtain ⟨f10, d10, F10, m10⟩ := e10
  obtain ⟨f11, d11, F11, m11⟩ := e11
  obtain ⟨f12, d12, F12, m12⟩ := e12
  obtain ⟨f13, d13, F13, m13⟩ := e13
  rw [hfa] at m13
  cases m13
  refine ⟨d13, fun s v => ?_, fun base _ _ => ?_⟩
  · obtain ⟨oc, od, kV, doc, pm, an, cdv, ct, osl, rfl, _⟩ := F13.ex
    exact .of_eq rfl
  have c_size_of : Cal P w K mg base 1 "size_of" [] (spSizeOf K) := ⟨f1, d1, _, [], ok_size_of F1 T, m1, F1.kp, F1.binds fun _ _ _ _ _ _ us hl => match us, hl with | [_], _ => rfl, .nil⟩
  have c_need_one_size : CalX P w K mg base 2 "need_one_size" [] (spOneSize K un) := ⟨f0, d0, _, [], okX_need_one_size F0 T X c_size_of, m0, F0.kp, F0.binds fun _ _ _ _ _ _ us hl => match us, hl with | [_, _], _ => rfl, .nil⟩
  have c_unlike_cells : CalX P w K mg base 3 "unlike_cells" [] (spUnlike K un) := ⟨f2, d2, _, [], okX_unlike_cells F2 T X c_need_one_size, m2, F2.kp, F2.binds fun _ _ _ _ _ _ us hl => match us, hl with | [_, _], _ => rfl, .nil⟩
  have c__law_at : Cal P w K mg base 1 "_law_at" [] (spAt K) := ⟨f3, d3, _, [], ok_law_at F3 T, m3, F3.kp, F3.binds fun _ _ _ _ _ _ us hl => match us, hl with | [_, _], _ => rfl, .nil⟩
  have c__law_whole : Cal P w K mg base 1 "_law_whole" [] spIsInt := ⟨f4, d4, _, [], ok_law_whole F4 T, m4, F4.kp, F4.binds fun _ _ _ _ _ _ us hl => match us, hl with | [_], _ => rfl, .nil⟩
  have c__law_sign : Cal P w K mg base 1 "_law_sign" [] spSign := ⟨f5, d5, _, [], ok_law_sign F5 T, m5, F5.kp, F5.binds fun _ _ _ _ _ _ us hl => match us, hl with | [_], _ => rfl, .nil⟩
  have c__law_size : Cal P w K mg base 1 "_law_size" [] spSize := ⟨f6, d6, _, [], ok_law_size F6 T, m6, F6.kp, F6.binds fun _ _ _ _ _ _ us hl => match us, hl with | [_], _ => rfl, .nil⟩
  have c__law_picture : Cal P w K mg base 2 "_law_picture" [] (spPicture K) := ⟨f7, d7, _, [], ok_law_picture F7 T c__law_at c__law_size c__law_sign, m7, F7.kp, F7.binds fun _ _ _ _ _ _ us hl => match us, hl with | [_, _], _ => rfl, .nil⟩
  have c__law_changed : Cal P w K mg base 2 "_law_changed" [] (spChanged K) := ⟨f8, d8, _, [], ok_law_changed F8 T c__law_at c__law_sign, m8, F8.kp, F8.binds fun _ _ _ _ _ _ us hl => match us, hl with | [_, _], _ => rfl, .nil⟩
  have c__law_other_size : Cal P w K mg base 1 "_law_other_size" [] (spOther K) := ⟨f9, d9, _, [], ok_law_other_size F9 T, m9, F9.kp, F9.binds fun _ _ _ _ _ _ us hl => match us, hl with | [_, _], _ => rfl, .nil⟩
  have c__law_due : Cal P w K mg base 1 "_law_due" [] (spPlaces K) := ⟨f10, d10, _, [], ok_law_due F10 T, m10, F10.kp, F10.binds fun _ _ _ _ _ _ us hl => match us, hl with | [_, _], _ => rfl, .nil⟩
  have c__law_right : Cal P w K mg base 4 "_law_right" [] (spRight K) := ⟨f11, d11, _, [], ok_law_right F11 T c_unlike_cells c__law_whole, m11, F11.kp, F11.binds fun _ _ _ _ _ _ us hl => match us, hl with | [_, _, _], _ => rfl, .nil⟩
  have c__law_refused : Cal P w K mg base 4 "_law_refused" [] (spRefused K) := ⟨f12, d12, _, [], ok_law_refused F12 T X c_unlike_cells, m12, F12.kp, F12.binds fun _ _ _ _ _ _ us hl => match us, hl with | [_, _], _ => rfl, .nil⟩
  exact ok_law F13 T c__law_at c__law_picture c__law_changed c__law_other_size c__law_due c__law_right c__law_refused
theorem txt_mk {K : PySem.W.Frag} {h : Heap} {mg : Str → Option Value} (X : K.In h) (G : h.Ns mainGlobals mg) (n1 : PySem.W.nsIn K mainGlobals "len" = some none) (n2 : PySem.W.nsIn K mainGlobals "range" = some none) (n3 : PySem.W.nsIn K mainGlobals "min" = some none) (n4 : PySem.W.nsIn K mainGlobals "int" = some none) (n5 : PySem.W.nsIn K mainGlobals "bool" = some none) (n6 : PySem.W.nsIn K mainGlobals "list" = some none) (n7 : PySem.W.nsIn K mainGlobals "tuple" = some none) (n8 : PySem.W.nsIn K mainGlobals "isinstance" = some none) : Txt K mg :=
  ⟨PySem.W.mg_none_of X G n1, PySem.W.mg_none_of X G n2, PySem.W.mg_none_of X G n3, PySem.W.mg_none_of X G n4, PySem.W.mg_none_of X G n5, PySem.W.mg_none_of X G n6, PySem.W.mg_none_of X G n7, PySem.W.mg_none_of X G n8⟩
theorem xclass_mk {K : PySem.W.Frag} {C : Addr} (ga : PySem.W.findIn K (.ref C) "__getattribute__" = some (some (.builtin "BaseException.__getattribute__"))) (gh : PySem.W.findIn K (.ref C) "__getattr__" = some none)
    (cl : PySem.W.findIn K (.ref C) "__class__" = some (some (.builtin "object.__class__"))) (sp : PySem.W.specialIn K (.builtin "object.__class__") "__get__" = some (some (.builtin "getset_descriptor.__get__"))) (tk : PySem.W.takesIn K (.builtin "object.__class__") = some true)
    (mo : PySem.W.mroIn K C (.type "object") = some true) (mb : PySem.W.mroIn K C (.type "BaseException") = some true) (hd : PySem.W.hasDictIn K C = true) : XClass K C :=
  ⟨ga, gh, cl, sp, tk, mo, mb, by
    obtain ⟨cd, hc, _⟩ := PySem.W.any_some hd
    rw [hc]
    rfl⟩
theorem txtx_mk {K : PySem.W.Frag} {h : Heap} {mg : Str → Option Value} {se bp bs bi ba un : Addr} (X : K.In h) (G : h.Ns mainGlobals mg) (c1 : PySem.W.nsIn K mainGlobals "ScreenError" = some (some (.ref se))) (c2 : PySem.W.nsIn K mainGlobals "BadPicture" = some (some (.ref bp))) (c3 : PySem.W.nsIn K mainGlobals "BadSize" = some (some (.ref bs))) (c4 : PySem.W.nsIn K mainGlobals "BadInk" = some (some (.ref bi))) (c5 : PySem.W.nsIn K mainGlobals "BadPaper" = some (some (.ref ba))) (c6 : PySem.W.nsIn K mainGlobals "Unlike" = some (some (.ref un)))
    (nv : PySem.W.nsIn K mainGlobals "ValueError" = some none) (xm : PySem.W.excIn K un [.type "ValueError", .type "Exception", .type "BaseException", .type "object"] "ValueError.__new__" = true) (xc : XClass K un)
    (k1 : PySem.W.exmOne K (.ref un) (.ref se) = some true) (k2 : PySem.W.kitOne K (.ref un) (.ref bp) = some false) (k3 : PySem.W.kitOne K (.ref un) (.ref bs) = some false) (k4 : PySem.W.kitOne K (.ref un) (.ref bi) = some false) (k5 : PySem.W.kitOne K (.ref un) (.ref ba) = some false)
    (k6 : PySem.W.kitOne K (.ref un) (.ref un) = some true) (k7 : PySem.W.kitOne K (.ref un) (.type "ValueError") = some true) : TxtX K mg se bp bs bi ba un :=
  ⟨PySem.W.mg_of X G c1, PySem.W.mg_of X G c2, PySem.W.mg_of X G c3, PySem.W.mg_of X G c4, PySem.W.mg_of X G c5, PySem.W.mg_of X G c6, PySem.W.mg_none_of X G nv, ⟨⟨_, _, _, _, PySem.F.excBase_ValueError, xm⟩⟩, xc, k1, k2, k3, k4, k5, k6, k7⟩
theorem walk {l : PySem.W.OpenLaw} {q : Program} {loose : List Str} {XP : (Str → Option Value) → Heap → Prop} {YP : World → Heap → Prop} {d : DefRec} {K : Params → PySem.W.Frag} (hn : l.most = some 63) (hdf : d.params.defaults = [])
    (hY : ∀ (w : World) (h : Heap), YP w h → (K w.params).In h)
    (F : ∀ (w : World) (mg : Str → Option Value) (fa : Addr) (h : Heap), (K w.params).In h → h.Ns mainGlobals mg → mg d.name = some (.ref fa) →
      ∃ fd : FuncData, (∀ (s : Shared) (u : Value), BindsTo s fd ⟨[u], []⟩ [("_law_script", u)]) ∧ ∀ base : Heap, (K w.params).In base → base.Ns mainGlobals mg → FnOk l.prog w (K w.params) mg base CX0 5 fa fd ["_law_script"] (spLaw (K w.params))) :
    PySem.W.WalkO q loose XP YP l.row.toRowW d [] (fun f vs => PySem.call f vs) :=
  L2.walk_of (n := 63) (k := 5) (x := "_law_script") (CX := fun _ => CX0) (sp := fun w => spLaw (K w.params)) hn (by decide) hdf ⟨rfl, by decide, by decide, rfl⟩ hY F (fun _ _ a ns hl _ hS => ⟨a, ns, rfl, hS, hl, fun _ => rfl⟩) fun _ _ _ _ _ z => z
end K04
open PySem PySem.W PyProof.Rows
set_option maxRecDepth 100000 in
set_option maxHeartbeats 0 in
theorem PySem.Challenge.cw_signscreen_k04_unlike_cells_holds : PySem.Challenge.rw_signscreen_k04_unlike_cells.Holds := by
  w_on; o_law; k_head; (case hw => w_witness2)
  k_fill
  refine K04.walk (l := PySem.Challenge.rw_signscreen_k04_unlike_cells) rfl rfl (fun w h Y => PySem.W.kIn_of Y) ?F
  case F =>
    intro w mg fa h KX G hmg
    refine' K04.all_mk ?T ?X hmg ?e1 ?e2 ?e0 ?e3 ?e4 ?e5 ?e6 ?e7 ?e8 ?e9 ?e10 ?e11 ?e12 ?e13
    case T =>
      refine' K04.txt_mk KX G ?n1 ?n2 ?n3 ?n4 ?n5 ?n6 ?n7 ?n8
      all_goals k_is
    case X =>
      refine' K04.txtx_mk KX G ?c1 ?c2 ?c3 ?c4 ?c5 ?c6 ?nv ?xm ?xc ?k1 ?k2 ?k3 ?k4 ?k5 ?k6 ?k7
      (case c1 => k_is); (case c2 => k_is); (case c3 => k_is); (case c4 => k_is); (case c5 => k_is); (case c6 => k_is); (case nv => k_is)
      (case xm => k_exc)
      (case xc => (refine' K04.xclass_mk ?ga ?gh ?cl ?sp ?tk ?mo ?mb ?hd; (case ga => k_is); (case gh => k_is); (case cl => k_is); (case sp => k_is); (case tk => k_is); (case mo => k_is); (case mb => k_is); (case hd => k_is)))
      (case k1 => kts_exm); (case k2 => kit_is); (case k3 => kit_is); (case k4 => kit_is); (case k5 => kit_is); (case k6 => kit_is); (case k7 => kit_is)
    all_goals (refine' K04.fk KX G ?a ?l ?c ?k; (case a => k_is); (case l => k_is); (case c => k_is); (case k => k_is))

